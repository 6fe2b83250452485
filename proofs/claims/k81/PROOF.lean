import PyProof.Rows.All
import Wide.All
import OpenK.AllK
import Wide.FinOn
import Lean
import PyProof.EqAt
import PyProof.EqKinds
import PyProof.TupleCall
import PySem.Challenge.RW_selvage_k81_laid
set_option Elab.async false
set_option linter.all false
set_option maxRecDepth 100000
set_option genSizeOfSpec false
set_option genInjectivity false
open List renaming replicate→Aa,getElem?_eq_some_iff→Ad,mem_append→Ae,nodup_cons→Ag,mem_append_right→Aj,mem_append_left→Am,length_map→Ap,mem_singleton→As,mem_cons→Au,length_append→Az,getElem?_eq_getElem→AA,getElem?_append_left→AE,size_toArray→AL,lookup_cons→AN,nodup_append→AQ,range→AW,forall_mem_cons→AX,replicate_succ→A4,length_cons→A7,mem_cons_of_mem→Bb,getElem?_set_ne→Bc,getElem?_map→Bg,getElem?_append_right→Bk,flatten_cons→Bp,map_cons→Bt,nodup_nil→Bw,mem_of_getElem?→BB,drop_eq_getElem_cons→BF,length_set→BG,length_take→BI,getElem?_set_self→BJ,zip_cons_cons→BK,map_append→BM,append_nil→BN,getElem?_cons_succ→BV,mem_cons_self→BY,getD→B7,getElem?_replicate→Ce,take_of_length_le→Cf,lookup→Cr,zipWith→Cy,map_snd_zip→CC,mem_range→CG,length_range→CJ,append_assoc→CK,length_zip→CP,find?_cons→CQ,mem_flatMap→CT,forall_mem_append→C0,mem_replicate→C4,set_append_right→C8,length_replicate→C9,map_congr_left→Dt,filterMap_cons→Du,mem_filterMap→Dz,getElem_mem→DE,not_mem_nil→DT,eq_nil_iff_forall_not_mem→DU,of_mem_zip→D1,nil_append→D2,any_cons→D7,nodup_iff_pairwise_ne→Ea,getElem?_zip_eq_some→Ef,set_eq_of_length_le→Eo,getElem?_cons_zero→Ep,map_map→Et,drop_of_length_le→Ex,length_singleton→EM,range_eq_range'→EW,mem_of_mem_tail→EX,getElem?_take→Fg,foldl→Fh,Nodup→Fi,pairwise_map→Fx,getElem?_set→Fy,take_length→FD,length_drop→FF,filter_cons→FG,drop_length→FH,range_succ→FW,mem_filter→FX,length_nil→FY,map_take→Gj,map_nil→Gr,mem_map→Gy,length→GK
open PySem renaming starEach→Ab,Shared→Ac,mainGlobals→Af,sizeLine→Ah,model→Ai,wpAny→An,Program→Ao,eval→Ar,wpAny_bind→Av,backTo→AG,Around→AI,World→AK,Heap→AR,attributeBase→AS,keywordEach→AU,foldedSetIterable→AV,wpAny_pure→AY,wpAny_mono→AZ,swapsWith→A8,cLine→Bf,bootBuiltins→Bq,holding→BA,backToKw→BC,FuncData→BD,compareOp→BH,Keyword→BO,getMethod→BQ,NameKind→BS,evalEach→BW,binaryOp→BX,standAt→B5,typeLookup→B8,sysModules→B9,wpAny_Call_Name_kw→Cg,wpAny_loadPart_at→Cj,codeAny→Cp,isSubtype→Cu,ExceptHandler→Cz,sliceBounds→CB,callWith→CD,wpAny_passesOwn→CH,GenState→CS,wpAny_truthy_bool→CZ,behindInMarks→C5,assign→C6,wpAny_execs_nil→Dp,letOwnedTupleGo→Dq,recursionLimit→DB,Result→DG,PyData→DH,noteFrame→DL,BindsTo→DN,Arguments→DO,tupleKind_room_in1→DV,rawInt→DW,builtinsNs→DY,valueAt→D3,codeAny_mono→D5,callerA→D6,tupleKind→Ec,subscripted→Ej,getItem→Ew,compEnvC→ED,atKey→EF,assignEach→EG,wpAny_standAt→EY,wpAny_holding→EZ,wpAny_comprehension_free→E1,swapsWithSole→E2,swappedStores→E3,cellsFrom→Fb,bindL→Fc,bindC→Fd,wpAny_noteFrame_againW→Fk,setItem→Fn,seqIndex_neg→Fo,relabel→Fp,leaving→Fq,entryPlaceOf→Ft,OsState→Fv,sizeLine_eq→FJ,seqIndex_of→FK,codeAny_call_builtin→FP,Operator→FR,Drawn→F0,wpAny_Name→Gd,typeIs_int→Ge,closureFor→Gg,call_meets→Gh,wpAny_assign_Name→Gn,slot_list_getitem→Gq,getAttr→Gs,again→Gu,wpAny_execs_cons→GB,setFlight→GC,seqIndex?→GD,checkBuiltinCall→GF,PassesOwn→GG,DictEntry→GQ,wpAny_loadPart'→GU,setField→G5,guardIds→G6,bindArgs→G7,behindIsImport→G8,rangeSize_one→Hf,intBits_le_64→Hh,evalPart_none→Hi,call_list_seq→Hj,CmpOp→Hr
open Nat renaming lt_of_lt_of_le→Ak,le_refl→AM,lt_irrefl→A6,le_trans→A9,ne_of_lt→Bh,lt_of_succ_lt→CN,le_add_right→CY,zero_le→Dg,le_of_lt→D4,sub_self→EJ,le_of_eq→EK,add_comm→EL,le_succ→E7,le_of_succ_le→FC,min_eq_right→FU,lt_succ_self→FV,min_eq_left→Gb,succ_mul→GH,min_self→GI,lt_trans→GJ,log2_lt→G4,max_lt→G9
open PySem.Heap renaming get?_push_of_some→Al,lt_size→AT,get?_push_size→A5,get?_update_other→C1,SameBut→C2,size_push→Eb,get?_update_self→EO
open Bool renaming and_eq_true→Aq,false_ne_true→Aw,false_eq_true→BP,eq_iff_iff→Ct,false_and→Gc
open PySem.W renaming findIn→Ax,Frag→AC,subIn→Bs,mg_none_of→BL,nsIn→Ca,mg_of→Ck,kia_one→Cm,hideAll_none→Co,hideAll→Cw,keepIn→CI,hasDictIn→CM,typeIn→C3,plainGet→Da,looks_findIn→Di,instObj→Dj,kitOne→DC,isFn→DD,plainOver→DK,methodCall_KW→DR,excIn→DS,codeIn→DX,exmOne→Ee,plainGet_of→Ek,hideAll_get→El,clsIn→Em,callWith_K0→En,makesIn→Eu,callWith_K→EE,specialIn→E9,methodObj→Fa,fnOf→Fs,codeHdIn→FN,lookIn→Gf,takerIn→Gp
open Int renaming le_trans→Ay,mul_le_mul_of_nonneg_left→Bo,emod_lt_of_pos→BR,emod_nonneg→BU,toNat_of_nonneg→Cb,toNat_lt→CA,le_of_lt→CF,mul_nonneg→Dh,zero_add→DA,lt_add_one_iff→DJ,le_add_of_nonneg_right→Eg,add_nonneg→Ei,add_assoc→Er,eq_ofNat_of_zero_le→Ey,ofNat_lt→EN,add_le_add_right→E8,add_le_add_left→Fj,lt_of_le_of_lt→Fz,min_le_right→FZ,mul_le_mul→Gk,add_le_add→Gm,toNat_le→GN,ne_of_gt→GO,lt_trans→GP,le_min→Hd
open PySem.Value renaming ref→AB,int→Ci,none→CV,str→De,builtin→Dr,type→Dv,bool→Dw,float→EH,isStrOf→Ga,isInt→Gv,bytes→Gw
open Or renaming inl→AD,inr→EV
open Option renaming map_eq_some_iff→AF,none→Be,bind_eq_some_iff→Bm,isSome_map→E6,getD_none→Ff
open Option.some renaming inj→AH,injEq→Dc
open PyProof.Rows renaming boot_list→AJ,Keyed→AO,kindOf→Cc,envOfC→Cv,AllBare→CL,boot_isinstance→Ds,callWith_type1→Dx,SortKind→DF,boot_sum→DZ,boot_min→D0,IntsAre→D8,pendingOf→Ed,SortSt→EI,subscriptTail→E4,arrOf→Fe,subscriptTail_builtinR→Fm,failedOf→FL,Subscript_→Gi,iadd_int→GV,callWith_builtin1→GW,boot_tuple→GX,boot_sorted→GY,boot_range→GZ,boot_int→G0,boot_dict→G1,boot_bool→G3
open PySem.NameKind renaming free→Bv,cell→Fw
open True renaming intro→BE
open PySem.PyData renaming strOk→BZ,canLay0→C7,depth→Dy,eqv→EU,canLayAll0→E5,depthAll→Fu,eqvAll→FQ
open PySem.SeqAt renaming shaped→B4
open PySem.PassesOwn renaming never→B6
open Nat.succ renaming inj→Cq
open PySem.Builtin.List renaming listTooLong→Cs
open ForInStep renaming yield→CO
open PySem.Around renaming under→CU
open PySem.Str renaming empty→CW
open PySem.F renaming typeOf_object_class→Dm,slot_gs_get→EQ,slot_int_rmul→GA
open Array renaming length_toList→Do,mem_toList_iff→ET
open PySem.Obj renaming mapSeq→DI,mapFields→Gx
open PySem.Builtin.Range renaming rangeSize→DM
open Sum renaming inr→DP,inl→DQ
open PySem.Calls renaming Name_function_global→D9,callWith_builtin→Es,evalArgs_plain→ES
open PySem.Code renaming isGuard→Ez,isFrame→EA,guards→GR,frames→GS
open And renaming intro→EB
open PySem.Heap.IsSliceOf renaming new→Gz
open List.Pairwise renaming nil→GL,imp_of_mem→GM
open PySem.Heap.DictOf renaming new→He
open PySem.SeqAt.EqAt renaming str_int→Hk,int_str→Hl
open PySem.EntryCells renaming newEntry→Hm
open List.cons renaming injEq→Hn
open PySem.DictEntry renaming refKey→Ho
open PySem.AutoListH renaming list___mul___list_int_3→Hq
open PySem.W (emptyDict kitCls)
open List (mem_replicate)



def PySem.W.Fast.tw9022273183527028084:=0
def PySem.W.Fast.tw1529590383760852251:=0
def PySem.W.Fast.tw16033246381352346583:=0
def PySem.W.Fast.tw17964270811112884735:=0
def PySem.W.Fast.tw3492291251909096712:=0
def PySem.W.Fast.tw13900586019117063323:=0
def PySem.W.Fast.tw2425512273391825460:=0
def PySem.W.Fast.tw12464095864382246313:=0
def PySem.W.Fast.tw6649558756357393286:=0
def PySem.W.Fast.tw9567510947506084199:=0
def PySem.W.Fast.tw8780771600230335882:=0
def PySem.W.Fast.tw17515903334113982816:=0
def PySem.W.Fast.tw16395220541314359226:=0
def PySem.W.Fast.tw15390400277374777294:=0
theorem aT0 (h:True:=by first | exact .inl rfl | exact .inr rfl | assumption):True:=BE
theorem aT3 (h:True:=by first | exact AD rfl | exact EV (AD rfl) | exact EV (EV rfl)):True:=BE
namespace L2
open PySem PySem.Spec PyProof.Rows
variable {H H':Hp}{a b it C dx:Addr}{o:Obj}{u cd:Value}{P prog:Ao}{w:AK}{h h':AR}{x name m qual:Str}{e c tg l iter:Expr}{X:Cx}{pins pins':List (Addr×Obj)}{σ:St}{s s':Ac}{g':Array CS}{t' i j tk:Nat}{d':F0}{ch fp:List Addr}{N ns ps ks:List Str}{M:Model}{A:AI}{E Q:Value->Ac->Prop}{v y:V}{α:Type}{pos pos' p apos:Pos}{ta tb te tc:TE}{t:TA}{K:AC}{st:Stmt}{g:List Value->List Value->List Value}{n:String}{vs dvs:List V}{pl:Sem Bool}{body:List Stmt}{op:FR}{r:List V->Hp->VK->Prop}{f:Value->Value->Sem Value}{us ds:List Value}{mA mg:Str->Option Value}{expr:Bool}{kw:List (Str×Value)}{fs':List (Str×V)}{env:Env}{rd:V->V->Hp->VK->Prop}{es:List Expr}{CX:CXT}{fd:BD}{sp:Sp}{outer:List Env}{kws:List BO}{nm:Option Str}{gV:List V->List V->List V}{sc scope:Scope}{params:DO}{an od:Option Addr}
abbrev Key:=Sum Int Str
def keyIs:Key->Value->Bool
 | .inl k,v=>Gv k v
 | .inr x,v=>Ga x v
def keyH (w:AK):Key->Int
 | .inl k=>hashInt k
 | .inr x=>hashStr w x
theorem keyIs_shape:∀{k:Key} {v:Value},keyIs k v=true->(∃i t,k=DQ i/\v=Ci i t)\/(∃x t,k=DP x/\v=De x t)
 | .inl i,v,h=>by obtain ⟨t,e⟩:=Value.isInt_shape (k:=i) (v:=v) h;exact .inl ⟨i,t,rfl,e⟩
 | .inr x,v,h=>by obtain ⟨t,e⟩:=Value.isStrOf_shape (x:=x) (v:=v) h;exact .inr ⟨x,t,rfl,e⟩
theorem keyIs_int (i:Int)(t:Tok):keyIs (.inl i) (.int i t)=true:=by simp [keyIs,Gv]
theorem keyIs_str (x:Str)(t:Tok):keyIs (.inr x) (.str x t)=true:=by simp [keyIs,Ga]
theorem key_ll (a b:Int):decide ((DQ a:Key)=DQ b)=(a==b):=by by_cases e:a=b;subst e;simp;have h:¬(DQ a:Key)=DQ b:=fun q=>e (Sum.inl.inj q);rw [decide_eq_false h];exact (beq_eq_false_iff_ne.mpr e).symm
theorem key_rr (a b:Str):decide ((DP a:Key)=DP b)=decide (a=b):=by by_cases e:a=b;subst e;simp;have h:¬(DP a:Key)=DP b:=fun q=>e (Sum.inr.inj q);rw [decide_eq_false h,decide_eq_false e]
theorem key_lr (a:Int)(b:Str):decide ((DQ a:Key)=DP b)=false:=decide_eq_false (fun q=>nomatch q)
theorem key_rl (a:Str)(b:Int):decide ((DP a:Key)=DQ b)=false:=decide_eq_false (fun q=>nomatch q)
def mixKind (prog:Ao)(w:AK):PySem.KeyKind prog w Key where
 is:=keyIs
 hash:=keyH w
 inj:=fun v a b ha hb=>by
  rcases keyIs_shape ha with ⟨i,t,rfl,rfl⟩ | ⟨x,t,rfl,rfl⟩
  ·rcases keyIs_shape hb with ⟨j,u,rfl,e⟩ | ⟨y,u,rfl,e⟩
   ·injection e with e1 _;rw [e1]
   ·exact nomatch e
  ·rcases keyIs_shape hb with ⟨j,u,rfl,e⟩ | ⟨y,u,rfl,e⟩
   ·exact nomatch e
   ·injection e with e1 _;rw [e1]
 byValue:=fun k v h=>by
  rcases keyIs_shape h with ⟨i,t,rfl,rfl⟩ | ⟨x,t,rfl,rfl⟩<;>rfl
 pyHash:=fun hv h=>by
  rcases keyIs_shape hv with ⟨i,t,rfl,rfl⟩ | ⟨x,t,rfl,rfl⟩
  ·exact wpAny_pyHash_int h
  ·exact wpAny_pyHash_str h
 eqBool:=fun hu hv h=>by
  rcases keyIs_shape hu with ⟨i,t,rfl,rfl⟩ | ⟨x,t,rfl,rfl⟩
  ·rcases keyIs_shape hv with ⟨j,u,rfl,rfl⟩ | ⟨y,u,rfl,rfl⟩
   ·rw [key_ll] at h;exact wpAny_eqBool_int h
   ·rw [key_lr] at h;exact Hl i t y u _ _ _ _ h
  ·rcases keyIs_shape hv with ⟨j,u,rfl,rfl⟩ | ⟨y,u,rfl,rfl⟩
   ·rw [key_rl] at h;exact Hk x t j u _ _ _ _ h
   ·rw [key_rr] at h;exact wpAny_eqBool_str h
 «strs»:=fun k x t v h=>by
  rcases keyIs_shape h with ⟨i,u,rfl,e⟩ | ⟨y,u,rfl,e⟩
  ·exact nomatch e
  ·injection e with e1 _
   subst e1
   cases v<;>rfl
theorem mixKind_int (prog:Ao)(w:AK)(i:Int)(t:Tok):(mixKind prog w).is (.inl i) (.int i t)=true:=keyIs_int i t
theorem mixKind_str (prog:Ao)(w:AK)(x:Str)(t:Tok):(mixKind prog w).is (.inr x) (.str x t)=true:=keyIs_str x t
set_option genInjectivity true in
inductive V where
 | non | bl (b:Bool) | int (i:Int) | str (x:Str) | byt (b:Array UInt8) | flt (b:UInt64) | ref (a:Addr) | ty (n:String)
 deriving DecidableEq
def RelV:V->Value->Prop
 | .non,u=>u=CV
 | .bl b,u=>u=Dw b
 | .int i,u=>∃t,u=Ci i t
 | .str x,u=>∃t,u=De x t
 | .byt b,u=>∃t,u=Gw b t
 | .flt b,u=>∃t,u=EH b t
 | .ref a,u=>u=AB a
 | .ty n,u=>u=Dv n
abbrev Vals:List V->List Value->Prop:=Paired RelV
theorem Vals.length {xs:List V}{us:List Value}(r:Vals xs us):xs.length=us.length:=Paired.length r
theorem Vals.get:∀{xs:List V} {us:List Value} {i:Nat} {x:V},Vals xs us->xs[i]?=some x->∃u,us[i]?=some u/\RelV x u
 | _,_,_,_,.nil,e=>by simp at e
 | _,_,0,_,.cons r _,e=>by simp at e;subst e;exact ⟨_,rfl,r⟩
 | _,_,i+1,x,.cons _ t,e=>by obtain ⟨u,h1,h2⟩:=Vals.get (i:=i) (x:=x) t (by simpa using e);exact ⟨u,by simpa using h1,h2⟩
theorem Vals.set {x:V}{u:Value}(r:RelV x u):∀{xs:List V} {us:List Value} (i:Nat),Vals xs us->Vals (xs.set i x) (us.set i u)
 | _,_,_,.nil=>.nil
 | _,_,0,.cons _ t=>.cons r t
 | _,_,i+1,.cons q t=>.cons q (Vals.set r i t)
theorem Vals.append:∀{xs ys:List V} {us ws:List Value},Vals xs us->Vals ys ws->Vals (xs++ys) (us++ws)
 | _,_,_,_,.nil,s=>s
 | _,_,_,_,.cons r t,s=>.cons r (Vals.append t s)
theorem Vals.take:∀{xs:List V} {us:List Value} (n:Nat),Vals xs us->Vals (xs.take n) (us.take n)
 | _,_,0,_=>.nil
 | _,_,_+1,.nil=>.nil
 | _,_,n+1,.cons r t=>.cons r (Vals.take n t)
theorem Vals.drop:∀{xs:List V} {us:List Value} (n:Nat),Vals xs us->Vals (xs.drop n) (us.drop n)
 | _,_,0,r=>r
 | _,_,_+1,.nil=>.nil
 | _,_,n+1,.cons _ t=>Vals.drop n t
def RelO:Option V->Option Value->Prop
 | some v,some u=>RelV v u
 | none,none=>True
 | _,_=>False
def KV {κ:Type}:List (κ×V)->List (κ×Value)->Prop:=Paired fun (p:κ×V) (q:κ×Value)=>p.1=q.1/\RelV p.2 q.2
def kV:Key->V
 | .inl i=>.int i
 | .inr x=>.str x
inductive HO where
 | lst (xs:List V)
 | tup (xs:List V)
 | dK (kvs:List (Key×V)) | dT (kvs:List (List Key×V))
 | set (S:Int->Bool) (n:Nat)
 | ins (C dx:Addr) (fs:List (Str×V))
 | own (x:Addr)
 | xd (fs:List (Str×V))
 | met (f x:Addr)
 | rng (lo hi:Int)
 | frz (o:Obj) (u:HO)
 | tbl (pos:Pos) (qual:Str)
 | ext (φ:AR->Prop)
abbrev Hp:=Addr->Option HO
def upd (H:Hp)(a:Addr)(o:HO):Hp:=fun b=>if b=a then some o else H b
theorem upd_same {o:HO}:upd H a o a=some o:=by unfold upd;rw [if_pos rfl]
theorem upd_ne {o:HO}(h:b≠a):upd H a o b=H b:=by unfold upd;rw [if_neg h]
theorem ne_of {o u:HO}(h:H a=some o)(h':H b=some u)(d:o≠u):a≠b:=by intro e;subst e;rw [h] at h';exact d (AH h')
theorem ne_of_none {o:HO}(h:H a=some o)(h':H b=none):a≠b:=by intro e;subst e;rw [h] at h';cases h'
section
variable (P:Ao)(w:AK)
def ObjOk (H:Hp)(h:AR)(a:Addr):HO->Prop
 | .lst xs=>xs.length<=Ah/\∃(its:List Value) (n:Nat),Vals xs its/\h.get? a=some {cls:=.type "list",data:=.seq its.toArray n}
 | .tup xs=>xs.length<=Ah/\∃its:List Value,Vals xs its/\IsTup h a its.toArray
 | .dK kvs=>kvs.length<=Ah/\(a==B9)=false/\∃vs,KV kvs vs/\h.DictOf (mixKind P w) a vs
 | .dT kvs=>kvs.length<=Ah/\(a==B9)=false/\∃xs:List (List Key×Addr×Value),
   Paired (fun (p:List Key×V) (q:List Key×Addr×Value)=>p.1=q.1/\H q.2.1=some (.tup (p.1.map kV))/\RelV p.2 q.2.2) kvs xs/\
   ∃o es ep,h.get? a=some o/\o.ExactDict/\o.data=.dict es ep/\es.toList=xs.map (entryOfKey (Ec (mixKind P w)))/\(xs.map (·.1)).Nodup
 | .set S n=>h.SetOf (intKind P w) a S n
 | .ins C dx fs=>H dx=some (.own a)/\fs.length<=1000/\dx≠a/\h.get? a=some (Dj C dx)/\
   ∃mA,h.Ns1 dx mA/\(∀f,RelO (fs.lookup f) (mA f))/\PySem.Within mA (fs.map (·.1))
 | .own _=>∃o,h.get? a=some o
 | .xd fs=>∃mA,h.Ns1 a mA/\∀f,RelO (fs.lookup f) (mA f)
 | .rng lo hi=>∃t u v,h.get? a=some {cls:=.type "range",data:=.fields #[.int lo t,.int hi u,.int 1 v]}
 | .frz o u=>h.get? a=some o/\ObjOk H h a u
 | .tbl pos qual=>∃ps,h.get? a=some {cls:=.none,data:=.fields ps}/\TriplesOk ps.toList/\∀v,codeAmong pos ps.toList=some v->∃c o vs t,v=.ref c/\H c=some (.frz o (.own 0))/\o.data=.fields vs/\vs[1]?=some (.str qual t)
 | .met f x=>h.get? a=some (Fa (.ref f) (.ref x))
 | .ext φ=>φ h/\(∃o,h.get? a=some o)/\∀h1 h2:AR,φ h1->(∀o,h1.get? a=some o->h2.get? a=some o)->φ h2
def HOk (H:Hp)(h:AR):Prop:=∀a o,H a=some o->ObjOk P w H h a o
end
section
variable {o:HO}
theorem ObjOk.lt (x:ObjOk P w H h a o):a<h.objs.size:=by
 cases o with
 | lst xs=>obtain ⟨_,_,_,_,e⟩:=x;exact AT e
 | tup xs=>obtain ⟨_,_,_,p⟩:=x;exact p.lt
 | dK kvs=>obtain ⟨_,_,_,_,o,_,_,e,_⟩:=x;exact AT e
 | dT kvs=>obtain ⟨_,_,_,_,o,_,_,e,_⟩:=x;exact AT e
 | set S n=>obtain ⟨o,_,_,_,e,_⟩:=x;exact AT e
 | ins C dx fs=>obtain ⟨_,_,_,e,_⟩:=x;exact AT e
 | own y=>obtain ⟨_,e⟩:=x;exact AT e
 | xd fs=>obtain ⟨_,⟨_,_,_,e,_⟩,_⟩:=x;exact AT e
 | rng lo hi=>obtain ⟨_,_,_,e⟩:=x;exact AT e
 | frz ob u=>obtain ⟨e,_⟩:=x;exact AT e
 | tbl pos qual=>obtain ⟨_,e,_⟩:=x;exact AT e
 | met f y=>exact AT (show h.get? a=some _ from x)
 | ext φ=>obtain ⟨_,⟨_,e⟩,_⟩:=x;exact AT e
theorem Paired.mapP {α β:Type}{F G:α->β->Prop}:∀{l₁:List α} {l₂:List β},Paired F l₁ l₂->(∀a b,F a b->G a b)->Paired G l₁ l₂
 | _,_,.nil,_=>.nil
 | _,_,.cons r t,f=>.cons (f _ _ r) (Paired.mapP t f)
theorem ObjOk.stay (x:ObjOk P w H h a o)(k:∀b u,(b=a\/H b=some (.own a))->h.get? b=some u->h'.get? b=some u)
  (ho:∀b,H b=some (.own a)->H' b=some (.own a)) (ht:∀b xs,H b=some (.tup xs)->H' b=some (.tup xs)) (hf:∀b o u,H b=some (.frz o u)->H' b=some (.frz o u)):ObjOk P w H' h' a o:=by
 induction o with
 | lst xs=>obtain ⟨z,its,n,r,e⟩:=x;exact ⟨z,its,n,r,k _ _ (.inl rfl) e⟩
 | tup xs=>obtain ⟨z,its,r,ob,e,c⟩:=x;exact ⟨z,its,r,ob,k _ _ (.inl rfl) e,c⟩
 | dK kvs=>obtain ⟨z,y,vs,r,ob,es,ep,e,c⟩:=x;exact ⟨z,y,vs,r,ob,es,ep,k _ _ (.inl rfl) e,c⟩
 | dT kvs =>obtain ⟨z,y,xs,r,ob,es,ep,e,c⟩:=x;exact ⟨z,y,xs,Paired.mapP r fun p q z=>⟨z.1,ht _ _ z.2.1,z.2.2⟩,ob,es,ep,k _ _ (.inl rfl) e,c⟩
 | set S n=>obtain ⟨ob,es,ep,t,e,c⟩:=x;exact ⟨ob,es,ep,t,k _ _ (.inl rfl) e,c⟩
 | ins C dx fs =>obtain ⟨d,z,ne,e,mA,⟨od,es,ep,e2,c⟩,r⟩:=x;exact ⟨ho _ d,z,ne,k _ _ (.inl rfl) e,mA,⟨od,es,ep,k _ _ (.inr d) e2,c⟩,r⟩
 | own y=>obtain ⟨ob,e⟩:=x;exact ⟨ob,k _ _ (.inl rfl) e⟩
 | xd fs=>obtain ⟨mA,⟨od,es,ep,e,c⟩,r⟩:=x;exact ⟨mA,⟨od,es,ep,k _ _ (.inl rfl) e,c⟩,r⟩
 | rng lo hi=>obtain ⟨t,u,v,e⟩:=x;exact ⟨t,u,v,k _ _ (.inl rfl) e⟩
 | frz ob u ih=>obtain ⟨e,q⟩:=x;exact ⟨k _ _ (.inl rfl) e,ih q⟩
 | tbl pos qual =>obtain ⟨ps,e,tr,hc⟩:=x;refine ⟨ps,k a _ (.inl rfl) e,tr,fun v hv=>?_⟩;obtain ⟨c,o,vs,t,e1,e2,e3⟩:=hc v hv;exact ⟨c,o,vs,t,e1,hf _ _ _ e2,e3⟩
 | met f y =>have e:h.get? a=some (Fa (.ref f) (.ref y)):=x;show h'.get? a=some (Fa (.ref f) (.ref y));exact k a _ (.inl rfl) e
 | ext φ=>obtain ⟨p,⟨o,e⟩,st⟩:=x;exact ⟨st _ _ p fun o q=>k _ _ (.inl rfl) q,⟨o,k _ _ (.inl rfl) e⟩,st⟩
theorem HOk.lt (x:HOk P w H h)(e:H a=some o):a<h.objs.size:=(x a o e).lt
theorem HOk.fresh (x:HOk P w H h)(e:h.objs.size<=a):H a=none:=by
 cases q:H a with
 | none=>rfl
 | some u=>exact absurd (Ak (x.lt q) e) (A6 _)
theorem HOk.kept (x:HOk P w H h)(k:∀b u,h.get? b=some u->h'.get? b=some u):HOk P w H h':=fun a o e =>
 (x a o e).stay (fun b u _ q=>k b u q) (fun _ q=>q) (fun _ _ q=>q) fun _ _ _ q=>q
theorem HOk.laid (x:HOk P w H h)(k:∀b u,h.get? b=some u->h'.get? b=some u)(hp:h.objs.size<=a)(new:ObjOk P w (upd H a o) h' a o):HOk P w (upd H a o) h':=fun b u e=>by have hn:=x.fresh hp;by_cases hb:b=a;subst hb;rw [upd_same] at e;cases e;exact new;rw [upd_ne hb] at e;exact (x b u e).stay (fun c v _ q=>k c v q) (fun c q=>by rw [upd_ne (ne_of_none q hn)];exact q) (fun c xs q=>by rw [upd_ne (ne_of_none q hn)];exact q) fun c ob u q=>by rw [upd_ne (ne_of_none q hn)];exact q
end
def Rd (H:Hp)(a:Addr)(u:HO):Prop:=H a=some u\/∃o,H a=some (.frz o u)
theorem Rd.ok {u:HO}(r:Rd H a u)(x:HOk P w H h):ObjOk P w H h a u:=by rcases r with r | ⟨o,r⟩;exact x a u r;obtain ⟨_,q⟩:=x a _ r;exact q
def Mut:Option HO->Prop
 | some (.lst _)=>True
 | some (.dK _)=>True
 | some (.dT _)=>True
 | some (.set _ _)=>True
 | some (.ins _ _ _)=>True
 | some (.ext _)=>True
 | _=>False
section
variable {x e:Addr}{o':HO}
theorem HOk.write (ok:HOk P w H h)(mu:Mut (H x))(he:e=x\/H e=some (.own x))(k:∀b u,b≠e->h.get? b=some u->h'.get? b=some u)(heo:∃u,h'.get? e=some u)
  (new:ObjOk P w (upd H x o') h' x o'):HOk P w (upd H x o') h':=fun b u q=>by
 have nown:∀c y,H c=some (.own y)->c≠x:=fun c y r z=>by subst z;rw [r] at mu;exact mu
 have ntup:∀c xs,H c=some (.tup xs)->c≠x:=fun c xs r z=>by subst z;rw [r] at mu;exact mu
 have nfrz:∀c ob u,H c=some (.frz ob u)->c≠x:=fun c ob u r z=>by subst z;rw [r] at mu;exact mu
 by_cases hb:b=x;subst hb;rw [upd_same] at q;cases q;exact new;rw [upd_ne hb] at q;by_cases hbe:b=e;have q':H b=some (.own x):=by rcases he with z | z;exact absurd (hbe.trans z) hb;rw [hbe];exact z
 rw [q] at q';cases q';obtain ⟨v,hv⟩:=heo;exact ⟨v,by rw [hbe];exact hv⟩;refine (ok b u q).stay (fun c v hc r=>k c v ?_ r) (fun c r=>by rw [upd_ne (nown c b r)];exact r) (fun c xs r=>by rw [upd_ne (ntup c xs r)];exact r) fun c ob u r=>by rw [upd_ne (nfrz c ob u r)];exact r
 rcases hc with rfl | hc;exact hbe;rintro rfl;rcases he with z | z;exact nown c b hc z;rw [hc] at z;cases z;exact hb rfl
end
structure Un (fs ex:List Addr)(H H':Hp)(h h':AR):Prop where
 keep:∀b o,h.get? b=some o->H b=none->b∉fs->b∉ex->h'.get? b=some o
 slot:∀b o,h.get? b=some o->H b=none->b∈fs->b∉ex->∃sl,h'.get? b=some {o with slots:=sl}
 free:∀b o,h.get? b=some o->H b=none->b∉ex->H' b=none
 there:∀b o,h.get? b=some o->b∉ex->∃o',h'.get? b=some o'
 tups:∀b xs,H b=some (.tup xs)->H' b=some (.tup xs)
 frzs:∀b o u,H b=some (.frz o u)->H' b=some (.frz o u)
 tbls:∀b p q,H b=some (.tbl p q)->H' b=some (.tbl p q)
section
variable {fs fs' ex ex':List Addr}{H1 H2:Hp}{h1 h2:AR}{x e:Addr}{o:HO}
theorem Un.any (u:Un fs ex H H1 h h1){ob:Obj}(q:h.get? b=some ob)(n:H b=none)(hx:b∉ex):∃sl,h1.get? b=some {ob with slots:=sl}:=by by_cases hb:b∈fs;exact u.slot b ob q n hb hx;exact ⟨ob.slots,u.keep b ob q n hb hx⟩
theorem Un.kept (k:∀b u,h.get? b=some u->h'.get? b=some u):Un fs ex H H h h':=⟨fun b ob q _ _ _=>k b ob q,fun b ob q _ _ _=>⟨ob.slots,k b ob q⟩,fun _ _ _ n _=>n,fun b ob q _=>⟨ob,k b ob q⟩,fun _ _ q=>q,fun _ _ _ q=>q,fun _ _ _ q=>q⟩
theorem Un.refl:Un fs ex H H h h:=Un.kept fun _ _ q=>q
theorem Un.laid (k:∀b u,h.get? b=some u->h'.get? b=some u)(hp:h.objs.size<=a)(hn:H a=none):Un fs ex H (upd H a o) h h' where
 keep:=fun b u q _ _ _=>k b u q
 slot:=fun b u q _ _ _=>⟨u.slots,k b u q⟩
 free:=fun b u q n _=>by rw [upd_ne (Bh (Ak (AT q) hp))];exact n
 there:=fun b u q _=>⟨u,k b u q⟩
 tups:=fun b xs q=>by rw [upd_ne (ne_of_none q hn)];exact q
 frzs:=fun b u xs q=>by rw [upd_ne (ne_of_none q hn)];exact q
 tbls:=fun b p n q=>by rw [upd_ne (ne_of_none q hn)];exact q
theorem Un.write (mu:Mut (H x))(he:e=x\/H e=some (.own x))(k:∀b u,b≠e->h.get? b=some u->h'.get? b=some u)(heo:∃u,h'.get? e=some u):Un fs ex H (upd H x o) h h':=by
  have hx:∀b,H b=none->b≠x:=fun b n z=>by subst z;rw [n] at mu;exact mu
  have hb:∀b,H b=none->b≠e:=fun b n z=>by subst z;rcases he with r | r;exact hx b n r;rw [n] at r;cases r
  have hm:∀b u,H b=some u->¬Mut (some u)->b≠x:=fun b u q nm z=>by subst z;rw [q] at mu;exact nm mu
  refine ⟨fun b u q n _ _=>k b u (hb b n) q,fun b u q n _ _=>⟨u.slots,k b u (hb b n) q⟩,fun b u q n _=>by rw [upd_ne (hx b n)];exact n,fun b u q _=>?_,
    fun b xs q=>by rw [upd_ne (hm b _ q fun z=>z)];exact q,fun b u xs q=>by rw [upd_ne (hm b _ q fun z=>z)];exact q,fun b p n q=>by rw [upd_ne (hm b _ q fun z=>z)];exact q⟩
  by_cases hbe:b=e;subst hbe;exact heo;exact ⟨u,k b u hbe q⟩
end
def trk (h:AR)(H:Hp):List Addr:=(AW h.objs.size).filter fun a=>(H a).isSome
def hidT (h:AR)(H:Hp):AR:=Cw h (trk h H)
theorem hidT_size (h:AR)(H:Hp):(hidT h H).objs.size=h.objs.size:=PySem.W.hideAll_size _ _
theorem hidT_get (e:h.get? b=some o)(n:H b=none):(hidT h H).get? b=some o:=El _ e fun hm=>by have q:(H b).isSome=true:=(FX.mp hm).2;rw [n] at q;simp at q
theorem of_hidT (e:(hidT h H).get? b=some o):h.get? b=some o/\H b=none:=by
 have e':h.get? b=some o:=PySem.W.of_hideAll (trk h H) e;refine ⟨e',?_⟩;cases q:H b with
 | none=>rfl
 | some x =>have hm:b∈trk h H:=FX.mpr ⟨CG.mpr (AT e'),by simp [q]⟩;have z:(hidT h H).get? b=none:=Co (trk h H) hm;rw [z] at e;cases e
def allNews (g h:AR)(L:Addr):List (Addr×Obj):=(AW h.objs.size).filterMap fun a=>if a=L\/(g.get? a).isSome=true then none else (h.get? a).map fun o=>(a,o)
def rest (g h:AR)(L d:Addr):List (Addr×Obj):=(allNews g h L).filter fun p=>decide (p.1≠d)
structure Mod (K:AC)(mg:Str->Option Value)(base:AR):Prop where
 kin:K.In base
 glob:base.Ns Af mg
 blt:∃mb,base.Ns DY mb/\∀x:Str,x≠"__name__"->mb x=Bq x
 nolimit:base.NoLimit
structure Cx where
 prog:Ao
 w:AK
 K:AC
 mg:Str->Option Value
 base:AR
 A:AI
 N:List Str
 s₀:Ac
 H₀:Hp
 env:Env
 outer:List Env
 stack:List Env
 ex:List Addr
 fn:Str->Bool
 calm:Bool
 pn:List (Addr×Obj)
 xe:Value->Ac->Prop
def frs (l:List Env):List Addr:=l.filterMap (·.frame)
abbrev Cx.fs (X:Cx):List Addr:=frs X.outer
def Vis (sc:Scope)(x:Str):Prop:=sc.names.lookup x=some .local\/sc.names.lookup x=some .cell\/sc.names.lookup x=some .free
def Loc (sc:Scope)(x:Str):Prop:=sc.names.lookup x=some .local\/sc.names.lookup x=some .cell
def Look (env:Env)(h:AR)(m:Str->Option Value)(x:Str)(u:Value):Prop:=
 (env.kindOf x=some .local/\m x=some u)\/((env.kindOf x=some .cell\/env.kindOf x=some .free)/\∃c,env.cells.lookup x=some c/\h.IsCell c (some u))
structure Cx.Ok (X:Cx):Prop where
 mod:Mod X.K X.mg X.base
 kind:X.env.scope.kind=.function
 glob:X.env.globals=Af
 blt:X.env.builtins=DY
 above:X.s₀.heap.objs.size<=X.env.locals
 inj:∀x y c,X.env.cells.lookup x=some c->X.env.cells.lookup y=some c->x=y
 has:∀x,(X.env.kindOf x=some .cell\/X.env.kindOf x=some .free)->∃c,X.env.cells.lookup x=some c
 cab:∀x c,X.fn x=true->X.env.cells.lookup x=some c->X.s₀.heap.objs.size<=c
 hd:X.calm=true->X.A.handled=none
 frames:X.A.frames=some X.stack
 stk:X.stack=X.outer\/(X.stack=X.env::X.outer/\X.env.frame=some X.env.locals)
 exf:∀b∈X.ex,b≠X.env.locals/\∀x c,X.env.cells.lookup x=some c->c≠b
 bs:∀b o,X.base.get? b=some o->X.s₀.heap.get? b=some o/\X.H₀ b=none
 bsz:X.base.objs.size<=X.s₀.heap.objs.size
 noex:∀b o,X.base.get? b=some o->b∉X.ex
 exfs:∀b∈X.ex,b∉X.fs
 funs:X.s₀.heap.FunFrames X.base X.outer
 frf:∀b∈X.fs,X.H₀ b=none
structure Inv (X:Cx)(pins:List (Addr×Obj))(σ:List (Option V))(H:Hp)(s:Ac):Prop where
 ok:X.Ok
 os:s.os=X.s₀.os
 bare:CL s.gens
 base:Un X.fs X.ex X.H₀ H X.s₀.heap s.heap
 loc:∃m,s.heap.Ns X.env.locals m/\∀(i:Nat) (x:Str) (v:V),X.N[i]?=some x->σ[i]?=some (some v)->Vis X.env.scope x->∃u,RelV v u/\Look X.env s.heap m x u
 cell:∀x c,X.env.cells.lookup x=some c->∃v,s.heap.IsCell c v
 free:H X.env.locals=none
 freeC:∀x c,X.env.cells.lookup x=some c->H c=none
 pin:∀p∈X.pn++pins,s.heap.get? p.1=some p.2/\H p.1=none/\p.1≠X.env.locals/\p.1∉X.fs/\∀v,p.2.data≠.cell v
 hok:HOk X.prog X.w H s.heap
 len:σ.length=X.N.length
section
variable {σ:List (Option V)}
theorem Cx.Ok.nofr (ok:X.Ok)(e:X.base.get? b=some o):b∉X.fs:=fun hb=>by have:=(ok.funs.mem hb).1;rw [e] at this;cases this
theorem Inv.bs (I:Inv X pins σ H s):∀b o,X.base.get? b=some o->s.heap.get? b=some o/\H b=none:=fun b o e =>
 ⟨I.base.keep b o (I.ok.bs b o e).1 (I.ok.bs b o e).2 (I.ok.nofr e) (I.ok.noex b o e),I.base.free b o (I.ok.bs b o e).1 (I.ok.bs b o e).2 (I.ok.noex b o e)⟩
theorem Inv.bk (I:Inv X pins σ H s):∀b o,X.base.get? b=some o->s.heap.get? b=some o:=fun b o e=>(I.bs b o e).1
theorem Inv.mod (I:Inv X pins σ H s):Mod X.K X.mg X.base:=I.ok.mod
theorem Inv.kIn (I:Inv X pins σ H s):X.K.In s.heap:=I.ok.mod.kin.keeps I.bk
theorem Inv.lt (I:Inv X pins σ H s):X.env.locals<s.heap.objs.size:=let ⟨_,hn,_⟩:=I.loc;hn.lt
theorem Inv.sz (I:Inv X pins σ H s):X.s₀.heap.objs.size<=s.heap.objs.size:=A9 I.ok.above (D4 I.lt)
theorem Inv.nofs (I:Inv X pins σ H s)(h:s.heap.objs.size<=a):a∉X.fs:=fun hb=>by obtain ⟨_,o,ho,_⟩:=I.ok.funs.mem hb;exact absurd (Ak (AT ho) (A9 I.sz h)) (A6 _)
theorem Inv.cne (I:Inv X pins σ H s):∀x c,X.env.cells.lookup x=some c->c≠X.env.locals:=fun x c e z=>by obtain ⟨v,o,ho,hd⟩:=I.cell x c e;obtain ⟨m,⟨o',es,ep,ho',hd',_⟩,_⟩:=I.loc;rw [z,ho'] at ho;cases ho;rw [hd'] at hd;cases hd
theorem Inv.funs (I:Inv X pins σ H s):s.heap.FunFrames X.base X.outer:=by
 have all:∀(l:List Env),(∀b∈frs l,b∈X.fs)->X.s₀.heap.FunFrames X.base l->s.heap.FunFrames X.base l:=by
  intro l
  induction l with
  | nil=>intro _ _;trivial
  | cons env r ih =>intro hs hl;obtain ⟨hk,⟨L,o,hf,hn,ho,hd⟩,hr⟩:=hl;have hL:L∈X.fs:=hs L (by unfold frs;rw [Du,hf];exact BY);obtain ⟨sl,e⟩:=I.base.slot L o ho (I.ok.frf L hL) hL fun z=>I.ok.exfs L z hL;exact ⟨hk,⟨L,_,hf,hn,e,hd⟩,ih (fun b hb=>hs b (by unfold frs;rw [Du,hf];exact Bb _ hb)) hr⟩
 exact all X.outer (fun _ hb=>hb) I.ok.funs
theorem Inv.stack (I:Inv X pins σ H s):s.heap.FunFrames X.base X.stack:=by rcases I.ok.stk with e | ⟨e,hf⟩;rw [e];exact I.funs;rw [e];obtain ⟨m,hn,_⟩:=I.loc;refine .cons (by rw [I.ok.kind];decide) hf hn ?_ I.funs;exact Heap.get?_none_of_le (A9 I.ok.bsz I.ok.above)
theorem Inv.stkSub (I:Inv X pins σ H s):∀b∈frs X.stack,b∈X.env.locals::X.fs:=fun b hb=>by rcases I.ok.stk with e | ⟨e,hf⟩;rw [e] at hb;exact Bb _ hb;rw [e] at hb;unfold frs at hb;rw [Du,hf] at hb;exact hb
theorem Inv.stkFree (I:Inv X pins σ H s):∀b∈frs X.stack,H b=none:=fun b hb=>by rcases Au.mp (I.stkSub b hb) with e | hb;rw [e];exact I.free;obtain ⟨_,o,ho,_⟩:=I.ok.funs.mem hb;exact I.base.free b o ho (I.ok.frf b hb) fun z=>I.ok.exfs b z hb
theorem Inv.step (I:Inv X pins σ H s)
  (hch:∀b∈ch,(b∈X.ex\/X.s₀.heap.objs.size<=b)/\b≠X.env.locals/\(∀x c,X.env.cells.lookup x=some c->c≠b)/\∀p∈X.pn++pins,p.1≠b)
  (keep:∀b o,b≠X.env.locals->b∉X.fs->b∉ch->s.heap.get? b=some o->H b=none->h'.get? b=some o)
  (slot:∀b o,b≠X.env.locals->b∈X.fs->b∉ch->s.heap.get? b=some o->H b=none->∃sl,h'.get? b=some {o with slots:=sl}) (free:∀b o,b∉ch->s.heap.get? b=some o->H b=none->H' b=none)
  (there:∀b o,b∉ch->s.heap.get? b=some o->∃o',h'.get? b=some o')
  (tups:∀b xs,H b=some (.tup xs)->H' b=some (.tup xs)) (frzs:∀b o u,H b=some (.frz o u)->H' b=some (.frz o u)) (tbls:∀b p n,H b=some (.tbl p n)->H' b=some (.tbl p n))
  (ns:∀m,s.heap.Ns X.env.locals m->h'.Ns X.env.locals m) (hok:HOk X.prog X.w H' h') (hg:CL g') :
  Inv X pins σ H' {s with heap:=h',gens:=g',drawn:=d',toks:=t'}:=by
 have neL:∀b o,X.s₀.heap.get? b=some o->b≠X.env.locals:=fun b o e=>Bh (Ak (AT e) I.ok.above);have neC:∀b o,X.s₀.heap.get? b=some o->b∉X.ex->b∉ch:=fun b o e hx hb=>by rcases (hch b hb).1 with z | z;exact hx z;exact absurd (Ak (AT e) z) (A6 _)
 have cellK:∀x c,X.env.cells.lookup x=some c->∀v,s.heap.IsCell c v->h'.IsCell c v:=fun x c e v ⟨o,ho,hd⟩=>by have nch:c∉ch:=fun z=>(hch c z).2.2.1 x c e rfl;by_cases hc:c∈X.fs;obtain ⟨sl,q⟩:=slot c o (I.cne x c e) hc nch ho (I.freeC x c e);exact ⟨_,q,hd⟩;exact ⟨o,keep c o (I.cne x c e) hc nch ho (I.freeC x c e),hd⟩
 refine ⟨I.ok,I.os,hg,⟨fun b o e n hb hx=>?_,fun b o e n hb hx=>?_,fun b o e n hx=>?_,fun b o e hx=>?_,fun b xs e=>tups b xs (I.base.tups b xs e),fun b o xs e=>frzs b o xs (I.base.frzs b o xs e),fun b p n e=>tbls b p n (I.base.tbls b p n e)⟩,?_,fun x c e=>?_,?_,fun x c e=>?_,fun p hp=>?_,hok,I.len⟩;exact keep b o (neL b o e) hb (neC b o e hx) (I.base.keep b o e n hb hx) (I.base.free b o e n hx);obtain ⟨sl,e1⟩:=I.base.slot b o e n hb hx;obtain ⟨sl',e2⟩:=slot b _ (neL b o e) hb (neC b o e hx) e1 (I.base.free b o e n hx);exact ⟨sl',e2⟩;obtain ⟨o',e1⟩:=I.base.there b o e hx;exact free b o' (neC b o e hx) e1 (I.base.free b o e n hx);obtain ⟨o',e1⟩:=I.base.there b o e hx;exact there b o' (neC b o e hx) e1;obtain ⟨m,hn,hl⟩:=I.loc;refine ⟨m,ns m hn,fun i x v e1 e2 e3=>?_⟩;obtain ⟨u,r,l⟩:=hl i x v e1 e2 e3;refine ⟨u,r,?_⟩;rcases l with l | ⟨k,c,e,z⟩;exact .inl l;exact .inr ⟨k,c,e,cellK x c e _ z⟩;obtain ⟨v,z⟩:=I.cell x c e;exact ⟨v,cellK x c e v z⟩;obtain ⟨m,⟨o,_,_,ho,_⟩,_⟩:=I.loc;exact free _ o (fun z=>(hch _ z).2.1 rfl) ho I.free;obtain ⟨v,o,ho,hd⟩:=I.cell x c e;exact free c o (fun z=>(hch c z).2.2.1 x c e rfl) ho (I.freeC x c e);obtain ⟨e,n,ne,nf,d⟩:=I.pin p hp;have nch:p.1∉ch:=fun z=>(hch p.1 z).2.2.2 p hp rfl;exact ⟨keep p.1 p.2 ne nf nch e n,free p.1 p.2 nch e n,ne,nf,d⟩
theorem Inv.un (I:Inv X pins σ H s)(u:Un X.fs [] H H' s.heap h')(hok:HOk X.prog X.w H' h'):Inv X pins σ H' {s with heap:=h',toks:=t'}:=by
  obtain ⟨m,⟨o,es,ep,ho,r⟩,_⟩:=id I.loc;obtain ⟨sl,hL⟩:=u.any ho I.free (by simp);exact I.step (g':=s.gens) (d':=s.drawn) (ch:=[]) (fun _ z=>nomatch z) (fun b o _ hb _ e n=>u.keep b o e n hb (by simp)) (fun b o _ hb _ e n=>u.slot b o e n hb (by simp)) (fun b o _ e n=>u.free b o e n (by simp)) (fun b o _ e=>u.there b o e (by simp)) u.tups u.frzs u.tbls (fun m' hm=>by
    obtain ⟨o',es',ep',ho',r'⟩:=hm;rw [ho] at ho';cases ho';exact ⟨_,es',ep',hL,r'⟩) hok I.bare
theorem Inv.call (I:Inv X pins σ H s)(u:Un (frs X.stack) ch H H' s.heap h')(hok:HOk X.prog X.w H' h')(hg:CL g')
    (hch:∀b∈ch,(b∈X.ex\/X.s₀.heap.objs.size<=b)/\b≠X.env.locals/\(∀x c,X.env.cells.lookup x=some c->c≠b)/\∀p∈X.pn++pins,p.1≠b) :
    Inv X pins σ H' {s with heap:=h',gens:=g',drawn:=d',toks:=t'}:=by
  obtain ⟨m,⟨o,es,ep,ho,r⟩,_⟩:=id I.loc;obtain ⟨sl,hL⟩:=u.any ho I.free fun z=>(hch _ z).2.1 rfl;exact I.step (ch:=ch) hch (fun b o hL hb hc e n=>u.keep b o e n (fun z=>(Au.mp (I.stkSub b z)).elim hL hb) hc) (fun b o _ _ hc e n=>u.any e n hc) (fun b o hc e n=>u.free b o e n hc) (fun b o hc e=>u.there b o e hc) u.tups u.frzs u.tbls (fun m' hm=>by
    obtain ⟨o',es',ep',ho',r'⟩:=hm;rw [ho] at ho';cases ho';exact ⟨_,es',ep',hL,r'⟩) hok hg
theorem Inv.turned (I:Inv X pins σ H s)(k:∀b o,b≠it->s.heap.get? b=some o->h'.get? b=some o)(hn:H it=none)(hL:it≠X.env.locals)
  (h1:it∈X.ex\/X.s₀.heap.objs.size<=it) (h2:∀x c,X.env.cells.lookup x=some c->c≠it) (h3:∀p∈X.pn++pins,p.1≠it):Inv X pins σ H {s with heap:=h',toks:=t'}:=by
 have nit:∀b u,H b=some u->b≠it:=fun b u e z=>by rw [z,hn] at e;cases e
 refine I.step (g':=s.gens) (d':=s.drawn) (ch:=[it]) (fun b hb=>?_) (fun b o _ _ hc e _=>k b o (fun z=>hc (by simp [z])) e) (fun b o _ _ hc e _=>⟨o.slots,k b o (fun z=>hc (by simp [z])) e⟩) (fun _ _ _ _ n=>n)
  (fun b o hc e=>⟨o,k b o (fun z=>hc (by simp [z])) e⟩) (fun _ _ e=>e) (fun _ _ _ e=>e) (fun _ _ _ e=>e) (fun m hm=>?_) (fun b u e=>?_) I.bare
 have e:b=it:=by simpa using hb
 subst e;exact ⟨h1,hL,h2,h3⟩;obtain ⟨o,es,ep,ho,r⟩:=hm;exact ⟨o,es,ep,k _ o (Ne.symm hL) ho,r⟩;refine (I.hok b u e).stay (fun c v hc q=>k c v ?_ q) (fun _ q=>q) (fun _ _ q=>q) fun _ _ _ q=>q;rcases hc with z | z;rw [z];exact nit b u e;exact nit c _ z
theorem Inv.tok (I:Inv X pins σ H s)(t:Nat):Inv X pins σ H {s with toks:=t}:=I.un (h':=s.heap) (t':=t) Un.refl I.hok
theorem Inv.kept {t':Nat}(I:Inv X pins σ H s)(k:∀b u,s.heap.get? b=some u->h'.get? b=some u):Inv X pins σ H {s with heap:=h',toks:=t'}:=I.un (Un.kept k) (I.hok.kept k)
theorem Inv.laid {a:Addr}{o:HO}{t':Nat}(I:Inv X pins σ H s)(k:∀b u,s.heap.get? b=some u->h'.get? b=some u)(hp:s.heap.objs.size<=a)(new:ObjOk X.prog X.w (upd H a o) h' a o) :
  Inv X pins σ (upd H a o) {s with heap:=h',toks:=t'}:=I.un (Un.laid k hp (I.hok.fresh hp)) (I.hok.laid k hp new)
theorem Inv.write {x e:Addr}{o:HO}{t':Nat}(I:Inv X pins σ H s)(mu:Mut (H x))(he:e=x\/H e=some (.own x))(k:∀b u,b≠e->s.heap.get? b=some u->h'.get? b=some u)(heo:∃u,h'.get? e=some u)
  (new:ObjOk X.prog X.w (upd H x o) h' x o):Inv X pins σ (upd H x o) {s with heap:=h',toks:=t'}:=I.un (Un.write mu he k heo) (I.hok.write mu he k heo new)
theorem Inv.pins_of (I:Inv X pins σ H s)(h:∀p∈pins',s.heap.get? p.1=some p.2/\H p.1=none/\p.1≠X.env.locals/\p.1∉X.fs/\∀v,p.2.data≠.cell v):Inv X pins' σ H s:=⟨I.ok,I.os,I.bare,I.base,I.loc,I.cell,I.free,I.freeC,fun p hp=>(Ae.mp hp).elim (fun z=>I.pin p (Am _ z)) (h p),I.hok,I.len⟩
theorem nodup_ix (hN:N.Nodup)(a:N[i]?=some x)(b:N[j]?=some x):i=j:=by obtain ⟨h1,e1⟩:=Ad.mp a;obtain ⟨h2,e2⟩:=Ad.mp b;exact (List.getElem_inj hN).mp (e1.trans e2.symm)
theorem store_ok2 {Q:Unit->Ac->Prop}(I:Inv X pins σ H s)(hN:X.N.Nodup)(hi:X.N[i]?=some x)(hx:Loc X.env.scope x)(r:RelV v u)
  (h:∀s',Inv X pins (σ.set i (some v)) H s'->(∃a,C2 a s.heap s'.heap/\(a=X.env.locals\/X.env.cells.lookup x=some a))->Q () s') (hf:autoParam (X.fn x=true\/X.env.scope.names.lookup x=some .local) aT0._auto_1):An M A (storeName X.env x u) Q E s:=by
 obtain ⟨m,hn,hl⟩:=id I.loc;have hcls:(X.env.scope.kind==.class||(X.env.scope.kind==.module&&X.env.locals != X.env.globals))=false:=by rw [I.ok.kind];rfl
 have hiσ:i<σ.length:=by rw [I.len];exact (Ad.mp hi).1
 have cne:=I.cne;have tracked:∀{a:Addr} {h':AR},(∃o,s.heap.get? a=some o/\H a=none)->C2 a s.heap h'->HOk X.prog X.w H h':=fun {a h'} ha hs b ob e=>by obtain ⟨_,_,hfree⟩:=ha;refine (I.hok b ob e).stay (fun c w' hc q=>(hs.2 c ?_).trans q) (fun _ q=>q) (fun _ _ q=>q) fun _ _ _ q=>q;rintro rfl;rcases hc with rfl | hc;rw [hfree] at e;cases e;rw [hfree] at hc;cases hc
 rcases hx with hk | hk;refine wpAny_storeName_local hk hn (fun h' hn' hs=>?_) hcls;obtain ⟨oL,_,_,hoL,_⟩:=id hn;refine h _ ⟨I.ok,I.os,I.bare,⟨fun b o e n hb hx=>?_,fun b o e n hb hx=>?_,I.base.free,fun b o e hx=>?_,I.base.tups,I.base.frzs,I.base.tbls⟩,⟨_,hn',fun j y v' e1 e2 e3=>?_⟩,fun y c e=>?_,I.free,I.freeC,fun p hp=>?_,tracked ⟨oL,hoL,I.free⟩ hs,by simpa using I.len⟩ ⟨_,hs,.inl rfl⟩;exact (hs.2 b (Bh (Ak (AT e) I.ok.above))).trans (I.base.keep b o e n hb hx);obtain ⟨sl,e1⟩:=I.base.slot b o e n hb hx;exact ⟨sl,(hs.2 b (Bh (Ak (AT e) I.ok.above))).trans e1⟩;obtain ⟨o',e1⟩:=I.base.there b o e hx;exact ⟨o',(hs.2 b (Bh (Ak (AT e) I.ok.above))).trans e1⟩;by_cases hj:j=i;subst hj;rw [hi] at e1;cases e1;rw [BJ hiσ] at e2;cases e2;exact ⟨u,r,.inl ⟨hk,by simp⟩⟩;rw [Bc (Ne.symm hj)] at e2;obtain ⟨u',r',q⟩:=hl j y v' e1 e2 e3;refine ⟨u',r',?_⟩;rcases q with ⟨k,e⟩ | ⟨k,c,e,z⟩;refine .inl ⟨k,?_⟩;have:y≠x:=fun e=>hj (nodup_ix hN e1 (e▸hi));simp [this,e];exact .inr ⟨k,c,e,z.sameBut hs (cne y c e)⟩;obtain ⟨w',z⟩:=I.cell y c e;exact ⟨w',z.sameBut hs (cne y c e)⟩;obtain ⟨e,n,ne,nf,d⟩:=I.pin p hp;exact ⟨(hs.2 p.1 ne).trans e,n,ne,nf,d⟩;have hfn:X.fn x=true:=by rcases hf with z | z;exact z;rw [z] at hk;cases hk
 obtain ⟨c,hc⟩:=I.ok.has x (.inl hk);obtain ⟨w',z⟩:=I.cell x c hc;refine wpAny_storeName_cell I.ok.kind hk hc z (fun h' hc' hs=>?_);obtain ⟨oc,hoc,hocd⟩:=id z;refine h {s with heap:=h'} ⟨I.ok,I.os,I.bare,⟨fun b o e n hb hx=>?_,fun b o e n hb hx=>?_,I.base.free,fun b o e hx=>?_,I.base.tups,I.base.frzs,I.base.tbls⟩,⟨m,hn.sameBut hs (Ne.symm (cne x c hc)),fun j y v' e1 e2 e3=>?_⟩,fun y c' e=>?_,I.free,I.freeC,fun p hp=>?_,tracked ⟨oc,hoc,I.freeC x c hc⟩ hs,by simpa using I.len⟩ ⟨c,hs,.inr hc⟩;exact (hs.2 b (Bh (Ak (AT e) (I.ok.cab x c hfn hc)))).trans (I.base.keep b o e n hb hx);obtain ⟨sl,e1⟩:=I.base.slot b o e n hb hx;exact ⟨sl,(hs.2 b (Bh (Ak (AT e) (I.ok.cab x c hfn hc)))).trans e1⟩;obtain ⟨o',e1⟩:=I.base.there b o e hx;exact ⟨o',(hs.2 b (Bh (Ak (AT e) (I.ok.cab x c hfn hc)))).trans e1⟩;by_cases hj:j=i;subst hj;rw [hi] at e1;cases e1;rw [BJ hiσ] at e2;cases e2;exact ⟨u,r,.inr ⟨.inl hk,c,hc,hc'⟩⟩;rw [Bc (Ne.symm hj)] at e2;obtain ⟨u',r',q⟩:=hl j y v' e1 e2 e3;refine ⟨u',r',?_⟩;rcases q with q | ⟨k,c',e,z'⟩;exact .inl q;refine .inr ⟨k,c',e,z'.sameBut hs ?_⟩;rintro rfl;exact hj (nodup_ix hN e1 (I.ok.inj _ _ _ e hc▸hi));by_cases hcc:c'=c;subst hcc;exact ⟨_,hc'⟩;obtain ⟨w2,z2⟩:=I.cell y c' e;exact ⟨w2,z2.sameBut hs hcc⟩;obtain ⟨e,n,ne,nf,d⟩:=I.pin p hp;refine ⟨(hs.2 p.1 ?_).trans e,n,ne,nf,d⟩;intro q;rw [q,hoc] at e;have q':oc=p.2:=AH e;exact d w' (by rw [<- q'];exact hocd)
theorem store_ok {Q:Unit->Ac->Prop}(I:Inv X pins σ H s)(hN:X.N.Nodup)(hi:X.N[i]?=some x)(hx:Loc X.env.scope x)(r:RelV v u)
  (h:∀s',Inv X pins (σ.set i (some v)) H s'->Q () s') (hf:autoParam (X.fn x=true\/X.env.scope.names.lookup x=some .local) aT0._auto_1):An M A (storeName X.env x u) Q E s:=
 store_ok2 I hN hi hx r (fun s' I' _=>h s' I') hf
theorem Inv.call' (I:Inv X pins σ H s)(ho:s'.os=s.os)(u:Un (frs X.stack) ch H H' s.heap s'.heap)(hok:HOk X.prog X.w H' s'.heap)(hg:CL s'.gens)
  (hch:∀b∈ch,(b∈X.ex\/X.s₀.heap.objs.size<=b)/\b≠X.env.locals/\(∀x c,X.env.cells.lookup x=some c->c≠b)/\∀p∈X.pn++pins,p.1≠b):Inv X pins σ H' s':=by
 obtain ⟨h',g',d',t',o'⟩:=s';have e:o'=s.os:=ho;subst e;exact I.call (g':=g') (t':=t') (d':=d') u hok hg hch
end
abbrev XK:=Value->Option Addr->Hp->Prop
abbrev St:=List (Option V)
abbrev VK:=V->Hp->Prop
abbrev TE:=St->Hp->VK->Prop
abbrev TT:=St->Hp->(Bool->Hp->Prop)->Prop
abbrev TA:=St->Hp->(List V->Hp->Prop)->Prop
structure Ends where
 nx:St->Hp->Prop
 rt:VK
 bk:St->Hp->Prop:=fun _ _=>False
 ct:St->Hp->Prop:=fun _ _=>False
abbrev TS:=Ends->St->Hp->Prop
def EP (X:Cx)(pins:List (Addr×Obj))(σ:St)(Q:VK)(u:Value)(s':Ac):Prop:=∃v H',Inv X pins σ H' s'/\RelV v u/\Q v H'
def TP (X:Cx)(pins:List (Addr×Obj))(σ:St)(Q:Bool->Hp->Prop)(b:Bool)(s':Ac):Prop:=∃H',Inv X pins σ H' s'/\Q b H'
def AP (X:Cx)(pins:List (Addr×Obj))(σ:St)(Q:List V->Hp->Prop)(us:List Value)(s':Ac):Prop:=∃vs H',Inv X pins σ H' s'/\Vals vs us/\Q vs H'
def SP (X:Cx)(pins:List (Addr×Obj))(D:Ends)(f:Flow)(s':Ac):Prop:=
 match f with
 | .next=>∃σ' H',Inv X pins σ' H' s'/\D.nx σ' H'
 | .brk=>∃σ' H',Inv X pins σ' H' s'/\D.bk σ' H'
 | .cont=>∃σ' H',Inv X pins σ' H' s'/\D.ct σ' H'
 | .ret u=>∃v σ' H',Inv X pins σ' H' s'/\RelV v u/\D.rt v H'
def PE (X:Cx)(e:Expr)(t:TE):Prop:=
 ∀(pins:List (Addr×Obj)) (s:Ac) (σ:St) (H:Hp) (Q:VK),Inv X pins σ H s->t σ H Q->An (Ai X.prog X.w) X.A (Ar e X.env) (EP X pins σ Q) X.xe s
def PT (X:Cx)(e:Expr)(t:TT):Prop:=
 ∀(pins:List (Addr×Obj)) (s:Ac) (σ:St) (H:Hp) (Q:Bool->Hp->Prop),Inv X pins σ H s->t σ H Q->An (Ai X.prog X.w) X.A (isTrue e X.env (Ar e X.env)) (TP X pins σ Q) X.xe s
def PW (X:Cx)(e:Expr)(t:TT):Prop:=
 ∀(whole:Sem Value) (pins:List (Addr×Obj)) (s:Ac) (σ:St) (H:Hp) (Q:Bool->Hp->Prop),Inv X pins σ H s->t σ H Q->An (Ai X.prog X.w) X.A (isTrue e X.env whole) (TP X pins σ Q) X.xe s
theorem PW.pt {t:TT}(h:PW X e t):PT X e t:=h _
def PA (X:Cx)(es:List Expr)(t:TA):Prop:=
 ∀(pos:Pos) (pins:List (Addr×Obj)) (s:Ac) (σ:St) (H:Hp) (Q:List V->Hp->Prop),Inv X pins σ H s->t σ H Q->An (Ai X.prog X.w) X.A (spliced (AG pos (Ab es X.env))) (AP X pins σ Q) X.xe s
def PS (X:Cx)(st:Stmt)(t:TS):Prop:=
 ∀(pins:List (Addr×Obj)) (s:Ac) (σ:St) (H:Hp) (D:Ends),Inv X pins σ H s->t D σ H->An (Ai X.prog X.w) X.A (exec st X.env) (SP X pins D) X.xe s
def PSs (X:Cx)(st:List Stmt)(t:TS):Prop:=
 ∀(pins:List (Addr×Obj)) (s:Ac) (σ:St) (H:Hp) (D:Ends),Inv X pins σ H s->t D σ H->An (Ai X.prog X.w) X.A (execs st X.env) (SP X pins D) X.xe s
theorem thn {t:Sem α}{Q Q':α->Ac->Prop}(h:An M A t Q E s)(hQ:∀a s,Q a s->Q' a s):An M A t Q' E s:=AZ h hQ fun _ _ x=>x
section
def tVar (i:Nat):TE:=fun σ H Q=>∃v,σ[i]?=some (some v)/\Q v H
def tC (v:V):TE:=fun _ H Q=>Q v H
theorem pe_var (hN:X.N[i]?=some x)(hv:Vis X.env.scope x)(hd:(x==("__debug__":Str))=false:=by decide)(hcd:(x==("__classdict__":Str))=false:=by decide):PE X (.Name x pos) (tVar i):=by intro pins s σ H Q I h;obtain ⟨v,e,h⟩:=h;obtain ⟨m,hn,hl⟩:=I.loc;obtain ⟨u,r,l⟩:=hl i x v hN e hv;have fin:EP X pins σ Q u s:=⟨v,H,I,r,h⟩;rcases l with ⟨hk,hm⟩ | ⟨hk,c,hc,hcell⟩;exact Gd (wpAny_loadName_local I.ok.kind hk hn hm fin) hd;rcases hk with hk | hk;exact Gd (wpAny_loadName_cell I.ok.kind hk hc hcell fin) hd;exact Gd (wpAny_loadName_free I.ok.kind hk hc hcell fin hcd) hd
theorem pe_int {i j pos}:PE X (.Constant (.int i) j pos) (tC (.int i)):=fun _ _ _ H _ I h=>wpAny_Constant_int ⟨.int i,H,I.tok _,⟨_,rfl⟩,h⟩
theorem pe_bl {b j pos}:PE X (.Constant (.bool b) j pos) (tC (.bl b)):=fun _ _ _ H _ I h=>Constant_bool ⟨.bl b,H,I,rfl,h⟩
theorem pe_str {x j pos}:PE X (.Constant (.str x) j pos) (tC (.str x)):=fun _ _ _ H _ I h=>Calls.Constant_str ⟨.str x,H,I.tok _,⟨_,rfl⟩,h⟩
def Gl (X:Cx)(x:Str):Prop:=X.env.kindOf x=some .globalImplicit
theorem ld_glob (I:Inv X pins σ H s)(hg:Gl X x)(hm:X.mg x=some u)(h:Q u s)
  (hd:(x==("__debug__":Str))=false:=by decide):An (Ai X.prog X.w) X.A (Ar (.Name x pos) X.env) Q E s:=
 D9 I.ok.kind hg (Calls.loadGlobal_global (by rw [I.ok.glob];exact I.mod.glob.keeps I.bk) hm h) hd
theorem ld_blt (I:Inv X pins σ H s)(hg:Gl X x)(hm:X.mg x=none)(hv:Bq x=some u)(h:Q u s)
  (hn:x≠"__name__":=by decide) (hd:(x==("__debug__":Str))=false:=by decide):An (Ai X.prog X.w) X.A (Ar (.Name x pos) X.env) Q E s:=by
 obtain ⟨mb,h1,h2⟩:=I.mod.blt;exact D9 I.ok.kind hg (Calls.loadGlobal_builtin (by rw [I.ok.glob];exact I.mod.glob.keeps I.bk) hm (by rw [I.ok.blt];exact h1.keeps I.bk) ((h2 x hn).trans hv) h) hd
theorem pe_glob (hg:Gl X x)(hm:X.mg x=some u)(r:RelV v u)(hd:(x==("__debug__":Str))=false:=by decide):PE X (.Name x pos) (tC v):=fun _ _ _ H _ I h=>ld_glob I hg hm ⟨v,H,I,r,h⟩ hd
theorem pe_bltn (hg:Gl X x)(hm:X.mg x=none)(hv:Bq x=some u)(r:RelV v u)(hn:x≠"__name__":=by decide)(hd:(x==("__debug__":Str))=false:=by decide):PE X (.Name x pos) (tC v):=fun _ _ _ H _ I h=>ld_blt I hg hm hv ⟨v,H,I,r,h⟩ hn hd
variable {a b:Expr}
def tB (t:TE):TT:=fun σ H Q=>t σ H fun x H1=>∃c,x=.bl c/\Q c H1
theorem pt_val {t:TE}(h:PE X e t)(he:∀whole,isTrue e X.env whole=(do let v <- whole;B5 e.pos;BA [v] (truthy v)):=by intro _;rfl):PT X e (tB t):=by intro pins s σ H Q I hw;refine isTrue_plain (thn (h pins s σ H _ I hw) fun v s1 hz9=>?_) (he _);obtain ⟨x,H1,I1,r1,q1⟩:=hz9;obtain ⟨d,rfl,q⟩:=q1;cases r1;exact CZ ⟨H1,I1,q⟩
variable {tA tB':TT}{rest:List Expr}
def tOr (t u:TT):TT:=fun σ H Q=>t σ H fun c H1=>if c=true then Q true H1 else u σ H1 Q
def tNot (t:TT):TT:=fun σ H Q=>t σ H fun c H1=>Q (!c) H1
theorem pw_or1 (ha:PT X a tA):PW X (.BoolOp .Or [a] pos) tA:=by
 intro wh pins s σ H Q I h;refine isTrue_or (thn (ha pins s σ H Q I h) fun c s1 e=>?_);cases c with
 | false=>exact isTrue_or_nil e
 | true=>exact e
theorem pw_or (ha:PT X a tA)(hb:PW X (.BoolOp .Or (b::rest) pos) tB'):PW X (.BoolOp .Or (a::b::rest) pos) (tOr tA tB'):=by
 intro wh pins s σ H Q I h;refine isTrue_or (thn (ha pins s σ H _ I h) fun c s1 ⟨H1,I1,q1⟩=>?_);cases c with
 | true=>exact ⟨H1,I1,q1⟩
 | false=>exact hb wh pins s1 σ H1 Q I1 q1
theorem pt_not (ha:PT X a tA):PT X (.UnaryOp .Not a pos) (tNot tA):=by intro pins s σ H Q I h;exact isTrue_not (ha pins s σ H (fun c H1=>Q (!c) H1) I h)
def tAndV (ta tb:TE):TE:=fun σ H Q=>ta σ H fun x H1=>∃c,x=.bl c/\if c=true then tb σ H1 Q else Q (.bl false) H1
def tNotV (ta:TE):TE:=fun σ H Q=>ta σ H fun x H1=>∃c,x=.bl c/\Q (.bl (!c)) H1
theorem pe_one {op}{t:TE}(h:PE X a t):PE X (.BoolOp op [a] pos) t:=fun pins s σ H Q I hw=>BoolOp_one (h pins s σ H Q I hw)
theorem pe_and (ha:PE X a ta)(hb:PE X (.BoolOp .And (b::rest) pos) tb):PE X (.BoolOp .And (a::b::rest) pos) (tAndV ta tb):=by
 intro pins s σ H Q I h;refine BoolOp_and (thn (ha pins s σ H _ I h) fun v s1 hz9=>?_);obtain ⟨x,H1,I1,r1,q1⟩:=hz9;obtain ⟨c,rfl,q1⟩:=q1;cases r1;refine CZ ?_;cases c with
 | true=>exact hb pins s1 σ H1 Q I1 q1
 | false=>exact ⟨.bl false,H1,I1,rfl,q1⟩
theorem pe_not (ha:PE X a ta):PE X (.UnaryOp .Not a pos) (tNotV ta):=by intro pins s σ H Q I h;refine UnaryOp_ (thn (ha pins s σ H _ I h) fun v s1 hz9=>?_);obtain ⟨x,H1,I1,r1,q1⟩:=hz9;obtain ⟨c,rfl,q1⟩:=q1;cases r1;exact not_of (CZ ⟨.bl (!c),H1,I1,rfl,q1⟩)
end
def SqL (K:AC)(H:Hp)(a:Addr)(xs:List V):Prop:=
 Rd H a (.lst xs)\/
  ∃(o:Obj) (its:Array Value) (n:Nat),K.lookup a=some o/\o.cls=.type "list"/\o.dict=none/\o.data=.seq its n/\its.size<=Ah/\Vals xs its.toList
def SqT (K:AC)(H:Hp)(a:Addr)(xs:List V):Prop:=
 Rd H a (.tup xs)\/
  ∃(o:Obj) (its:Array Value) (n:Nat),K.lookup a=some o/\o.cls=.type "tuple"/\o.data=.seq its n/\its.size<=Ah/\Vals xs its.toList
def absV:Value->Option V
 | .none=>some .non
 | .bool b=>some (.bl b)
 | .int i _=>some (.int i)
 | .str x _=>some (.str x)
 | .bytes b _=>some (.byt b)
 | .float b _=>some (.flt b)
 | .ref a=>some (.ref a)
 | .type n=>some (.ty n)
 | _=>none
theorem RelV.abs {x:V}(r:RelV x u):absV u=some x:=by
 cases x with
 | non=>cases r;rfl
 | bl _=>cases r;rfl
 | int _=>obtain ⟨t,rfl⟩:=r;rfl
 | str _=>obtain ⟨t,rfl⟩:=r;rfl
 | byt _=>obtain ⟨t,rfl⟩:=r;rfl
 | flt _=>obtain ⟨t,rfl⟩:=r;rfl
 | ref _=>cases r;rfl
 | ty _=>cases r;rfl
theorem RelV.inj {x y:V}{u:Value}(r:RelV x u)(q:RelV y u):x=y:=AH (r.abs.symm.trans q.abs)
theorem Vals.inj:∀{xs ys:List V} {us:List Value},Vals xs us->Vals ys us->xs=ys
 | _,_,_,.nil,.nil=>rfl
 | _,_,_,.cons r t,.cons r' t'=>by rw [r.inj r',Vals.inj t t']
section
variable {xs ys:List V}
theorem SqL.of (h:H a=some (.lst xs)):SqL K H a xs:=.inl (.inl h)
theorem SqT.of (h:H a=some (.tup xs)):SqT K H a xs:=.inl (.inl h)
theorem Inv.list (I:Inv X pins σ H s)(h:SqL X.K H a xs):∃its:List Value,Vals xs its/\PlainL s.heap a its.toArray/\xs.length<=Ah:=by rcases h with h | ⟨o,its,n,hk,hc,hd,hs,hz,r⟩;obtain ⟨z,its,n,r,e⟩:=h.ok I.hok;exact ⟨its,r,⟨_,n,e,rfl,rfl,rfl⟩,z⟩;refine ⟨its.toList,r,⟨o,n,I.kIn a o hk,hc,hd,by simpa using hs⟩,?_⟩;have e:=r.length;simp only [Do] at e;omega
theorem Inv.tuple (I:Inv X pins σ H s)(h:SqT X.K H a xs):∃its:List Value,Vals xs its/\IsTup s.heap a its.toArray/\xs.length<=Ah:=by rcases h with h | ⟨o,its,n,hk,hc,hs,hz,r⟩;obtain ⟨z,its,r,p⟩:=h.ok I.hok;exact ⟨its,r,p,z⟩;refine ⟨its.toList,r,⟨o,I.kIn a o hk,hc,n,by simpa using hs⟩,?_⟩;have e:=r.length;simp only [Do] at e;omega
theorem Inv.list_inj (I:Inv X pins σ H s)(h:SqL X.K H a xs)(h':SqL X.K H a ys):xs=ys:=by
 obtain ⟨its,r,⟨o,n,e,_,_,d⟩,_⟩:=I.list h;obtain ⟨its',r',⟨o',n',e',_,_,d'⟩,_⟩:=I.list h';rw [e] at e';cases e';rw [d] at d';injection d' with d1 _;have:its=its':=by simpa using congrArg Array.toList d1
 subst this;exact r.inj r'
end
abbrev Cx.wish (X:Cx)(E:Value->Ac->Prop):Cx:={X with xe:=E}
abbrev Cx.nox (X:Cx):Cx:=X.wish fun _ _=>False
theorem Cx.Ok.wish {X:Cx}(ok:X.Ok)(E:Value->Ac->Prop):(X.wish E).Ok:=⟨ok.mod,ok.kind,ok.glob,ok.blt,ok.above,ok.inj,ok.has,ok.cab,ok.hd,ok.frames,ok.stk,ok.exf,ok.bs,ok.bsz,ok.noex,ok.exfs,ok.funs,ok.frf⟩
theorem Cx.Ok.unwish (ok:(X.wish E).Ok):X.Ok:=⟨ok.mod,ok.kind,ok.glob,ok.blt,ok.above,ok.inj,ok.has,ok.cab,ok.hd,ok.frames,ok.stk,ok.exf,ok.bs,ok.bsz,ok.noex,ok.exfs,ok.funs,ok.frf⟩
theorem Inv.wish (I:Inv X pins σ H s)(E:Value->Ac->Prop):Inv (X.wish E) pins σ H s:=⟨I.ok.wish E,I.os,I.bare,I.base,I.loc,I.cell,I.free,I.freeC,I.pin,I.hok,I.len⟩
theorem Inv.unwish (I:Inv (X.wish E) pins σ H s):Inv X pins σ H s:=⟨I.ok.unwish,I.os,I.bare,I.base,I.loc,I.cell,I.free,I.freeC,I.pin,I.hok,I.len⟩
theorem SP.unwish {D:Ends}{f:Flow}{s':Ac}(h:SP (X.wish E) pins D f s'):SP X pins D f s':=by
 cases f with
 | next=>obtain ⟨σ',H',I,q⟩:=h;exact ⟨σ',H',I.unwish,q⟩
 | brk=>obtain ⟨σ',H',I,q⟩:=h;exact ⟨σ',H',I.unwish,q⟩
 | cont=>obtain ⟨σ',H',I,q⟩:=h;exact ⟨σ',H',I.unwish,q⟩
 | ret u=>obtain ⟨v,σ',H',I,r,q⟩:=h;exact ⟨v,σ',H',I.unwish,r,q⟩
theorem PSs.nox {st:List Stmt}{t:TS}(h:PSs X.nox st t):PSs X st t:=fun pins s σ H D I hw =>
 AZ (h pins s σ H D (I.wish _) hw) (fun _ _ q=>q.unwish) fun _ _ z=>False.elim z
section
variable {rest:List Stmt}{t u:TS}
def tNext:TS:=fun D σ H=>D.nx σ H
def tSeq (t u:TS):TS:=fun D σ H=>t {D with nx:=u D} σ H
theorem pss_nil:PSs X [] tNext:=fun _ _ σ H _ I h=>Dp ⟨σ,H,I,h⟩
theorem pss_cons (h1:PS X st t)(h2:PSs X rest u):PSs X (st::rest) (tSeq t u):=by
 intro pins s σ H D I h;refine GB (thn (h1 pins s σ H {D with nx:=u D} I h) fun f s1 q=>?_);cases f with
 | next =>obtain ⟨σ',H',I',q⟩:=q;exact h2 pins s1 σ' H' D I' q
 | ret v=>exact q
 | brk=>exact q
 | cont=>exact q
theorem pss_one (h1:PS X st t):PSs X [st] t:=by
 intro pins s σ H D I h;refine GB (thn (h1 pins s σ H D I h) fun f s1 q=>?_);cases f with
 | next=>exact Dp q
 | ret v=>exact q
 | brk=>exact q
 | cont=>exact q
theorem Inv.quiet (I:Inv X pins σ H s):interactive X.env=false:=by simp [interactive,I.ok.kind]
def tDrop (te:TE):TS:=fun D σ H=>te σ H fun _ H1=>D.nx σ H1
theorem ps_expr (he:PE X e te)(hs:A8 e none pos.line X.env=pure false:=by rfl):PS X (.Expr e pos) (tDrop te):=by intro pins s σ H D I h;exact wpAny_Expr_any (thn (he pins s σ H _ I h) fun v s1 ⟨x,H1,I1,r1,q1⟩=>⟨σ,H1,I1,q1⟩) I.quiet hs
def tRet (te:TE):TS:=fun D σ H=>te σ H D.rt
theorem ps_ret (he:PE X e te):PS X (.Return (some e) pos) (tRet te):=by intro pins s σ H D I h;exact wpAny_Return_some (thn (he pins s σ H _ I h) fun v s1 ⟨x,H1,I1,r1,q1⟩=>⟨x,σ,H1,I1,r1,q1⟩)
def tIfS (c:TT)(t u:TS):TS:=fun D σ H=>c σ H fun b H1=>if b=true then t D σ H1 else u D σ H1
theorem ps_if {a b:List Stmt}{tc:TT}(hc:PT X c tc)(ha:PSs X a t)(hb:PSs X b u):PS X (.If c a b pos) (tIfS tc t u):=by
 intro pins s σ H D I h;refine wpAny_If (thn (hc pins s σ H _ I h) fun d s1 ⟨H1,I1,q1⟩=>?_);cases d with
 | true=>exact ha pins s1 σ H1 D I1 q1
 | false=>exact hb pins s1 σ H1 D I1 q1
def tNever:TS:=fun _ _ _=>False
theorem ps_never:PS X st tNever:=fun _ _ _ _ _ _ h=>h.elim
end
abbrev TG:=V->St->Hp->(St->Hp->Prop)->Prop
abbrev TGs:=List V->St->Hp->(St->Hp->Prop)->Prop
def PG (X:Cx)(target:Expr)(t:TG):Prop:=
 ∀(pins:List (Addr×Obj)) (s:Ac) (σ:St) (H:Hp) (v:V) (u:Value) (Q:St->Hp->Prop),Inv X pins σ H s->RelV v u->t v σ H Q->
  An (Ai X.prog X.w) X.A (C6 target X.env u) (fun _ s'=>∃σ' H',Inv X pins σ' H' s'/\Q σ' H') X.xe s
def PGs (X:Cx)(ts:List Expr)(t:TGs):Prop:=
 ∀(pins:List (Addr×Obj)) (s:Ac) (σ:St) (H:Hp) (vs:List V) (us:List Value) (Q:St->Hp->Prop),Inv X pins σ H s->Vals vs us->t vs σ H Q->
  An (Ai X.prog X.w) X.A (assignInOrder ((EG ts X.env).map (·.2)) us) (fun _ s'=>∃σ' H',Inv X pins σ' H' s'/\Q σ' H') X.xe s
abbrev TSet:=V->V->V->Hp->(Hp->Prop)->Prop
def PSet (X:Cx)(t:TSet):Prop:=
 ∀(pins:List (Addr×Obj)) (s:Ac) (σ:St) (H:Hp) (o i v:V) (ov iv u:Value) (Q:Hp->Prop),Inv X pins σ H s->RelV o ov->RelV i iv->RelV v u->t o i v H Q->
  An (Ai X.prog X.w) X.A (Fn ov iv u) (fun _ s'=>∃H',Inv X pins σ H' s'/\Q H') X.xe s
def gName (i:Nat):TG:=fun v σ H Q=>Q (σ.set i (some v)) H
theorem pg_name (hN:X.N.Nodup)(hi:X.N[i]?=some x)(hx:Loc X.env.scope x)(hf:autoParam (X.fn x=true\/X.env.scope.names.lookup x=some .local) aT0._auto_1):PG X (.Name x pos) (gName i):=by intro pins s σ H v u Q I r h;exact Gn (store_ok I hN hi hx r (fun s' I'=>⟨_,H,I',h⟩) hf)
def gTup (K:AC)(n:Nat)(t:TGs):TG:=fun v σ H Q=>∃a xs,v=.ref a/\SqT K H a xs/\xs.length=n/\t xs σ H Q
def gSub (to ti:TE)(t:TSet):TG:=fun v σ H Q=>to σ H fun o H1=>ti σ H1 fun i H2=>t o i v H2 fun H3=>Q σ H3
theorem pg_sub {o i:Expr}{to ti:TE}{t:TSet}(ho:PE X o to)(hi:PE X i ti)(hs:PSet X t)
    (ha:∀v,C6 (.Subscript o i pos) X.env v=(do
      let ov <- BA [v] (Ar o X.env)
      let iv <- BA [v,ov] (Ar i X.env)
      B5 pos
      BA [v,ov,iv] (Fn ov iv v)
      release [v,ov,iv] []):=by intro _;rfl):PG X (.Subscript o i pos) (gSub to ti t):=by
  intro pins s σ H v u Q I r h;rw [ha];refine Av (EZ (thn (ho pins s σ H _ I h) fun ov s1 hz9=>?_));obtain ⟨x,H1,I1,r1,q1⟩:=hz9;refine Av (EZ (thn (hi pins s1 σ H1 _ I1 q1) fun iv s2 hz9=>?_));obtain ⟨y,H2,I2,r2,q2⟩:=hz9;refine Av (EY (Av (EZ (thn (hs pins s2 σ H2 x y v ov iv u _ I2 r1 r2 r q2) fun _ s3 ⟨H3,I3,q3⟩=>?_))));exact wpAny_release ⟨σ,H3,I3,q3⟩
def tAsg (te:TE)(g:TG):TS:=fun D σ H=>te σ H fun x H1=>g x σ H1 D.nx
theorem ps_asg {g:TG}(he:PE X e te)(hg:PG X tg g)(hs:E2 [tg] e pos.line X.env=pure false:=by rfl)(hw:E3 [tg] e X.env=pure none:=by rfl)
  (h1:(EG [tg] X.env).map (·.2)=[C6 tg X.env]:=by rfl):PS X (.Assign [tg] e pos) (tAsg te g):=by
 intro pins s σ H D I h;refine wpAny_Assign_stores (thn (he pins s σ H _ I h) fun v s1 hz9=>?_) hs hw;obtain ⟨x,H1,I1,r1,q1⟩:=hz9;rw [h1];exact thn (hg pins s1 σ H1 x v _ I1 r1 q1) fun _ s2 q=>q
theorem ps_set (hN:X.N.Nodup)(hi:X.N[i]?=some x)(hx:Loc X.env.scope x)(he:PE X e te)(hs:A8 e (some (.Name x pos')) pos.line X.env=pure false:=by rfl)(hf:autoParam (X.fn x=true\/X.env.scope.names.lookup x=some .local) aT0._auto_1) :
  PS X (.Assign [.Name x pos'] e pos) (tAsg te (gName i)):=by
 intro pins s σ H D I h;refine wpAny_Assign_Name (thn (he pins s σ H _ I h) fun v s1 hz9=>?_) hs;obtain ⟨y,H1,I1,r1,q1⟩:=hz9;exact store_ok I1 hN hi hx r1 (fun s2 I2=>⟨_,H1,I2,q1⟩) hf
structure It where
 go:Nat->Hp->Prop
 yld:Nat->Hp->V->Hp->Prop
 stop:Nat->Hp->Prop
def FpOk (X:Cx)(pins:List (Addr×Obj))(H:Hp)(b:Addr):Prop:=
 H b=none/\b≠X.env.locals/\b∉X.fs/\(b∈X.ex\/X.s₀.heap.objs.size<=b)/\(∀x c,X.env.cells.lookup x=some c->c≠b)/\∀p∈X.pn++pins,p.1≠b
theorem Inv.fpOk (I:Inv X pins σ H s)(hb:s.heap.objs.size<=b)(hn:H' b=none):FpOk X pins H' b:=by refine ⟨hn,Nat.ne_of_gt (Ak I.lt hb),I.nofs hb,.inr (A9 I.sz hb),fun x c e z=>?_,fun p hp z=>?_⟩;obtain ⟨v,q⟩:=I.cell x c e;exact absurd (Ak q.lt (by rw [z];exact hb)) (A6 _);exact absurd (Ak (AT (I.pin p hp).1) (by rw [z];exact hb)) (A6 _)
structure Turn (P:Ao)(w:AK)(K:AC)(tg:Expr)(J:It)(fp:List Addr)(it:Addr)(tn:Nat->AR->Prop):Prop where
  mem:it∈fp
  obj:∀i h,tn i h->∀b∈fp,∃o,h.get? b=some o/\∀v,o.data≠.cell v
  keep:∀i h h',tn i h->(∀b∈fp,∀o,h.get? b=some o->h'.get? b=some o)->tn i h'
  item:∀(X:Cx),X.prog=P->X.w=w->X.K=K->X.calm=true->∀(i:Nat) (pins:List (Addr×Obj)) (s:Ac) (σ:St) (H:Hp) (E:Value->Ac->Prop),Inv X pins σ H s->(∀b∈fp,FpOk X pins H b)->tn i s.heap->J.go i H->
    An (Ai P w) X.A (pyNext (.ref it)) (fun r s1=>∃u,r=some u/\
      An (Ai P w) X.A (Dq tg (.ref it) u) (fun _ s2=>∃x H',Inv X pins σ H' s2/\RelV x u/\J.yld i H x H'/\tn (i+1) s2.heap/\∀b∈fp,H' b=none) E s1) E s
  done:∀(X:Cx),X.prog=P->X.w=w->X.K=K->X.calm=true->∀(i:Nat) (pins:List (Addr×Obj)) (s:Ac) (σ:St) (H:Hp) (E:Value->Ac->Prop),Inv X pins σ H s->(∀b∈fp,FpOk X pins H b)->tn i s.heap->J.stop i H->
    An (Ai P w) X.A (pyNext (.ref it)) (fun r s1=>r=none/\Inv X pins σ H s1) E s
  self:∀(A:AI) (i:Nat) (s:Ac) (Q:Value->Ac->Prop) (E:Value->Ac->Prop),tn i s.heap->Q (.ref it) s->An (Ai P w) A (pyIter (.ref it)) Q E s
abbrev TI:=St->Hp->(It->Hp->Prop)->Prop
def PIE (X:Cx)(pins:List (Addr×Obj))(σ:St)(tg:Expr)(R:It->Hp->Prop)(itv:Value)(s2:Ac):Prop:=
 ∃(it:Addr) (fp:List Addr) (tn:Nat->AR->Prop) (J:It) (H':Hp),itv=.ref it/\Inv X pins σ H' s2/\Turn X.prog X.w X.K tg J fp it tn/\tn 0 s2.heap/\(∀b∈fp,FpOk X pins H' b)/\R J H'
def PI (X:Cx)(tg iter:Expr)(wi:TI):Prop:=
 ∀(pins:List (Addr×Obj)) (s:Ac) (σ:St) (H:Hp) (R:It->Hp->Prop),Inv X pins σ H s->wi σ H R->
  An (Ai X.prog X.w) X.A (Ar iter X.env) (fun v s1=>An (Ai X.prog X.w) X.A (pyIter v) (PIE X pins σ tg R) X.xe s1) X.xe s
theorem go_of {vs:Array Value}{Q:Unit->Ac->Prop}(ho:s.heap.get? it=some o)(hc:o.cls=.type n)(hd:o.data=.fields vs)
    (hn:["enumerate","zip","dict_itemiterator","dict_reverseitemiterator","odict_iterator","itertools.zip_longest","itertools.pairwise"].contains n=false) (hQ:Q () s):An M A (Dq tg (.ref it) u) Q E s:=by
  unfold Dq;cases tg<;>first
    | exact AY hQ
    | (cases u<;>first
        | exact AY hQ
        | (refine Av (wpAny_load ho ?_)
           rw [hc,hd];show An M A (if (["enumerate","zip","dict_itemiterator","dict_reverseitemiterator","odict_iterator","itertools.zip_longest","itertools.pairwise"].contains n&&vs[0]?==some (DW _))=true then _ else _) Q E s;rw [if_neg (by intro h;rw [hn,Gc] at h;cases h)];exact AY hQ))
def Itl (K:AC)(a:Addr):It:=
 ⟨fun i H=>∃xs x,SqL K H a xs/\xs[i]?=some x,fun i H x H'=>H'=H/\∀xs,SqL K H a xs->xs[i]?=some x,fun i H=>∃xs,SqL K H a xs/\xs.length<=i⟩
def Itr (lo:Int)(n:Nat):It:=⟨fun i _=>i<n,fun i H x H'=>H'=H/\x=.int (lo+i),fun i _=>n<=i⟩
theorem turn_list (a it:Addr):Turn P w K tg (Itl K a) [it] it (fun i h=>h.IsListIter it a i) where
 mem:=by simp
 obj:=fun i h st b hb=>by
  have e:b=it:=by simpa using hb
  subst e;obtain ⟨o,e,c,d⟩:=st;exact ⟨o,e,fun v z=>by rw [d] at z;cases z⟩
 keep:=fun i h h' st k=>st.at fun o e=>k it (by simp) o e
 item:=by intro X hP hw hK hc i pins s σ H E I hf st hg;subst hP hw hK;obtain ⟨xs,x,hq,hx⟩:=hg;obtain ⟨its,rv,p,hz⟩:=I.list hq;obtain ⟨u,hu,ru⟩:=rv.get hx;obtain ⟨f0,f1,f2,f3,f4,f5⟩:=hf it (by simp);refine wpAny_pyNext_list_item st p.isList (x:=u) (by simpa using hu) fun h' st' sb=>?_;have I1:Inv X pins σ H {s with heap:=h'}:=I.turned (t':=s.toks) (fun b o hb e=>(sb.2 b hb).trans e) f0 f1 f3 f4 f5;obtain ⟨o,e,c,d⟩:=id st';exact ⟨u,rfl,go_of (s:={s with heap:=h'}) e c d (by decide) ⟨x,H,I1,ru,⟨rfl,fun ys hy=>by rw [I.list_inj hy hq];exact hx⟩,st',fun b hb=>(hf b hb).1⟩⟩
 done:=by intro X hP hw hK hc i pins s σ H E I hf st hg;subst hP hw hK;obtain ⟨xs,hq,hx⟩:=hg;obtain ⟨its,rv,p,hz⟩:=I.list hq;obtain ⟨f0,f1,f2,f3,f4,f5⟩:=hf it (by simp);have hl:=rv.length;exact wpAny_pyNext_list_end (I.ok.hd hc) st p.isList (by simp;omega) fun h' eb=>⟨rfl,I.turned (t':=s.toks) (fun b o hb e=>eb b o hb e) f0 f1 f3 f4 f5⟩
 self:=fun _ _ _ _ _ st h=>wpAny_pyIter_listiter st h
theorem turn_range (it:Addr)(lo:Int)(n:Nat):Turn P w K tg (Itr lo n) [it] it (fun i h=>IsRangeIter h it (lo+(i:Nat)*1) ((n:Int) - (i:Nat)) 1) where
  mem:=by simp
  obj:=fun i h st b hb=>by
    have e:b=it:=by simpa using hb
    subst e;exact ⟨_,st,fun v z=>by
      have z':Data.fields _=Data.cell v:=z;cases z'⟩
  keep:=fun i h h' st k=>k it (by simp) _ st
  item:=by intro X hP hw hK hc i pins s σ H E I hf st hg;subst hP hw hK;obtain ⟨f0,f1,f2,f3,f4,f5⟩:=hf it (by simp);have W:=Walks.range (prog:=X.prog) (w:=X.w) (I.ok.hd hc) it lo 1 n;refine W.item i s _ _ hg st fun v h' tk hv st' kk=>?_;obtain ⟨t,rfl⟩:=hv;have I1:Inv X pins σ H {s with heap:=h',toks:=tk}:=I.turned (fun b o hb e=>kk b o (by simpa using hb) e) f0 f1 f3 f4 f5;refine ⟨_,rfl,go_of (s:={s with heap:=h',toks:=tk}) (n:="range_iterator") st' rfl rfl (by decide) ⟨.int (lo+i),H,I1,⟨t,?_⟩,⟨rfl,rfl⟩,st',fun b hb=>(hf b hb).1⟩⟩;rw [Int.mul_one]
  done:=by intro X hP hw hK hc i pins s σ H E I hf st hg;subst hP hw hK;obtain ⟨f0,f1,f2,f3,f4,f5⟩:=hf it (by simp);exact wpAny_pyNext_range_end (I.ok.hd hc) st (by have:n<=i:=hg;omega) fun h' eb=>⟨rfl,I.turned (t':=s.toks) (fun b o hb e=>eb b o hb e) f0 f1 f3 f4 f5⟩
  self:=fun _ _ _ _ _ st h=>wpAny_pyIter_rangeiter st h
def iList (K:AC)(tl:TE):TI:=fun σ H R=>tl σ H fun x H1=>∃a,x=.ref a/\(∃xs,SqL K H1 a xs)/\R (Itl K a) H1
theorem pi_list {tl:TE}(hl:PE X l tl):PI X tg l (iList X.K tl):=by
 intro pins s σ H R I h;refine thn (hl pins s σ H _ I h) fun v s1 hz9=>?_;obtain ⟨x,H1,I1,r1,q1⟩:=hz9;obtain ⟨a,e,⟨xs,hq⟩,q⟩:=q1;subst e;cases r1;obtain ⟨its,rv,p,hz⟩:=I1.list hq;refine wpAny_pyIter_list p.isList ?_;refine ⟨s1.heap.objs.size,[s1.heap.objs.size],_,_,H1,rfl,I1.kept (t':=s1.toks) fun b o e=>Al _ e,turn_list a _,⟨_,A5 _ rfl,rfl,rfl⟩,fun b hb=>?_,q⟩;have e:b=s1.heap.objs.size:=by simpa using hb
 subst e;exact I1.fpOk (AM _) (I1.hok.fresh (AM _))
theorem range_it {R:It->Hp->Prop}{lo hi:Int}{t u v:Tok}(I:Inv X pins σ H s)(h1:-(2 ^ 62)<=lo)(h2:lo<2 ^ 62)(h3:-(2 ^ 62)<=hi)(h4:hi<2 ^ 62)
    (q:R (Itr lo (hi - lo).toNat) H):An (Ai X.prog X.w) X.A (pyIter (.ref s.heap.objs.size)) (PIE X pins σ tg R) E {s with heap:=s.heap.push {cls:=.type "range",data:=.fields #[.int lo t,.int hi u,.int 1 v]},toks:=tk}:=by
  refine wpAny_pyIter_range (IsRange.new ..) (small_one h1 h2 h3 h4) ?_;have I1:Inv X pins σ H {s with heap:=s.heap.push {cls:=.type "range",data:=.fields #[.int lo t,.int hi u,.int 1 v]},toks:=tk}:=I.kept fun b o e=>Al _ e;refine ⟨(s.heap.push {cls:=.type "range",data:=.fields #[.int lo t,.int hi u,.int 1 v]}).objs.size,[(s.heap.push {cls:=.type "range",data:=.fields #[.int lo t,.int hi u,.int 1 v]}).objs.size],_,_,H,rfl,
    I1.kept (t':=tk) fun b o e=>Al _ e,turn_range _ lo (hi - lo).toNat,?_,fun b hb=>?_,q⟩
  have e1:lo+((0:Nat):Int)*1=lo:=by simp
  have e2:(((hi - lo).toNat:Nat):Int) - ((0:Nat):Int)=DM lo hi 1:=by rw [Hf];split<;>omega
  show IsRangeIter _ _ (lo+((0:Nat):Int)*1) ((((hi - lo).toNat:Nat):Int) - ((0:Nat):Int)) 1;rw [e1,e2];exact A5 _ rfl;have e:b=(s.heap.push {cls:=.type "range",data:=.fields #[.int lo t,.int hi u,.int 1 v]}).objs.size:=by simpa using hb
  subst e;exact I1.fpOk (AM _) (I1.hok.fresh (AM _))
def iRng1 (ta:TA):TI:=fun σ H R=>ta σ H fun vs H1=>∃j:Int,vs=[.int j]/\-(2 ^ 62)<=j/\j<2 ^ 62/\R (Itr 0 j.toNat) H1
theorem pi_range1 {a:Expr}{ta:TA}(hg:Gl X "range")(hm:X.mg "range"=none)(ha:PA X [a] ta)(hs:Ab [a] X.env=[(false,Ar a X.env)]:=by rfl):PI X tg (.Call (.Name "range" p) [a] [] pos) (iRng1 ta):=by
 intro pins s σ H R I h;refine Call_ (ld_blt I hg hm boot_range (Dx (thn (ha pos pins s σ H _ I h) fun us s1 hz9=>?_) hs rfl));obtain ⟨vs,H1,I1,r1,q1⟩:=hz9;obtain ⟨j,e,q1,q2,q⟩:=q1;subst e;cases r1 with
 | cons r rr =>cases rr;obtain ⟨t,rfl⟩:=r;exact call_range_1 (range_it I1 (by omega) (by omega) q1 q2 (by simpa using q))
def tFor (wi:TI)(g:TG)(tb:TS):TS:=fun D σ H=>wi σ H fun J H1=>∃W:Nat->Nat->St->Hp->Prop,(∃m,W 0 m σ H1)/\∀i m σ H,W i m σ H->
 (J.stop i H/\D.nx σ H)\/(J.go i H/\∃N:St->Hp->Prop,(∀σ' H',N σ' H'->∃m',m'<m/\W (i+1) m' σ' H')/\∀x H',J.yld i H x H'->g x σ H' fun σ2 H2=>tb {D with nx:=N,ct:=N,bk:=D.nx} σ2 H2)
def pinsAt (fp:List Addr)(h:AR):List (Addr×Obj):=fp.filterMap fun b=>(h.get? b).map fun o=>(b,o)
theorem mem_pinsAt (hb:b∈fp)(e:h.get? b=some o):(b,o)∈pinsAt fp h:=Dz.mpr ⟨b,hb,by rw [e];rfl⟩
theorem of_pinsAt {p:Addr×Obj}(hp:p∈pinsAt fp h):p.1∈fp/\h.get? p.1=some p.2:=by
 obtain ⟨b,hb,e⟩:=Dz.mp hp;cases q:h.get? b with
 | none=>rw [q] at e;cases e
 | some o =>rw [q] at e;have e':(b,o)=p:=AH e;subst e';exact ⟨hb,q⟩
theorem Inv.pinned (I:Inv X pins σ H s)(hf:∀b∈fp,FpOk X pins H b)(ho:∀b∈fp,∃o,s.heap.get? b=some o/\∀v,o.data≠.cell v):Inv X (pins++pinsAt fp s.heap) σ H s:=I.pins_of fun p hp=>(Ae.mp hp).elim (fun z=>I.pin p (Aj _ z)) fun z=>by obtain ⟨hb,e⟩:=of_pinsAt z;obtain ⟨f0,f1,f2,_⟩:=hf p.1 hb;obtain ⟨o,e',d⟩:=ho p.1 hb;rw [e] at e';cases e';exact ⟨e,f0,f1,f2,d⟩
theorem Inv.unpinned {pl:List (Addr×Obj)}(I:Inv X (pins++pl) σ H s):Inv X pins σ H s:=I.pins_of fun p hp=>I.pin p (Aj _ (Am _ hp))
theorem ps_for {wi:TI}{g:TG}{tb:TS}(hp:GG (Ai X.prog X.w) X.A X.env X.xe)(hc:X.calm=true)(hi:PI X tg iter wi)(hg:PG X tg g)(hb:PSs X body tb)
  (hs:∀x,AV iter X.env x=pure x:=by intro _;rfl):PS X (.For tg iter body [] pos) (tFor wi g tb):=by
 intro pins s σ H D I h;refine wpAny_For (thn (hi pins s σ H _ I h) fun v s1 h1=>thn h1 fun itv s2 h2=>?_) hs;obtain ⟨it,fp,tn,J,H2,e,I2,T,st2,f2,W,⟨m0,w0⟩,turn⟩:=h2;subst e;have stat:∀{H':Hp},(∀b∈fp,H' b=none)->∀b∈fp,FpOk X pins H' b:=fun hn b hb=>⟨hn b hb,(f2 b hb).2⟩;refine codeAny_forLoop_any (fun n s'=>∃i σ' H',Inv X pins σ' H' s'/\tn i s'.heap/\(∀b∈fp,H' b=none)/\W i n σ' H') ?_ m0 ⟨0,σ,H2,I2,st2,fun b hb=>(f2 b hb).1,w0⟩;rintro n s3 ⟨i,σ3,H3,I3,st3,fr3,w3⟩;rcases turn i n σ3 H3 w3 with ⟨stop,qn⟩ | ⟨go,N,hN,step⟩
 ·refine CH hp (thn (T.done X rfl rfl rfl hc i pins s3 σ3 H3 X.xe I3 (stat fr3) st3 stop) fun r s4 ⟨hr,I4⟩=>?_);subst hr;exact Dp ⟨σ3,H3,I4,qn⟩
 ·refine CH hp (thn (T.item X rfl rfl rfl hc i pins s3 σ3 H3 X.xe I3 (stat fr3) st3 go) fun r s4 ⟨u,hr,h4⟩=>?_);subst hr;refine CH hp (thn h4 fun _ s5 hz9=>?_);obtain ⟨x,H5,I5,r5,y5,st5,fr5⟩:=hz9;have I5':=I5.pinned (stat fr5) (T.obj _ _ st5);refine CH hp (thn (hg _ s5 σ3 H5 x u _ I5' r5 (step x H5 y5)) fun _ s6 hz9=>?_);obtain ⟨σ6,H6,I6,q6⟩:=hz9;refine CH hp (thn (hb _ s6 σ6 H6 _ I6 q6) fun f s7 q7=>?_);have Gu:∀{σ7:St} {H7:Hp},Inv X (pins++pinsAt fp s5.heap) σ7 H7 s7->N σ7 H7->∃m,m<n/\∃i σ' H',Inv X pins σ' H' s7/\tn i s7.heap/\(∀b∈fp,H' b=none)/\W i m σ' H':=fun {σ7 H7} I7 n7=>by obtain ⟨m',hm,w7⟩:=hN σ7 H7 n7;refine ⟨m',hm,i+1,σ7,H7,I7.unpinned,T.keep _ _ _ st5 fun b hb o e=>(I7.pin (b,o) (Aj _ (Aj _ (mem_pinsAt hb e)))).1,fun b hb=>?_,w7⟩;obtain ⟨o,e,d⟩:=T.obj _ _ st5 b hb;exact (I7.pin (b,o) (Aj _ (Aj _ (mem_pinsAt hb e)))).2.1
  cases f with
  | next=>obtain ⟨σ7,H7,I7,n7⟩:=q7;exact Gu I7 n7
  | cont=>obtain ⟨σ7,H7,I7,n7⟩:=q7;exact Gu I7 n7
  | brk=>obtain ⟨σ7,H7,I7,q7⟩:=q7;exact ⟨σ7,H7,I7.unpinned,q7⟩
  | ret v=>obtain ⟨x7,σ7,H7,I7,r7,q7⟩:=q7;exact ⟨x7,σ7,H7,I7.unpinned,r7,q7⟩
abbrev R2:=V->V->Hp->VK->Prop
def OpR (X:Cx)(f:Value->Value->Sem Value)(r:R2):Prop:=
 ∀(pins:List (Addr×Obj)) (s:Ac) (σ:St) (H:Hp) (x y:V) (v u:Value) (Q:VK),Inv X pins σ H s->RelV x v->RelV y u->r x y H Q->
  An (Ai X.prog X.w) X.A (f v u) (EP X pins σ Q) X.xe s
def UnR (X:Cx)(f:Value->Sem Value)(r:V->Hp->VK->Prop):Prop:=
 ∀(pins:List (Addr×Obj)) (s:Ac) (σ:St) (H:Hp) (x:V) (v:Value) (Q:VK),Inv X pins σ H s->RelV x v->r x H Q->
  An (Ai X.prog X.w) X.A (f v) (EP X pins σ Q) X.xe s
def CallR (X:Cx)(f:Value)(r:List V->Hp->VK->Prop):Prop:=
 ∀(pins:List (Addr×Obj)) (s:Ac) (σ:St) (H:Hp) (xs:List V) (us:List Value) (Q:VK),Inv X pins σ H s->Vals xs us->r xs H Q->
  An (Ai X.prog X.w) X.A (call f us) (EP X pins σ Q) X.xe s
def tOp (r:R2)(ta tb:TE):TE:=fun σ H Q=>ta σ H fun x H1=>tb σ H1 fun y H2=>r x y H2 Q
def tUn (r:V->Hp->VK->Prop)(ta:TE):TE:=fun σ H Q=>ta σ H fun x H1=>r x H1 Q
def rI (C:Int->Int->Prop)(g:Int->Int->V):R2:=fun x y H Q=>∃i j,x=.int i/\y=.int j/\C i j/\Q (g i j) H
def rI0 (g:Int->Int->V):R2:=fun x y H Q=>∃i j,x=.int i/\y=.int j/\Q (g i j) H
def rU (g:Int->V):V->Hp->VK->Prop:=fun x H Q=>∃i,x=.int i/\Q (g i) H
section
variable {a b:Expr}
theorem binT (ha:PE X a ta)(hb:PE X b tb){R:V->V->Hp->Prop}(I:Inv X pins σ H s)
  (h:ta σ H fun x H1=>tb σ H1 fun y H2=>R x y H2) {Q:Value->Ac->Prop} {f:Value->Value->Sem Value}
  (hf:∀v u s2 x y H2,Inv X pins σ H2 s2->RelV x v->RelV y u->R x y H2->An (Ai X.prog X.w) X.A (f v u) Q X.xe s2) :
  An (Ai X.prog X.w) X.A (Ar a X.env) (fun v s₁=>An (Ai X.prog X.w) X.A (Ar b X.env) (fun u s₂=>An (Ai X.prog X.w) X.A (f v u) Q X.xe s₂) X.xe s₁) X.xe s:=by
 refine thn (ha pins s σ H _ I h) fun v s1 hz9=>?_;obtain ⟨x,H1,I1,r1,q1⟩:=hz9;refine thn (hb pins s1 σ H1 _ I1 q1) fun u s2 hz9=>?_;obtain ⟨y,H2,I2,r2,q2⟩:=hz9;exact hf v u s2 x y H2 I2 r1 r2 q2
theorem pe_op {r:R2}(ho:OpR X (BX op) r)(ha:PE X a ta)(hb:PE X b tb):PE X (.BinOp a op b pos) (tOp r ta tb):=by intro pins s σ H Q I h;exact wpAny_BinOp (binT ha hb I h fun v u s2 x y H2 I2 rx ry q=>ho pins s2 σ H2 x y v u Q I2 rx ry q)
theorem pe_un {op:UnaryOp}{r:V->Hp->VK->Prop}(ho:UnR X (unaryOp op) r)(ha:PE X a ta):PE X (.UnaryOp op a pos) (tUn r ta):=by intro pins s σ H Q I h;exact UnaryOp_ (thn (ha pins s σ H _ I h) fun v s1 ⟨x,H1,I1,r1,q1⟩=>ho pins s1 σ H1 x v Q I1 r1 q1)
theorem opI {C:Int->Int->Prop}{g:Int->Int->Int}
  (rule:∀(i j:Int) (t u:Tok) (s:Ac) (Q:Value->Ac->Prop) (E:Value->Ac->Prop),C i j->Q (.int (g i j) s.toks) {s with toks:=s.toks+1}->An (Ai X.prog X.w) X.A (f (.int i t) (.int j u)) Q E s) :
  OpR X f (rI C fun i j=>.int (g i j)):=by
 intro pins s σ H x y v u Q I rx ry h;obtain ⟨i,j,rfl,rfl,hc,q⟩:=h;obtain ⟨t,rfl⟩:=rx;obtain ⟨t',rfl⟩:=ry;exact rule i j t t' s _ _ hc ⟨.int (g i j),H,I.tok _,⟨_,rfl⟩,q⟩
theorem opI0 {g:Int->Int->Int}
  (rule:∀(i j:Int) (t u:Tok) (s:Ac) (Q:Value->Ac->Prop) (E:Value->Ac->Prop),Q (.int (g i j) s.toks) {s with toks:=s.toks+1}->An (Ai X.prog X.w) X.A (f (.int i t) (.int j u)) Q E s) :
  OpR X f (rI0 fun i j=>.int (g i j)):=by
 intro pins s σ H x y v u Q I rx ry h;obtain ⟨i,j,rfl,rfl,q⟩:=h;obtain ⟨t,rfl⟩:=rx;obtain ⟨t',rfl⟩:=ry;exact rule i j t t' s _ _ ⟨.int (g i j),H,I.tok _,⟨_,rfl⟩,q⟩
theorem opB0 {g:Int->Int->Bool}
  (rule:∀(i j:Int) (t u:Tok) (s:Ac) (Q:Value->Ac->Prop) (E:Value->Ac->Prop),Q (.bool (g i j)) s->An (Ai X.prog X.w) X.A (f (.int i t) (.int j u)) Q E s) :
  OpR X f (rI0 fun i j=>.bl (g i j)):=by
 intro pins s σ H x y v u Q I rx ry h;obtain ⟨i,j,rfl,rfl,q⟩:=h;obtain ⟨t,rfl⟩:=rx;obtain ⟨t',rfl⟩:=ry;exact rule i j t t' s _ _ ⟨.bl (g i j),H,I,rfl,q⟩
def CPow (i j:Int):Prop:=0<=j/\j<=1000000/\i.natAbs<2 ^ 64
def CMul (i j:Int):Prop:=(-(2 ^ 64)<i/\i<2 ^ 64)\/(-(2 ^ 64)<j/\j<2 ^ 64)
theorem CMul.ok {i j:Int}(h:CMul i j):IntMulOk i j:=by rcases h with ⟨h1,h2⟩ | ⟨h1,h2⟩;exact .of_left (Hh h1 h2);exact .of_right (Hh h1 h2)
theorem op_add:OpR X (BX .Add) (rI0 fun i j=>.int (i+j)):=opI0 fun _ _ _ _ _ _ _ q=>add_int q
theorem op_sub:OpR X (BX .Sub) (rI0 fun i j=>.int (i - j)):=opI0 fun _ _ _ _ _ _ _ q=>sub_int q
theorem op_mul:OpR X (BX .Mult) (rI CMul fun i j=>.int (i*j)):=opI fun _ _ _ _ _ _ _ hc q=>mul_int q hc.ok
theorem op_mod:OpR X (BX .Mod) (rI (fun _ j=>0<j) fun i j=>.int (i % j)):=opI fun i j _ _ _ _ _ hc q=>by have h1:(0:Int)<j:=hc;exact mod_int' (by omega) (by rw [Int.fmod_eq_emod_of_nonneg i (by omega)];exact q)
theorem op_pow:OpR X (BX .Pow) (rI CPow fun i j=>.int (i ^ j.toNat)):=opI fun _ _ _ _ _ _ _ hc q=>pow_int_small hc.1 hc.2.1 hc.2.2 q
theorem unI {f:Value->Sem Value}{g:Int->Int}
  (rule:∀(i:Int) (t:Tok) (s:Ac) (Q:Value->Ac->Prop) (E:Value->Ac->Prop),Q (.int (g i) s.toks) {s with toks:=s.toks+1}->An (Ai X.prog X.w) X.A (f (.int i t)) Q E s) :
  UnR X f (rU fun i=>.int (g i)):=by
 intro pins s σ H x v Q I rx h;obtain ⟨i,rfl,q⟩:=h;obtain ⟨t,rfl⟩:=rx;exact rule i t s _ _ ⟨.int (g i),H,I.tok _,⟨_,rfl⟩,q⟩
theorem un_neg:UnR X (unaryOp .USub) (rU fun i=>.int (-i)):=unI fun _ _ _ _ _ q=>neg_int q
end
def scal:V->V->Bool
 | .non,.non=>true | .non,.int _=>true | .int _,.non=>true | .non,.bl _=>true | .bl _,.non=>true | .non,.str _=>true | .str _,.non=>true
 | .int _,.int _=>true | .bl _,.bl _=>true | .str _,.str _=>true | .byt _,.byt _=>true
 | .int _,.str _=>true | .str _,.int _=>true | .bl _,.str _=>true | .str _,.bl _=>true
 | _,_=>false
def rEq:R2:=fun x y H Q=>scal x y=true/\Q (.bl (decide (x=y))) H
def rNe:R2:=fun x y H Q=>scal x y=true/\Q (.bl (!decide (x=y))) H
theorem dec_int {i j:Int}:decide (V.int i=V.int j)=(i==j):=by rw [Ct];simp
theorem dec_bl {i j:Bool}:decide (V.bl i=V.bl j)=(i==j):=by rw [Ct];simp
theorem dec_str {i j:Str}:decide (V.str i=V.str j)=(i==j):=by rw [Ct];simp
theorem dec_byt {i j:Array UInt8}:decide (V.byt i=V.byt j)=(i.toList==j.toList):=by rw [Ct];cases i;cases j;simp
section
variable {a b:Expr}
theorem fin_bl {Q:VK}{k k':Bool}(I:Inv X pins σ H s)(q:Q (.bl k) H)(e:k=k'):EP X pins σ Q (.bool k') s:=by subst e;exact ⟨.bl k,H,I,rfl,q⟩
theorem op_eq:OpR X (BH .Eq) rEq:=by
 intro pins s σ H x y v u Q I rx ry h;obtain ⟨hs,q⟩:=h;cases x with
 | non =>
  cases rx;cases y with
  | non=>cases ry;exact PySem.EqNone.eq_none_none (fin_bl I q (by simp))
  | bl j=>cases ry;exact PySem.EqNone.eq_none_bool (fin_bl I q (by simp))
  | int j=>obtain ⟨t',rfl⟩:=ry;exact PySem.EqNone.eq_none_int (fin_bl I q (by simp))
  | str j=>obtain ⟨t',rfl⟩:=ry;exact PySem.EqNone.eq_none_str (fin_bl I q (by simp))
  | _=>exact absurd (show false=true from hs) Aw
 | bl i =>
  cases rx;cases y with
  | non=>cases ry;exact PySem.EqNone.eq_bool_none (fin_bl I q (by simp))
  | bl j=>cases ry;exact eq_bool (fin_bl I q dec_bl)
  | str j=>obtain ⟨t',rfl⟩:=ry;exact PySem.EqMixed.eq_bool_str (fin_bl I q (by simp))
  | _=>exact absurd (show false=true from hs) Aw
 | int i =>
  obtain ⟨t,rfl⟩:=rx;cases y with
  | non=>cases ry;exact PySem.EqNone.eq_int_none (fin_bl I q (by simp))
  | int j=>obtain ⟨t',rfl⟩:=ry;exact eq_int (fin_bl I q dec_int)
  | str j=>obtain ⟨t',rfl⟩:=ry;exact PySem.EqMixed.eq_int_str (fin_bl I q (by simp))
  | _=>exact absurd (show false=true from hs) Aw
 | str i =>
  obtain ⟨t,rfl⟩:=rx;cases y with
  | non=>cases ry;exact PySem.EqNone.eq_str_none (fin_bl I q (by simp))
  | bl j=>cases ry;exact PySem.EqMixed.eq_str_bool (fin_bl I q (by simp))
  | int j=>obtain ⟨t',rfl⟩:=ry;exact PySem.EqMixed.eq_str_int (fin_bl I q (by simp))
  | str j=>obtain ⟨t',rfl⟩:=ry;exact eq_str (fin_bl I q dec_str)
  | _=>exact absurd (show false=true from hs) Aw
 | byt i =>
  obtain ⟨t,rfl⟩:=rx;cases y with
  | byt j=>obtain ⟨t',rfl⟩:=ry;exact PySem.W.eq_bytes (fin_bl I q dec_byt)
  | _=>exact absurd (show false=true from hs) Aw
 | _=>cases y<;>exact absurd (show false=true from hs) Aw
theorem op_ne:OpR X (BH .NotEq) rNe:=by
 intro pins s σ H x y v u Q I rx ry h;obtain ⟨hs,q⟩:=h;cases x with
 | non =>
  cases rx;cases y with
  | non=>cases ry;exact PySem.EqNone.ne_none_none (fin_bl I q (by simp))
  | bl j=>cases ry;exact PySem.EqNone.ne_none_bool (fin_bl I q (by simp))
  | int j=>obtain ⟨t',rfl⟩:=ry;exact PySem.EqNone.ne_none_int (fin_bl I q (by simp))
  | str j=>obtain ⟨t',rfl⟩:=ry;exact PySem.EqNone.ne_none_str (fin_bl I q (by simp))
  | _=>exact absurd (show false=true from hs) Aw
 | bl i =>
  cases rx;cases y with
  | non=>cases ry;exact PySem.EqNone.ne_bool_none (fin_bl I q (by simp))
  | bl j=>cases ry;exact ne_bool (fin_bl I q (congrArg not dec_bl))
  | str j=>obtain ⟨t',rfl⟩:=ry;exact PySem.EqMixed.ne_bool_str (fin_bl I q (by simp))
  | _=>exact absurd (show false=true from hs) Aw
 | int i =>
  obtain ⟨t,rfl⟩:=rx;cases y with
  | non=>cases ry;exact PySem.EqNone.ne_int_none (fin_bl I q (by simp))
  | int j=>obtain ⟨t',rfl⟩:=ry;exact ne_int (fin_bl I q (congrArg not dec_int))
  | str j=>obtain ⟨t',rfl⟩:=ry;exact PySem.EqMixed.ne_int_str (fin_bl I q (by simp))
  | _=>exact absurd (show false=true from hs) Aw
 | str i =>
  obtain ⟨t,rfl⟩:=rx;cases y with
  | non=>cases ry;exact PySem.EqNone.ne_str_none (fin_bl I q (by simp))
  | bl j=>cases ry;exact PySem.EqMixed.ne_str_bool (fin_bl I q (by simp))
  | int j=>obtain ⟨t',rfl⟩:=ry;exact PySem.EqMixed.ne_str_int (fin_bl I q (by simp))
  | str j=>obtain ⟨t',rfl⟩:=ry;exact ne_str (fin_bl I q (congrArg not dec_str))
  | _=>exact absurd (show false=true from hs) Aw
 | byt i =>
  obtain ⟨t,rfl⟩:=rx;cases y with
  | byt j=>obtain ⟨t',rfl⟩:=ry;exact PySem.W.ne_bytes (fin_bl I q (congrArg not dec_byt))
  | _=>exact absurd (show false=true from hs) Aw
 | _=>cases y<;>exact absurd (show false=true from hs) Aw
theorem op_lt:OpR X (BH .Lt) (rI0 fun i j=>.bl (decide (i<j))):=opB0 fun _ _ _ _ _ _ _ q=>lt_int q
theorem op_gt:OpR X (BH .Gt) (rI0 fun i j=>.bl (decide (j<i))):=opB0 fun _ _ _ _ _ _ _ q=>gt_int q
theorem op_ge:OpR X (BH .GtE) (rI0 fun i j=>.bl (decide (j<=i))):=opB0 fun _ _ _ _ _ _ _ q=>ge_int q
theorem OpR.or {r r':R2}(h:OpR X f r)(h':OpR X f r'):OpR X f (fun x y H Q=>r x y H Q\/r' x y H Q):=by intro pins s σ H x y v u Q I rx ry q;rcases q with q | q;exact h pins s σ H x y v u Q I rx ry q;exact h' pins s σ H x y v u Q I rx ry q
theorem nomark (b:Expr){op:Hr}(h:op≠.In:=by decide)(h2:op≠.NotIn:=by decide):C5 op b=false:=by
 have e1:(op==CmpOp.In)=false:=by cases op<;>first | rfl | exact absurd rfl h
 have e2:(op==CmpOp.NotIn)=false:=by cases op<;>first | rfl | exact absurd rfl h2
 cases b<;>simp [C5,e1,e2]
def tTest (t:TE):TT:=fun σ H Q=>t σ H fun x H'=>∃k,x=.bl k/\Q k H'
theorem pt_cmpR {op:Hr}{r:R2}(ho:OpR X (BH op) r)(ha:PE X a ta)(hb:PE X b tb)(hm:C5 op b=false):PT X (.Compare a [op] [b] pos) (tTest (tOp r ta tb)):=by
  intro pins s σ H Q I h;refine wpAny_isTrue_Compare1 (thn (ha pins s σ H _ I h) fun v s1 ⟨x,H1,I1,r1,q1⟩=>thn (hb pins s1 σ H1 _ I1 q1) fun u s2 ⟨y,H2,I2,r2,q2⟩ =>
    thn (ho pins s2 σ H2 x y v u _ I2 r1 r2 q2) fun c s3 ⟨z,H3,I3,r3,k,e,q3⟩=>?_) hm
  subst e;cases r3;exact CZ ⟨H3,I3,q3⟩
theorem line63:(Ah:Nat)<2 ^ 63:=by rw [FJ];decide
theorem op_add_str:OpR X (BX .Add) (fun x y H Q=>∃i j,x=.str i/\y=.str j/\i.length+j.length<=Ah/\Q (.str (i++j)) H):=by intro pins s σ H x y v u Q I rx ry h;obtain ⟨i,j,rfl,rfl,hz,q⟩:=h;obtain ⟨t,rfl⟩:=rx;obtain ⟨t',rfl⟩:=ry;exact add_str (fun t' tk=>⟨.str (i++j),H,I.tok _,⟨_,rfl⟩,q⟩) hz
theorem vals1 {x:V}(r:Vals [x] us):∃u,us=[u]/\RelV x u:=by
 cases r with
 | cons r1 r2=>cases r2;exact ⟨_,rfl,r1⟩
theorem vals2 {x:V}(r:Vals [x,y] us):∃u w',us=[u,w']/\RelV x u/\RelV y w':=by
 cases r with
 | cons r1 r2 =>
  cases r2 with
  | cons r3 r4=>cases r4;exact ⟨_,_,rfl,r1,r3⟩
theorem call_min2 (hc:X.calm=true):CallR X (.builtin "min") (fun xs H Q=>∃i j,xs=[.int i,.int j]/\Q (.int (if j<i then j else i)) H):=by intro pins s σ H xs us Q I r h;obtain ⟨i,j,rfl,q⟩:=h;obtain ⟨u,w',rfl,⟨t,rfl⟩,⟨t',rfl⟩⟩:=vals2 r;refine min_two_ints (I.ok.hd hc) fun h' tk k=>⟨_,H,I.kept k,?_,q⟩;by_cases hj:j<i;rw [if_pos hj,if_pos hj];exact ⟨_,rfl⟩;rw [if_neg hj,if_neg hj];exact ⟨_,rfl⟩
end
structure ObjM (h:AR)(x dx C:Addr)(mA:Str->Option Value):Prop where
 obj:h.get? x=some (Dj C dx)
 ns:h.Ns1 dx mA
 ne:dx≠x
theorem lookIn_ns (n:h.Ns1 dx mA):∃od,h.get? dx=some od/\∀name,Gf name od=some (mA name):=by
 obtain ⟨o,es,ep,ho,hd,hk,_,hm⟩:=n;refine ⟨o,ho,fun name=>?_⟩;have e:=hm name;unfold nsFind findBy at e;rw [<- Array.find?_toList] at e;unfold Gf;rw [hd];dsimp only;split;rename_i y q;rw [q] at e;exact congrArg some e;rename_i q;rw [q] at e;have a:es.toList.any (·.refKey)=false:=by rw [List.any_eq_false];intro y hy;obtain ⟨z,t,hkey⟩:=hk y (ET.mp hy);simp [Ho,hkey]
 have a':¬es.toList.any (·.refKey)=true:=by rw [a];exact Aw
 rw [if_neg a'];exact congrArg some e
theorem ObjM.look {x:Addr}(I:ObjM h x dx C mA):∃od,PySem.W.InstAt h x (Dj C dx) C (some od)/\∀name,Gf name od=some (mA name):=
 let ⟨od,ho,hl⟩:=lookIn_ns I.ns
 ⟨od,⟨I.obj,rfl,rfl,ho⟩,hl⟩
section
variable {x f:Addr}{v:Value}
theorem get_map (X:K.In s.heap)(I:ObjM s.heap x dx C mA)(hg:Da K C name=true)(hh:CM K C=true)
  (ha:Ax K (.ref C) name=some none) (hv:mA name=some v) (hv':PySem.W.handedIn v=true) (h:Q v {s with toks:=s.toks+1}) :
  An (Ai prog w) A (Gs (.ref x) name expr) Q E s:=by
 obtain ⟨od,J,hl⟩:=I.look;exact PySem.W.get_value X J (Ek hg).1 (PySem.W.findObj_own hh ha rfl (by rw [hl,hv])) hv' h
theorem get_meth {Q:Value×List Value->Ac->Prop}(X:K.In s.heap)(I:ObjM s.heap x dx C mA)(hg:Da K C name=true)
  (hf:Ax K (.ref C) name=some (some (.ref f))) (ht:DD K (.ref f)=true) (hv:mA name=none) (h:Q (.ref f,[.ref x]) s) :
  An (Ai prog w) A (BQ (.ref x) name pl) Q E s:=by
 obtain ⟨od,J,hl⟩:=I.look;exact PySem.W.method_fn X J (Ek hg).1 (Ek hg).2 hf (beq_iff_eq.mp ht) (by show (Gf name od).map (·.isSome)=some false;rw [hl,hv];rfl) h
theorem set_map {Q:Unit->Ac->Prop}(X:K.In s.heap)(I:ObjM s.heap x dx C mA)
  (hs:Ax K (.ref C) "__setattr__"=some (some (.builtin "object.__setattr__"))) (hp:DK K C=true) (ht:Gp K C name=some none) (hh:CM K C=true)
  (hw:PySem.Within mA ns) (hsz:ns.length<=Ah)
  (h:∀h',ObjM h' x dx C (fun y=>if y=name then some v else mA y)->C2 dx s.heap h'->Q () {s with heap:=h',toks:=s.toks+2}) :
  An (Ai prog w) A (setAttr (.ref x) name v) Q E s:=by
 obtain ⟨od,J,hl⟩:=I.look;refine PySem.W.set_plain X J hs (PySem.W.osa_open (s:={s with toks:=s.toks+1}) (r:=none) X J hp ht fun b=>?_);obtain ⟨cd,hc,hd'⟩:=PySem.W.any_some hh;have hx:s.heap.get? x=some ⟨.ref C,some dx,.plain,#[]⟩:=I.obj;refine Av (AY (Av (Av (wpAny_loadPart hx (Av (PySem.W.Looks.here (s:={s with toks:=s.toks+1}) (PySem.W.looks_clsIn X hc) ?_))))));rw [hd'];refine AY (a:=some dx) (Av (AY (Av ?_)));refine wpAny_nsSet1 (s:={s with toks:=s.toks+1}) I.ns fun h' hn2 hs2=>?_;obtain ⟨oD,esD,epD,hoD,hdD,hcD⟩:=hn2.count (PySem.Within.cons name v hw);refine Av (wpAny_lookBehind hoD (by rw [hdD];exact pastItsLine_dict (A9 hcD (by rw [A7];omega))) ?_);exact AY (h _ ⟨(hs2.2 _ (Ne.symm I.ne)).trans I.obj,hn2,I.ne⟩ hs2)
theorem make_map {R:DG->Ac->Prop}{vs:List Value}(X:K.In s.heap)(hm:Eu K C=true)
    (hi:Ax K (.ref C) "__init__"=some (some (.ref f))) (hf:C3 K (.ref f)=some (.type "function"))
    (h:Cp (Ai prog w) (A.under (.builtin "type.__call__" ⟨.ref C::vs,kw⟩)) (.call (.ref f) ⟨.ref (s.heap.objs.size+1)::vs,kw⟩) (PySem.W.InitBack (s.heap.objs.size+1) R)
      {s with heap:=(s.heap.push emptyDict).push (Dj C s.heap.objs.size)}) :
    Cp (Ai prog w) A (.call (.ref C) ⟨vs,kw⟩) R s:=by
  obtain ⟨hh,g,d,t,os⟩:=s;exact PySem.W.make_core (PySem.W.makes_of X hm) (Di X hi) (fun self=>PySem.W.bind_fn X self hf) (.inl rfl) h
end
def putF (f:Str)(v:V):List (Str×V)->List (Str×V)
 | []=>[(f,v)]
 | (g,x)::r=>if g=f then (g,v)::r else (g,x)::putF f v r
theorem lookup_putF (f g:Str)(v:V):∀fs:List (Str×V),(putF f v fs).lookup g=if g=f then some v else fs.lookup g
 | []=>by show Cr g [(f,v)]=_;by_cases h:g=f;have hb:(g==f)=true:=beq_iff_eq.mpr h;simp only [Cr,hb,if_pos h];have hb:(g==f)=false:=beq_eq_false_iff_ne.mpr h;simp only [Cr,hb,if_neg h]
 | (k,x)::r=>by have ih:=lookup_putF f g v r;rw [show putF f v ((k,x)::r)=(if k=f then (k,v)::r else (k,x)::putF f v r) from rfl];by_cases hk:k=f;rw [if_pos hk];by_cases h:g=k;have hb:(g==k)=true:=beq_iff_eq.mpr h;simp only [Cr,hb,if_pos (h.trans hk)];have hb:(g==k)=false:=beq_eq_false_iff_ne.mpr h;simp only [Cr,hb,if_neg (fun e:g=f=>h (e.trans hk.symm))];rw [if_neg hk];by_cases h:g=k;have hb:(g==k)=true:=beq_iff_eq.mpr h;simp only [Cr,hb,if_neg (fun e:g=f=>hk (h.symm.trans e))];have hb:(g==k)=false:=beq_eq_false_iff_ne.mpr h;simp only [Cr,hb];exact ih
theorem keys_putF (f:Str)(v:V):∀fs:List (Str×V),f∈(putF f v fs).map (·.1)/\∀g,g∈fs.map (·.1)->g∈(putF f v fs).map (·.1)
 | []=>⟨by simp [putF],fun g h=>by simp at h⟩
 | (k,x)::r=>by obtain ⟨i1,i2⟩:=keys_putF f v r;rw [show putF f v ((k,x)::r)=(if k=f then (k,v)::r else (k,x)::putF f v r) from rfl];by_cases hk:k=f;rw [if_pos hk];subst hk;exact ⟨by simp,fun g h=>by simpa using h⟩;rw [if_neg hk];refine ⟨?_,fun g h=>?_⟩;rw [Bt];exact Bb _ i1;rw [Bt] at h ⊢;rcases Au.mp h with e | e;exact Au.mpr (.inl e);exact Bb _ (i2 g e)
theorem length_putF (f:Str)(v:V):∀fs:List (Str×V),(putF f v fs).length<=fs.length+1
 | []=>by simp [putF]
 | (k,x)::r=>by have ih:=length_putF f v r;rw [show putF f v ((k,x)::r)=(if k=f then (k,v)::r else (k,x)::putF f v r) from rfl];by_cases hk:k=f;rw [if_pos hk,A7,A7];omega;rw [if_neg hk,A7,A7];omega
theorem RelO.some_of {o:Option Value}(r:RelO (some v) o):∃u,o=some u/\RelV v u:=by
 cases o with
 | none=>exact (show False from r).elim
 | some u=>exact ⟨u,rfl,r⟩
theorem RelO.none_of {o:Option Value}(r:RelO none o):o=none:=by
 cases o with
 | none=>rfl
 | some u=>exact (show False from r).elim
theorem handed_of (r:RelV v u):PySem.W.handedIn u=true:=by
 cases v with
 | non=>cases (show u=CV from r);rfl
 | bl b=>cases (show u=Dw b from r);rfl
 | int i=>obtain ⟨t,e⟩:=(show ∃t,u=Ci i t from r);cases e;rfl
 | str x=>obtain ⟨t,e⟩:=(show ∃t,u=De x t from r);cases e;rfl
 | byt b=>obtain ⟨t,e⟩:=(show ∃t,u=Gw b t from r);cases e;rfl
 | flt b=>obtain ⟨t,e⟩:=(show ∃t,u=EH b t from r);cases e;rfl
 | ref a=>cases (show u=AB a from r);rfl
 | ty n=>cases (show u=Dv n from r);rfl
section
variable {fs:List (Str×V)}
theorem ins_get (hok:HOk P w H h)(e:H a=some (.ins C dx fs)):∃mA,ObjM h a dx C mA/\(∀f,RelO (fs.lookup f) (mA f))/\PySem.Within mA (fs.map (·.1))/\fs.length<=1000/\H dx=some (.own a):=by obtain ⟨d,z,ne,ob,mA,n,r,q⟩:=(show ObjOk P w H h a (.ins C dx fs) from hok a _ e);exact ⟨mA,⟨ob,n,ne⟩,r,q,z,d⟩
end
structure Cls (K:AC)(C:Addr):Prop where
 pg:Da K C CW=true
 hd:CM K C=true
 po:DK K C=true
 sa:Ax K (.ref C) "__setattr__"=some (some (.builtin "object.__setattr__"))
theorem Cls.get (c:Cls K C)(f:Str):Da K C f=true:=c.pg
def NoAttr (K:AC)(C:Addr)(f:Str):Prop:=Ax K (.ref C) f=some none
theorem NoAttr.taker {f:Str}(n:NoAttr K C f):Gp K C f=some none:=by unfold Gp;rw [show Ax K (.ref C) f=some none from n];rfl
structure Con (K:AC)(C:Addr)(f:Str)(v:V)(u:Value):Prop where
 at_:Ax K (.ref C) f=some (some u)
 rel:RelV v u
 get:E9 K u "__get__"=some none
 cp:PySem.W.copiedNames.contains f=false
structure Meth (K:AC)(C:Addr)(m:Str)(f:Addr):Prop where
 at_:Ax K (.ref C) m=some (some (.ref f))
 fn:DD K (.ref f)=true
 kp:CI K (.ref f)=true
section
variable {fs:List (Str×V)}{f:Str}
theorem getattr_ok {b:Bool}(I:Inv X pins σ H s)(e:H a=some (.ins C dx fs))(c:Cls X.K C)(n:NoAttr X.K C f)(l:fs.lookup f=some v)
  (h:∀u s',Inv X pins σ H s'->RelV v u->Q u s'):An (Ai X.prog X.w) A (Gs (.ref a) f b) Q E s:=by
 obtain ⟨mA,O,r,_,_,_⟩:=ins_get I.hok e;obtain ⟨u,hu,ru⟩:=RelO.some_of (v:=v) (o:=mA f) (by rw [<- l];exact r f);exact get_map I.kIn O (c.get f) c.hd n hu (handed_of ru) (h u _ (I.tok _) ru)
theorem getmeth_ok {g:Addr}{Q:Value×List Value->Ac->Prop}(I:Inv X pins σ H s)(e:H a=some (.ins C dx fs))(c:Cls X.K C)(k:Meth X.K C m g)(l:fs.lookup m=none)
  (h:Q (.ref g,[.ref a]) s):An (Ai X.prog X.w) A (BQ (.ref a) m pl) Q E s:=by
 obtain ⟨mA,O,r,_,_,_⟩:=ins_get I.hok e;have hn:mA m=none:=RelO.none_of (by rw [<- l];exact r m);exact get_meth I.kIn O (c.get m) k.at_ k.fn hn h
theorem setattr_ok {Q:Unit->Ac->Prop}(I:Inv X pins σ H s)(e:H a=some (.ins C dx fs))(c:Cls X.K C)(n:NoAttr X.K C f)(hl:fs.length<1000)(ry:RelV y u)
  (h:∀s',Inv X pins σ (upd H a (.ins C dx (putF f y fs))) s'->Q () s'):An (Ai X.prog X.w) A (setAttr (.ref a) f u) Q E s:=by
 obtain ⟨mA,O,r,wi,_,ho⟩:=ins_get I.hok e;have hz:(fs.map (·.1)).length<=Ah:=by rw [Ap,FJ];omega
 refine set_map I.kIn O c.sa c.po n.taker c.hd wi hz fun h' O' sb=>h _ ?_;have hd:∃o,h'.get? dx=some o:=let ⟨o,_,_,e',_⟩:=O'.ns;⟨o,e'⟩
 refine I.write (x:=a) (e:=dx) (by rw [e];exact BE) (.inr ho) (fun b q hb z=>(sb.2 b hb).trans z) hd ?_;refine ⟨by rw [upd_ne O.ne];exact ho,?_,O.ne,O'.obj,_,O'.ns,fun g=>?_,fun g hg=>?_⟩;have:=length_putF f y fs;omega;show RelO ((putF f y fs).lookup g) (if g=f then some u else mA g);rw [lookup_putF];by_cases q:g=f;rw [if_pos q,if_pos q];exact ry;rw [if_neg q,if_neg q];exact r g;by_cases q:g=f;rw [q];exact (keys_putF f y fs).1;refine (keys_putF f y fs).2 g (wi g fun z=>hg ?_);show (if g=f then some u else mA g)=none;rw [if_neg q];exact z
theorem Inv.made (I:Inv X pins σ H s):Inv X pins σ (upd (upd H s.heap.objs.size (.own (s.heap.objs.size+1))) (s.heap.objs.size+1) (.ins C s.heap.objs.size []))
  {s with heap:=(s.heap.push emptyDict).push (Dj C s.heap.objs.size)}:=by
 have e1:(s.heap.push emptyDict).get? s.heap.objs.size=some emptyDict:=A5 s.heap rfl;have e2:((s.heap.push emptyDict).push (Dj C s.heap.objs.size)).get? (s.heap.objs.size+1)=some (Dj C s.heap.objs.size):=by
  have:=A5 (s.heap.push emptyDict) (o:=Dj C s.heap.objs.size) rfl
  rwa [Eb] at this
 have e3:(s.heap.push emptyDict).Ns s.heap.objs.size (fun _=>none):=⟨emptyDict,#[],_,e1,rfl,(fun e he=>absurd he (by simp)),fun _=>rfl⟩;have I1:=I.laid (a:=s.heap.objs.size) (o:=.own (s.heap.objs.size+1)) (h':=s.heap.push emptyDict) (t':=s.toks) (fun b u q=>Al _ q) (AM _) ⟨_,e1⟩;refine I1.laid (a:=s.heap.objs.size+1) (o:=.ins C s.heap.objs.size []) (t':=s.toks) (fun b u q=>Al _ q) (EK (Eb _ _)) ?_;have ne:s.heap.objs.size≠s.heap.objs.size+1:=Bh (FV _);refine ⟨by rw [upd_ne ne,upd_same],Dg _,ne,e2,fun _=>none,(Heap.Ns1.of_empty e3).at fun o q=>Al _ q,fun _=>BE,fun y hy=>absurd rfl hy⟩
theorem attr_of {f:Str}(hb:AS e f env (Ar e env)=Ar e env)
  (h:An (Ai prog w) A (Ar e env) (fun o s₁=>An (Ai prog w) A (Gs o f true) Q E s₁) E s):An (Ai prog w) A (Ar (.Attribute e f pos) env) Q E s:=
 Attribute_any_ h (by rw [arm_eval_Attribute,hb])
end
def tFld (K:AC)(ta:TE)(f:Str):TE:=fun σ H Q=>ta σ H fun x H1=>∃a C dx fs v,x=.ref a/\H1 a=some (.ins C dx fs)/\Cls K C/\NoAttr K C f/\fs.lookup f=some v/\Q v H1
def sFld (K:AC)(ta tv:TE)(f:Str):TS:=fun D σ H=>tv σ H fun y H1=>ta σ H1 fun x H2=>∃a C dx fs,x=.ref a/\H2 a=some (.ins C dx fs)/\Cls K C/\NoAttr K C f/\fs.length<1000/\
 D.nx σ (upd H2 a (.ins C dx (putF f y fs)))
def InOp (X:Cx)(op:FR)(rd:V->V->Hp->VK->Prop):Prop:=
 ∀(pins:List (Addr×Obj)) (s:Ac) (σ:St) (H:Hp) (x y:V) (u v:Value) (Q:VK),Inv X pins σ H s->RelV x u->RelV y v->rd x y H Q->An (Ai X.prog X.w) X.A (inplaceOp op u v) (EP X pins σ Q) X.xe s
def sFldAug (K:AC)(ta tv:TE)(rd:V->V->Hp->VK->Prop)(f:Str):TS:=fun D σ H=>ta σ H fun x H1=>∃a C dx fs v,x=.ref a/\H1 a=some (.ins C dx fs)/\Cls K C/\NoAttr K C f/\fs.lookup f=some v/\
 tv σ H1 fun y H2=>rd v y H2 fun z H3=>∃dx' fs',H3 a=some (.ins C dx' fs')/\fs'.length<1000/\D.nx σ (upd H3 a (.ins C dx' (putF f z fs')))
section
variable {o value:Expr}{f:Str}{tpos:Pos}{tv:TE}
theorem pe_fld (he:PE X e ta)(hb:AS e f X.env (Ar e X.env)=Ar e X.env):PE X (.Attribute e f pos) (tFld X.K ta f):=by intro pins s σ H Q I h;refine attr_of hb (thn (he pins s σ H _ I h) fun u s1 hz9=>?_);obtain ⟨x,H1,I1,rx,a,C,dx,fs,v,ex,ea,c,n,l,q⟩:=hz9;subst ex;obtain rfl:u=AB a:=rx;exact getattr_ok I1 ea c n l fun u' s2 I2 ru=>⟨v,H1,I2,ru,q⟩
theorem ps_fld (ha:PE X o ta)(hv:PE X value tv)(hs:A8 value (some (.Attribute o f pos')) pos.line X.env=pure false):PS X (.Assign [.Attribute o f pos'] value pos) (sFld X.K ta tv f):=by intro pins s σ H D I h;refine plainObj_wpAny_Assign_Attribute (thn (hv pins s σ H _ I h) fun u s1 ⟨y,H1,I1,ry,q⟩=>thn (ha pins s1 σ H1 _ I1 q) fun ov s2 ⟨x,H2,I2,rx,a,C,dx,fs,ex,ea,c,n,l,q2⟩=>?_) hs;subst ex;obtain rfl:ov=AB a:=rx;exact setattr_ok I2 ea c n l ry fun s3 I3=>⟨σ,_,I3,q2⟩
theorem ps_fldaug (ha:PE X o ta)(hv:PE X value tv)(hop:InOp X op rd):PS X (.AugAssign (.Attribute o f tpos) op value pos) (sFldAug X.K ta tv rd f):=by intro pins s σ H D I h;refine wpAny_AugAssign_AttributeAny (thn (ha pins s σ H _ I h) fun ov s1 hz9=>?_);obtain ⟨x,H1,I1,rx,a,C,dx,fs,v,ex,ea,c,n,l,q⟩:=hz9;subst ex;obtain rfl:ov=AB a:=rx;refine getattr_ok I1 ea c n l fun u s2 I2 ru=>thn (hv pins s2 σ H1 _ I2 q) fun w3 s3 ⟨y,H2,I3,ry,q3⟩=>thn (hop pins s3 σ H2 v y u w3 _ I3 ru ry q3) fun w4 s4 ⟨z,H3,I4,rz,dx',fs',ea',l',q4⟩=>?_;exact setattr_ok I4 ea' c n l' rz fun s5 I5=>⟨σ,_,I5,q4⟩
def rAdd:V->V->Hp->VK->Prop:=fun x y H Q=>∃i j,x=.int i/\y=.int j/\Q (.int (i+j)) H
theorem in_add:InOp X .Add rAdd:=by rintro pins s σ H x y u v Q I rx ry ⟨i,j,rfl,rfl,q⟩;obtain ⟨t,rfl⟩:=(show ∃t,u=Ci i t from rx);obtain ⟨t',rfl⟩:=(show ∃t',v=Ci j t' from ry);exact GV ⟨.int (i+j),H,I.tok _,⟨_,rfl⟩,q⟩
end
section
variable {c:Value}{b:Bool}
inductive TyOf (K:AC)(H:Hp):V->Value->Prop where
 | non:TyOf K H .non (.type "NoneType")
 | bl (x:Bool):TyOf K H (.bl x) (.type "bool")
 | int (i:Int):TyOf K H (.int i) (.type "int")
 | str (x:Str):TyOf K H (.str x) (.type "str")
 | flt (x:UInt64):TyOf K H (.flt x) (.type "float")
 | lst {a:Addr} {xs:List V} (e:H a=some (.lst xs)):TyOf K H (.ref a) (.type "list")
 | frz {a:Addr} {o:Obj} {xs:List V} (e:H a=some (.frz o (.lst xs))):TyOf K H (.ref a) (.type "list")
 | tup {a:Addr} {xs:List V} (e:H a=some (.tup xs)):TyOf K H (.ref a) (.type "tuple")
 | dK {a:Addr} {kvs:List (Key×V)} (e:H a=some (.dK kvs)):TyOf K H (.ref a) (.type "dict")
 | dT {a:Addr} {kvs:List (List Key×V)} (e:H a=some (.dT kvs)):TyOf K H (.ref a) (.type "dict")
 | ins {a C dx:Addr} {fs:List (Str×V)} (e:H a=some (.ins C dx fs)) (cl:Cls K C) (ha:Ax K (.ref C) "__class__"=some (some (.builtin "object.__class__")))
   (hn:E9 K (.builtin "object.__class__") "__get__"=some (some (.builtin "getset_descriptor.__get__"))) (htk:PySem.W.takesIn K (.builtin "object.__class__")=some true)
   (hm:PySem.W.mroIn K C (.type "object")=some true):TyOf K H (.ref a) (.ref C)
theorem isinst_ok {x:V}{t:Value}(I:Inv X pins σ H s)(rx:RelV x u)(ty:TyOf X.K H x t)(e:DC X.K t c=some b)(h:∀tk,Q (.bool b) {s with toks:=tk}) :
  An (Ai X.prog X.w) A (call (.builtin "isinstance") [u,c]) Q E s:=by
 cases ty with
 | non=>cases (show u=CV from rx);exact Cm PySem.W.kitx_none I.kIn BE e (fun z=>nomatch z) h
 | bl y=>cases (show u=Dw y from rx);exact Cm PySem.W.kitx_bool I.kIn BE e (fun z=>nomatch z) h
 | int i=>obtain ⟨t,q⟩:=(show ∃t,u=Ci i t from rx);cases q;exact Cm PySem.W.kitx_int I.kIn BE e (fun z=>nomatch z) h
 | str y=>obtain ⟨t,q⟩:=(show ∃t,u=De y t from rx);cases q;exact Cm PySem.W.kitx_str I.kIn BE e (fun z=>nomatch z) h
 | flt y=>obtain ⟨t,q⟩:=(show ∃t,u=EH y t from rx);cases q;exact Cm PySem.W.kitx_float I.kIn BE e (fun z=>nomatch z) h
 | @lst a xs ea =>cases (show u=AB a from rx);obtain ⟨_,_,n,_,h1⟩:=(show ObjOk X.prog X.w H s.heap a (.lst xs) from I.hok a _ ea);exact Cm PySem.W.kitx_list I.kIn ⟨_,h1,rfl⟩ e (fun z=>nomatch z) h
 | @frz a ob xs ea =>cases (show u=AB a from rx);obtain ⟨_,_,_,n,_,h1⟩:=(show ObjOk X.prog X.w H s.heap a (.frz ob (.lst xs)) from I.hok a _ ea);exact Cm PySem.W.kitx_list I.kIn ⟨_,h1,rfl⟩ e (fun z=>nomatch z) h
 | @tup a xs ea =>cases (show u=AB a from rx);obtain ⟨_,_,_,p⟩:=(show ObjOk X.prog X.w H s.heap a (.tup xs) from I.hok a _ ea);obtain ⟨o,h1,h2,_⟩:=p;exact Cm PySem.W.kitx_tuple I.kIn ⟨o,h1,h2⟩ e (fun z=>nomatch z) h
 | @dK a kvs ea =>cases (show u=AB a from rx);obtain ⟨_,_,vs,_,p⟩:=(show ObjOk X.prog X.w H s.heap a (.dK kvs) from I.hok a _ ea);obtain ⟨o,es,ep,h1,h2,_⟩:=p;exact Cm PySem.W.kitx_dict I.kIn ⟨o,h1,h2.1⟩ e (fun z=>nomatch z) h
 | @dT a kvs ea =>cases (show u=AB a from rx);obtain ⟨_,_,xs,_,o,es,ep,h1,h2,_⟩:=(show ObjOk X.prog X.w H s.heap a (.dT kvs) from I.hok a _ ea);exact Cm PySem.W.kitx_dict I.kIn ⟨o,h1,h2.1⟩ e (fun z=>nomatch z) h
 | @ins a C dx fs ea cl ha hn htk hm =>cases (show u=AB a from rx);obtain ⟨mA,O,_⟩:=ins_get I.hok ea;obtain ⟨od,J,_⟩:=O.look;exact Cm (PySem.W.kitx_own (cl.get _) cl.hd ha hn htk hm) I.kIn J e (fun z=>nomatch z) h
end
structure Room (k:Nat)(A:AI):Prop where
 hd:A.handled=none
 dp:A.depth+3*k+5<DB
 un:A.units+16*k+200<Bf
 gd:A.guards=some []
theorem Room.mono {k:Nat}(r:Room k A)(h:j<=k):Room j A:=⟨r.hd,by have:=r.dp;omega,by have:=r.un;omega,r.gd⟩
theorem Room.deeper {k:Nat}{A:AI}(r:Room (k+1) A)(env:Env):Room k (A.deeper env):=⟨r.hd,by have:=r.dp;show A.depth+1+3*k+5<_;omega,by have:=r.un;show A.units+3+16*k+200<_;omega,r.gd⟩
theorem make_depth :(A.under (.builtin "type.__call__" ⟨.ref C::us,kw⟩)).depth=A.depth+1:=by
 first | rfl | simp [CU,Code.weight,Code.isCreation,Ez,Code.isCaller,GS,EA,G6]
theorem make_units :(A.under (.builtin "type.__call__" ⟨.ref C::us,kw⟩)).units=A.units+1:=by
 first | rfl | simp [CU,Code.cUnits,GS,EA]
theorem Room.make {k:Nat}(r:Room (k+1) A)(C:Addr)(us:List Value)(kw:List (Str×Value)):Room k (A.under (.builtin "type.__call__" ⟨.ref C::us,kw⟩)):=⟨r.hd,by have:=r.dp;rw [make_depth];omega,by have:=r.un;rw [make_units];omega,by have h:=r.gd;first | exact h | (simp [CU,GR,Ez,G6,pushGuards];exact h) | simpa [CU,GR,Ez,G6,pushGuards] using h⟩
theorem Room.depth {k:Nat}{A:AI}(r:Room k A):A.depth<DB:=by have:=r.dp;omega
theorem Room.units {k:Nat}{A:AI}(r:Room k A):A.units+64<Bf:=by have:=r.un;omega
def tNil:TA:=fun _ H Q=>Q [] H
def tCons (ta:TE)(tr:TA):TA:=fun σ H Q=>ta σ H fun x H1=>tr σ H1 fun xs H2=>Q (x::xs) H2
theorem pa_nil:PA X [] tNil:=fun _ _ _ _ H Q I h=>Calls.spliced_nil ⟨[],H,I,.nil,h⟩
theorem pa_cons (ha:PE X e te)(hr:PA X es t)(hs:Ab (e::es) X.env=(false,Ar e X.env)::Ab es X.env:=by rfl):PA X (e::es) (tCons te t):=by intro pos pins s σ H Q I h;rw [hs];show An _ _ (spliced ((false,Ar e X.env)::AG pos (Ab es X.env))) _ _ s;refine Calls.spliced_cons (thn (ha pins s σ H _ I h) fun u s1 hz9=>?_);obtain ⟨x,H1,I1,r1,q1⟩:=hz9;exact thn (hr pos pins s1 σ H1 _ I1 q1) fun us s2 ⟨xs,H2,I2,r2,q2⟩=>⟨x::xs,H2,I2,.cons r1 r2,q2⟩
def tTup (t:TA):TE:=fun σ H Q=>t σ H fun xs H1=>xs.length<=Ah/\∀p,H1 p=none->Q (.ref p) (upd H1 p (.tup xs))
def tLst (t:TA):TE:=fun σ H Q=>t σ H fun xs H1=>xs.length<=Ah/\∀p,H1 p=none->Q (.ref p) (upd H1 p (.lst xs))
theorem pe_tup {x1}(h:PA X es t):PE X (.Tuple es x1 pos) (tTup t):=by intro pins s σ H Q I hq;refine wpAny_Tuple_spliced (thn (h pos pins s σ H _ I hq) fun us s1 ⟨xs,H1,I1,r,z,q⟩=>⟨by rw [<- r.length];exact z,?_⟩);have hf:H1 s1.heap.objs.size=none:=I1.hok.fresh (AM _);refine ⟨.ref s1.heap.objs.size,upd H1 s1.heap.objs.size (.tup xs),I1.laid (t':=s1.toks) (fun b u e=>Al _ e) (AM _) ?_,rfl,q _ hf⟩;exact ⟨z,us,r,⟨_,A5 _ rfl,rfl,_,rfl⟩⟩
theorem pe_lst (h:PA X es t):PE X (.List es pos) (tLst t):=by intro pins s σ H Q I hq;refine wpAny_List_spliced (thn (h pos pins s σ H _ I hq) fun us s1 ⟨xs,H1,I1,r,z,q⟩=>⟨by rw [<- r.length];exact z,?_⟩);have hf:H1 s1.heap.objs.size=none:=I1.hok.fresh (AM _);refine ⟨.ref s1.heap.objs.size,upd H1 s1.heap.objs.size (.lst xs),I1.laid (t':=s1.toks) (fun b u e=>Al _ e) (AM _) ?_,rfl,q _ hf⟩;exact ⟨z,us,0,r,A5 _ rfl⟩
abbrev Sp:=List V->Hp->VK->XK->Prop
abbrev CXT:=List Env->Hp->Ac->XK->Value->Ac->Prop
structure Env0 (P:Ao)(w:AK)(K:AC)(mg:Str->Option Value)(base:AR)(A:AI)(outer:List Env)(s:Ac)(H:Hp):Prop where
 frames:A.frames=some outer
 mod:Mod K mg base
 bs:∀b o,base.get? b=some o->s.heap.get? b=some o/\H b=none
 bsz:base.objs.size<=s.heap.objs.size
 funs:s.heap.FunFrames base outer
 frf:∀b∈frs outer,H b=none
 hok:HOk P w H s.heap
 bare:CL s.gens
def CE (outer:List Env)(P:Ao)(w:AK)(H:Hp)(s:Ac)(Q:VK)(u:Value)(s':Ac):Prop:=
 ∃v H',s'.os=s.os/\CL s'.gens/\Un (frs outer) [] H H' s.heap s'.heap/\HOk P w H' s'.heap/\RelV v u/\Q v H'
def CR (CX:CXT)(outer:List Env)(P:Ao)(w:AK)(H:Hp)(s:Ac)(Q:VK)(E:XK)(r:DG)(s':Ac):Prop:=
 match r with
 | .ok (.ret u)=>CE outer P w H s Q u s'
 | .ok _=>False
 | .error e=>CX outer H s E e s'
structure FnOk (P:Ao)(w:AK)(K:AC)(mg:Str->Option Value)(base:AR)(CX:CXT)(k:Nat)(f:Addr)(fd:BD)(ps:List Str)(sp:Sp):Prop where
 len:∀vs H Q E,sp vs H Q E->vs.length=ps.length
 run:∀(A:AI) (outer:List Env) (s:Ac) (H:Hp) (args:Args) (us:List Value) (vs:List V) (Q:VK) (E:XK),Room k A->Env0 P w K mg base A outer s H->DN s fd args (ps.zip us)->Vals vs us->sp vs H Q E->
  Cp (Ai P w) A (.call (.ref f) args) (CR CX outer P w H s Q E) s
theorem FnOk.imp {base:AR}{k:Nat}{f:Addr}{sp':Sp}(F:FnOk P w K mg base CX k f fd ps sp)
  (h:∀vs H Q E,sp' vs H Q E->sp vs H Q E):FnOk P w K mg base CX k f fd ps sp':=
 ⟨fun vs H Q E q=>F.len vs H Q E (h _ _ _ _ q),fun A outer s H args us vs Q E hr he hb hv hs=>F.run A outer s H args us vs Q E hr he hb hv (h _ _ _ _ hs)⟩
theorem Env0.make {base:AR}(e:Env0 P w K mg base A outer s H)(C:Addr)(us:List Value)(kw:List (Str×Value)) :
  Env0 P w K mg base (A.under (.builtin "type.__call__" ⟨.ref C::us,kw⟩)) outer s H:=⟨by first | exact e.frames | (simpa [CU,Code.envs,EA,pushEnvs] using e.frames),e.mod,e.bs,e.bsz,e.funs,e.frf,e.hok,e.bare⟩
theorem Inv.env0 (I:Inv X pins σ H s):Env0 X.prog X.w X.K X.mg X.base X.A X.stack s H:=⟨I.ok.frames,I.ok.mod,I.bs,A9 I.ok.bsz I.sz,I.stack,I.stkFree,I.hok,I.bare⟩
theorem Inv.after {Q:VK}(I:Inv X pins σ H s)(h:CE X.stack X.prog X.w H s Q u s'):EP X pins σ Q u s':=by obtain ⟨v,H',os,bare,un,hok,r,q⟩:=h;obtain ⟨hh,g,d,t,os'⟩:=s';obtain rfl:os'=s.os:=os;exact ⟨v,H',I.call (h':=hh) (g':=g) (d':=d) (t':=t) (ch:=[]) un hok bare (fun b z=>absurd z (by simp)),r,q⟩
def tCall (sp:Sp)(dvs:List V)(E:XK)(t:TA):TE:=fun σ H Q=>t σ H fun vs H1=>sp (vs++dvs) H1 Q E
def tMeth (C:Addr)(m:Str)(sp:Sp)(dvs:List V)(E:XK)(ta:TE)(t:TA):TE:=fun σ H Q=>ta σ H fun x H1=>∃a dx fs,x=.ref a/\H1 a=some (.ins C dx fs)/\fs.lookup m=none/\
 t σ H1 fun vs H2=>sp (x::(vs++dvs)) H2 Q E
def tMake (C:Addr)(sp:Sp)(dvs:List V)(E:XK)(t:TA):TE:=fun σ H Q=>t σ H fun vs H1=>∀x dx,H1 x=none->H1 dx=none->dx≠x->
 sp (.ref x::(vs++dvs)) (upd (upd H1 dx (.own x)) x (.ins C dx [])) (fun v H2=>v=.non/\Q (.ref x) H2) E
def Binds (K:AC)(fd:BD)(ps:List Str)(ds:List Value):Prop:=
 ∀(s:Ac) (us:List Value),K.In s.heap->(us++ds).length=ps.length->DN s fd ⟨us,[]⟩ (ps.zip (us++ds))
theorem Binds.all (h:∀us:List Value,us.length=ps.length->G7 fd ⟨us,[]⟩=pure (ps.zip us)):Binds K fd ps []:=fun s us _ hl=>by rw [BN] at hl ⊢;exact .of_eq (h us hl)
def Passes (CX:CXT)(X:Cx)(E:XK):Prop:=∀(pins:List (Addr×Obj)) (σ:St) (H:Hp) (s:Ac) (e:Value) (s':Ac),Inv X pins σ H s->CX X.stack H s E e s'->X.xe e s'
section
variable {k:Nat}{f:Addr}{E:XK}{o:Expr}
theorem run_fn {Q:VK}(F:FnOk X.prog X.w X.K X.mg X.base CX k f fd ps sp)(hr:Room k X.A)(hb:Binds X.K fd ps ds)(hd:Vals dvs ds)(hx:Passes CX X E)
  (I:Inv X pins σ H s) (r:Vals vs us) (h:sp (vs++dvs) H Q E):An (Ai X.prog X.w) X.A (call (.ref f) us) (EP X pins σ Q) X.xe s:=by
 have r2:Vals (vs++dvs) (us++ds):=r.append hd;have hl:(us++ds).length=ps.length:=by rw [<- r2.length];exact F.len _ _ _ _ h
 refine wpAny_call (D5 (F.run X.A X.stack s H ⟨us,[]⟩ (us++ds) (vs++dvs) Q E hr I.env0 (hb s us I.kIn hl) r2 h) fun r s' hq=>?_);cases r with
 | error e=>exact hx pins σ H s e s' I hq
 | ok fl =>
  cases fl with
  | ret u=>exact I.after hq
  | next=>exact False.elim hq
  | brk=>exact False.elim hq
  | cont=>exact False.elim hq
theorem pe_call (F:FnOk X.prog X.w X.K X.mg X.base CX k f fd ps sp)(hr:Room k X.A)(hg:Gl X x)(hm:X.mg x=some (.ref f))(hk:CI X.K (.ref f)=true)(hb:Binds X.K fd ps ds)(hd:Vals dvs ds)(hx:Passes CX X E)
  (ha:PA X (e::es) t) (hdb:(x==("__debug__":Str))=false:=by decide) (he:Ab (e::es) X.env=(false,Ar e X.env)::Ab es X.env:=by rfl) (hpl:(AG pos (Ab es X.env)).any (·.1)=false:=by rfl) :
  PE X (.Call (.Name x p) (e::es) [] pos) (tCall sp dvs E t):=by
 intro pins s σ H Q I h;refine Cg (ld_glob I hg hm ?_ hdb);refine EE (h₀:=X.base) I.ok.mod.kin hk (thn (ha pos pins s σ H _ I h) fun us s1 ⟨vs,H1,I1,r,q⟩=>⟨I1.kIn,?_⟩) he hpl;exact run_fn F hr hb hd hx I1 r q
theorem pe_meth (he:PE X o ta)(c:Cls X.K C)(hm:Meth X.K C m f)(F:FnOk X.prog X.w X.K X.mg X.base CX k f fd ps sp)(hr:Room k X.A)(hb:Binds X.K fd ps ds)(hd:Vals dvs ds)(hx:Passes CX X E)(ha:PA X (e::es) t)
    (hst:Ab (e::es) X.env=(false,Ar e X.env)::Ab es X.env:=by rfl) (hpl:(AG pos (Ab es X.env)).any (·.1)=false:=by rfl)
    (ht:Ar (.Call (.Attribute o m apos) (e::es) [] pos) X.env=(do
      let ov <- Ar o X.env
      B5 apos.atName
      let (f,first) <- BA [ov] (BQ ov m pl)
      CD pos f first (AG pos (Ab (e::es) X.env)) (BC pos (AU [] X.env))):=by rfl) :
    PE X (.Call (.Attribute o m apos) (e::es) [] pos) (tMeth C m sp dvs E ta t):=by
  intro pins s σ H Q I h;refine DR (pl:=pl) (thn (he pins s σ H _ I h) fun u s1 hz9=>?_) ht;obtain ⟨x,H1,I1,rx,a,dx,fs,ex,ea,l,q⟩:=hz9;subst ex;obtain rfl:u=AB a:=rx;refine getmeth_ok I1 ea c hm l ?_;refine EE (first:=[.ref a]) (h₀:=X.base) I.ok.mod.kin hm.kp (thn (ha pos pins s1 σ H1 _ I1 q) fun us s2 ⟨vs,H2,I2,r,q2⟩=>⟨I2.kIn,?_⟩) hst hpl;exact run_fn (us:=.ref a::us) (vs:=.ref a::vs) F hr hb hd hx I2 (.cons rfl r) q2
theorem pe_meth0 (he:PE X o ta)(c:Cls X.K C)(hm:Meth X.K C m f)(F:FnOk X.prog X.w X.K X.mg X.base CX k f fd ps sp)(hr:Room k X.A)(hb:Binds X.K fd ps ds)(hd:Vals dvs ds)(hx:Passes CX X E)
    (ht:Ar (.Call (.Attribute o m apos) [] [] pos) X.env=(do
      let ov <- Ar o X.env
      B5 apos.atName
      let (f,first) <- BA [ov] (BQ ov m pl)
      CD pos f first (AG pos (Ab [] X.env)) (BC pos (AU [] X.env))):=by rfl) :
    PE X (.Call (.Attribute o m apos) [] [] pos) (tMeth C m sp dvs E ta tNil):=by
  intro pins s σ H Q I h;refine DR (pl:=pl) (thn (he pins s σ H _ I h) fun u s1 hz9=>?_) ht;obtain ⟨x,H1,I1,rx,a,dx,fs,ex,ea,l,q⟩:=hz9;subst ex;obtain rfl:u=AB a:=rx;refine getmeth_ok I1 ea c hm l ?_;exact En (first:=[.ref a]) I1.kIn hm.kp (run_fn (us:=[.ref a]) (vs:=[.ref a]) F hr hb hd hx I1 (.cons rfl .nil) q)
structure Mk (K:AC)(C f:Addr):Prop where
 makes:Eu K C=true
 init:Ax K (.ref C) "__init__"=some (some (.ref f))
 fn:DD K (.ref f)=true
 kp:CI K (.ref C)=true
theorem run_make {Q:VK}(M:Mk X.K C f)(F:FnOk X.prog X.w X.K X.mg X.base CX k f fd ps sp)(hr:Room (k+1) X.A)(hb:Binds X.K fd ps ds)(hd:Vals dvs ds)
    (hx:Passes CX X E) (I:Inv X pins σ H s) (r:Vals vs us)
    (h:∀x dx,H x=none->H dx=none->dx≠x->sp (.ref x::(vs++dvs)) (upd (upd H dx (.own x)) x (.ins C dx [])) (fun v H2=>v=.non/\Q (.ref x) H2) E) :
    An (Ai X.prog X.w) X.A (call (.ref C) us) (EP X pins σ Q) X.xe s:=by
  have hq:=h (s.heap.objs.size+1) s.heap.objs.size (I.hok.fresh (E7 _)) (I.hok.fresh (AM _)) (Bh (FV _));have I2:=Inv.made (C:=C) I;have r2:Vals (V.ref (s.heap.objs.size+1)::(vs++dvs)) (AB (s.heap.objs.size+1)::(us++ds)):=.cons rfl (r.append hd);have hl:(AB (s.heap.objs.size+1)::us++ds).length=ps.length:=by have e:=r2.length;rw [F.len _ _ _ _ hq] at e;exact e.symm
  refine wpAny_call (make_map (f:=f) I.kIn M.makes M.init (beq_iff_eq.mp M.fn) (D5 (F.run _ X.stack _ _ ⟨AB (s.heap.objs.size+1)::us,[]⟩ (AB (s.heap.objs.size+1)::(us++ds)) _ _ E (hr.make C us [])
    (I2.env0.make C us []) (hb _ (AB (s.heap.objs.size+1)::us) I2.kIn hl) r2 hq) fun r s' hq'=>?_))
  cases r with
  | error e=>exact hx pins σ _ _ e s' I2 hq'
  | ok fl =>
    cases fl with
    | ret u =>obtain ⟨v,H',I3,rv,ev,q3⟩:=I2.after hq';subst ev;exact ⟨rv,⟨V.ref (s.heap.objs.size+1),H',I3,rfl,q3⟩⟩
    | next=>exact False.elim hq'
    | brk=>exact False.elim hq'
    | cont=>exact False.elim hq'
theorem pe_make (M:Mk X.K C f)(F:FnOk X.prog X.w X.K X.mg X.base CX k f fd ps sp)(hr:Room (k+1) X.A)(hg:Gl X x)(hm:X.mg x=some (.ref C))(hb:Binds X.K fd ps ds)(hd:Vals dvs ds)(hx:Passes CX X E)
  (ha:PA X (e::es) t) (hdb:(x==("__debug__":Str))=false:=by decide) (he:Ab (e::es) X.env=(false,Ar e X.env)::Ab es X.env:=by rfl) (hpl:(AG pos (Ab es X.env)).any (·.1)=false:=by rfl) :
  PE X (.Call (.Name x p) (e::es) [] pos) (tMake C sp dvs E t):=by
 intro pins s σ H Q I h;refine Cg (ld_glob I hg hm ?_ hdb);refine EE (h₀:=X.base) I.ok.mod.kin M.kp (thn (ha pos pins s σ H _ I h) fun us s1 ⟨vs,H1,I1,r,q⟩=>⟨I1.kIn,?_⟩) he hpl;exact run_make M F hr hb hd hx I1 r q
theorem pe_make0 (M:Mk X.K C f)(F:FnOk X.prog X.w X.K X.mg X.base CX k f fd ps sp)(hr:Room (k+1) X.A)(hg:Gl X x)(hm:X.mg x=some (.ref C))(hb:Binds X.K fd ps ds)(hd:Vals dvs ds)(hx:Passes CX X E)
  (hdb:(x==("__debug__":Str))=false:=by decide):PE X (.Call (.Name x p) [] [] pos) (tMake C sp dvs E tNil):=by
 intro pins s σ H Q I h;refine Cg (ld_glob I hg hm ?_ hdb);exact En I.kIn M.kp (run_make (us:=[]) M F hr hb hd hx I .nil h)
end
section
variable {k:Nat}{f:Addr}{E:XK}{kpos:Pos}{o:Expr}{tk:TA}
structure KBinds (K:AC)(fd:BD)(ps ks:List Str)(g:List Value->List Value->List Value)(gV:List V->List V->List V):Prop where
 to:∀(s:Ac) (us ws:List Value),K.In s.heap->(g us ws).length=ps.length->DN s fd ⟨us,ks.zip ws⟩ (ps.zip (g us ws))
 rel:∀{vs:List V} {us:List Value} {zs:List V} {ws:List Value},Vals vs us->Vals zs ws->Vals (gV vs zs) (g us ws)
end
structure FnScope (N P:List Str)(sc:Scope):Prop where
 kind:sc.kind=.function
 co:sc.isCoroutine=false
 gen:sc.isGenerator=false
 nd:N.Nodup
 pre:N.take P.length=P
 par:∀x∈P,sc.names.lookup x=some .local\/sc.names.lookup x=some .cell
 nofree:∀y∈sc.names,y.2≠.free
theorem bindL_out {Cc:Str->Option BS}{x:Str}:∀{binds:List (Str×Value)} {m:Str->Option Value},(∀v,(x,v)∉binds)->Fc Cc binds m x=m x
 | [],_,_=>rfl
 | (n,v)::r,m,h=>by
  unfold Fc;rw [bindL_out fun w hw=>h w (Bb _ hw)];split;have:x≠n:=by rintro rfl;exact h v BY
  simp [this];rfl
theorem bindC_out {Cc:Str->Option BS}{x:Str}:∀{binds:List (Str×Value)} {m:Str->Option Value},(∀v,(x,v)∉binds)->Fd Cc binds m x=m x
 | [],_,_=>rfl
 | (n,v)::r,m,h=>by
  unfold Fd;rw [bindC_out fun w hw=>h w (Bb _ hw)];split;rfl;have:x≠n:=by rintro rfl;exact h v BY
  simp [this]
theorem bindL_get {Cc:Str->Option BS}{x:Str}{v:Value}:∀{P:List Str} {vs:List Value} {i:Nat} {m:Str->Option Value},P.Nodup->P[i]?=some x->vs[i]?=some v->Cc x=some .local->
  Fc Cc (P.zip vs) m x=some v
 | [],_,_,_,_,h,_,_=>by simp at h
 | _::_,[],_,_,_,_,h,_=>by simp at h
 | p::P,w::vs,0,m,nd,h1,h2,hk=>by simp at h1 h2;subst h1;subst h2;show Fc Cc ((p,w)::P.zip vs) m p=_;unfold Fc;rw [bindL_out fun v hv=>(Ag.mp nd).1 (D1 hv).1,if_pos hk];simp
 | p::P,w::vs,i+1,m,nd,h1,h2,hk=>by show Fc Cc ((p,w)::P.zip vs) m x=_;unfold Fc;exact bindL_get (i:=i) (Ag.mp nd).2 (by simpa using h1) (by simpa using h2) hk
theorem bindC_get {Cc:Str->Option BS}{x:Str}{v:Value}:∀{P:List Str} {vs:List Value} {i:Nat} {m:Str->Option Value},P.Nodup->P[i]?=some x->vs[i]?=some v->Cc x≠some .local->
  Fd Cc (P.zip vs) m x=some v
 | [],_,_,_,_,h,_,_=>by simp at h
 | _::_,[],_,_,_,_,h,_=>by simp at h
 | p::P,w::vs,0,m,nd,h1,h2,hk=>by simp at h1 h2;subst h1;subst h2;show Fd Cc ((p,w)::P.zip vs) m p=_;unfold Fd;rw [bindC_out fun v hv=>(Ag.mp nd).1 (D1 hv).1,if_neg hk];simp
 | p::P,w::vs,i+1,m,nd,h1,h2,hk=>by show Fd Cc ((p,w)::P.zip vs) m x=_;unfold Fd;exact bindC_get (i:=i) (Ag.mp nd).2 (by simpa using h1) (by simpa using h2) hk
def start (N:List Str)(vs:List V):St:=vs.map some++Aa (N.length - vs.length) none
def cxOf (CX:CXT)(P:Ao)(w:AK)(K:AC)(mg:Str->Option Value)(base:AR)(N:List Str)(qual:Str)(scope:Scope)(f:Addr)(cd:Value)(A:AI)(outer:List Env)(s:Ac)(H:Hp)(E:XK):Cx where
 prog:=P
 w:=w
 K:=K
 mg:=mg
 base:=base
 A:=A.deeper (Cv qual scope s.heap.objs.size f cd)
 N:=N
 s₀:=s
 H₀:=H
 env:=Cv qual scope s.heap.objs.size f cd
 outer:=outer
 stack:=Cv qual scope s.heap.objs.size f cd::outer
 ex:=[]
 calm:=true
 fn:=fun _=>true
 pn:=[]
 xe:=fun e s'=>An (Ai P w) (A.deeper (Cv qual scope s.heap.objs.size f cd)) (Fq (Cv qual scope s.heap.objs.size f cd) e) (fun _ s''=>CX outer H s E e s'') (fun e' s''=>CX outer H s E e' s'') s'
theorem cell_has {n:Nat}(h:sc.names.lookup x=some .cell):∃c,(Fb n sc.names []).lookup x=some c:=by have q:=PySem.W.cellsFrom_some sc.names n [] (.inl h);exact Option.isSome_iff_exists.mp q
theorem inv_start {base:AR}{f:Addr}{s1:Ac}{E:XK}
    (S:FnScope N ps scope) (hd:A.handled=none) (e0:Env0 P w K mg base A outer s H) (hl:vs.length=ps.length) (r:Vals vs us)
    (x:InCallC s s.heap.objs.size (Fc (Cv qual scope s.heap.objs.size f cd).kindOf (ps.zip us) fun _=>none) (Fb (s.heap.objs.size+1) scope.names []) (Fd (Cv qual scope s.heap.objs.size f cd).kindOf (ps.zip us) fun _=>none) s1) :
    Inv (cxOf CX P w K mg base N qual scope f cd A outer s H E) [] (start N vs) H s1:=by
  have hpl:ps.length<=N.length:=by have:=congrArg GK S.pre;rw [BI] at this;omega
  obtain ⟨h1,tk,rfl,hk⟩:=x.done;have noA:∀b:Addr,b∉(cxOf CX P w K mg base N qual scope f cd A outer s H E).ex:=fun b z=>absurd (show b∈([]:List Addr) from z) (by simp);refine ⟨⟨e0.mod,S.kind,rfl,rfl,AM _,fun y z c h1 h2=>?_,fun y hy=>?_,fun y c _ h=>?_,fun _=>hd,Around.frames_deeper e0.frames,.inr ⟨rfl,rfl⟩,fun b z=>absurd z (noA b),e0.bs,e0.bsz,fun b _ _=>noA b,fun b z=>absurd z (noA b),e0.funs,e0.frf⟩,
    rfl,e0.bare,Un.kept hk,⟨_,x.toInCall.ns,fun i y v h1 h2 h3=>?_⟩,fun y c h=>⟨_,x.cell y c h⟩,e0.hok.fresh (AM _),fun y c h=>?_,fun p hp=>absurd (show p∈([]:List (Addr×Obj)) from hp) (by simp),e0.hok.kept hk,?_⟩
  exact name_of_addr x.apart (PySem.mem_of_lookup h1) (PySem.mem_of_lookup h2);have hy:scope.names.lookup y=some .cell\/scope.names.lookup y=some .free:=hy;rcases hy with hy | hy;exact cell_has hy;exact absurd rfl (S.nofree _ (PySem.mem_of_lookup hy));exact D4 (x.above y c (PySem.mem_of_lookup h));have hi:i<vs.length:=by unfold start at h2;by_cases hi:i<vs.length;exact hi;rw [Bk (by simpa using hi)] at h2;rw [Ce] at h2;split at h2<;>cases h2
  have ha:vs[i]?=some v:=by
    unfold start at h2;rw [AE (by simpa using hi),Bg] at h2;cases e:vs[i]? with
    | none=>rw [e] at h2;cases h2
    | some a=>rw [e] at h2;cases h2;rfl
  obtain ⟨u,hu,rv⟩:=r.get ha;have hp:ps[i]?=some y:=by rw [<- S.pre,List.getElem?_take_of_lt (by omega)];exact h1
  have ndP:ps.Nodup:=by rw [<- S.pre];exact S.nd.sublist (List.take_sublist _ _)
  refine ⟨u,rv,?_⟩;rcases S.par y (BB hp) with k | k;exact .inl ⟨k,bindL_get ndP hp hu k⟩;obtain ⟨c,e⟩:=cell_has (n:=s.heap.objs.size+1) k;refine .inr ⟨.inl k,c,e,?_⟩;have q:=x.cell y c e;rw [bindC_get ndP hp hu (by show scope.names.lookup y≠_;rw [k];decide)] at q;exact q;exact e0.hok.fresh (D4 (x.above y c (PySem.mem_of_lookup h)));unfold start;show _=N.length;rw [Az,Ap,C9];omega
theorem fn_of {base:AR}{k:Nat}{f:Addr}{dV kV doc pm cdv ct oc:Value}
    {osl:Array (Option Value)} {N ps:List Str} {sp:Sp} (lk:K.lookup f=some ⟨oc,od,.func (Fs name qual params body scope dV kV doc pm an cdv ct),osl⟩) (hcd:DX K cdv qual=true) (S:FnScope N ps scope)
    (len:∀vs H Q E,sp vs H Q E->vs.length=ps.length)
    (hbody:∀(A:AI) (outer:List Env) (s:Ac) (H:Hp) (vs:List V) (Q:VK) (E:XK),Room k (A.deeper (Cv qual scope s.heap.objs.size f cdv))->sp vs H Q E->
      ∃t,PSs (cxOf CX P w K mg base N qual scope f cdv A outer s H E) body t/\t {nx:=fun _ H'=>Q .non H',rt:=Q} (start N vs) H) :
    FnOk P w K mg base CX (k+1) f (Fs name qual params body scope dV kV doc pm an cdv ct) ps sp:=by
  refine ⟨len,fun A outer s H args us vs Q E hr e0 hb r hsp=>?_⟩;have hl:=len _ _ _ _ hsp;have KX:K.In s.heap:=e0.mod.kin.keeps fun b o e=>(e0.bs b o e).1;have lim:s.heap.NoLimit:=e0.mod.nolimit.keeps fun b o e=>(e0.bs b o e).1;have hkind:∀y∈ps.zip us,scope.names.lookup y.1=some .local\/(scope.names.lookup y.1=some .cell/\((Fb (s.heap.objs.size+1) scope.names []).lookup y.1).isSome=true):=fun ⟨n,v⟩ hy=>by
    rcases S.par n (D1 hy).1 with q | q
    · exact .inl q
    · exact .inr ⟨q,PySem.W.cellsFrom_some _ _ _ (.inl q)⟩
  refine codeAny_call_function hr.depth (KX _ _ lk) rfl S.co S.gen rfl (PySem.W.codeRec_of KX hcd) (hb _ _ _ _ ?_);refine wpAny_newFunctionEnv_cells S.kind hkind fun env he s1 x=>?_;subst he;refine ⟨lim.keeps x.toInCall.keep,codeAny_func ?_⟩;obtain ⟨t,ht,hq⟩:=hbody A outer s H vs Q E (hr.deeper _) hsp;have I:Inv (cxOf CX P w K mg base N qual scope f cdv A outer s H E) [] (start N vs) H s1:=inv_start S hr.hd e0 hl r x;refine AZ (ht [] s1 (start N vs) H _ I hq) (fun fl s' hs=>?_) fun e s' hs=>hs;have fin:∀{σ':St} {H':Hp} {v:V} {u:Value},Inv (cxOf CX P w K mg base N qual scope f cdv A outer s H E) [] σ' H' s'->RelV v u->Q v H'->CE outer P w H s Q u s':=fun {σ' H' v u} J rv q=>⟨v,H',J.os,J.bare,J.base,J.hok,rv,q⟩;cases fl with
  | ret u =>obtain ⟨v,σ',H',J,rv,q⟩:=hs;exact fin J rv q
  | next =>obtain ⟨σ',H',J,q⟩:=hs;exact fin (v:=V.non) (u:=CV) J rfl q
  | brk =>obtain ⟨_,_,_,q⟩:=hs;exact False.elim q
  | cont =>obtain ⟨_,_,_,q⟩:=hs;exact False.elim q
section
variable {id T:String}
def tCB (r:List V->Hp->VK->Prop)(t:TA):TE:=fun σ H Q=>t σ H fun vs H1=>r vs H1 Q
theorem pe_callB (hc:CallR X (.builtin id) r)(hg:Gl X x)(hm:X.mg x=none)(hv:Bq x=some (.builtin id))(ha:PA X (e::es) t)(hn:x≠"__name__":=by decide)(hdb:(x==("__debug__":Str))=false:=by decide)
  (he:Ab (e::es) X.env=(false,Ar e X.env)::Ab es X.env:=by rfl) (hpl:(AG pos (Ab es X.env)).any (·.1)=false:=by rfl):PE X (.Call (.Name x p) (e::es) [] pos) (tCB r t):=by
 intro pins s σ H Q I h;refine Cg (ld_blt I hg hm hv ?_ hn hdb);exact GW (thn (ha pos pins s σ H _ I h) fun us s1 ⟨vs,H1,I1,r1,q1⟩=>hc pins s1 σ H1 vs us Q I1 r1 q1) he hpl
theorem pe_callTy (hc:CallR X (.type T) r)(hg:Gl X x)(hm:X.mg x=none)(hv:Bq x=some (.type T))(ha:PA X (e::es) t)(hn:x≠"__name__":=by decide)(hdb:(x==("__debug__":Str))=false:=by decide)
  (he:Ab (e::es) X.env=(false,Ar e X.env)::Ab es X.env:=by rfl) (hpl:(AG pos (Ab es X.env)).any (·.1)=false:=by rfl):PE X (.Call (.Name x p) (e::es) [] pos) (tCB r t):=by
 intro pins s σ H Q I h;refine Cg (ld_blt I hg hm hv ?_ hn hdb);exact Dx (thn (ha pos pins s σ H _ I h) fun us s1 ⟨vs,H1,I1,r1,q1⟩=>hc pins s1 σ H1 vs us Q I1 r1 q1) he hpl
end
end L2
namespace HT
open PySem PyProof.Rows
variable {prog:Ao}{w:AK}{A:AI}{E:Value->Ac->Prop}{s:Ac}
section
open PySem.SeqAt
open PySem.AutoSeq1 (wpAny_loadPart')
open PySem.MeetsSeq PySem.MeetsSeq2 PySem.MeetsSeq3
def sIx (n d:Nat):Option Int->Nat
 | none=>d
 | some v=>if v<0 then (v+(n:Int)).toNat else min v.toNat n
theorem clip_eq (v:Int)(n d:Nat):(if v<0 then max (v+(n:Int)) 0 else min v (n:Int))=((sIx n d (some v):Nat):Int):=by show (if v<0 then max (v+(n:Int)) 0 else min v (n:Int))=(((if v<0 then (v+(n:Int)).toNat else min v.toNat n):Nat):Int);by_cases hv:v<0;simp only [if_pos hv];omega;simp only [if_neg hv];omega
end
end HT
namespace L2
open PySem PySem.Spec PyProof.Rows
variable {ns:List Int}{X:Cx}{e:Expr}{lo hi:Option Expr}{pos:Pos}{r:V->Option Int->Option Int->Hp->VK->Prop}{n j t':Nat}{i:Int}{α:Type}{pins:List (Addr×Obj)}{σ:St}{H:Hp}{s:Ac}{p:Addr}{xs ys:List V}{its its':List Value}{f:Array Value->Array Value}{r':List V->Hp->VK->Prop}{T:String}{v:Value}{es:List Expr}{name:Str}{prog:Ao}{w:AK}{A:AI}{E:Value->Ac->Prop}
abbrev TO:=St->Hp->(Option Int->Hp->Prop)->Prop
def PO (X:Cx)(e:Option Expr)(t:TO):Prop:=
 ∀(pins:List (Addr×Obj)) (s:Ac) (σ:St) (H:Hp) (Q:Option Int->Hp->Prop),Inv X pins σ H s->t σ H Q->
  An (Ai X.prog X.w) X.A (evalPart e X.env) (fun u s'=>∃o H',Inv X pins σ H' s'/\IsPart u o/\Q o H') X.xe s
def tNoPart:TO:=fun _ H Q=>Q none H
def tPart (t:TE):TO:=fun σ H Q=>t σ H fun x H1=>∃i,x=.int i/\Q (some i) H1
theorem intsAre_of :∀{us:List Value},Vals (ns.map V.int) us->D8 us ns:=by
 induction ns with
 | nil=>intro us r;rw [Gr] at r;cases r;exact .nil
 | cons n ns ih =>
  intro us r;rw [Bt] at r;cases r with
  | cons r1 r2 =>obtain ⟨t,e⟩:=r1;subst e;exact .cons n t (ih r2)
section
variable {te:TE}{tl th:TO}{p2:Pos}
theorem po_none:PO X none tNoPart:=by intro pins s σ H Q I h;rw [Hi];exact AY ⟨none,H,I,.none,h⟩
theorem po_some (h:PE X e te):PO X (some e) (tPart te):=by intro pins s σ H Q I hw;rw [evalPart_some];refine thn (h pins s σ H _ I hw) fun u s1 hz9=>?_;obtain ⟨x,H1,I1,r1,q1⟩:=hz9;obtain ⟨i,rfl,q⟩:=q1;obtain ⟨t,rfl⟩:=r1;exact ⟨some i,H1,I1,.int i t,q⟩
def SlR (X:Cx)(r:V->Option Int->Option Int->Hp->VK->Prop):Prop:=
 ∀(pins:List (Addr×Obj)) (s:Ac) (σ:St) (H:Hp) (x:V) (v vl vu:Value) (lo hi:Option Int) (sl:Addr) (Q:VK),Inv X pins σ H s->RelV x v->s.heap.IsSliceOf sl vl vu .none->IsPart vl lo->IsPart vu hi->r x lo hi H Q->
  ∃T id,B8 (.type T) "__getitem__"=pure (some (.builtin id))/\s.TypeIs v T/\An (Ai X.prog X.w) X.A (Ew v (.ref sl)) (EP X pins σ Q) X.xe s
def tSl (r:V->Option Int->Option Int->Hp->VK->Prop)(te:TE)(tl th:TO):TE:=fun σ H Q=>te σ H fun x H1=>tl σ H1 fun l H2=>th σ H2 fun u H3=>r x l u H3 Q
theorem pe_slice (hr:SlR X r)(he:PE X e te)(hl:PO X lo tl)(hu:PO X hi th):PE X (.Subscript e (.Slice lo hi none p2) pos) (tSl r te tl th):=by intro pins s σ H Q I h;refine Gi (thn (he pins s σ H _ I h) fun v s1 hz9=>?_);obtain ⟨x,H1,I1,r1,q1⟩:=hz9;refine wpAny_Slice (thn (hl pins s1 σ H1 _ I1 q1) fun vl s2 ⟨l,H2,I2,pl,q2⟩=>thn (hu pins s2 σ H2 _ I2 q2) fun vu s3 ⟨u,H3,I3,pu,q3⟩=>?_);rw [Hi];refine AY ?_;have I4:Inv X pins σ H3 {s3 with heap:=s3.heap.push {cls:=.type "slice",data:=.fields #[vl,vu,.none]}}:=I3.kept (t':=s3.toks) fun b ob q=>Al _ q;obtain ⟨T,id,hT,ht,hg⟩:=hr pins {s3 with heap:=s3.heap.push {cls:=.type "slice",data:=.fields #[vl,vu,.none]}} σ H3 x v vl vu l u s3.heap.objs.size Q I4 r1 (Gz ..) pl pu q3;show An (Ai X.prog X.w) X.A (E4 e (.Slice lo hi none p2) v (.ref s3.heap.objs.size)) (EP X pins σ Q) X.xe {s3 with heap:=s3.heap.push {cls:=.type "slice",data:=.fields #[vl,vu,.none]}};exact tail_any (ops:=[.ref s3.heap.objs.size,v]) ht hT hg (by with_unfolding_all rfl)
def cutV (xs:List V)(lo hi:Option Int):List V:=(xs.drop (HT.sIx xs.length 0 lo)).take (HT.sIx xs.length xs.length hi - HT.sIx xs.length 0 lo)
theorem cutV_length (xs:List V)(lo hi:Option Int):(cutV xs lo hi).length<=xs.length:=by unfold cutV;rw [BI,FF];omega
end
def ixN (n:Nat)(i:Int):Option Nat:=if 0<=i then (if i<n then some i.toNat else none) else if -(n:Int)<=i then some (i+n).toNat else none
def atI {α:Type}(xs:List α)(i:Int):Option α:=(ixN xs.length i).bind fun j=>xs[j]?
theorem ixN_seq (h:ixN n i=some j):GD i n=some j/\j<n/\-(n:Int)<=i/\i<n:=by unfold ixN at h;by_cases h0:0<=i;rw [if_pos h0] at h;by_cases h1:i<n;rw [if_pos h1] at h;have e:i.toNat=j:=AH h;exact ⟨by rw [FK h0 h1,e],by omega,by omega,h1⟩;rw [if_neg h1] at h;cases h;rw [if_neg h0] at h;by_cases h1:-(n:Int)<=i;rw [if_pos h1] at h;have e:(i+n).toNat=j:=AH h;exact ⟨by rw [Fo (by omega) h1,e],by omega,h1,by omega⟩;rw [if_neg h1] at h;cases h
theorem atI_get {xs:List α}{v:α}(h:atI xs i=some v):∃j,GD i xs.length=some j/\xs[j]?=some v/\j<xs.length/\-(xs.length:Int)<=i/\i<xs.length:=by
 unfold atI at h;cases e:ixN xs.length i with
 | none=>rw [e] at h;cases h
 | some j =>rw [e] at h;obtain ⟨h1,h2,h3,h4⟩:=ixN_seq e;exact ⟨j,h1,h,h2,h3,h4⟩
def PlainIx (b:Expr):Prop:=∀o i,Ej b false o i=operate [o,i] (Ew o i)
def IxR (X:Cx)(r:R2):Prop:=
 ∀(value slice:Expr) (pins:List (Addr×Obj)) (s:Ac) (σ:St) (H:Hp) (x y:V) (v u:Value) (Q:VK),Inv X pins σ H s->RelV x v->RelV y u->r x y H Q->
  Ej slice false v u=operate [v,u] (Ew v u)->An (Ai X.prog X.w) X.A (E4 value slice v u) (EP X pins σ Q) X.xe s
def MtR (X:Cx)(id:String)(r:V->List V->Hp->VK->Prop):Prop:=
 ∀(pins:List (Addr×Obj)) (s:Ac) (σ:St) (H:Hp) (x:V) (xs:List V) (v:Value) (us:List Value) (Q:VK),Inv X pins σ H s->RelV x v->Vals xs us->r x xs H Q->
  An (Ai X.prog X.w) X.A (call (.builtin id) (v::us)) (EP X pins σ Q) X.xe s
section
variable {a b:Expr}{ta tb:TE}
theorem IxR.or {r r':R2}(h:IxR X r)(h':IxR X r'):IxR X (fun x y H Q=>r x y H Q\/r' x y H Q):=by intro value slice pins s σ H x y v u Q I rx ry q hs;rcases q with q | q;exact h value slice pins s σ H x y v u Q I rx ry q hs;exact h' value slice pins s σ H x y v u Q I rx ry q hs
theorem pe_ix {r:R2}(hr:IxR X r)(ha:PE X a ta)(hb:PE X b tb)(hs:PlainIx b):PE X (.Subscript a b pos) (tOp r ta tb):=by intro pins s σ H Q I h;exact Gi (binT ha hb I h fun v u s2 x y H2 I2 rx ry q=>hr a b pins s2 σ H2 x y v u Q I2 rx ry q (hs _ _))
def rIxL (K:AC):R2:=fun x y H Q=>∃p xs i v,x=.ref p/\y=.int i/\SqL K H p xs/\atI xs i=some v/\Q v H
def rIxT (K:AC):R2:=fun x y H Q=>∃p xs i v,x=.ref p/\y=.int i/\SqT K H p xs/\atI xs i=some v/\Q v H
def rIxS:R2:=fun x y H Q=>∃z i c,x=.str z/\y=.int i/\z.length<=Ah/\atI z.cps.toList i=some c/\Q (.str ⟨#[c]⟩) H
theorem ix_list:IxR X (rIxL X.K):=by
 intro value slice pins s σ H x y v u Q I rx ry h hs;obtain ⟨p,xs,i,z,rfl,rfl,hq,he,q⟩:=h;cases rx;obtain ⟨t,rfl⟩:=ry;obtain ⟨its,r,pl,hz⟩:=I.list hq;obtain ⟨j,h1,h2,h3,h4,h5⟩:=atI_get he;obtain ⟨w,ew,rw'⟩:=r.get h2;have hl:=r.length;have hn:=line63;have fin:EP X pins σ Q w s:=⟨z,H,I,rw',q⟩;by_cases h0:0<=i;have hj:i.toNat=j:=by rw [FK h0 h5] at h1;exact AH h1
 exact item_listR pl.isList h0 (by omega) (by rw [hj];simpa using ew) fin hs;have hj:(i+(its.toArray.size:Int)).toNat=j:=by rw [Fo (by omega) h4] at h1;rw [AL,<- hl];exact AH h1
 exact Fm (x:=w) pl.isList.typeIs Gq.lookup
  (wpAny_getItem_list_neg (Q:=fun r s'=>r=w/\EP X pins σ Q r s') pl.isList (by omega) (by rw [AL]<;>omega) (by omega) (by rw [hj];simpa using ew) ⟨rfl,fin⟩) hs
theorem ix_tup:IxR X (rIxT X.K):=by
 intro value slice pins s σ H x y v u Q I rx ry h hs;obtain ⟨p,xs,i,z,rfl,rfl,hq,he,q⟩:=h;cases rx;obtain ⟨t,rfl⟩:=ry;obtain ⟨its,r,pl,hz⟩:=I.tuple hq;obtain ⟨j,h1,h2,h3,h4,h5⟩:=atI_get he;obtain ⟨w,ew,rw'⟩:=r.get h2;have hl:=r.length;have hn:=line63;have fin:EP X pins σ Q w s:=⟨z,H,I,rw',q⟩;exact Fm (x:=w) pl.typeIs slot_tuple_getitem.lookup
  (getItem_tuple (j:=j) (Q:=fun r s'=>r=w/\EP X pins σ Q r s') pl (by omega) (by omega) (by rw [AL,<- hl];exact h1) (by simpa using ew) ⟨rfl,fin⟩) hs
theorem ix_str:IxR X rIxS:=by
  intro value slice pins s σ H x y v u Q I rx ry h hs;obtain ⟨z,i,c,rfl,rfl,hz,he,q⟩:=h;obtain ⟨t,rfl⟩:=rx;obtain ⟨t',rfl⟩:=ry;obtain ⟨j,h1,h2,h3,h4,h5⟩:=atI_get he;have hl:z.cps.toList.length=z.length:=by simp [Str.length]
  rw [hl] at h1 h4 h5;have hn:=line63;exact tail_any (typeIs_str s z t) slot_str_getitem.lookup (getItem_str (c:=c) (by
    have e1:decide (i < -(2 ^ 63:Int))=false:=decide_eq_false (by omega);have e2:decide (i>=2 ^ 63)=false:=decide_eq_false (by omega);rw [e1,e2,Bool.or_false]) (by rw [h1];simpa using h2) ⟨.str ⟨#[c]⟩,H,I.tok _,⟨_,rfl⟩,q⟩) hs
def rIx (K:AC):R2:=fun x y H Q=>rIxL K x y H Q\/rIxT K x y H Q\/rIxS x y H Q
theorem ix_seq:IxR X (rIx X.K):=ix_list.or (ix_tup.or ix_str)
theorem mapSeq_set (its:List Value)(n j:Nat)(u:Value):DI (·.setIfInBounds j u) {cls:=.type "list",data:=.seq its.toArray n}={cls:=.type "list",data:=.seq (its.set j u).toArray n}:=by simp [DI]
theorem Inv.lst {pins:List (Addr×Obj)}{σ:St}{H:Hp}{s:Ac}{p:Addr}{xs:List V}(I:Inv X pins σ H s)(h:H p=some (.lst xs)) :
  ∃(its:List Value) (n:Nat),Vals xs its/\s.heap.get? p=some {cls:=.type "list",data:=.seq its.toArray n}/\xs.length<=Ah:=by
 obtain ⟨z,its,n,r,e⟩:=I.hok p _ h;exact ⟨its,n,r,e,z⟩
theorem Inv.lstUpd {n':Nat}{f:Obj->Obj}(I:Inv X pins σ H s)(h:H p=some (.lst xs))
  (ho:s.heap.get? p=some {cls:=.type "list",data:=.seq its.toArray n}) (hf:f {cls:=.type "list",data:=.seq its.toArray n}={cls:=.type "list",data:=.seq its'.toArray n'}) (r:Vals ys its') (hz:ys.length<=Ah) (t:Nat) :
  Inv X pins σ (upd H p (.lst ys)) {s with heap:=s.heap.update p f,toks:=t}:=by
 have e:(s.heap.update p f).get? p=some {cls:=.type "list",data:=.seq its'.toArray n'}:=by rw [EO f ho (by rw [hf]<;>rfl),hf]
 refine I.write (x:=p) (e:=p) (by rw [h];trivial) (.inl rfl) (fun b u hb q=>(C1 _ _ (Ne.symm hb)).trans q) ⟨_,e⟩ ?_;exact ⟨hz,its',n',r,e⟩
def rSetL:V->V->V->Hp->(Hp->Prop)->Prop:=fun o i v H Q=>∃p xs k j,o=.ref p/\i=.int k/\H p=some (.lst xs)/\ixN xs.length k=some j/\Q (upd H p (.lst (xs.set j v)))
theorem set_list:PSet X rSetL:=by
 intro pins s σ H o i v ov iv u Q I ro ri rv h;obtain ⟨p,xs,k,j,rfl,rfl,hp,hj,q⟩:=h;cases ro;obtain ⟨t,rfl⟩:=ri;obtain ⟨its,n,r,ho,hz⟩:=I.lst hp;obtain ⟨h1,h2,h3,h4⟩:=ixN_seq hj;have hl:=r.length;have hn:=line63;have I':Inv X pins σ (upd H p (.lst (xs.set j v))) {s with heap:=s.heap.update p (DI (·.setIfInBounds j u))}:=I.lstUpd hp ho (mapSeq_set its n j u) (r.set rv j) (by rw [BG];exact hz) s.toks;by_cases h0:0<=k;have hk:k.toNat=j:=by rw [FK h0 h4] at h1;exact AH h1
 exact PySem.W.ki_setAt ho h0 (by omega) (by rw [AL,<- hl];exact h4) (by rw [hk];exact ⟨_,I',q⟩);have hk:(k+(its.toArray.size:Int)).toNat=j:=by rw [Fo (by omega) h3] at h1;rw [AL,<- hl];exact AH h1
 exact PySem.W.ki_setBack ho (by omega) (by rw [AL,<- hl];exact h3) (by omega) (by rw [hk];exact ⟨_,I',q⟩)
theorem slice_bounds (lo hi:Option Int)(n:Nat):(CB lo hi none n).1=((HT.sIx n 0 lo:Nat):Int)/\(CB lo hi none n).2.1=((HT.sIx n n hi:Nat):Int)/\(CB lo hi none n).2.2=1:=by
 refine ⟨?_,?_,rfl⟩;cases lo with
 | none=>simp [CB,HT.sIx]
 | some i =>simp only [CB,HT.sIx,Ff,show (1:Int) > 0 by decide,if_true];by_cases h:i<0;simp only [h,if_true]<;>omega;simp only [h,if_false]<;>omega
 cases hi with
 | none=>simp [CB,HT.sIx]
 | some i =>simp only [CB,HT.sIx,Ff,show (1:Int) > 0 by decide,if_true];by_cases h:i<0;simp only [h,if_true]<;>omega;simp only [h,if_false]<;>omega
theorem slicePick_cut (its:List Value)(lo hi:Option Int):slicePick its.toArray lo hi none=((its.drop (HT.sIx its.length 0 lo)).take (HT.sIx its.length its.length hi - HT.sIx its.length 0 lo)).toArray:=by obtain ⟨h1,h2,h3⟩:=slice_bounds lo hi its.toArray.size;unfold slicePick;rw [h1,h2,h3];simp only [sliceRange_one,pick_run,AL]<;>rfl
def rSlL (K:AC):V->Option Int->Option Int->Hp->VK->Prop:=fun x lo hi H Q=>∃a xs,x=.ref a/\SqL K H a xs/\∀p,H p=none->Q (.ref p) (upd H p (.lst (cutV xs lo hi)))
theorem sl_list:SlR X (rSlL X.K):=by intro pins s σ H x v vl vu lo hi sl Q I rx hs pl pu h;obtain ⟨a,xs,rfl,hx,q⟩:=h;cases rx;obtain ⟨its,r,ht,hz⟩:=I.list hx;have hlen:=r.length;refine ⟨"list",_,Gq.lookup,ht.isList.typeIs,?_⟩;refine wpAny_getItem_list_slice ht.isList hs pl pu .none (by simp) ?_ (by rw [AL]<;>omega);rw [slicePick_cut,<- hlen];refine ⟨.ref s.heap.objs.size,_,I.laid (t':=s.toks) (o:=.lst (cutV xs lo hi)) (fun b ob q=>Al _ q) (AM _) ?_,rfl,q _ (I.hok.fresh (AM _))⟩;exact ⟨A9 (cutV_length xs lo hi) hz,_,0,(r.drop (HT.sIx xs.length 0 lo)).take (HT.sIx xs.length xs.length hi - HT.sIx xs.length 0 lo),A5 _ rfl⟩
theorem call_len_seq:CallR X (.builtin "len") (fun xs H Q=>∃p ys,xs=[.ref p]/\(SqL X.K H p ys\/SqT X.K H p ys)/\Q (.int ys.length) H):=by intro pins s σ H xs us Q I r h;obtain ⟨p,ys,rfl,hq,q⟩:=h;obtain ⟨u,rfl,rx⟩:=vals1 r;cases rx;have hn:=line63;rcases hq with hq | hq;obtain ⟨its,r',pl,hz⟩:=I.list hq;have hlen:=r'.length;exact Calls.call_len_list pl.isList (by simp only [AL]<;>omega) ⟨.int ys.length,H,I.tok _,⟨s.toks+1,by rw [AL,hlen]⟩,q⟩;obtain ⟨its,r',pl,hz⟩:=I.tuple hq;have hlen:=r'.length;exact len_tuple pl (by simp only [AL]<;>omega) ⟨.int ys.length,H,I.tok _,⟨s.toks+1,by rw [AL,hlen]⟩,q⟩
theorem call_len_str:CallR X (.builtin "len") (fun xs H Q=>∃z,xs=[.str z]/\z.length<=Ah/\Q (.int z.length) H):=by intro pins s σ H xs us Q I r h;obtain ⟨z,rfl,hz,q⟩:=h;obtain ⟨u,rfl,t,rfl⟩:=vals1 r;have hn:=line63;exact len_str (by omega) ⟨.int z.length,H,I.tok _,⟨_,rfl⟩,q⟩
theorem CallR.or {f:Value}{r:List V->Hp->VK->Prop}(h:CallR X f r)(h':CallR X f r'):CallR X f (fun xs H Q=>r xs H Q\/r' xs H Q):=by intro pins s σ H xs us Q I rs q;rcases q with q | q;exact h pins s σ H xs us Q I rs q;exact h' pins s σ H xs us Q I rs q
theorem call_list_of:CallR X (.type "list") (fun xs H Q=>∃p ys,xs=[.ref p]/\(SqL X.K H p ys\/SqT X.K H p ys)/\∀l,H l=none->Q (.ref l) (upd H l (.lst ys))):=by
 intro pins s σ H xs us Q I r h;obtain ⟨p,ys,rfl,hq,q⟩:=h;obtain ⟨u,rfl,rx⟩:=vals1 r;cases rx;have fin:∀(its:List Value),Vals ys its->ys.length<=Ah->∀(h':AR) (c':Nat),(∀b o',s.heap.get? b=some o'->h'.get? b=some o')->
   h'.get? s.heap.objs.size=some {cls:=.type "list",dict:=none,data:=.seq its.toArray c',slots:=#[]}->EP X pins σ Q (.ref s.heap.objs.size) {s with heap:=h'}:=fun its r' hz h' c' kp e =>
  ⟨.ref s.heap.objs.size,_,I.laid (t':=s.toks) kp (AM _) (show ObjOk X.prog X.w _ h' _ (.lst ys) from ⟨hz,its,c',r',e⟩),rfl,q _ (I.hok.fresh (AM _))⟩
 rcases hq with hq | hq;obtain ⟨its,r',pl,hz⟩:=I.list hq;have hlen:=r'.length;obtain ⟨o,ho,hc,n,hd⟩:=pl.isList;exact Hj p (.inl rfl) ho hc hd (fun h' c' kp e=>fin its r' hz h' c' kp e) (by simp only [AL]<;>omega);obtain ⟨its,r',pl,hz⟩:=I.tuple hq;have hlen:=r'.length;obtain ⟨o,ho,hc,n,hd⟩:=pl;exact Hj p (.inr rfl) ho hc hd (fun h' c' kp e=>fin its r' hz h' c' kp e) (by simp only [AL]<;>omega)
def tyV (K:AC)(T:String)(x:V)(H:Hp):Prop:=match x with
 | .str _=>T="str"
 | .int _=>T="int"
 | .ref p=>(T="list"/\∃xs,SqL K H p xs)\/(T="tuple"/\∃o,K.lookup p=some o/\o.cls=.type "tuple"/\o.dict=none)\/
   (T="dict"/\((∃kvs,H p=some (.dK kvs))\/∃kvs,H p=some (.dT kvs)))\/(T="set"/\∃S n,H p=some (.set S n))
 | _=>False
theorem tyV_is {x:V}(I:Inv X pins σ H s)(r:RelV x v)(ty:tyV X.K T x H) :
  s.TypeIs v T/\∀a,v=.ref a->∃ob,s.heap.get? a=some ob/\ob.dict=none:=by
 cases x with
 | str z =>obtain ⟨t,rfl⟩:=r;cases (show T="str" from ty);exact ⟨typeIs_str s z t,fun _ e=>nomatch e⟩
 | int i =>obtain ⟨t,rfl⟩:=r;cases (show T="int" from ty);exact ⟨Ge s i t,fun _ e=>nomatch e⟩
 | ref p =>
  cases r;rcases ty with ⟨rfl,xs,hq⟩ | ⟨rfl,o,hk,hc,hd⟩ | ⟨rfl,hk⟩ | ⟨rfl,S,n,hk⟩;obtain ⟨its,_,pl,_⟩:=I.list hq;refine ⟨pl.isList.typeIs,fun a e=>?_⟩;cases e;obtain ⟨o,n,e,c,hd,_⟩:=pl;exact ⟨o,e,hd⟩;refine ⟨⟨o,I.kIn p o hk,hc⟩,fun a e=>?_⟩;cases e;exact ⟨o,I.kIn _ o hk,hd⟩;have z:∃o,s.heap.get? p=some o/\o.ExactDict:=by rcases hk with ⟨kvs,hk⟩ | ⟨kvs,hk⟩;obtain ⟨_,_,_,_,o,_,_,e,ex,_⟩:=I.hok p _ hk;exact ⟨o,e,ex⟩;obtain ⟨_,_,_,_,o,_,_,e,ex,_⟩:=I.hok p _ hk;exact ⟨o,e,ex⟩
  obtain ⟨o,e,ex⟩:=z;refine ⟨⟨o,e,ex.1⟩,fun a e2=>?_⟩;cases e2;exact ⟨o,e,ex.2.1⟩;obtain ⟨o,_,_,_,e,ex,_⟩:=I.hok p _ hk;refine ⟨⟨o,e,ex.1⟩,fun a e2=>?_⟩;cases e2;exact ⟨o,e,ex.2.1⟩
 | _=>exact False.elim ty
def tBM (K:AC)(T:String)(r:V->List V->Hp->VK->Prop)(to:TE)(t:TA):TE:=fun σ H Q=>to σ H fun x H1=>tyV K T x H1/\t σ H1 fun xs H2=>r x xs H2 Q
variable {o:Expr}{to:TE}{t:TA}{apos cpos:Pos}{id:String}{r:V->List V->Hp->VK->Prop}
theorem pe_bm (pa:PlainAttrs T)(slot:Slot T name id)(hty:typeOf (.builtin id)=pure (.type "method_descriptor"))(hm:MtR X id r)(ho:PE X o to)(ha:PA X (e::es) t)
    (hbase:AS o name X.env (Ar o X.env)=Ar o X.env:=by rfl)
    (hfew:((AG cpos (Ab (e::es) X.env)).all (fun x=>!x.1)&&(BC cpos (AU [] X.env)).all (fun x=>x.1.isSome)
      && decide ((e::es).length+([]:List BO).length+(if ([]:List BO).isEmpty then 0 else 1)<30))=true:=by rfl)
    (hline:(apos.endLine==cpos.line)=true:=by rfl) (hs:Ab (e::es) X.env=(false,Ar e X.env)::Ab es X.env:=by rfl) (hplain:(AG cpos (Ab es X.env)).any (·.1)=false:=by rfl) :
    PE X (.Call (.Attribute o name apos) (e::es) [] cpos) (tBM X.K T r to t):=by
  intro pins s σ H Q I h;refine wpAny_Call_method_late hbase hfew hline rfl (thn (ho pins s σ H _ I h) fun v s1 hz9=>?_);obtain ⟨x,H1,I1,r1,ty,q1⟩:=hz9;obtain ⟨h1,h2⟩:=tyV_is I1 r1 ty;refine ⟨T,id,pa,slot,hty,h1,h2,?_⟩;have hA:=ha cpos pins s1 σ H1 _ I1 q1;rw [hs] at hA ⊢;refine Es (by show (false||(AG cpos (Ab es X.env)).any (·.1))=false;rw [hplain]<;>rfl) (ES ?_);exact thn hA fun us s2 ⟨vs,H2,I2,r2,q2⟩=>hm pins s2 σ H2 x vs v us Q I2 r1 r2 q2
end
def MtM (X:Cx)(id:String)(r:V->List V->Hp->VK->Prop):Prop:=
 ∀(pins:List (Addr×Obj)) (s:Ac) (σ:St) (H:Hp) (x:V) (xs:List V) (v:Value) (us:List Value) (Q:VK),Inv X pins σ H s->RelV x v->Vals xs us->r x xs H Q->
  An (Ai X.prog X.w) X.A (call (.builtin id) (v::us)) (EP X pins σ Q) X.xe s
theorem Vals.one:∀{x:V} {us:List Value},Vals [x] us->∃u,us=[u]/\RelV x u
 | _,_,.cons r .nil=>⟨_,rfl,r⟩
theorem Vals.zero:∀{us:List Value},Vals [] us->us=[]
 | _,.nil=>rfl
theorem Vals.rep {xs:List V}{us:List Value}(h:Vals xs us):∀k:Nat,Vals (Aa k xs).flatten (Aa k us).flatten
 | 0=>.nil
 | k+1=>by rw [A4,A4,Bp,Bp];exact Vals.append h (Vals.rep h k)
theorem foldl_rep (its:List Value):∀(k:Nat) (acc:List Value),
  Fh (fun x1 x2=>x1++x2) acc.toArray (Aa k its.toArray)=(acc++(Aa k its).flatten).toArray
 | 0,acc=>by simp
 | k+1,acc=>by
  have e:acc.toArray++its.toArray=(acc++its).toArray:=by simp
  have e2:(acc++its)++(Aa k its).flatten=acc++(Aa (k+1) its).flatten:=by rw [A4,Bp,CK]
  rw [<- e2,<- foldl_rep its k (acc++its),<- e,A4,List.foldl_cons]
section
variable {l b:Addr}{zs:List V}
theorem Inv.lset (I:Inv X pins σ H s)(hH:H l=some (.lst xs))
  (e:s.heap.get? l=some {cls:=.type "list",data:=.seq its.toArray n}) (hf:f its.toArray=its'.toArray) (hv:Vals ys its') (hz:ys.length<=Ah) :
  Inv X pins σ (upd H l (.lst ys)) {s with heap:=s.heap.update l (DI f),toks:=t'}:=by
 have q:=PySem.IsL.update e f;rw [hf] at q;refine I.write (x:=l) (e:=l) (by rw [hH];exact trivial) (.inl rfl) (fun b' u hb hu=>(C1 s.heap (DI f) (Ne.symm hb)).trans hu) ⟨_,q⟩ ?_;exact ⟨hz,its',_,hv,q⟩
theorem Inv.lnew (I:Inv X pins σ H s)(hv:Vals ys its)(hz:ys.length<=Ah) :
  Inv X pins σ (upd H s.heap.objs.size (.lst ys)) {s with heap:=s.heap.push {cls:=.type "list",data:=.seq its.toArray},toks:=t'}:=
 I.laid (fun _ _ q=>Al _ q) (AM _) ⟨hz,its,0,hv,A5 _ rfl⟩
theorem Inv.fresh (I:Inv X pins σ H s):H s.heap.objs.size=none:=I.hok.fresh (AM _)
theorem Inv.lstM (I:Inv X pins σ H s)(hH:H l=some (.lst xs)):xs.length<=Ah/\∃(its:List Value) (n:Nat),Vals xs its/\xs.length=its.length/\s.heap.get? l=some {cls:=.type "list",data:=.seq its.toArray n}:=by obtain ⟨z,its,n,r,e⟩:=I.hok l _ hH;exact ⟨z,its,n,r,r.length,e⟩
theorem notLongL (h:n<=Ah):Cs n=false:=by unfold Cs;exact decide_eq_false (by omega)
end
def rAppend:V->List V->Hp->VK->Prop:=fun x vs H Q=>∃l xs y,x=.ref l/\vs=[y]/\H l=some (.lst xs)/\xs.length<Ah/\Q .non (upd H l (.lst (xs++[y])))
theorem mt_append:MtM X "list.append" rAppend:=by intro pins s σ H x vs v us Q I rx rv h;obtain ⟨l,xs,y,rfl,rfl,hH,hz,q⟩:=h;cases rx;obtain ⟨u,rfl,ru⟩:=rv.one;obtain ⟨z,its,n,r,hl,e⟩:=I.lstM hH;refine Gh F.slot_list_append ⟨_,e,rfl⟩ F.entry_list_append (F.args_list_append_2 _ _) (PySem.list_append l its.toArray n u (by rw [AL];omega)) ⟨e,?_⟩;refine ⟨.non,_,I.lset (its':=its++[u]) hH e (by simp) (r.append (.cons ru .nil)) ?_,rfl,q⟩;rw [Az,EM];omega
def rCat:R2:=fun x y H Q=>∃l b xs zs,x=.ref l/\y=.ref b/\H l=some (.lst xs)/\H b=some (.lst zs)/\xs.length+zs.length<=Ah/\∀p,H p=none->Q (.ref p) (upd H p (.lst (xs++zs)))
theorem op_cat:OpR X (BX .Add) rCat:=by
 intro pins s σ H x y v u Q I rx ry h;obtain ⟨l,b,xs,zs,rfl,rfl,hH,hB,hz,q⟩:=h;cases rx;cases ry;obtain ⟨z,its,n,r,hl,e⟩:=I.lstM hH;obtain ⟨z2,its2,n2,r2,hl2,e2⟩:=I.lstM hB;refine PySem.P.add_list e e2 ?_ (by rw [AL,AL];omega);have ea:its.toArray++its2.toArray=(its++its2).toArray:=by simp
 rw [ea];exact ⟨.ref _,_,I.lnew (t':=s.toks) (r.append r2) (by rw [Az];omega),rfl,q _ I.fresh⟩
def rRep:R2:=fun x y H Q=>∃l k xs,x=.ref l/\y=.int k/\H l=some (.lst xs)/\-(2 ^ 63)<=k/\k<2 ^ 63/\xs.length*k.toNat<=Ah/\
 ∀p,H p=none->Q (.ref p) (upd H p (.lst (Aa k.toNat xs).flatten))
theorem len_rep (xs:List α)(k:Nat):(Aa k xs).flatten.length=k*xs.length:=by
 induction k with
 | zero=>simp
 | succ k ih=>rw [A4,Bp,Az,ih,GH,EL]
theorem op_rep:OpR X (BX .Mult) rRep:=by
  intro pins s σ H x y v u Q I rx ry h;obtain ⟨l,k,xs,rfl,rfl,hH,h1,h2,hz,q⟩:=h;cases rx;obtain ⟨t,rfl⟩:=ry;obtain ⟨z,its,n,r,hl,e⟩:=I.lstM hH;have hlen:its.toArray.size*k.toNat<=Ah:=by rw [AL,<- hl];exact hz
  have hcap:¬its.toArray.size*k.toNat > (2 ^ 63 - 1) / 8:=by
    have:(Ah:Nat)<=(2 ^ 63 - 1) / 8:=by decide
    omega
  have hfit:¬(!Builtin.List.listFitsIndex k)=true:=by rw [fitsIndex_both h1 h2];exact Aw
  have hlong:¬Cs (its.toArray.size*k.toNat)=true:=by rw [notLongL hlen];exact Aw
  have hnew:Fh (fun x1 x2=>x1++x2) #[] (Aa (if its.toArray.isEmpty=true then 0 else k.toNat) its.toArray)=(Aa k.toNat its).flatten.toArray:=by
    have f0:∀m:Nat,Fh (fun x1 x2=>x1++x2) #[] (Aa m its.toArray)=(Aa m its).flatten.toArray:=fun m=>by have:=foldl_rep its m [];rw [D2] at this;exact this
    rw [f0];cases its with
    | nil=>simp
    | cons a r'=>rw [if_neg (by simp)]
  refine wpAny_binaryOp_repeat_ref (T:="list") (U:="int") (by decide) ⟨_,e,rfl⟩ (fun s'=>Ge s' k t) noFill_list_mul F.fills_int_mul GA repeat_list F.slot_int_index.lookup
    (Gh GA (Ge s k t) F.entry_int_rmul (F.args_int_rmul_2 _ _) (int___rmul___int_list k t l its.toArray n)
      ⟨e,rfl,⟨_,e,rfl⟩,Gh F.slot_list_mul ⟨_,e,rfl⟩ F.entry_list_mul (F.args_list_mul_2 _ _) (Hq l its.toArray n k t hfit hcap hlong) ⟨e,?_⟩⟩)
  rw [hnew];exact ⟨.ref _,_,I.lnew (t':=s.toks) (r.rep k.toNat) (by rw [len_rep,Nat.mul_comm];exact hz),rfl,q _ I.fresh⟩
end L2
namespace Att
open PySem PySem.W PySem.Calls PyProof.Rows
variable {P:Params}{h:AR}{l:OpenLaw}{n:Nat}{args:List WData}{vals:List Value}{q prog:Ao}{loose:List Str}{XP:(Str->Option Value)->AR->Prop}{YP:AK->AR->Prop}{d:DefRec}{w:AK}{A:AI}{E:Value->Ac->Prop}{s:Ac}{K:AC}
theorem ints_of_wellAll :∀(ns:List Int) (vs:List Value),WellAll P h vs (ns.map WData.int)->D8 vs ns:=by
 intro ns
 induction ns with
 | nil =>intro vs w;rw [Gr] at w;cases w;exact .nil
 | cons n ns ih =>
  intro vs w;rw [Bt] at w;cases w with
  | cons a b =>cases a;exact .cons _ _ (ih _ b)
theorem script_of (hn:l.most=some n)
  (hpre:l.row.toRowW.claim.pre args=true) (hwl:WellAll P h vals args) :
  ∃a vs ns,vals=[AB a]/\args=[WData.list (ns.map WData.int)]/\h.get? a=some {cls:=.type "list",data:=.seq vs.toArray}/\D8 vs ns/\ns.length<=n:=by
 have hsh:WShape.hasAll [] args [.list .int]=true:=(pre_splitW hpre).1;have hc:l.pre.holds [] {args:=args}=true:=(pre_splitW hpre).2;obtain ⟨d,r,rfl,h1,h2⟩:=hasAllW_cons hsh;obtain rfl:=hasAllW_nil h2;obtain ⟨xs,rfl,h3⟩:=hasW_list h1;obtain ⟨ns,rfl⟩:=items_int h3;have hlen:ns.length<=n:=by
  unfold OpenLaw.pre at hc;have h4:(WTm.not (.lt (.lit (.int (n:Int))) (.len (.arg 0)))).holds [] {args:=[.list (ns.map .int)]}=true:=by have h4:=(holds_andW hc).1;rw [hn] at h4;exact h4
  have h5:=condW_of h4 (w_not (w_lt w_lit (w_len_list (w_arg rfl))));rw [Ap] at h5;refine Nat.le_of_not_lt fun q=>?_;have q':(n:Int)<((ns.length:Nat):Int):=by omega
  first
   | (rw [decide_eq_true q'] at h5;exact absurd h5 (by decide))
   | (simp at h5;omega)
 cases hwl with
 | cons w1 w2 =>
  cases w2;cases w1 with
  | list ho hall=>exact ⟨_,_,ns,rfl,rfl,ho,ints_of_wellAll ns _ hall,hlen⟩
theorem post_true (l:OpenLaw)(args:List WData):l.row.toRowW.claim.post args (.bool true) args=true:=
 postW_of (r:=l.row.toRowW) (X:=(true==true))
  (show WShape.has [] (.bool true) .bool=true by first | rfl | decide | simp [WShape.has,WShape.arms,WShape.armsAll])
  (show (WTm.eq .res (.lit (.bool true))).value [] {args:=args,res:=some (.bool true),after:=args}=some (.bool (true==true)) from w_eq_bool (w_res rfl) w_lit) rfl
theorem attach_call 
    (hn:l.most=some n) (hdf:d.params.defaults=[])
    (call:∀(w:AK) (s₀ s₁:Ac) (mg mb:Str->Option Value) (fa:Addr) (o:Obj) (pm cd doc:Value) (a:Addr) (vs:List Value) (ns:List Int),
      Ground q loose [] XP w s₀ mg mb s₁.heap->YP w s₁.heap->
      s₁.heap.get? fa=some o->o.data=.func (docDef d.name d.params d.body d.scope pm cd doc)->s₁.heap.CodeRec cd d.name->mg d.name=some (.ref fa)->
      s₁.heap.get? a=some {cls:=.type "list",data:=.seq vs.toArray}->D8 vs ns->ns.length<=n->s₁.gens=#[]->
      Cp (Ai l.prog w) D6 (.call (.ref fa) ⟨[.ref a],[]⟩) (fun r s'=>r=.ok (.ret (.bool true))/\OldK s₁.heap s'.heap/\s'.os=s₁.os/\CL s'.gens) s₁) :
    WalkO q loose XP YP l.row.toRowW d [] (fun f vs=>PySem.call f vs):=by
  intro w s₀ s₁ mg mb G Y fa o pm cd doc dV kV ho hd hcd hD hmg hg args vals as hpre hlay hrd hwl hlo;obtain rfl:dV=.none:=Dflts.none hD hdf;obtain rfl:kV=.none:=Dflts.noKw hD;obtain ⟨a,vs,ns,rfl,rfl,hobj,hints,hlen⟩:=script_of hn hpre hwl;refine enter_call (D5 (call w s₀ s₁ mg mb fa o pm cd doc a vs ns G Y ho (fd_plain hd) hcd hmg hobj hints hlen hg) fun r s' hq=>?_);obtain ⟨rfl,h2,h3,h4⟩:=hq;exact ⟨.inl ⟨.bool true,.bool true,[],rfl,fun _=>rfl,.bool true,post_true l _,fun _=>⟨GL,fun _ hm=>(nomatch hm)⟩⟩,h2,h3,h4⟩
end Att
namespace L2
open PySem PySem.Spec PyProof.Rows
variable {P q:Ao}{w:AK}{K:AC}{mg mb m m':Str->Option Value}{CX:CXT}{a b tg iter elt:Expr}{fd:BD}{x qual name y:Str}{sp:Sp}{s₁ s s2 s₀ s':Ac}{vs bmB:List Value}{ns:List Int}{l f p e C T it:Addr}{loose N ps N2:List Str}{XP:(Str->Option Value)->AR->Prop}{YP:AK->AR->Prop}{d od an dx:Option Addr}{X:Cx}{st s1 b₀:Stmt}{oc u ev fl:Value}{osl:Array (Option Value)}{pos p2 apos cpos pos' px py spos np:Pos}{H H2 H' H₀:Hp}{op:FR}{es as ifs:List Expr}{env:Env}{c:Const}{ks:List BO}{gs:List Comprehension}{sc scope esc:Scope}{j i:Int}{pins pn pins':List (Addr×Obj)}{σ:St}{E E':Value->Ac->Prop}{t:TA}{Q:Unit->Ac->Prop}{g:Int->Int->V}{xs ys:List V}{v:V}{z:Option Value}{lo hi:Option Expr}{te to:TE}{r:List V->Hp->VK->Prop}{x1 tk t':Nat}{body suite:List Stmt}{wi:TI}{A A':AI}{tc:TT}{fp ch own:List Addr}{h' h:AR}{tn:Nat->AR->Prop}{RR:Value->Addr->DG->Ac->Prop}{o oT:Obj}{α:Type}{M:Model}{g':Array CS}{d':F0}{ts:Array Value}{outer:List Env}{newId:String}{tb:XK->TS}
theorem vals_ints:∀{vs:List Value} {ns:List Int},D8 vs ns->Vals (ns.map V.int) vs
 | _,_,.nil=>.nil
 | _,_,.cons n t h=>.cons ⟨t,rfl⟩ (vals_ints h)
def Only (H:Hp):Prop:=∀b,H b=none\/∃o xs,H b=some (.frz o (.lst xs))
theorem law_call {k:Nat}{fa a:Addr}
    (KX:K.In s₁.heap) (hns:s₁.heap.Ns Af mg) (hb:s₁.heap.Ns DY mb) (hbb:∀x:Str,x≠"__name__"->mb x=Bq x) (hlim:s₁.heap.NoLimit) (hg:s₁.gens=#[])
    (ha:s₁.heap.get? a=some {cls:=.type "list",data:=.seq vs.toArray}) (hi:D8 vs ns) (hl:ns.length<=Ah) (hr:Room k D6)
    (F:∀base:AR,K.In base->base.Ns Af mg->FnOk P w K mg base CX k fa fd [x] sp) (hbind:∀(s:Ac) (u:Value),DN s fd ⟨[u],[]⟩ [(x,u)])
    (hsp:∀H:Hp,Only H->SqL K H a (ns.map V.int)->sp [.ref a] H (fun v _=>v=.bl true) fun _ _ _=>False)
    (hCX:∀H e s',CX [] H s₁ (fun _ _ _=>False) e s'->False) :
    Cp (Ai P w) D6 (.call (.ref fa) ⟨[.ref a],[]⟩) (fun r s'=>r=.ok (.ret (.bool true))/\OldK s₁.heap s'.heap/\s'.os=s₁.os/\CL s'.gens) s₁:=by
  have rv:=vals_ints hi;have lenV:=hi.length;have core:∀H:Hp,Only H->SqL K H a (ns.map V.int)->HOk P w H s₁.heap->(∀b,H b≠none->b=a)->(H a≠none->K.lookup a=none)->
      Cp (Ai P w) D6 (.call (.ref fa) ⟨[.ref a],[]⟩) (fun r s'=>r=.ok (.ret (.bool true))/\OldK s₁.heap s'.heap/\s'.os=s₁.os/\CL s'.gens) s₁:=by
    intro H hO hS hok hA hK;have base_of:∀{b:Addr} {o:Obj},s₁.heap.get? b=some o->H b=none->(hidT s₁.heap H).get? b=some o:=fun e n=>hidT_get e n;have noA:∀{b:Addr} {o:Obj} {es:Array GQ} {ep:Nat},s₁.heap.get? b=some o->o.data=.dict es ep->H b=none:=fun {b o es ep} e d=>by
      cases q:H b with
      | none=>rfl
      | some u =>have e':b=a:=hA b (by rw [q];simp);subst e';rw [ha] at e;cases e;have d':Data.seq vs.toArray _=Data.dict es ep:=d;cases d'
    have nsK:∀{b:Addr} {m:Str->Option Value},s₁.heap.Ns b m->(hidT s₁.heap H).Ns b m:=fun {b m} ⟨o,es,ep,e,d,r⟩=>⟨o,es,ep,base_of e (noA e d),d,r⟩;have hKb:K.In (hidT s₁.heap H):=fun b o e=>base_of (KX b o e) (by
      cases q:H b with
      | none=>rfl
      | some u =>
        have e':b=a:=hA b (by rw [q];simp);subst e';rw [hK (by rw [q];simp)] at e;cases e)
    have hM:Mod K mg (hidT s₁.heap H):=⟨hKb,nsK hns,⟨mb,nsK hb,hbb⟩,let ⟨mc,h1,h2⟩:=hlim;⟨mc,nsK h1,h2⟩⟩;have e0:Env0 P w K mg (hidT s₁.heap H) D6 [] s₁ H:=⟨rfl,hM,fun b o e=>of_hidT e,EK (hidT_size _ _),trivial,fun b hb=>absurd (show b∈([]:List Addr) from hb) (by simp),hok,.of_eq hg⟩;refine D5 ((F _ hKb (nsK hns)).run D6 [] s₁ H ⟨[.ref a],[]⟩ [.ref a] [.ref a] _ _ hr e0 (hbind s₁ (.ref a)) (.cons rfl .nil) (hsp H hO hS)) fun r s' h=>?_;cases r with
    | error e=>exact (hCX H e s' h).elim
    | ok fl =>
      cases fl with
      | next=>exact False.elim h
      | brk=>exact False.elim h
      | cont=>exact False.elim h
      | ret u =>
        obtain ⟨v,H',os,bare,un,hok',r',q⟩:=h;have q':v=.bl true:=q;subst q';obtain rfl:u=Dw true:=r';refine ⟨rfl,OldK.of_keep fun b o e=>?_,os,bare⟩;cases q:H b with
        | none=>exact un.keep b o e q (by intro z;exact absurd (show b∈([]:List Addr) from z) (by simp)) (by simp)
        | some u =>
          rcases hO b with z | ⟨ob,xs,z⟩
          · rw [q] at z;cases z
          · have z2:=un.frzs b ob _ z;obtain ⟨e1,_⟩:=hok b _ z;obtain ⟨e2,_⟩:=hok' b _ z2;rw [e] at e1;cases e1;exact e2
  cases hk:K.lookup a with
  | some o =>have e:=KX a o hk;rw [ha] at e;cases e;refine core (fun _=>none) (fun _=>.inl rfl) (.inr ⟨_,vs.toArray,_,hk,rfl,rfl,rfl,by rw [AL,lenV];exact hl,by simpa using rv⟩) (fun b u z=>by have z':(none:Option HO)=some u:=z;cases z') (fun b z=>absurd rfl z) fun z=>absurd rfl z
  | none =>
    refine core (fun b=>if b=a then some (.frz {cls:=.type "list",data:=.seq vs.toArray} (.lst (ns.map V.int))) else none) (fun b=>?_) (.inl (.inr ⟨{cls:=.type "list",data:=.seq vs.toArray},if_pos rfl⟩)) (fun b u z=>?_) (fun b z=>?_) fun _=>hk
    · by_cases hb:b=a
      · exact .inr ⟨_,_,if_pos hb⟩
      · exact .inl (if_neg hb)
    · by_cases hb:b=a
      · have z':=(if_pos hb).symm.trans z;cases z';subst hb;exact ⟨ha,by rw [Ap];exact hl,vs,_,rv,ha⟩
      · have z':=(if_neg hb).symm.trans z;cases z'
    · by_cases hb:b=a
      · exact hb
      · exact absurd (if_neg hb) z
abbrev KOf {K:AC}{h:AR}(_:K.In h):AC:=K
theorem walk_of {l:PySem.W.OpenLaw}{n k:Nat}{d:DefRec}{K:Params->AC}{CX:AK->CXT}{sp:AK->Sp}
    (hn:l.most=some n) (hn2:n<=Ah) (hdf:d.params.defaults=[]) (hr:Room k D6)
    (hY:∀(w:AK) (h:AR),YP w h->(K w.params).In h)
    (F:∀(w:AK) (mg:Str->Option Value) (fa:Addr) (h:AR),(K w.params).In h->h.Ns Af mg->mg d.name=some (.ref fa)->
      ∃fd:BD,(∀(s:Ac) (u:Value),DN s fd ⟨[u],[]⟩ [(x,u)])/\
        ∀base:AR,(K w.params).In base->base.Ns Af mg->FnOk l.prog w (K w.params) mg base (CX w) k fa fd [x] (sp w))
    (hsp:∀(w:AK) (H:Hp) (a:Addr) (ns:List Int),ns.length<=n->Only H->SqL (K w.params) H a (ns.map V.int)->sp w [.ref a] H (fun v _=>v=.bl true) fun _ _ _=>False)
    (hCX:∀(w:AK) (H:Hp) (s:Ac) (e:Value) (s':Ac),CX w [] H s (fun _ _ _=>False) e s'->False) :
    PySem.W.WalkO q loose XP YP l.row.toRowW d [] (fun f vs=>PySem.call f vs):=by
  refine Att.attach_call hn hdf fun w s₀ s₁ mg mb fa o pm cd doc a vs ns G Y ho hd hcd hmg hobj hints hlen hg=>?_;have KX:=hY w _ Y;obtain ⟨fd,hb,hF⟩:=F w mg fa _ KX G.T.g hmg;exact law_call KX G.T.g G.T.b G.T.builtins G.T.nolimit hg hobj hints (A9 hlen hn2) hr hF hb (fun H hO hS=>hsp w H a ns hlen hO hS) fun H e s'=>hCX w H s₁ e s'
def inClass (s:Stmt)(j:Nat):Stmt:=match s with
 | .ClassDef _ _ _ body _ _ _ _ _ _ _=>body.getD j (.Pass ⟨0,0,0,0⟩)
 | _=>.Pass ⟨0,0,0,0⟩
def defArgs (s:Stmt):DO:=match s with
 | .FunctionDef _ a _ _ _ _ _ _ _ _=>a
 | _=>{posonlyargs:=[],args:=[],vararg:=none,kwonlyargs:=[],kw_defaults:=[],kwarg:=none,defaults:=[]}
def defBody (s:Stmt):List Stmt:=match s with
 | .FunctionDef _ _ b _ _ _ _ _ _ _=>b
 | _=>[]
def defScope (s:Stmt):Scope:=match s with
 | .FunctionDef _ _ _ _ _ _ sc _ _ _=>sc
 | _=>{kind:=.function,names:=[],isGenerator:=false,isCoroutine:=false}
abbrev CX0:CXT:=fun _ _ _ _ _ _=>False
abbrev E0:XK:=fun _ _ _=>False
theorem pass0 :Passes CX0 X E0:=fun _ _ _ _ _ _ _ h=>h.elim
structure Fun (K:AC)(x qual:Str)(st:Stmt)(f:Addr)(fd:BD):Prop where
 ex:∃(oc:Value) (od:Option Addr) (kV doc pm:Value) (an:Option Addr) (cdv ct:Value) (osl:Array (Option Value)),
  fd=Fs x qual (defArgs st) (defBody st) (defScope st) .none kV doc pm an cdv ct/\K.lookup f=some ⟨oc,od,.func fd,osl⟩/\DX K cdv qual=true
 kp:CI K (.ref f)=true
section
variable {base:AR}
theorem Fun.ok {k:Nat}(F:Fun K x qual st f fd)(S:FnScope N ps (defScope st))(len:∀vs H Q E,sp vs H Q E->vs.length=ps.length)
    (hbody:∀(cdv:Value) (A:AI) (outer:List Env) (s:Ac) (H:Hp) (vs:List V) (Q:VK) (E:XK),Room k (A.deeper (Cv qual (defScope st) s.heap.objs.size f cdv))->sp vs H Q E->
      ∃t,PSs (cxOf CX0 P w K mg base N qual (defScope st) f cdv A outer s H E).nox (defBody st) t/\t {nx:=fun _ H'=>Q .non H',rt:=Q} (start N vs) H):FnOk P w K mg base CX0 (k+1) f fd ps sp:=by
  obtain ⟨oc,od,kV,doc,pm,an,cdv,ct,osl,rfl,lk,hcd⟩:=F.ex;refine fn_of lk hcd S len fun A outer s H vs Q E hr hsp=>?_;obtain ⟨t,h,q⟩:=hbody cdv A outer s H vs Q E hr hsp;exact ⟨t,h.nox,q⟩
theorem Fun.binds (F:Fun K x qual st f fd)
  (h:∀(kV doc pm:Value) (an:Option Addr) (cdv ct:Value) (us:List Value),us.length=ps.length->G7 (Fs x qual (defArgs st) (defBody st) (defScope st) .none kV doc pm an cdv ct) ⟨us,[]⟩=pure (ps.zip us)):Binds K fd ps []:=by
 obtain ⟨oc,od,kV,doc,pm,an,cdv,ct,osl,rfl,lk,hcd⟩:=F.ex;exact .all (h kV doc pm an cdv ct)
theorem fun_mk {kV doc pm cdv ct:Value}(l:K.lookup f=some ⟨oc,od,.func (Fs x qual (defArgs st) (defBody st) (defScope st) .none kV doc pm an cdv ct),osl⟩)
  (c:DX K cdv qual=true) (k:CI K (.ref f)=true):Fun K x qual st f (Fs x qual (defArgs st) (defBody st) (defScope st) .none kV doc pm an cdv ct):=⟨⟨oc,od,kV,doc,pm,an,cdv,ct,osl,rfl,l,c⟩,k⟩
theorem pv (i:Nat)(hN:X.N[i]?=some x:=by rfl)(hv:autoParam (Vis X.env.scope x) aT3._auto_1)(hd:(x==("__debug__":Str))=false:=by decide)
  (hcd:(x==("__classdict__":Str))=false:=by decide):PE X (.Name x pos) (tVar i):=pe_var hN hv hd hcd
end
def Same (H H':Hp):Prop:=∀b o,H b=some o->H' b=some o
theorem Same.refl (H:Hp):Same H H:=fun _ _ h=>h
theorem Same.trans {H1:Hp}(a:Same H H1)(b:Same H1 H2):Same H H2:=fun c o h=>b c o (a c o h)
theorem Same.free (e:Same H H')(h:H' l=Be):H l=Be:=by
 cases q:H l with
 | none=>rfl
 | some o =>rw [e l o q] at h;cases h
theorem star_bin :Ab (.BinOp a op b pos::es) env=(false,Ar (.BinOp a op b pos) env)::Ab es env:=rfl
theorem star_const {k:Nat}:Ab (.Constant c k pos::es) env=(false,Ar (.Constant c k pos) env)::Ab es env:=rfl
theorem star_name :Ab (.Name x pos::es) env=(false,Ar (.Name x pos) env)::Ab es env:=rfl
theorem star_sub :Ab (.Subscript a b pos::es) env=(false,Ar (.Subscript a b pos) env)::Ab es env:=rfl
theorem star_call :Ab (.Call a as ks pos::es) env=(false,Ar (.Call a as ks pos) env)::Ab es env:=rfl
theorem star_list :Ab (.List as pos::es) env=(false,Ar (.List as pos) env)::Ab es env:=rfl
theorem star_tup {k:Nat}:Ab (.Tuple as k pos::es) env=(false,Ar (.Tuple as k pos) env)::Ab es env:=rfl
theorem star_un {op:UnaryOp}:Ab (.UnaryOp op a pos::es) env=(false,Ar (.UnaryOp op a pos) env)::Ab es env:=rfl
theorem star_attr :Ab (.Attribute a x pos::es) env=(false,Ar (.Attribute a x pos) env)::Ab es env:=rfl
theorem star_comp :Ab (.ListComp a gs sc pos::es) env=(false,Ar (.ListComp a gs sc pos) env)::Ab es env:=rfl
theorem plain_sub :PlainIx (.Subscript a b pos):=fun _ _=>rfl
theorem plain_name :PlainIx (.Name x pos):=fun _ _=>rfl
theorem plain_const {k:Nat}:PlainIx (.Constant c k pos):=fun _ _=>rfl
theorem plain_bin :PlainIx (.BinOp a op b pos):=fun _ _=>rfl
def rAddA:R2:=fun x y H Q=>rI0 (fun i j=>.int (i+j)) x y H Q\/(∃i j,x=.str i/\y=.str j/\i.length+j.length<=Ah/\Q (.str (i++j)) H)\/rCat x y H Q
def rMulA:R2:=fun x y H Q=>rI CMul (fun i j=>.int (i*j)) x y H Q\/rRep x y H Q
def CDivL (_ j:Int):Prop:=0<j/\j<2 ^ 200
theorem op_addA:OpR X (BX .Add) rAddA:=op_add.or (op_add_str.or op_cat)
theorem op_mulA:OpR X (BX .Mult) rMulA:=op_mul.or op_rep
theorem log2_small (h1:0<j)(h2:j<2 ^ 200):j.natAbs.log2<9000:=by
 have h3:j.natAbs<2 ^ 200:=by omega
 exact GJ ((G4 (by omega)).mpr h3) (by decide)
theorem op_fdivL:OpR X (BX .FloorDiv) (rI CDivL fun i j=>.int (i / j)):=opI fun i j _ _ _ _ _ hc q=>by have h1:(0:Int)<j:=hc.1;have h2:j<2 ^ 200:=hc.2;exact floordiv_int (by omega) (by rw [Int.fdiv_eq_ediv_of_nonneg i (by omega)];exact q) (.inl (PyProof.noPylong_of_log2 (log2_small h1 h2)))
mutual
inductive Dn (K:AC)(H:Hp):V->DH->Prop
 | non:Dn K H .non .none
 | bl (b:Bool):Dn K H (.bl b) (.bool b)
 | int (i:Int):Dn K H (.int i) (.int i)
 | str (x:Str):Dn K H (.str x) (.str x)
 | lst {a:Addr} {xs:List V} {ds:List DH}:SqL K H a xs->DnA K H xs ds->Dn K H (.ref a) (.list ds)
 | tup {a:Addr} {xs:List V} {ds:List DH}:SqT K H a xs->DnA K H xs ds->Dn K H (.ref a) (.tuple ds)
inductive DnA (K:AC)(H:Hp):List V->List DH->Prop
 | nil:DnA K H [] []
 | cons {x:V} {d:DH} {xs:List V} {ds:List DH}:Dn K H x d->DnA K H xs ds->DnA K H (x::xs) (d::ds)
end
mutual
theorem Dn.reads (I:Inv X pins σ H s):∀{x:V} {d:DH} {u:Value},Dn X.K H x d->RelV x u->∃as,Reads s.heap u d as
 | _,_,_,.non,r=>by cases (show _=CV from r);exact ⟨_,.none⟩
 | _,_,_,.bl b,r=>by cases (show _=Dw b from r);exact ⟨_,.bool b⟩
 | _,_,_,.int i,r=>by obtain ⟨t,q⟩:=(show ∃t,_=Ci i t from r);cases q;exact ⟨_,.int i t⟩
 | _,_,_,.str x,r=>by obtain ⟨t,q⟩:=(show ∃t,_=De x t from r);cases q;exact ⟨_,.str x t⟩
 | _,_,_,.lst (a:=a) h ra,r=>by cases (show _=AB a from r);obtain ⟨its,rv,pl,_⟩:=I.list h;obtain ⟨as,q⟩:=DnA.reads I ra rv;obtain ⟨o,ho,hc,n,hd⟩:=pl.isList;exact ⟨_,.list ho hc hd q⟩
 | _,_,_,.tup (a:=a) h ra,r=>by cases (show _=AB a from r);obtain ⟨its,rv,pl,_⟩:=I.tuple h;obtain ⟨as,q⟩:=DnA.reads I ra rv;obtain ⟨o,ho,hc,n,hd⟩:=pl;exact ⟨_,.tuple ho hc hd q⟩
theorem DnA.reads (I:Inv X pins σ H s):∀{xs:List V} {ds:List DH} {us:List Value},DnA X.K H xs ds->Vals xs us->∃as,ReadsAll s.heap us ds as
 | _,_,_,.nil,.nil=>⟨_,.nil⟩
 | _,_,_,.cons h ra,.cons r rs=>by obtain ⟨as,q⟩:=Dn.reads I h r;obtain ⟨bs,q'⟩:=DnA.reads I ra rs;exact ⟨_,.cons q q'⟩
end
def rEqD (K:AC):R2:=fun x y H Q=>∃dx dy,Dn K H x dx/\Dn K H y dy/\B4 dx=true/\B4 dy=true/\Q (.bl (EU dx dy)) H
def rNeD (K:AC):R2:=fun x y H Q=>∃dx dy,Dn K H x dx/\Dn K H y dy/\B4 dx=true/\B4 dy=true/\Q (.bl (!PyData.eqv dx dy)) H
def rEqA (K:AC):R2:=fun x y H Q=>rEq x y H Q\/rEqD K x y H Q
def rNeA (K:AC):R2:=fun x y H Q=>rNe x y H Q\/rNeD K x y H Q
theorem op_eqD (hu:X.A.units+64<Bf):OpR X (BH .Eq) (rEqD X.K):=by intro pins s σ H x y v u Q I rx ry h;obtain ⟨dx,dy,h1,h2,s1,s2,q⟩:=h;obtain ⟨as,ra⟩:=h1.reads I rx;obtain ⟨bs,rb⟩:=h2.reads I ry;exact eq_dataH ra rb s1 s2 hu ⟨.bl _,H,I,rfl,q⟩
theorem op_neD (hu:X.A.units+64<Bf):OpR X (BH .NotEq) (rNeD X.K):=by intro pins s σ H x y v u Q I rx ry h;obtain ⟨dx,dy,h1,h2,s1,s2,q⟩:=h;obtain ⟨as,ra⟩:=h1.reads I rx;obtain ⟨bs,rb⟩:=h2.reads I ry;exact ne_dataH ra rb s1 s2 hu ⟨.bl _,H,I,rfl,q⟩
theorem op_eqA (hu:X.A.units+64<Bf):OpR X (BH .Eq) (rEqA X.K):=op_eq.or (op_eqD hu)
theorem op_neA (hu:X.A.units+64<Bf):OpR X (BH .NotEq) (rNeA X.K):=op_ne.or (op_neD hu)
def rLenA (K:AC):List V->Hp->VK->Prop:=fun xs H Q=>(∃p ys,xs=[.ref p]/\(SqL K H p ys\/SqT K H p ys)/\Q (.int ys.length) H)\/∃z,xs=[.str z]/\z.length<=Ah/\Q (.int z.length) H
def rSum (K:AC):List V->Hp->VK->Prop:=fun xs H Q=>∃(p:Addr) (ns:List Int),xs=[.ref p]/\SqL K H p (ns.map V.int)/\Q (.int ns.sum) H
def rIsI (K:AC):List V->Hp->VK->Prop:=fun xs H Q=>∃x c t b,xs=[x,.ty c]/\TyOf K H x t/\DC K t (.type c)=some b/\Q (.bl b) H
def rRange:List V->Hp->VK->Prop:=fun xs H Q=>(∃j,xs=[.int j]/\∀p,H p=none->Q (.ref p) (upd H p (.rng 0 j)))\/∃i j,xs=[.int i,.int j]/\∀p,H p=none->Q (.ref p) (upd H p (.rng i j))
def rngV (lo:Int)(n:Nat):List V:=(AW n).map fun (k:Nat)=>V.int (lo+(k:Int))
def rList (K:AC):List V->Hp->VK->Prop:=fun xs H Q=>(∃p ys,xs=[.ref p]/\(SqL K H p ys\/SqT K H p ys)/\∀l,H l=none->Q (.ref l) (upd H l (.lst ys)))\/
 ∃p i j,xs=[.ref p]/\H p=some (.rng i j)/\-(2 ^ 62)<=i/\i<2 ^ 62/\-(2 ^ 62)<=j/\j<2 ^ 62/\(j - i).toNat<=1000000/\∀l,H l=none->Q (.ref l) (upd H l (.lst (rngV i (j - i).toNat)))
theorem call_lenA:CallR X (.builtin "len") (rLenA X.K):=call_len_seq.or call_len_str
theorem call_sum (hc:X.calm=true):CallR X (.builtin "sum") (rSum X.K):=by
 intro pins s σ H xs us Q I r h;obtain ⟨p,ns,rfl,hq,q⟩:=h;obtain ⟨u,rfl,rx⟩:=vals1 r;cases rx;obtain ⟨its,rv,pl,hz⟩:=I.list hq;have hi:D8 its ns:=intsAre_of rv;obtain ⟨xs,hxs⟩:=hi.allInts.items;have hn:numsOf its.toArray.toList=ns:=by rw [show its.toArray.toList=its from rfl,hi.numsOf]
 have hl:=pl.isList;rw [hxs] at hl hn;rw [nums_intItems] at hn;refine sum_intListG (I.ok.hd hc) hl fun h' tk t' hk=>⟨.int ns.sum,H,I.kept hk,⟨t',?_⟩,q⟩;rw [preSum_eq,Cf (by simp),hn]
theorem call_isinst:CallR X (.builtin "isinstance") (rIsI X.K):=by intro pins s σ H xs us Q I r h;obtain ⟨x,c,t,b,rfl,ty,e,q⟩:=h;obtain ⟨u,w',rfl,rx,ry⟩:=vals2 r;cases (show w'=Dv c from ry);exact isinst_ok I rx ty e fun tk=>⟨.bl b,H,I.tok _,rfl,q⟩
theorem call_range:CallR X (.type "range") rRange:=by intro pins s σ H xs us Q I r h;rcases h with ⟨j,rfl,q⟩ | ⟨i,j,rfl,q⟩;obtain ⟨u,rfl,t,rfl⟩:=vals1 r;refine call_range_1 ⟨.ref s.heap.objs.size,_,I.laid (o:=.rng 0 j) (fun b o e=>Al _ e) (AM _) ?_,rfl,q _ I.fresh⟩;exact ⟨_,_,_,A5 _ rfl⟩;obtain ⟨u,w',rfl,⟨t,rfl⟩,⟨t',rfl⟩⟩:=vals2 r;refine call_range_2 ⟨.ref s.heap.objs.size,_,I.laid (o:=.rng i j) (fun b o e=>Al _ e) (AM _) ?_,rfl,q _ I.fresh⟩;exact ⟨_,_,_,A5 _ rfl⟩
theorem call_list_rng (hc:X.calm=true):CallR X (.type "list") (fun xs H Q=>∃p i j,xs=[.ref p]/\H p=some (.rng i j)/\-(2 ^ 62)<=i/\i<2 ^ 62/\-(2 ^ 62)<=j/\j<2 ^ 62/\(j - i).toNat<=1000000/\
    ∀l,H l=none->Q (.ref l) (upd H l (.lst (rngV i (j - i).toNat)))):=by
  intro pins s σ H xs us Q I r h;obtain ⟨p,i,j,rfl,hH,h1,h2,h3,h4,h5,q⟩:=h;obtain ⟨u,rfl,rx⟩:=vals1 r;cases rx;obtain ⟨t,u,v,e⟩:=I.hok p _ hH;have en:DM i j 1=(((j - i).toNat:Nat):Int):=by rw [Hf];split<;>omega
  refine call_list_range (n:=(j - i).toNat) (I.ok.hd hc) e (small_one h1 h2 h3 h4) en (A9 h5 (by decide)) fun h' tk acc' c' hk hg hit=>?_;refine ⟨.ref s.heap.objs.size,_,I.laid (t':=tk) hk (AM _) (show ObjOk X.prog X.w _ h' _ (.lst (rngV i (j - i).toNat)) from ⟨?_,acc'.toList,c',?_,?_⟩),rfl,q _ I.fresh⟩;unfold rngV;rw [Ap,CJ];exact A9 h5 (by decide);obtain ⟨hsz,hv⟩:=hit;have key:∀(k:Nat) (l:List Value) (lo:Int),l.length=k->(∀(m:Nat) (v:Value),l[m]?=some v->∃t,v=Ci (lo+(m:Int)) t)->Vals (rngV lo k) l:=by
    intro k
    induction k with
    | zero =>intro l lo hl _;rw [List.length_eq_zero_iff.mp hl];exact .nil
    | succ k ih =>
      intro l lo hl hv;cases l with
      | nil=>simp at hl
      | cons x l =>
        obtain ⟨t,e⟩:=hv 0 x (by simp);have er:rngV lo (k+1)=V.int lo::rngV (lo+1) k:=by unfold rngV;rw [List.range_succ_eq_map,Bt,Et];congr 1;simp;apply Dt;intro m _;show V.int (lo+((m+1:Nat):Int))=V.int (lo+1+(m:Int));congr 1;omega
        rw [er];refine .cons ⟨t,?_⟩ (ih l (lo+1) (by simpa using hl) fun m v hm=>?_);rw [e];congr 1;simp;obtain ⟨t',e'⟩:=hv (m+1) v (by simpa using hm);refine ⟨t',?_⟩;rw [e'];congr 1;omega
  refine key _ _ i (by simpa using hsz) fun m v hm=>?_;obtain ⟨t,e⟩:=hv m v (by simpa using hm);exact ⟨t,by rw [e];congr 1;omega⟩;simpa using hg
theorem call_listA (hc:X.calm=true):CallR X (.type "list") (rList X.K):=call_list_of.or (call_list_rng hc)
structure Def (P:Ao)(w:AK)(K:AC)(mg:Str->Option Value)(base:AR)(CX:CXT)(k:Nat)(x:Str)(ps:List Str)(sp:Sp):Prop where
 ex:∃f fd,mg x=some (.ref f)/\CI K (.ref f)=true/\Binds K fd ps []/\FnOk P w K mg base CX k f fd ps sp
theorem pe_callD {k:Nat}{E:XK}{p:Pos}{e:Expr}(D:Def X.prog X.w X.K X.mg X.base CX k x ps sp)(hr:Room k X.A)(hg:Gl X x)(hx:Passes CX X E)
  (ha:PA X (e::es) t) (hdb:(x==("__debug__":Str))=false:=by decide) (he:Ab (e::es) X.env=(false,Ar e X.env)::Ab es X.env:=by rfl) (hpl:(AG pos (Ab es X.env)).any (·.1)=false:=by rfl) :
  PE X (.Call (.Name x p) (e::es) [] pos) (tCall sp [] E t):=by
 obtain ⟨f,fd,m,kp,b,F⟩:=D.ex;exact pe_call F hr hg m kp b .nil hx ha hdb he hpl
section
variable {Q:VK}{D:Ends}
theorem rd_I {C:Int->Int->Prop}(c:C i j)(q:Q (g i j) H):rI C g (.int i) (.int j) H Q:=⟨i,j,rfl,rfl,c,q⟩
theorem rd_I0 (q:Q (g i j) H):rI0 g (.int i) (.int j) H Q:=⟨i,j,rfl,rfl,q⟩
theorem rd_U {g:Int->V}(q:Q (g i) H):rU g (.int i) H Q:=⟨i,rfl,q⟩
theorem rd_add (q:Q (.int (i+j)) H):rAddA (.int i) (.int j) H Q:=.inl ⟨i,j,rfl,rfl,q⟩
theorem rd_mul (c:CMul i j)(q:Q (.int (i*j)) H):rMulA (.int i) (.int j) H Q:=.inl ⟨i,j,rfl,rfl,c,q⟩
theorem rd_call {E:XK}(q:t σ H fun vs H1=>sp vs H1 Q E):tCall sp [] E t σ H Q:=by
 show t σ H fun vs H1=>sp (vs++[]) H1 Q E;have e:(fun vs H1=>sp (vs++[]) H1 Q E)=fun vs H1=>sp vs H1 Q E:=by funext vs H1;rw [BN]
 rw [e];exact q
theorem rd_ixL (h:SqL K H p xs)(e:atI xs i=some v)(q:Q v H):rIx K (.ref p) (.int i) H Q:=.inl ⟨p,xs,i,v,rfl,rfl,h,e,q⟩
theorem rd_ixT (h:SqT K H p xs)(e:atI xs i=some v)(q:Q v H):rIx K (.ref p) (.int i) H Q:=.inr (.inl ⟨p,xs,i,v,rfl,rfl,h,e,q⟩)
theorem rd_lenL (h:SqL K H p ys)(q:Q (.int ys.length) H):rLenA K [.ref p] H Q:=.inl ⟨p,ys,rfl,.inl h,q⟩
theorem rd_lenT (h:SqT K H p ys)(q:Q (.int ys.length) H):rLenA K [.ref p] H Q:=.inl ⟨p,ys,rfl,.inr h,q⟩
theorem rd_lenS {z:Str}(h:z.length<=Ah)(q:Q (.int z.length) H):rLenA K [.str z] H Q:=.inr ⟨z,rfl,h,q⟩
theorem rd_app {y:V}(h:H l=some (.lst xs))(hz:xs.length<Ah)(q:Q .non (upd H l (.lst (xs++[y])))):rAppend (.ref l) [y] H Q:=⟨l,xs,y,rfl,rfl,h,hz,q⟩
theorem rd_slL {a:Addr}{lo hi:Option Int}(h:SqL K H a xs)(q:∀p,H p=none->Q (.ref p) (upd H p (.lst (cutV xs lo hi)))):rSlL K (.ref a) lo hi H Q:=⟨a,xs,rfl,h,q⟩
theorem rd_cat {a b:Addr}{zs:List V}(h1:H a=some (.lst xs))(h2:H b=some (.lst zs))(hz:xs.length+zs.length<=Ah)(q:∀p,H p=none->Q (.ref p) (upd H p (.lst (xs++zs)))):rAddA (.ref a) (.ref b) H Q:=.inr (.inr ⟨a,b,xs,zs,rfl,rfl,h1,h2,hz,q⟩)
theorem rd_rep {k:Int}(h:H l=some (.lst xs))(h1:-(2 ^ 63)<=k)(h2:k<2 ^ 63)(hz:xs.length*k.toNat<=Ah)(q:∀p,H p=none->Q (.ref p) (upd H p (.lst (Aa k.toNat xs).flatten))):rMulA (.ref l) (.int k) H Q:=.inr ⟨l,k,xs,rfl,rfl,h,h1,h2,hz,q⟩
theorem rd_sum (h:SqL K H p (ns.map V.int))(q:Q (.int ns.sum) H):rSum K [.ref p] H Q:=⟨p,ns,rfl,h,q⟩
theorem rd_isI {x:V}{c:String}{t:Value}{b:Bool}(h:TyOf K H x t)(e:DC K t (.type c)=some b)(q:Q (.bl b) H):rIsI K [x,.ty c] H Q:=⟨x,c,t,b,rfl,h,e,q⟩
theorem rd_listL (h:SqL K H p ys)(q:∀l,H l=none->Q (.ref l) (upd H l (.lst ys))):rList K [.ref p] H Q:=.inl ⟨p,ys,rfl,.inl h,q⟩
theorem rd_listR (h:H p=some (.rng i j))(h1:-(2 ^ 62)<=i)(h2:i<2 ^ 62)(h3:-(2 ^ 62)<=j)(h4:j<2 ^ 62)(h5:(j - i).toNat<=1000000)(q:∀l,H l=none->Q (.ref l) (upd H l (.lst (rngV i (j - i).toNat)))):rList K [.ref p] H Q:=.inr ⟨p,i,j,rfl,h,h1,h2,h3,h4,h5,q⟩
theorem rd_range2 (q:∀p,H p=none->Q (.ref p) (upd H p (.rng i j))):rRange [.int i,.int j] H Q:=.inr ⟨i,j,rfl,q⟩
theorem rd_range1 (q:∀p,H p=none->Q (.ref p) (upd H p (.rng 0 j))):rRange [.int j] H Q:=.inl ⟨j,rfl,q⟩
end
structure QE (X:Cx)(e:Expr)(t:TE):Prop where
 out:PE X e t
structure QT (X:Cx)(e:Expr)(t:TT):Prop where
 out:PT X e t
structure QW (X:Cx)(e:Expr)(t:TT):Prop where
 out:PW X e t
structure QA (X:Cx)(es:List Expr)(t:TA):Prop where
 out:PA X es t
structure QO (X:Cx)(e:Option Expr)(t:TO):Prop where
 out:PO X e t
structure QG (X:Cx)(e:Expr)(t:TG):Prop where
 out:PG X e t
structure QGs (X:Cx)(es:List Expr)(t:TGs):Prop where
 out:PGs X es t
structure QI (X:Cx)(tg iter:Expr)(wi:TI):Prop where
 out:PI X tg iter wi
structure QS (X:Cx)(st:Stmt)(t:TS):Prop where
 out:PS X st t
structure QSs (X:Cx)(st:List Stmt)(t:TS):Prop where
 out:PSs X st t
section
variable {c e st o:Expr}{rest:List Expr}{ta tb tc ts:TE}{tA tB':TT}{p:Pos}
theorem qe_int {j:Nat}:QE X (.Constant (.int i) j pos) (tC (.int i)):=⟨pe_int⟩
theorem qe_bl {i:Bool}{j:Nat}:QE X (.Constant (.bool i) j pos) (tC (.bl i)):=⟨pe_bl⟩
theorem qe_str {j:Nat}:QE X (.Constant (.str x) j pos) (tC (.str x)):=⟨pe_str⟩
theorem qv (i:Nat)(hN:X.N[i]?=some x:=by rfl)(hv:autoParam (Vis X.env.scope x) aT3._auto_1)(hd:(x==("__debug__":Str))=false:=by decide)
  (hcd:(x==("__classdict__":Str))=false:=by decide):QE X (.Name x pos) (tVar i):=⟨pv i hN hv hd hcd⟩
theorem qe_glob (hg:Gl X x)(hm:X.mg x=some u)(r:RelV v u)(hd:(x==("__debug__":Str))=false:=by decide):QE X (.Name x pos) (tC v):=⟨pe_glob hg hm r hd⟩
theorem qe_bltn (hg:Gl X x)(hm:X.mg x=none)(hv:Bq x=some u)(r:RelV v u)(hn:x≠"__name__":=by decide)(hd:(x==("__debug__":Str))=false:=by decide):QE X (.Name x pos) (tC v):=⟨pe_bltn hg hm hv r hn hd⟩
theorem qe_op {r:R2}(ho:OpR X (BX op) r)(ha:QE X a ta)(hb:QE X b tb):QE X (.BinOp a op b pos) (tOp r ta tb):=⟨pe_op ho ha.out hb.out⟩
theorem qe_un {op:UnaryOp}{r:V->Hp->VK->Prop}(ho:UnR X (unaryOp op) r)(ha:QE X a ta):QE X (.UnaryOp op a pos) (tUn r ta):=⟨pe_un ho ha.out⟩
theorem qt_cmpR {op:Hr}{r:R2}(ho:OpR X (BH op) r)(ha:QE X a ta)(hb:QE X b tb)(hm:C5 op b=false):QT X (.Compare a [op] [b] pos) (tTest (tOp r ta tb)):=⟨pt_cmpR ho ha.out hb.out hm⟩
theorem qe_one {op:BoolOp}(h:QE X a ta):QE X (.BoolOp op [a] pos) ta:=⟨pe_one h.out⟩
theorem qe_and (ha:QE X a ta)(hb:QE X (.BoolOp .And (b::rest) pos) tb):QE X (.BoolOp .And (a::b::rest) pos) (tAndV ta tb):=⟨pe_and ha.out hb.out⟩
theorem qe_not (ha:QE X a ta):QE X (.UnaryOp .Not a pos) (tNotV ta):=⟨pe_not ha.out⟩
theorem qt_val (h:QE X e te)(he:∀whole,isTrue e X.env whole=(do let v <- whole;B5 e.pos;BA [v] (truthy v)):=by intro _;rfl):QT X e (tB te):=⟨pt_val h.out he⟩
theorem qt_not (ha:QT X a tA):QT X (.UnaryOp .Not a pos) (tNot tA):=⟨pt_not ha.out⟩
theorem qw_or1 (ha:QT X a tA):QW X (.BoolOp .Or [a] pos) tA:=⟨pw_or1 ha.out⟩
theorem qw_or (ha:QT X a tA)(hb:QW X (.BoolOp .Or (b::rest) pos) tB'):QW X (.BoolOp .Or (a::b::rest) pos) (tOr tA tB'):=⟨pw_or ha.out hb.out⟩
theorem qt_w (h:QW X a tA):QT X a tA:=⟨h.out.pt⟩
theorem qa_nil:QA X [] tNil:=⟨pa_nil⟩
theorem qa_cons (ha:QE X e te)(hr:QA X es t)(hs:Ab (e::es) X.env=(false,Ar e X.env)::Ab es X.env):QA X (e::es) (tCons te t):=⟨pa_cons ha.out hr.out hs⟩
theorem qe_tup (h:QA X es t):QE X (.Tuple es x1 pos) (tTup t):=⟨pe_tup h.out⟩
theorem qe_lst (h:QA X es t):QE X (.List es pos) (tLst t):=⟨pe_lst h.out⟩
theorem qe_ix {r:R2}(hr:IxR X r)(ha:QE X a ta)(hb:QE X b tb)(hs:PlainIx b):QE X (.Subscript a b pos) (tOp r ta tb):=⟨pe_ix hr ha.out hb.out hs⟩
theorem qo_none:QO X none tNoPart:=⟨po_none⟩
theorem qo_some (h:QE X e te):QO X (some e) (tPart te):=⟨po_some h.out⟩
theorem qe_slice {r:V->Option Int->Option Int->Hp->VK->Prop}{tl th:TO}(hr:SlR X r)(he:QE X e te)(hl:QO X lo tl)(hu:QO X hi th):QE X (.Subscript e (.Slice lo hi none p2) pos) (tSl r te tl th):=⟨pe_slice hr he.out hl.out hu.out⟩
theorem qe_callD {k:Nat}{E:XK}(D:Def X.prog X.w X.K X.mg X.base CX k x ps sp)(hr:Room k X.A)(hg:Gl X x)(hx:Passes CX X E)
  (ha:QA X (e::es) t) (hdb:(x==("__debug__":Str))=false:=by decide) (he:Ab (e::es) X.env=(false,Ar e X.env)::Ab es X.env:=by rfl) (hpl:(AG pos (Ab es X.env)).any (·.1)=false:=by rfl) :
  QE X (.Call (.Name x p) (e::es) [] pos) (tCall sp [] E t):=⟨pe_callD D hr hg hx ha.out hdb he hpl⟩
theorem qe_callB {id:String}(hc:CallR X (.builtin id) r)(hg:Gl X x)(hm:X.mg x=none)(hv:Bq x=some (.builtin id))(ha:QA X (e::es) t)(hn:x≠"__name__":=by decide)(hdb:(x==("__debug__":Str))=false:=by decide)
  (he:Ab (e::es) X.env=(false,Ar e X.env)::Ab es X.env:=by rfl) (hpl:(AG pos (Ab es X.env)).any (·.1)=false:=by rfl):QE X (.Call (.Name x p) (e::es) [] pos) (tCB r t):=⟨pe_callB hc hg hm hv ha.out hn hdb he hpl⟩
theorem qe_callTy {T:String}(hc:CallR X (.type T) r)(hg:Gl X x)(hm:X.mg x=none)(hv:Bq x=some (.type T))(ha:QA X (e::es) t)(hn:x≠"__name__":=by decide)(hdb:(x==("__debug__":Str))=false:=by decide)
  (he:Ab (e::es) X.env=(false,Ar e X.env)::Ab es X.env:=by rfl) (hpl:(AG pos (Ab es X.env)).any (·.1)=false:=by rfl):QE X (.Call (.Name x p) (e::es) [] pos) (tCB r t):=⟨pe_callTy hc hg hm hv ha.out hn hdb he hpl⟩
theorem qe_bm {T id:String}{r:V->List V->Hp->VK->Prop}(pa:PlainAttrs T)(slot:Slot T name id)(hty:typeOf (.builtin id)=pure (.type "method_descriptor"))(hm:MtR X id r)(ho:QE X o to)(ha:QA X (e::es) t)
    (hbase:AS o name X.env (Ar o X.env)=Ar o X.env:=by rfl)
    (hfew:((AG cpos (Ab (e::es) X.env)).all (fun x=>!x.1)&&(BC cpos (AU [] X.env)).all (fun x=>x.1.isSome)
      && decide ((e::es).length+([]:List BO).length+(if ([]:List BO).isEmpty then 0 else 1)<30))=true:=by rfl)
    (hline:(apos.endLine==cpos.line)=true:=by rfl) (hs:Ab (e::es) X.env=(false,Ar e X.env)::Ab es X.env:=by rfl) (hplain:(AG cpos (Ab es X.env)).any (·.1)=false:=by rfl) :
    QE X (.Call (.Attribute o name apos) (e::es) [] cpos) (tBM X.K T r to t):=⟨pe_bm pa slot hty hm ho.out ha.out hbase hfew hline hs hplain⟩
theorem qg_name {i:Nat}(hN:X.N.Nodup)(hi:X.N[i]?=some x)(hx:Loc X.env.scope x)(hf:autoParam (X.fn x=true\/X.env.scope.names.lookup x=some .local) aT0._auto_1):QG X (.Name x pos) (gName i):=⟨pg_name hN hi hx hf⟩
theorem qi_list (hl:QE X e te):QI X tg e (iList X.K te):=⟨pi_list hl.out⟩
theorem qi_range1 (hg:Gl X "range")(hm:X.mg "range"=none)(ha:QA X [a] t)(hs:Ab [a] X.env=[(false,Ar a X.env)]:=by rfl):QI X tg (.Call (.Name "range" p) [a] [] pos) (iRng1 t):=⟨pi_range1 hg hm ha.out hs⟩
variable {ss other:List Stmt}{u v:TS}
theorem qss_nil:QSs X [] tNext:=⟨pss_nil⟩
theorem qss_cons (h1:QS X s1 u)(h2:QSs X ss v):QSs X (s1::ss) (tSeq u v):=⟨pss_cons h1.out h2.out⟩
theorem qss_one (h1:QS X s1 u):QSs X [s1] u:=⟨pss_one h1.out⟩
theorem qs_never:QS X s1 tNever:=⟨ps_never⟩
theorem qs_expr (he:QE X e te)(hs:A8 e none pos.line X.env=pure false:=by rfl):QS X (.Expr e pos) (tDrop te):=⟨ps_expr he.out hs⟩
theorem qs_ret (he:QE X e te):QS X (.Return (some e) pos) (tRet te):=⟨ps_ret he.out⟩
theorem qs_if (hc:QT X c tA)(ha:QSs X body u)(hb:QSs X other v):QS X (.If c body other pos) (tIfS tA u v):=⟨ps_if hc.out ha.out hb.out⟩
theorem qs_asg {g:TG}(he:QE X e te)(hg:QG X tg g)(hs:E2 [tg] e pos.line X.env=pure false:=by rfl)(hw:E3 [tg] e X.env=pure none:=by rfl)(h1:(EG [tg] X.env).map (·.2)=[C6 tg X.env]:=by rfl):QS X (.Assign [tg] e pos) (tAsg te g):=⟨ps_asg he.out hg.out hs hw h1⟩
theorem qs_set {i:Nat}(hN:X.N.Nodup)(hi:X.N[i]?=some x)(hx:Loc X.env.scope x)(he:QE X e te)(hs:A8 e (some (.Name x pos')) pos.line X.env=pure false:=by rfl)(hf:autoParam (X.fn x=true\/X.env.scope.names.lookup x=some .local) aT0._auto_1) :
  QS X (.Assign [.Name x pos'] e pos) (tAsg te (gName i)):=⟨ps_set hN hi hx he.out hs hf⟩
theorem qs_for {g:TG}(hp:GG (Ai X.prog X.w) X.A X.env X.xe)(hc:X.calm=true)(hi:QI X tg iter wi)(hg:QG X tg g)(hb:QSs X body u)(hs:∀x,AV iter X.env x=pure x:=by intro _;rfl):QS X (.For tg iter body [] pos) (tFor wi g u):=⟨ps_for hp hc hi.out hg.out hb.out hs⟩
end
theorem Fun.okQ {base:AR}{k:Nat}(F:Fun K x qual st f fd)(S:FnScope N ps (defScope st))(len:∀vs H Q E,sp vs H Q E->vs.length=ps.length)
    (hbody:∀(cdv:Value) (A:AI) (outer:List Env) (s:Ac) (H:Hp) (vs:List V) (Q:VK) (E:XK),Room k (A.deeper (Cv qual (defScope st) s.heap.objs.size f cdv))->sp vs H Q E->
      ∃t,QSs (cxOf CX0 P w K mg base N qual (defScope st) f cdv A outer s H E).nox (defBody st) t/\t {nx:=fun _ H'=>Q .non H',rt:=Q} (start N vs) H):FnOk P w K mg base CX0 (k+1) f fd ps sp:=
  F.ok S len fun cdv A outer s H vs Q E hr h=>by obtain ⟨t,ht,q⟩:=hbody cdv A outer s H vs Q E hr h;exact ⟨t,ht.out,q⟩
@[reducible] def Cx.blk (X:Cx)(N2:List Str)(x:Str)(sc:Scope)(cl:List (Str×Addr))(C:Addr)(s0:Ac)(H0:Hp)(fp:List Addr):Cx:=
 {X with N:=N2++[x],s₀:=s0,H₀:=H0,env:=ED sc cl C X.env,outer:=X.stack,ex:=fp,fn:=fun _=>false,pn:=[],xe:=fun _ _=>False}
structure BlkOk (sc esc:Scope)(x:Str)(N N2:List Str):Prop where
 kind:sc.kind=.function
 cell:∀y∈sc.names,y.2≠.cell
 loc:∀y∈sc.names,y.2=.local->sc.names.lookup y.1=some .local
 own:sc.names.lookup x=some .local
 free:∀y∈sc.names,y.2=.free->esc.names.lookup y.1=some .cell\/esc.names.lookup y.1=some .free
 out:∀y∈N2,sc.names.lookup y≠some .local
 nd:N.Nodup
 nd2:N2.Nodup
 len:N2.length=N.length
 ren:∀p∈N.zip N2,p.2=p.1\/sc.names.lookup p.2=none
theorem lookup_mem {l:List (Str×BS)}{k:BS}(h:(y,k)∈l):l.lookup y≠none:=by
 induction l with
 | nil=>simp at h
 | cons p r ih =>
  obtain ⟨n,k'⟩:=p;cases hy:y==n with
  | true=>rw [AN,hy];simp
  | false =>rw [AN,hy];rcases Au.mp h with e | e;cases e;simp at hy;exact ih e
def closOf (cells:List (Str×Addr)):List (Str×BS)->List (Str×Addr)->List (Str×Addr)
 | [],cs=>cs
 | (n,k)::r,cs=>closOf cells r (if k=.free then (n,(cells.lookup n).getD 0)::cs else cs)
theorem closureFor_all (h:∀y∈sc.names,y.2=.free->∃c,env.cells.lookup y.1=some c):Gg sc env=pure (closOf env.cells sc.names []):=by
  unfold Gg;generalize sc.names=l at h ⊢;have key:∀(l:List (Str×BS)) (cs:List (Str×Addr)),(∀y∈l,y.2=.free->∃c,env.cells.lookup y.1=some c)->
      (forIn l cs fun (y:Str×BS) (r:List (Str×Addr))=>(do
        let (name,kind):=y
        if kind==.free then
          let c <- cellOf env name
          pure (CO ((name,c)::r))
        else pure (CO r):Sem (ForInStep (List (Str×Addr)))))=pure (closOf env.cells l cs):=by
    intro l
    induction l with
    | nil=>intro cs _;rfl
    | cons y r ih =>
      intro cs hy;obtain ⟨n,k⟩:=y;rw [List.forIn_cons];have hr:∀y∈r,y.2=.free->∃c,env.cells.lookup y.1=some c:=fun y h'=>hy y (Bb _ h');by_cases hk:k=.free;subst hk;obtain ⟨c,hc⟩:=hy _ BY rfl;have e:cellOf env n=pure c:=by unfold cellOf;rw [show env.cells.lookup n=some c from hc]
      simp only [beq_self_eq_true,if_true,e];rw [closOf,if_pos rfl,show env.cells.lookup n=some c from hc];exact ih _ hr;have hb:(k==Bv)=false:=by simpa using hk
      rw [closOf,if_neg hk];simp only [hb,if_false,BP];exact ih _ hr
  have q:=key l [] h;exact (congrArg (fun z:Sem (List (Str×Addr))=>z >>= fun r=>pure r) q).trans rfl
theorem clos_look {cells:List (Str×Addr)}:∀{l:List (Str×BS)} {cs:List (Str×Addr)} {y:Str} {c:Addr},(∀z∈l,z.2=.free->∃c,cells.lookup z.1=some c)->(∀c,cs.lookup y=some c->cells.lookup y=some c)->
  (closOf cells l cs).lookup y=some c->cells.lookup y=some c
 | [],_,_,_,_,h0,h=>h0 _ h
 | (n,k)::r,cs,y,c,hl,h0,h=>by
  rw [closOf] at h;refine clos_look (l:=r) (fun z hz=>hl z (Bb _ hz)) (fun c' hc'=>?_) h;by_cases hk:k=.free;rw [if_pos hk] at hc';obtain ⟨c0,e0⟩:=hl _ BY hk;cases hy:y==n with
  | true =>
   have e:y=n:=by simpa using hy
   subst e;rw [AN,hy] at hc';have e1:(cells.lookup y).getD 0=c':=by simpa using hc'
   have e2:cells.lookup y=some c0:=e0;rw [e2] at e1 ⊢;simpa using e1
  | false =>rw [AN,hy] at hc';exact h0 _ hc'
  rw [if_neg hk] at hc';exact h0 _ hc'
theorem clos_keep {cells:List (Str×Addr)}:∀{l:List (Str×BS)} {cs:List (Str×Addr)} {y:Str},(∃c,cs.lookup y=some c)->∃c,(closOf cells l cs).lookup y=some c
 | [],_,_,h=>h
 | (n,k)::r,cs,y,h=>by
  rw [closOf];refine clos_keep ?_;split;cases hy:y==n with
  | true=>exact ⟨_,by rw [AN,hy]⟩
  | false=>rw [AN,hy];exact h
  exact h
theorem clos_has {cells:List (Str×Addr)}:∀{l:List (Str×BS)} {cs:List (Str×Addr)} {y:Str},(y,Bv)∈l->∃c,(closOf cells l cs).lookup y=some c
 | (n,k)::r,cs,y,h=>by rw [closOf];rcases Au.mp h with e | e;cases e;refine clos_keep ?_;rw [if_pos rfl];exact ⟨_,by rw [AN,beq_self_eq_true]⟩;exact clos_has e
theorem relabel_look {env:Env}:∀{names:List (Str×BS)} {y:Str} {k:BS},(∀z∈names,z.2≠.cell)->(k=.cell\/k=.free)->
  (names.map fun (n,k)=>if (k==Bv&&env.scope.kind==.function&&env.kindOf n==some .cell) then (n,Fw) else (n,k)).lookup y=some k->(y,Bv)∈names
 | [],_,_,_,_,hz=>by simp at hz
 | (n,k0)::r,y,k,hc,hk,h=>by
  rw [Bt] at h;cases hy:y==n with
  | true =>
   have e:y=n:=by simpa using hy
   subst e;by_cases hf:k0=.free;subst hf;exact BY;have hb:(k0==Bv)=false:=by simpa using hf
   simp only [hb,Gc,BP,if_false,AN,beq_self_eq_true] at h;have e1:k0=k:=by simpa using h
   subst e1;rcases hk with z | z;exact absurd z (hc _ BY);exact absurd z hf
  | false =>refine Bb _ (relabel_look (env:=env) (k:=k) (fun z hz=>hc z (Bb _ hz)) hk ?_);by_cases hc':(k0==Bv&&env.scope.kind==.function&&env.kindOf n==some .cell)=true;simp only [hc',if_true,AN,hy] at h;exact h;simp only [hc',BP,if_false,AN,hy] at h;exact h
theorem relabel_loc {env:Env}:∀{names:List (Str×BS)} {y:Str},
  (names.map fun (n,k)=>if (k==Bv&&env.scope.kind==.function&&env.kindOf n==some .cell) then (n,Fw) else (n,k)).lookup y=some .local->names.lookup y=some .local
 | [],_,h=>by simp at h
 | (n,kn)::r,y,h=>by
  rw [Bt] at h;cases hy:y==n with
  | true =>rw [AN,hy];by_cases hc:(kn==Bv&&env.scope.kind==.function&&env.kindOf n==some .cell)=true;simp only [hc,if_true,AN,hy] at h;cases h;simp only [hc,BP,if_false,AN,hy] at h;exact h
  | false =>rw [AN,hy];refine relabel_loc (env:=env) ?_;by_cases hc:(kn==Bv&&env.scope.kind==.function&&env.kindOf n==some .cell)=true;simp only [hc,if_true,AN,hy] at h;exact h;simp only [hc,BP,if_false,AN,hy] at h;exact h
section
variable {R:DG->Ac->Prop}
def testsOf (ifs:List Expr)(env:Env):Sem Bool:=forIn ifs true fun c r=>if r=true then do let ok <- isTrue c env (Ar c env);pure (CO ok) else pure (CO r)
theorem comp_turns {it ac:Value}(W:Nat->Ac->Prop)
    (turn:∀n s,W n s->An (Ai P w) A (pyNext it) (fun r s₁=>match r with
      | none=>R (.ok .next) s₁
      | some v=>An (Ai P w) A (Dq tg it v) (fun _ s₁'=>An (Ai P w) A (C6 tg env v) (fun _ s₂ =>
          An (Ai P w) A (testsOf ifs env) (fun ok s₃ =>
            if ok=true then An (Ai P w) A (Ar elt env) (fun z s₄ =>
              An (Ai P w) A (call (.builtin "list.append") [ac,z]) (fun _ s₅=>∃m,m<n/\W m s₅) (fun _ _=>False) s₄) (fun _ _=>False) s₃
            else ∃m,m<n/\W m s₃) (fun _ _=>False) s₂) (fun _ _=>False) s₁') (fun _ _=>False) s₁) (fun _ _=>False) s)
    (n:Nat) (h:W n s) :
    Cp (Ai P w) A (.compLoop (.ListComp elt [⟨tg,iter,ifs,0⟩] scope pos) 0 it ac env) R s:=by
  refine codeAny_loop rfl W (fun n s hI=>?_) n h;show An _ A ((compTurn (.ListComp elt [⟨tg,iter,ifs,0⟩] scope pos) 0 it ac env).onRaise (fun z=>do DL z env;theTreesLotGoes z)) _ _ s;refine wpAny_noted ?_;rw [compTurn_list];refine Av (EY (Av (AZ (turn n s hI) (fun r s₁ h₁=>?_) fun _ _ h'=>h'.elim)));cases r with
  | none=>exact AY h₁
  | some v =>
    refine Av (AZ h₁ (fun _ s₁' h₁'=>?_) fun _ _ h'=>h'.elim);refine Av (AZ h₁' (fun _ s₂ h₂=>Av (AZ h₂ (fun ok s₃ h₃=>?_) fun _ _ h'=>h'.elim)) fun _ _ h'=>h'.elim);cases ok with
    | false=>exact AY (EB rfl h₃)
    | true =>exact Av (Av (AZ h₃ (fun x s₄ h₄=>Av (AZ h₄ (fun _ s₅ h₅=>AY (AY ⟨rfl,h₅⟩)) fun _ _ h'=>h'.elim)) fun _ _ h'=>h'.elim))
end
def PIf (X:Cx)(ifs:List Expr)(t:TT):Prop:=
 ∀(pins:List (Addr×Obj)) (s:Ac) (σ:St) (H:Hp) (Q:Bool->Hp->Prop),Inv X pins σ H s->t σ H Q->An (Ai X.prog X.w) X.A (testsOf ifs X.env) (TP X pins σ Q) X.xe s
def tYes:TT:=fun _ H Q=>Q true H
theorem pif_nil :PIf X [] tYes:=fun _ _ _ H _ I h=>AY ⟨H,I,h⟩
structure QIf (X:Cx)(ifs:List Expr)(t:TT):Prop where
 out:PIf X ifs t
section
variable {c:Expr}
theorem qif_nil:QIf X [] tYes:=⟨pif_nil⟩
variable {a D:Addr}{Q:VK}{R:Hp->Prop}
end
@[reducible] def Cx.blkN (X:Cx)(N2 xs:List Str)(sc:Scope)(cl:List (Str×Addr))(C:Addr)(s0:Ac)(H0:Hp)(fp:List Addr):Cx:=
 {X with N:=N2++xs,s₀:=s0,H₀:=H0,env:=ED sc cl C X.env,outer:=X.stack,ex:=fp,fn:=fun _=>false,pn:=[],xe:=fun _ _=>False}
structure BlkN (sc esc:Scope)(xs N N2:List Str):Prop where
 kind:sc.kind=.function
 cell:∀y∈sc.names,y.2≠.cell
 loc:∀y∈sc.names,y.2=.local->sc.names.lookup y.1=some .local
 free:∀y∈sc.names,y.2=.free->esc.names.lookup y.1=some .cell\/esc.names.lookup y.1=some .free
 out:∀y∈N2,sc.names.lookup y≠some .local
 nd:N.Nodup
 len:N2.length=N.length
 ren:∀p∈N.zip N2,p.2=p.1\/sc.names.lookup p.2=none
def tCompN (k:Nat)(g:TG)(wi:TI)(tc:TT)(te:TE):TE:=fun σ H Q=>wi σ H fun J H1=>∀D,H1 D=none->∃W:Nat->Nat->Hp->Prop,(∃m,W 0 m (upd H1 D (.lst [])))/\∀i m H,W i m H->
  (J.stop i H/\Q (.ref D) H)\/(J.go i H/\∃N:Hp->Prop,(∀H',N H'->∃m',m'<m/\W (i+1) m' H')/\∀x H',J.yld i H x H'->∀os:St,os.length=k->g x (σ++os) H' fun σ' Hg=>(∃os',os'.length=k/\σ'=σ++os')/\tc σ' Hg fun b H2 =>
    if b=true then te σ' H2 fun v H3=>∃ys,H3 D=some (.lst ys)/\ys.length<Ah/\N (upd H3 D (.lst (ys++[v])))
    else N H2)
section
variable {xs:List Str}{g:TG}
theorem blkN_start {s1:Ac}(B:BlkN sc X.env.scope xs X.N N2)(I:Inv X pins σ H s)(hf:∀b∈fp,FpOk X pins H b)
    (hfl:∀b∈fp,b<s.heap.objs.size) (hn:h'.Ns s.heap.objs.size m) (hk:∀b o,s.heap.get? b=some o->h'.get? b=some o) (e1:s1={s with heap:=h',toks:=tk}) :
    Inv (X.blkN N2 xs sc (closOf X.env.cells sc.names []) s.heap.objs.size s H fp) [] (σ++Aa xs.length none) H s1:=by
  subst e1;have hcl:∀y∈sc.names,y.2=.free->∃c,X.env.cells.lookup y.1=some c:=fun y hy hf=>I.ok.has y.1 (B.free y hy hf);have look:∀y c,(closOf X.env.cells sc.names []).lookup y=some c->X.env.cells.lookup y=some c:=fun y c h=>clos_look hcl (fun _ z=>by simp at z) h;have isfree:∀y,(Fp sc X.env).names.lookup y=some .cell\/(Fp sc X.env).names.lookup y=some .free->(y,Bv)∈sc.names:=fun y hy=>by rcases hy with hy | hy;exact relabel_look (env:=X.env) B.cell (.inl rfl) hy;exact relabel_look (env:=X.env) B.cell (.inr rfl) hy
  refine ⟨⟨I.ok.mod,B.kind,I.ok.glob,I.ok.blt,AM _,fun y z c h1 h2=>I.ok.inj y z c (look y c h1) (look z c h2),fun y hy=>clos_has (isfree y hy),fun _ _ h=>(by cases h),I.ok.hd,I.ok.frames,.inl rfl,fun b hb=>?_,fun b o e=>?_,A9 I.ok.bsz I.sz,fun b o e hb=>?_,fun b hb hs=>?_,I.stack,I.stkFree⟩,
    rfl,I.bare,Un.kept hk,⟨_,hn,fun i y v h1 h2 h3=>?_⟩,fun y c h=>?_,I.hok.fresh (AM _),fun y c h=>I.freeC y c (look y c h),fun p hp=>absurd (show p∈([]:List (Addr×Obj)) from hp) (by simp),I.hok.kept hk,?_⟩
  exact ⟨Bh (hfl b hb),fun y c h=>(hf b hb).2.2.2.2.1 y c (look y c h)⟩;exact I.bs b o e;rcases (hf b hb).2.2.2.1 with z | z;exact I.ok.noex b o e z;exact absurd (Ak (AT e) (A9 I.ok.bsz z)) (A6 _);rcases Au.mp (I.stkSub b hs) with z | z;exact (hf b hb).2.1 z;exact (hf b hb).2.2.1 z;have hlen:=I.len;have hl2:=B.len;have h1:(N2++xs)[i]?=some y:=h1;have h2:(σ++Aa xs.length none)[i]?=some (some v):=h2;have hi:i<X.N.length:=by by_cases hi:i<X.N.length;exact hi;rw [Bk (by omega)] at h2;have hm:=BB h2;rw [C4] at hm;exact absurd hm.2 (by intro z;cases z)
  rw [AE (by omega)] at h1;rw [AE (by omega)] at h2;have h3':(Fp sc X.env).names.lookup y=some .cell\/(Fp sc X.env).names.lookup y=some .free:=by rcases h3 with z | z;exact absurd (relabel_loc (env:=X.env) z) (B.out y (BB h1));exact z
  have hfr:=isfree y h3';have h1:X.N[i]?=some y:=by obtain ⟨z,hz⟩:∃z,X.N[i]?=some z:=⟨X.N[i],AA hi⟩;rcases B.ren (z,y) (BB (Ef.mpr ⟨hz,h1⟩)) with e | e;rw [hz,show y=z from e];exact absurd e (lookup_mem hfr)
  obtain ⟨m3,hn3,hl3⟩:=I.loc;have hv:X.env.scope.names.lookup y=some .cell\/X.env.scope.names.lookup y=some .free:=B.free (y,.free) hfr rfl;obtain ⟨u,ru,lk⟩:=hl3 i y v h1 h2 (.inr hv);refine ⟨u,ru,.inr ⟨h3',?_⟩⟩;rcases lk with ⟨k1,_⟩ | ⟨k1,c,ec,zc⟩;rcases hv with q | q;rw [show X.env.kindOf y=X.env.scope.names.lookup y from rfl,q] at k1;cases k1;rw [show X.env.kindOf y=X.env.scope.names.lookup y from rfl,q] at k1;cases k1;obtain ⟨c',e'⟩:=clos_has (cells:=X.env.cells) (cs:=[]) hfr;have e2:=look y c' e';rw [ec] at e2;cases e2;obtain ⟨o,ho,hd⟩:=zc;exact ⟨c,e',o,hk _ _ ho,hd⟩;obtain ⟨v,o,ho,hd⟩:=I.cell y c (look y c h);exact ⟨v,o,hk _ _ ho,hd⟩;show (σ++Aa xs.length none).length=(N2++xs).length;rw [Az,Az,I.len,B.len,C9]
def Tk (H H':Hp):Prop:=∀b p q,H b=some (.tbl p q)->H' b=some (.tbl p q)
theorem blkN_run {J:It}{Q:VK}(hc:X.calm=true)(B:BlkN sc X.env.scope xs X.N N2)
    (hg:∀cl C s0 H0 fp,Tk X.H₀ H0->PG (X.blkN N2 xs sc cl C s0 H0 fp) tg g) (ht:∀cl C s0 H0 fp,Tk X.H₀ H0->PIf (X.blkN N2 xs sc cl C s0 H0 fp) ifs tc) (he:∀cl C s0 H0 fp,Tk X.H₀ H0->PE (X.blkN N2 xs sc cl C s0 H0 fp) elt te)
    (I2:Inv X pins σ H2 s2) (T:Turn X.prog X.w X.K tg J fp it tn) (st2:tn 0 s2.heap) (f2:∀b∈fp,FpOk X pins H2 b)
    (hw:∀D,H2 D=none->∃W:Nat->Nat->Hp->Prop,(∃m,W 0 m (upd H2 D (.lst [])))/\∀i m H,W i m H->
      (J.stop i H/\Q (.ref D) H)\/(J.go i H/\∃N:Hp->Prop,(∀H',N H'->∃m',m'<m/\W (i+1) m' H')/\∀x H',J.yld i H x H'->∀os:St,os.length=xs.length->g x (σ++os) H' fun σ' Hg=>(∃os',os'.length=xs.length/\σ'=σ++os')/\tc σ' Hg fun b H2 =>
        if b=true then te σ' H2 fun v H3=>∃ys,H3 D=some (.lst ys)/\ys.length<Ah/\N (upd H3 D (.lst (ys++[v])))
        else N H2))
    (fin:∀(D C:Addr) (H':Hp) (s':Ac) (m:Str->Option Value),Inv X pins σ H' s'->s'.heap.Ns C m->FpOk X pins H' C->Q (.ref D) H'->RR (.ref D) C (.ok .next) s') :
    An (Ai X.prog X.w) X.A (newList []) (fun acc s₃=>An (Ai X.prog X.w) X.A (newFunctionEnv sc X.env.globals (closOf X.env.cells sc.names []) [] X.env.qual none .none (some X.env)) (fun cenv s₄ =>
      Cp (Ai X.prog X.w) X.A (.compStart (.ListComp elt [⟨tg,iter,ifs,0⟩] sc pos) 0 (.ref it) acc {cenv with scope:=Fp sc X.env}) (RR acc cenv.locals) s₄) E s₃) E s2:=by
  refine wpAny_newObj_type (wpAny_newFunctionEnv B.cell (by intro y hy;simp at hy) (fun h₁ hns₁ hsb₁=>?_) B.kind);have hD:H2 s2.heap.objs.size=none:=I2.fresh;obtain ⟨W,⟨m0,w0⟩,turn⟩:=hw _ hD;have I3:Inv X pins σ (upd H2 s2.heap.objs.size (.lst [])) {s2 with heap:=s2.heap.push {cls:=.type "list",data:=.seq ([]:List Value).toArray}}:=I2.lnew (its:=[]) (t':=s2.toks) .nil (Dg _);have fne:∀b∈fp,b<s2.heap.objs.size:=fun b hb=>by obtain ⟨o,ho,_⟩:=T.obj _ _ st2 b hb;exact AT ho
  generalize hs3:({s2 with heap:=s2.heap.push {cls:=.type "list",data:=.seq ([]:List Value).toArray}}:Ac)=s3 at I3;have hs3h:s3.heap=s2.heap.push {cls:=.type "list",data:=.seq ([]:List Value).toArray}:=by rw [<- hs3]
  have f3:∀b∈fp,FpOk X pins (upd H2 s2.heap.objs.size (.lst [])) b:=fun b hb=>⟨by rw [upd_ne (Bh (fne b hb))];exact (f2 b hb).1,(f2 b hb).2⟩;have fl3:∀b∈fp,b<s3.heap.objs.size:=fun b hb=>by rw [hs3h,Eb];exact Nat.lt_succ_of_lt (fne b hb)
  have keep3:∀b o,s3.heap.get? b=some o->h₁.get? b=some o:=fun b o e=>by rw [hs3h] at e;refine hsb₁.extBut b o ?_ (Al _ e);exact Bh (AT e)
  have hns3:h₁.Ns s3.heap.objs.size (fun z=>([]:List (Str×Value)).reverse.lookup z):=by rw [hs3h];exact hns₁
  have I4:=blkN_start (xs:=xs) (sc:=sc) (s1:={s3 with heap:=h₁,toks:=s3.toks+([]:List (Str×Value)).length}) B I3 f3 fl3 hns3 keep3 rfl;have st4:tn 0 h₁:=T.keep _ _ _ st2 fun b hb o e=>keep3 b o (by rw [hs3h];exact Al _ e);have stat:∀{H':Hp},(∀b∈fp,H' b=none)->∀b∈fp,FpOk (X.blkN N2 xs sc (closOf X.env.cells sc.names []) s3.heap.objs.size s3 (upd H2 s2.heap.objs.size (.lst [])) fp) [] H' b:=fun hn b hb =>
    ⟨hn b hb,(I4.ok.exf b hb).1,I4.ok.exfs b hb,.inl hb,(I4.ok.exf b hb).2,fun p hp=>absurd (show p∈([]:List (Addr×Obj)) from hp) (by simp)⟩
  have tk:Tk X.H₀ (upd H2 s2.heap.objs.size (.lst [])):=fun b p q h=>I3.base.tbls b p q h;have loop:∀s4:Ac,s4={s3 with heap:=h₁,toks:=s3.toks+([]:List (Str×Value)).length}->
      Cp (Ai X.prog X.w) X.A (.compLoop (.ListComp elt [⟨tg,iter,ifs,0⟩] sc pos) 0 (.ref it) (.ref s2.heap.objs.size) (ED sc (closOf X.env.cells sc.names []) s3.heap.objs.size X.env)) (RR (.ref s2.heap.objs.size) s3.heap.objs.size) s4:=by
    rintro s4 rfl;refine comp_turns (fun n s'=>∃(i:Nat) (o:St) (H':Hp),o.length=xs.length/\Inv (X.blkN N2 xs sc (closOf X.env.cells sc.names []) s3.heap.objs.size s3 (upd H2 s2.heap.objs.size (.lst [])) fp) [] (σ++o) H' s'/\tn i s'.heap/\(∀b∈fp,H' b=none)/\W i n H') ?_ m0
      ⟨0,Aa xs.length none,_,by simp,I4,st4,fun b hb=>(f3 b hb).1,w0⟩
    rintro n s5 ⟨i,o,H5,ol5,I5,st5,fr5,w5⟩;rcases turn i n H5 w5 with ⟨stop,qn⟩ | ⟨go,N,hN,step⟩;refine thn (T.done (X.blkN N2 xs sc (closOf X.env.cells sc.names []) s3.heap.objs.size s3 (upd H2 s2.heap.objs.size (.lst [])) fp) rfl rfl rfl hc i [] s5 (σ++o) H5 _ I5 (stat fr5) st5 stop) fun r s6 ⟨hr,I6⟩=>?_;subst hr;obtain ⟨m6,hn6,_⟩:=I6.loc;refine fin _ _ H5 s6 m6 ?_ hn6 (I3.fpOk (AM _) I6.free) qn;exact I3.call' (ch:=fp) I6.os I6.base I6.hok I6.bare fun b hb=>⟨(f3 b hb).2.2.2.1,(f3 b hb).2.1,(f3 b hb).2.2.2.2.1,(f3 b hb).2.2.2.2.2⟩;refine thn (T.item (X.blkN N2 xs sc (closOf X.env.cells sc.names []) s3.heap.objs.size s3 (upd H2 s2.heap.objs.size (.lst [])) fp) rfl rfl rfl hc i [] s5 (σ++o) H5 _ I5 (stat fr5) st5 go) fun r s6 ⟨u,hr,h6⟩=>?_;subst hr;refine thn h6 fun _ s7 hz9=>?_;obtain ⟨v,H7,I7,r7,y7,st7,fr7⟩:=hz9;have I7':=I7.pinned (stat fr7) (T.obj _ _ st7);refine thn (hg _ _ _ _ _ tk _ s7 _ H7 v u _ I7' r7 (step v H7 y7 o ol5)) fun _ s8 ⟨σ8,H8,I8,⟨os',ol8,e8⟩,q8⟩=>?_;subst e8;have Gu:∀{H9:Hp} {s9:Ac},Inv (X.blkN N2 xs sc (closOf X.env.cells sc.names []) s3.heap.objs.size s3 (upd H2 s2.heap.objs.size (.lst [])) fp) ([]++pinsAt fp s7.heap) (σ++os') H9 s9->N H9->
        ∃m,m<n/\∃(i:Nat) (o:St) (H':Hp),o.length=xs.length/\Inv (X.blkN N2 xs sc (closOf X.env.cells sc.names []) s3.heap.objs.size s3 (upd H2 s2.heap.objs.size (.lst [])) fp) [] (σ++o) H' s9/\tn i s9.heap/\(∀b∈fp,H' b=none)/\W i m H':=fun {H9 s9} I9 n9=>by
      obtain ⟨m',hm,w9⟩:=hN H9 n9;refine ⟨m',hm,i+1,os',H9,ol8,I9.unpinned,T.keep _ _ _ st7 fun b hb o e=>(I9.pin (b,o) (Aj _ (Aj _ (mem_pinsAt hb e)))).1,fun b hb=>?_,w9⟩;obtain ⟨o,e,d⟩:=T.obj _ _ st7 b hb;exact (I9.pin (b,o) (Aj _ (Aj _ (mem_pinsAt hb e)))).2.1
    refine thn (ht _ _ _ _ _ tk _ s8 _ H8 _ I8 q8) fun ok s9 ⟨H9,I9,q9⟩=>?_;cases ok with
    | false =>rw [if_neg Aw] at q9 ⊢;exact Gu I9 q9
    | true =>rw [if_pos rfl] at q9 ⊢;refine thn (he _ _ _ _ _ tk _ s9 _ H9 _ I9 q9) fun ue s10 hz9=>?_;obtain ⟨ve,H10,I10,r10,ys,hy,hz,q10⟩:=hz9;refine thn (mt_append _ s10 _ H10 (.ref s2.heap.objs.size) [ve] (.ref s2.heap.objs.size) [ue] (fun _ H'=>N H') I10 rfl (.cons r10 .nil) ⟨_,ys,ve,rfl,rfl,hy,hz,q10⟩) fun _ s11 hz9=>?_;obtain ⟨_,H11,I11,_,q11⟩:=hz9;exact Gu I11 q11
  have fin':Cp (Ai X.prog X.w) X.A (.compStart (.ListComp elt [⟨tg,iter,ifs,0⟩] sc pos) 0 (.ref it) (.ref s2.heap.objs.size) (ED sc (closOf X.env.cells sc.names []) s3.heap.objs.size X.env)) (RR (.ref s2.heap.objs.size) s3.heap.objs.size) {s3 with heap:=h₁,toks:=s3.toks+([]:List (Str×Value)).length}:=codeAny_compStart_list (loop _ rfl) (T.self _ 0 _ _ _ st4 (loop _ rfl));exact fin'
theorem pe_compN (hc:X.calm=true)(B:BlkN sc X.env.scope xs X.N N2)(hi:PI X tg iter wi)(hg:∀cl C s0 H0 fp,Tk X.H₀ H0->PG (X.blkN N2 xs sc cl C s0 H0 fp) tg g)(ht:∀cl C s0 H0 fp,Tk X.H₀ H0->PIf (X.blkN N2 xs sc cl C s0 H0 fp) ifs tc)(he:∀cl C s0 H0 fp,Tk X.H₀ H0->PE (X.blkN N2 xs sc cl C s0 H0 fp) elt te)
  (hs:∀v,AV iter X.env v=pure v:=by intro _;rfl):PE X (.ListComp elt [⟨tg,iter,ifs,0⟩] sc pos) (tCompN xs.length g wi tc te):=by
 intro pins s σ H Q I h;rw [eval_ListComp];have hcl:∀y∈sc.names,y.2=.free->∃c,X.env.cells.lookup y.1=some c:=fun y hy hf=>I.ok.has y.1 (B.free y hy hf);refine E1 (use:=none) rfl hs (closureFor_all hcl) B.kind B.loc (thn (hi pins s σ H _ I h) fun v s1 h1=>thn h1 fun itv s2 h2=>?_);obtain ⟨it,fp,tn,J,H2,e,I2,T,st2,f2,hw⟩:=h2;subst e;refine blkN_run (RR:=fun acc C=>compPost (Ai X.prog X.w) X.A X.xe none (EP X pins σ Q) acc C) hc B hg ht he I2 T st2 f2 hw ?_;intro D C H' s' m I' hn hC q;obtain ⟨c0,c1,c2,c3,c4,c5⟩:=hC;refine ⟨m,hn,fun h'' hs''=>⟨.ref D,H',?_,rfl,q⟩⟩;exact I'.turned (t':=s'.toks) (fun b o hb e=>hs''.extBut b o hb e) c0 c1 c3 c4 c5
theorem ps_compN {i:Nat}(hc:X.calm=true)(B:BlkN sc X.env.scope xs X.N N2)(hi:PI X tg iter wi)(hg:∀cl C s0 H0 fp,Tk X.H₀ H0->PG (X.blkN N2 xs sc cl C s0 H0 fp) tg g)(ht:∀cl C s0 H0 fp,Tk X.H₀ H0->PIf (X.blkN N2 xs sc cl C s0 H0 fp) ifs tc)(he:∀cl C s0 H0 fp,Tk X.H₀ H0->PE (X.blkN N2 xs sc cl C s0 H0 fp) elt te)
    (hy:X.N[i]?=some y) (hl:X.env.scope.names.lookup y=some .local) (hsw:A8 (.ListComp elt [⟨tg,iter,ifs,0⟩] sc pos) (some (.Name y py)) spos.line X.env=pure true:=by rfl)
    (hs:∀v,AV iter X.env v=pure v:=by intro _;rfl):PS X (.Assign [.Name y py] (.ListComp elt [⟨tg,iter,ifs,0⟩] sc pos) spos) (tAsg (tCompN xs.length g wi tc te) (gName i)):=by
  intro pins s σ H D I h;have hx:=exec_Assign_Name_used (env:=X.env) _ _ _ _ hsw;rw [hx];refine Av (EY ?_);refine Av ?_;show An _ X.A (do let _ <- comprehension (.ListComp elt [⟨tg,iter,ifs,0⟩] sc pos) sc X.env _ (newList []) false (Ar iter X.env) (some (C6 (.Name y py) X.env))) _ _ s;have hcl:∀y∈sc.names,y.2=.free->∃c,X.env.cells.lookup y.1=some c:=fun y hy hf=>I.ok.has y.1 (B.free y hy hf);refine Av (AZ (E1 (use:=some (C6 (.Name y py) X.env)) (Q:=fun _ s'=>SP X pins D .next s') rfl hs (closureFor_all hcl) B.kind B.loc
    (thn (hi pins s σ H _ I h) fun v s1 h1=>thn h1 fun itv s2 h2=>?_)) (fun _ s' hq=>AY (AY hq)) fun _ _ e=>e)
  obtain ⟨it,fp,tn,J,H2,e,I2,T,st2,f2,hw⟩:=h2;subst e;refine blkN_run (Q:=fun v H1=>gName i v σ H1 D.nx) (RR:=fun acc C=>compPost (Ai X.prog X.w) X.A X.xe (some (C6 (.Name y py) X.env)) (fun _ s'=>SP X pins D .next s') acc C) hc B hg ht he I2 T st2 f2 hw ?_;intro E C H' s' m I' hn hC q;obtain ⟨c0,c1,c2,c3,c4,c5⟩:=hC;show An _ X.A (C6 (.Name y py) X.env (.ref E)) _ _ _;refine Gn (store_ok2 (v:=.ref E) I' B.nd hy (.inl hl) rfl (fun s8 I8 ⟨a,sb,ha⟩=>?_) (.inr hl));have hCa:C≠a:=by rcases ha with z | z;rw [z];exact c1;exact fun z'=>c4 _ _ z z'.symm
  refine ⟨m,hn.sameBut sb hCa,fun h'' hs''=>⟨_,H',?_,q⟩⟩;exact I8.turned (t':=s8.toks) (fun b o hb e=>hs''.extBut b o hb e) c0 c1 c3 c4 c5
end
section
variable {c:Expr}{xs:List Str}{g:TG}
theorem qe_compNL (esc:Scope)(N N2 xs:List Str)(B:BlkN sc esc xs N N2)(hi:QI X tg iter wi)(hg:∀cl C s0 H0 fp,Tk X.H₀ H0->QG (X.blkN N2 xs sc cl C s0 H0 fp) tg g)(ht:∀cl C s0 H0 fp,Tk X.H₀ H0->QIf (X.blkN N2 xs sc cl C s0 H0 fp) ifs tc)(he:∀cl C s0 H0 fp,Tk X.H₀ H0->QE (X.blkN N2 xs sc cl C s0 H0 fp) elt te)
  (hesc:X.env.scope=esc:=by rfl) (hN:X.N=N:=by rfl) (hc:X.calm=true:=by rfl) (hs:∀v,AV iter X.env v=pure v:=by intro _;rfl):QE X (.ListComp elt [⟨tg,iter,ifs,0⟩] sc pos) (tCompN xs.length g wi tc te):=by
 subst hesc hN;exact ⟨pe_compN hc B hi.out (fun cl C s0 H0 fp z=>(hg cl C s0 H0 fp z).out) (fun cl C s0 H0 fp z=>(ht cl C s0 H0 fp z).out) (fun cl C s0 H0 fp z=>(he cl C s0 H0 fp z).out) hs⟩
theorem qe_compN (esc:Scope)(N N2 xs:List Str)(B:BlkN sc esc xs N N2)(hi:QI X tg iter wi)(hg:∀cl C s0 H0 fp,QG (X.blkN N2 xs sc cl C s0 H0 fp) tg g)(ht:∀cl C s0 H0 fp,QIf (X.blkN N2 xs sc cl C s0 H0 fp) ifs tc)(he:∀cl C s0 H0 fp,QE (X.blkN N2 xs sc cl C s0 H0 fp) elt te)
  (hesc:X.env.scope=esc:=by rfl) (hN:X.N=N:=by rfl) (hc:X.calm=true:=by rfl) (hs:∀v,AV iter X.env v=pure v:=by intro _;rfl):QE X (.ListComp elt [⟨tg,iter,ifs,0⟩] sc pos) (tCompN xs.length g wi tc te):=
 qe_compNL esc N N2 xs B hi (fun cl C s0 H0 fp _=>hg cl C s0 H0 fp) (fun cl C s0 H0 fp _=>ht cl C s0 H0 fp) (fun cl C s0 H0 fp _=>he cl C s0 H0 fp) hesc hN hc hs
theorem qs_compNL {i:Nat}(esc:Scope)(N N2 xs:List Str)(B:BlkN sc esc xs N N2)(hy:N[i]?=some y)(hl:esc.names.lookup y=some .local)(hi:QI X tg iter wi)(hg:∀cl C s0 H0 fp,Tk X.H₀ H0->QG (X.blkN N2 xs sc cl C s0 H0 fp) tg g)(ht:∀cl C s0 H0 fp,Tk X.H₀ H0->QIf (X.blkN N2 xs sc cl C s0 H0 fp) ifs tc)(he:∀cl C s0 H0 fp,Tk X.H₀ H0->QE (X.blkN N2 xs sc cl C s0 H0 fp) elt te)
  (hesc:X.env.scope=esc:=by rfl) (hN:X.N=N:=by rfl) (hc:X.calm=true:=by rfl) (hsw:A8 (.ListComp elt [⟨tg,iter,ifs,0⟩] sc pos) (some (.Name y py)) spos.line X.env=pure true:=by rfl)
  (hs:∀v,AV iter X.env v=pure v:=by intro _;rfl):QS X (.Assign [.Name y py] (.ListComp elt [⟨tg,iter,ifs,0⟩] sc pos) spos) (tAsg (tCompN xs.length g wi tc te) (gName i)):=by
 subst hesc hN;exact ⟨ps_compN hc B hi.out (fun cl C s0 H0 fp z=>(hg cl C s0 H0 fp z).out) (fun cl C s0 H0 fp z=>(ht cl C s0 H0 fp z).out) (fun cl C s0 H0 fp z=>(he cl C s0 H0 fp z).out) hy hl hsw hs⟩
theorem qs_compN {i:Nat}(esc:Scope)(N N2 xs:List Str)(B:BlkN sc esc xs N N2)(hy:N[i]?=some y)(hl:esc.names.lookup y=some .local)(hi:QI X tg iter wi)(hg:∀cl C s0 H0 fp,QG (X.blkN N2 xs sc cl C s0 H0 fp) tg g)(ht:∀cl C s0 H0 fp,QIf (X.blkN N2 xs sc cl C s0 H0 fp) ifs tc)(he:∀cl C s0 H0 fp,QE (X.blkN N2 xs sc cl C s0 H0 fp) elt te)
  (hesc:X.env.scope=esc:=by rfl) (hN:X.N=N:=by rfl) (hc:X.calm=true:=by rfl) (hsw:A8 (.ListComp elt [⟨tg,iter,ifs,0⟩] sc pos) (some (.Name y py)) spos.line X.env=pure true:=by rfl)
  (hs:∀v,AV iter X.env v=pure v:=by intro _;rfl):QS X (.Assign [.Name y py] (.ListComp elt [⟨tg,iter,ifs,0⟩] sc pos) spos) (tAsg (tCompN xs.length g wi tc te) (gName i)):=
 qs_compNL esc N N2 xs B hy hl hi (fun cl C s0 H0 fp _=>hg cl C s0 H0 fp) (fun cl C s0 H0 fp _=>ht cl C s0 H0 fp) (fun cl C s0 H0 fp _=>he cl C s0 H0 fp) hesc hN hc hsw hs
variable {Q:VK}{D:Ends}
variable {e o i':Expr}{ti:TE}{tb:TS}
theorem qg_sub {t:TSet}(ho:QE X o to)(hi:QE X i' ti)(hs:PSet X t)
    (ha:∀v,C6 (.Subscript o i' pos) X.env v=(do
      let ov <- BA [v] (Ar o X.env)
      let iv <- BA [v,ov] (Ar i' X.env)
      B5 pos
      BA [v,ov,iv] (Fn ov iv v)
      release [v,ov,iv] []):=by intro _;rfl):QG X (.Subscript o i' pos) (gSub to ti t):=⟨pg_sub ho.out hi.out hs ha⟩
variable {p p':Pos}{Q:VK}
end
def Dk {α:Type}:Sem α->Prop
 | .pure _=>True
 | .raise _=>True
 | .unsupported _=>True
 | .finish _=>True
 | .rule _ k=>Dk (k ())
 | .at _ k=>Dk (k ())
 | .load _ _ k=>∀o,Dk (k o)
 | .update _ _ f k=>(∀o:Obj,o.isFreed=false->(f o).isFreed=false/\(f o).dict=o.dict)/\Dk (k ())
 | .alloc _ k=>∀a,Dk (k a)
 | .loadIfAlive _ k=>∀o,Dk (k o)
 | .point _ k=>Dk (k ())
 | .fresh k=>∀a,Dk (k a)
 | .ask k=>∀a,Dk (k a)
 | .choose _ _ k=>∀a,Dk (k a)
 | .os _ _ k=>∀a,Dk (k a)
 | .handled _ k=>∀a,Dk (k a)
 | .stack k=>∀a,Dk (k a)
 | .thread k=>∀a,Dk (k a)
 | .register _ _=>False
 | .call ..=>False
 | .newGen ..=>False
 | .genState ..=>False
 | .resume ..=>False
 | .yield ..=>False
 | .fork ..=>False
 | .await ..=>False
theorem Dk.bind {α β:Type}{f:α->Sem β}(hf:∀a,Dk (f a)){t:Sem α}(h:Dk t):Dk (t.bind f):=by
 induction t with
 | pure a=>exact hf a
 | raise _=>trivial
 | unsupported _=>trivial
 | finish _=>trivial
 | rule _ k ih=>exact ih () h
 | «at» _ k ih=>exact ih () h
 | load _ _ k ih=>exact fun o=>ih o (h o)
 | update _ _ _ k ih=>exact ⟨h.1,ih () h.2⟩
 | alloc _ k ih=>exact fun o=>ih o (h o)
 | loadIfAlive _ k ih=>exact fun o=>ih o (h o)
 | point _ k ih=>exact ih () h
 | register _ _ _=>exact h.elim
 | fresh k ih=>exact fun o=>ih o (h o)
 | ask k ih=>exact fun o=>ih o (h o)
 | choose _ _ k ih=>exact fun o=>ih o (h o)
 | os _ _ k ih=>exact fun o=>ih o (h o)
 | call _ _ _ _ _ _=>exact h.elim
 | handled _ k ih=>exact fun o=>ih o (h o)
 | newGen _ _ _=>exact h.elim
 | genState _ _ _=>exact h.elim
 | resume _ _ _ _ _=>exact h.elim
 | yield _ _ _ _ _=>exact h.elim
 | stack k ih=>exact fun o=>ih o (h o)
 | fork _ _ _=>exact h.elim
 | thread k ih=>exact fun o=>ih o (h o)
 | await _ _ _ _ _ _=>exact h.elim
def DictIs (s:Ac)(e:Addr)(d:Option Addr):Prop:=∃o,s.heap.get? e=some o/\o.dict=d
theorem dict_update {a:Addr}{f:Obj->Obj}(he:h.get? e=some o)(hf:∀o:Obj,o.isFreed=false->(f o).isFreed=false/\(f o).dict=o.dict):∃o',(h.update a f).get? e=some o'/\o'.dict=o.dict:=by by_cases q:a=e;subst q;have nf:o.isFreed=false:=(Heap.get?_some_iff.mp he).2;exact ⟨f o,EO f he (hf o nf).1,(hf o nf).2⟩;exact ⟨o,by rw [C1 _ _ q];exact he,rfl⟩
theorem Dk.wp {α:Type}{M:Model}{Γ:PySem.Ctx}{e:Addr}{d:Option Addr}{t:Sem α}{Q:α->Pos->Ac->Prop}{E:Value->Pos->Ac->Prop}{p:Pos}{s:Ac}(hk:Dk t)(h:Sem.wp M Γ t Q E p s)(hd:DictIs s e d) :
  Sem.wp M Γ t (fun a p' s'=>Q a p' s'/\DictIs s' e d) (fun x p' s'=>E x p' s'/\DictIs s' e d) p s:=by
 induction t generalizing p s with
 | pure a=>exact ⟨h,hd⟩
 | raise _=>exact ⟨h,hd⟩
 | unsupported _=>exact h.elim
 | finish _=>exact h.elim
 | rule _ k ih=>exact ih () hk h hd
 | «at» _ k ih=>exact ih () hk h hd
 | load _ _ k ih =>obtain ⟨o,h1,h2⟩:=h;exact ⟨o,h1,ih o (hk o) h2 hd⟩
 | update a _ f k ih =>obtain ⟨o,h1,h2⟩:=hd;obtain ⟨o',g1,g2⟩:=dict_update (a:=a) h1 hk.1;exact ⟨h.1,ih () hk.2 h.2 ⟨o',g1,g2.trans h2⟩⟩
 | alloc _ k ih =>obtain ⟨o,h1,h2⟩:=hd;exact ih _ (hk _) h ⟨o,Al _ h1,h2⟩
 | loadIfAlive _ k ih=>exact ih _ (hk _) h hd
 | point _ k ih=>exact ih () hk h hd
 | register _ _ _=>exact hk.elim
 | fresh k ih=>exact ih _ (hk _) h hd
 | ask k ih=>exact ih _ (hk _) h hd
 | choose _ _ k ih=>exact ⟨h.1,ih _ (hk _) h.2 hd⟩
 | os _ _ k ih=>exact ih _ (hk _) h hd
 | call _ _ _ _ _ _=>exact hk.elim
 | handled _ k ih=>exact ih _ (hk _) h hd
 | newGen _ _ _=>exact hk.elim
 | genState _ _ _=>exact hk.elim
 | resume _ _ _ _ _=>exact hk.elim
 | yield _ _ _ _ _=>exact hk.elim
 | stack k ih=>exact ih _ (hk _) h hd
 | fork _ _ _=>exact hk.elim
 | thread k ih=>exact ih _ (hk _) h hd
 | await _ _ _ _ _ _=>exact hk.elim
theorem Dk.any {t:Sem α}{Q:α->Ac->Prop}(hk:Dk t)(h:An M A t Q E s)(hd:DictIs s e d):An M A t (fun a s'=>Q a s'/\DictIs s' e d) (fun x s'=>E x s'/\DictIs s' e d) s:=fun Γ p hΓ=>hk.wp (h Γ p hΓ) hd
theorem dk_fieldsOf (v:Value):Dk (fieldsOf v):=by
 unfold fieldsOf;cases v<;>first | trivial | skip
 refine Dk.bind (t:=PySem.load _) (fun o=>?_) (fun _=>trivial);cases o.data<;>trivial
theorem dk_field (v:Value)(i:Nat):Dk (field v i):=Dk.bind (fun vs=>by
  cases vs[i]?<;>trivial) (dk_fieldsOf v)
theorem map_dict (f:Array Value->Array Value)(o:Obj)(h:o.isFreed=false):(Gx f o).isFreed=false/\(Gx f o).dict=o.dict:=by rcases o with ⟨c,d,data,sl⟩;cases data<;>exact ⟨h,rfl⟩
theorem dk_setField (v:Value)(i:Nat)(x:Value):Dk (G5 v i x):=by
 unfold G5;cases v<;>first | trivial | skip
 rename_i a;show Dk (updateField a i x);unfold updateField;refine Dk.bind (t:=PySem.load _) (fun o=>?_) (fun _=>trivial);cases o.data<;>first | trivial | skip
 rename_i vs;show Dk (if i<vs.size then _ else _);split;exact ⟨fun o h=>map_dict _ o h,trivial⟩;trivial
theorem dk_setFlight (e:Value)(f:Option Addr):Dk (GC e f):=Dk.bind (fun tb=>by
  show Dk (if (tb != CV)=true then _ else _);split;exact dk_setField _ _ _
  · trivial) (dk_field e 1)
theorem dk_behind (env:Env)(outer:List Env):Dk (G8 env outer):=by unfold G8;split;trivial;split;trivial;refine Dk.bind (fun _=>?_) (dk_field _ _);trivial
theorem dk_kept (env:Env)(b:Bool):∀l:List Env,Dk (keptBack env b l)
 | []=>by show Dk (if (env.scope.isGenerator||env.scope.isCoroutine)=true then _ else _);split;trivial;refine Dk.bind (t:=underTheClaimsCaller) (fun _=>?_) (Dk.bind (t:=PySem.stack) (fun _=>?_) fun _=>trivial);trivial;trivial
 | _::_=>trivial
theorem dk_ready:∀l:List Env,Dk (readyFrames l)
 | []=>trivial
 | env::outer=>by
  unfold readyFrames;cases env.frame with
  | none=>trivial
  | some f =>refine Dk.bind (t:=PySem.load f) (fun o=>?_) fun _=>trivial;split;trivial;refine Dk.bind (fun b=>?_) (dk_behind env outer);refine Dk.bind (fun k=>?_) (dk_kept env b outer);refine Dk.bind (t:=PySem.update f _) (fun _=>dk_ready outer) ⟨fun o h=>by rcases o with ⟨c,d,data,sl⟩;cases data<;>exact ⟨h,rfl⟩,trivial⟩
theorem dk_frameObject (l:List Env):Dk (frameObject l):=by
 cases l with
 | nil=>trivial
 | cons e l =>refine Dk.bind (fun _=>?_) (dk_ready (e::l));trivial
theorem dk_frameOf (env:Env):Dk (PySem.frameOf env):=by unfold PySem.frameOf;refine Dk.bind (t:=frameEnvs) (fun l=>?_) (Dk.bind (t:=PySem.stack) (fun _=>?_) fun _=>trivial);refine Dk.bind (fun o=>?_) (dk_frameObject _);cases o<;>trivial;trivial
theorem dk_place (f:Addr)(b:Bool):Dk (Ft f b):=by unfold Ft;refine Dk.bind (t:=PySem.stack) (fun acts=>?_) fun _=>trivial;split<;>trivial
theorem dk_newFields (ty:String)(vs:List Value):Dk (newFields ty vs):=by
 have h:Dk (newObjAsIs (.type ty) (.fields vs.toArray)):=by unfold newObjAsIs;refine Dk.bind (t:=PySem.alloc _) (fun _=>?_) fun _=>trivial;trivial
 show Dk (if vs.toArray.size > Ah+2 then _ else _);split;trivial;exact h
theorem dk_note (e:Value)(env:Env):Dk (DL e env):=by
 unfold DL;cases env.frame with
 | none=>trivial
 | some f =>
  have last:∀head:Value,Dk (do G5 e 1 (<- Hm head (<- PySem.frameOf env) .none (DW f) .none (<- Ft f (head != .none)))):=fun head =>
   Dk.bind (fun fr=>Dk.bind (fun pl=>Dk.bind (fun b=>dk_setField _ _ _) (dk_newFields _ _)) (dk_place _ _)) (dk_frameOf env)
  refine Dk.bind (fun head=>?_) (dk_field e 1);split;refine Dk.bind (fun x=>?_) (dk_field head 3);split;trivial;exact Dk.bind (fun _=>last head) (dk_setField _ _ _);exact last head
theorem dk_leaving (env:Env)(e:Value):Dk (Fq env e):=Dk.bind (fun _=>dk_setFlight _ _) (dk_note e env)
theorem ObjOk.ob {P:Ao}{w:AK}{H:Hp}{h:AR}{a:Addr}{o:HO}(x:ObjOk P w H h a o):∃ob,h.get? a=some ob:=by
 cases o with
 | lst xs=>obtain ⟨_,its,n,_,e⟩:=x;exact ⟨_,e⟩
 | tup xs=>obtain ⟨_,its,_,ob,e,_⟩:=x;exact ⟨ob,e⟩
 | dK kvs=>obtain ⟨_,_,vs,_,ob,es,ep,e,_⟩:=x;exact ⟨ob,e⟩
 | dT kvs=>obtain ⟨_,_,xs,_,ob,es,ep,e,_⟩:=x;exact ⟨ob,e⟩
 | set S n=>obtain ⟨ob,es,ep,t,e,_⟩:=x;exact ⟨ob,e⟩
 | ins C dx fs=>obtain ⟨_,_,_,e,_⟩:=x;exact ⟨_,e⟩
 | own y=>exact x
 | xd fs=>obtain ⟨mA,⟨od,es,ep,e,_⟩,_⟩:=x;exact ⟨od,e⟩
 | rng lo hi=>obtain ⟨t,u,v,e⟩:=x;exact ⟨_,e⟩
 | frz ob u=>obtain ⟨e,_⟩:=x;exact ⟨_,e⟩
 | tbl p q=>obtain ⟨_,e,_⟩:=x;exact ⟨_,e⟩
 | met f y=>exact ⟨_,x⟩
 | ext φ=>obtain ⟨_,⟨ob,e⟩,_⟩:=x;exact ⟨ob,e⟩
theorem Inv.step' (I:Inv X pins σ H s)
  (hch:∀b∈ch,X.s₀.heap.get? b=none/\b≠X.env.locals/\(∀x c,X.env.cells.lookup x=some c->c≠b)/\∀p∈X.pn++pins,p.1≠b)
  (keep:∀b o,b≠X.env.locals->b∉X.fs->b∉ch->s.heap.get? b=some o->H b=none->h'.get? b=some o)
  (slot:∀b o,b≠X.env.locals->b∈X.fs->b∉ch->s.heap.get? b=some o->H b=none->∃sl,h'.get? b=some {o with slots:=sl}) (free:∀b o,b∉ch->s.heap.get? b=some o->H b=none->H' b=none)
  (there:∀b o,b∉ch->s.heap.get? b=some o->∃o',h'.get? b=some o')
  (tups:∀b xs,H b=some (.tup xs)->H' b=some (.tup xs)) (frzs:∀b o u,H b=some (.frz o u)->H' b=some (.frz o u)) (tbls:∀b p n,H b=some (.tbl p n)->H' b=some (.tbl p n))
  (ns:∀m,s.heap.Ns X.env.locals m->h'.Ns X.env.locals m) (hok:HOk X.prog X.w H' h') (hg:CL g') :
  Inv X pins σ H' {s with heap:=h',gens:=g',drawn:=d',toks:=t'}:=by
 have neL:∀b o,X.s₀.heap.get? b=some o->b≠X.env.locals:=fun b o e=>Bh (Ak (AT e) I.ok.above);have neC:∀b o,X.s₀.heap.get? b=some o->b∉X.ex->b∉ch:=fun b o e hx hb=>by have z:=(hch b hb).1;rw [z] at e;cases e
 have cellK:∀x c,X.env.cells.lookup x=some c->∀v,s.heap.IsCell c v->h'.IsCell c v:=fun x c e v ⟨o,ho,hd⟩=>by have nch:c∉ch:=fun z=>(hch c z).2.2.1 x c e rfl;by_cases hc:c∈X.fs;obtain ⟨sl,q⟩:=slot c o (I.cne x c e) hc nch ho (I.freeC x c e);exact ⟨_,q,hd⟩;exact ⟨o,keep c o (I.cne x c e) hc nch ho (I.freeC x c e),hd⟩
 refine ⟨I.ok,I.os,hg,⟨fun b o e n hb hx=>?_,fun b o e n hb hx=>?_,fun b o e n hx=>?_,fun b o e hx=>?_,fun b xs e=>tups b xs (I.base.tups b xs e),fun b o xs e=>frzs b o xs (I.base.frzs b o xs e),fun b p n e=>tbls b p n (I.base.tbls b p n e)⟩,?_,fun x c e=>?_,?_,fun x c e=>?_,fun p hp=>?_,hok,I.len⟩;exact keep b o (neL b o e) hb (neC b o e hx) (I.base.keep b o e n hb hx) (I.base.free b o e n hx);obtain ⟨sl,e1⟩:=I.base.slot b o e n hb hx;obtain ⟨sl',e2⟩:=slot b _ (neL b o e) hb (neC b o e hx) e1 (I.base.free b o e n hx);exact ⟨sl',e2⟩;obtain ⟨o',e1⟩:=I.base.there b o e hx;exact free b o' (neC b o e hx) e1 (I.base.free b o e n hx);obtain ⟨o',e1⟩:=I.base.there b o e hx;exact there b o' (neC b o e hx) e1;obtain ⟨m,hn,hl⟩:=I.loc;refine ⟨m,ns m hn,fun i x v e1 e2 e3=>?_⟩;obtain ⟨u,r,l⟩:=hl i x v e1 e2 e3;refine ⟨u,r,?_⟩;rcases l with l | ⟨k,c,e,z⟩;exact .inl l;exact .inr ⟨k,c,e,cellK x c e _ z⟩;obtain ⟨v,z⟩:=I.cell x c e;exact ⟨v,cellK x c e v z⟩;obtain ⟨m,⟨o,_,_,ho,_⟩,_⟩:=I.loc;exact free _ o (fun z=>(hch _ z).2.1 rfl) ho I.free;obtain ⟨v,o,ho,hd⟩:=I.cell x c e;exact free c o (fun z=>(hch c z).2.2.1 x c e rfl) ho (I.freeC x c e);obtain ⟨e,n,ne,nf,d⟩:=I.pin p hp;have nch:p.1∉ch:=fun z=>(hch p.1 z).2.2.2 p hp rfl;exact ⟨keep p.1 p.2 ne nf nch e n,free p.1 p.2 nch e n,ne,nf,d⟩
def ExAt (h:AR)(e:Addr)(cls:Value)(own:List Addr)(z:Option Value):Prop:=
 ∃oe vs a0,h.get? e=some oe/\oe.cls=cls/\oe.data=.fields vs/\vs[0]?=some a0/\
  ((z=none/\own=[e]/\vs[1]?=some .none)\/∃T oT ts fl,z=some fl/\own=[e,T]/\vs[1]?=some (.ref T)/\T≠e/\h.get? T=some oT/\oT.data=.fields ts/\ts[3]?=some fl)
def OwnOk (X:Cx)(pins:List (Addr×Obj))(H:Hp)(own:List Addr):Prop:=
 ∀b∈own,H b=none/\X.s₀.heap.get? b=none/\b≠X.env.locals/\(∀x c,X.env.cells.lookup x=some c->c≠b)/\∀p∈X.pn++pins,p.1≠b
def CXE0 (P:Ao)(w:AK):CXT:=fun outer H s E ev s' =>
 ∃e T cls H',ev=.ref e/\s'.os=s.os/\CL s'.gens/\Un (frs outer) [] H H' s.heap s'.heap/\HOk P w H' s'.heap/\(∃B,s'.heap.FunFrames B outer)/\ExAt s'.heap e cls [e,T] (some .none)/\
  s.heap.get? e=none/\s.heap.get? T=none/\H' e=none/\H' T=none/\E cls none H'
def ER0 (X:Cx)(E:XK)(ev:Value)(s':Ac):Prop:=
 ∃pins e own cls z σ H,ev=.ref e/\Inv X pins σ H s'/\ExAt s'.heap e cls own z/\(z=none\/z=some .none\/∃L,X.env.frame=some L/\z=some (DW L))/\OwnOk X pins H own/\E cls none H
theorem Inv.noteOf (I:Inv X pins σ H s):∀b∈frs X.stack,∃o,s.heap.get? b=some o/\∀vs,o.data≠.fields vs:=fun b hb=>(I.stack.mem hb).2
theorem Inv.hide (I:Inv X pins σ H s)(own:List Addr):(Cw s.heap (own++frs X.stack)).StaysIn s.heap/\s.heap.FunFrames (Cw s.heap (own++frs X.stack)) X.stack:=⟨fun _ _ q=>PySem.W.of_hideAll _ q,PySem.W.funFrames_hide I.stack fun _ he _ ha=>Aj _ (Dz.mpr ⟨_,he,ha⟩)⟩
structure Kept (X:Cx)(own:List Addr)(h h':AR):Prop where
 st:(Cw h (own++frs X.stack)).StaysIn h'
 fr:h'.FunFrames (Cw h (own++frs X.stack)) X.stack
 up:h.UpToSlots h'
theorem Kept.get {own:List Addr}{h h':AR}(k:Kept X own h h'){b:Addr}{o:Obj}(e:h.get? b=some o)(n1:b∉own)(n2:b∉frs X.stack):h'.get? b=some o:=k.st b o (El _ e fun z=>(Ae.mp z).elim n1 n2)
theorem Kept.hok {own:List Addr}{h':AR}(k:Kept X own s.heap h')(I:Inv X pins σ H s)(oo:∀b∈own,H b=none):HOk X.prog X.w H h':=fun a o e=>by
 refine (I.hok a o e).stay (fun b u hb q=>?_) (fun _ q=>q) (fun _ _ q=>q) fun _ _ _ q=>q;have tr:∃u',H b=some u':=by rcases hb with rfl | hb;exact ⟨_,e⟩;exact ⟨_,hb⟩
 obtain ⟨u',eu⟩:=tr;exact k.get q (fun z=>by rw [oo b z] at eu;cases eu) (fun z=>by rw [I.stkFree b z] at eu;cases eu)
theorem Kept.there (k:Kept X own s.heap h')(I:Inv X pins σ H s){b:Addr}(e:s.heap.get? b=some o)(n1:b∉own):∃sl,h'.get? b=some {o with slots:=sl}:=by by_cases n2:b∈frs X.stack;obtain ⟨o',e',hd⟩:=I.noteOf b n2;rw [e] at e';cases e';exact k.up b o e hd;exact ⟨o.slots,k.get e n1 n2⟩
theorem Kept.inv (k:Kept X own s.heap h')(I:Inv X pins σ H s)(oo:OwnOk X pins H own):Inv X pins σ H {s with heap:=h',toks:=t'}:=by
 refine I.step' (g':=s.gens) (d':=s.drawn) (ch:=own) (fun b hb=>(oo b hb).2) (fun b o h1 h2 h3 e n=>?_) (fun b o _ _ h3 e n=>k.there I e h3) (fun _ _ _ _ n=>n) (fun b o h3 e=>?_) (fun _ _ e=>e) (fun _ _ _ e=>e) (fun _ _ _ e=>e)
  (fun m hm=>k.up.ns hm) (k.hok I fun b hb=>(oo b hb).1) I.bare
 exact k.get e h3 fun z=>(Au.mp (I.stkSub b z)).elim h1 h2;obtain ⟨sl,q⟩:=k.there I e h3;exact ⟨_,q⟩
theorem Kept.new (k:Kept X own s.heap h')(hn:(Cw s.heap (own++frs X.stack)).get? T=none)(hT:h'.get? T=some oT)(hd:oT.data=.fields ts)(no:T∉own):s.heap.get? T=none:=by
 cases q:s.heap.get? T with
 | none=>rfl
 | some o =>
  have nf:T∉frs X.stack:=fun z=>by obtain ⟨_,o',e',hd'⟩:=k.fr.mem z;rw [hT] at e';cases e';exact hd' ts hd
  rw [El _ q fun z=>(Ae.mp z).elim no nf] at hn;cases hn
theorem er_leaves0 {E:XK}{R:Value->Ac->Prop}(h:ER0 X E ev s')
    (hP:X.prog=P) (hw:X.w=w) (hs:X.s₀=s₀) (hH:X.H₀=H₀) (ho:X.outer=outer) (hx:X.ex=[]) (hst:X.stack=X.env::outer) (hf:X.env.frame=some X.env.locals) :
    An (Ai P w) X.A (Fq X.env ev) (fun _ s''=>CXE0 P w outer H₀ s₀ E ev s'') R s':=by
  obtain ⟨pins,e,own,cls,z,σ,H,rfl,I,x,hz,oo,q⟩:=h;subst hP hw hs hH ho;have hfr:X.A.frames=some (X.env::X.outer):=by rw [<- hst];exact I.ok.frames
  obtain ⟨hkb,hfl⟩:=I.hide own;obtain ⟨B,hB⟩:∃B,B=Cw s'.heap (own++frs X.stack):=⟨_,rfl⟩;rw [<- hB] at hkb hfl;have hen:B.get? e=none:=by rw [hB];refine Co _ (Am _ ?_);obtain ⟨_,_,_,_,_,_,_,(⟨_,r,_⟩ | ⟨_,_,_,_,_,r,_⟩)⟩:=x<;>(rw [r];simp)
  have fin:∀(h':AR) (a0:Value),B.StaysIn h'->h'.FunFrames B X.stack->h'.TracedW B e cls a0->s'.heap.UpToSlots h'->
      CXE0 X.prog X.w X.outer X.H₀ X.s₀ E (.ref e) {s' with heap:=h'}:=fun h' a0 k1 k2 k3 k4=>by
    have k2':h'.FunFrames B X.outer:=by rw [hst] at k2;exact k2.2.2
    subst hB;have K:Kept X own s'.heap h':=⟨k1,k2,k4⟩;obtain ⟨oe,vs,T,oT,ts,he,⟨hc,h0⟩,hd,h1,hnT,hTe,hT,hdT,h3⟩:=k3;have eo:e∈own:=by obtain ⟨_,_,_,_,_,_,_,(⟨_,r,_⟩ | ⟨_,_,_,_,_,r,_⟩)⟩:=x<;>(rw [r];simp)
    have newT:X.s₀.heap.get? T=none/\H T=none:=by
      by_cases no:T∈own;exact ⟨(oo T no).2.1,(oo T no).1⟩;have hn:=K.new hnT hT hdT no;refine ⟨?_,?_⟩;cases qq:X.s₀.heap.get? T with
      | none=>rfl
      | some o =>obtain ⟨o',e'⟩:=I.base.there T o qq (by rw [hx];simp);rw [hn] at e';cases e'
      cases qq:H T with
      | none=>rfl
      | some o =>obtain ⟨o',e'⟩:∃o',s'.heap.get? T=some o':=(I.hok T o qq).ob;rw [hn] at e';cases e'
    have neL:∀b o,X.s₀.heap.get? b=some o->b≠X.env.locals:=fun b o e=>Bh (Ak (AT e) I.ok.above);have neO:∀b o,X.s₀.heap.get? b=some o->b∉own:=fun b o e z=>by rw [(oo b z).2.1] at e;cases e
    have nx:∀b:Addr,b∉X.ex:=fun b z=>by rw [hx] at z;simp at z
    refine ⟨e,T,cls,H,rfl,I.os,I.bare,⟨fun b o e n hb _=>?_,fun b o e n hb _=>?_,fun b o e n _=>I.base.free b o e n (nx b),fun b o e _=>?_,I.base.tups,I.base.frzs,I.base.tbls⟩,K.hok I fun b hb=>(oo b hb).1,⟨Cw s'.heap (own++frs X.stack),?_⟩,
      ⟨oe,vs,a0,he,hc,hd,h0,.inr ⟨T,oT,ts,.none,rfl,rfl,h1,hTe,hT,hdT,h3⟩⟩,(oo e eo).2.1,newT.1,(oo e eo).1,newT.2,q⟩
    exact K.get (I.base.keep b o e n hb (nx b)) (neO b o e) fun z=>(Au.mp (I.stkSub b z)).elim (neL b o e) hb;obtain ⟨sl,e1⟩:=I.base.slot b o e n hb (nx b);obtain ⟨sl',e2⟩:=K.there I e1 (neO b o e);exact ⟨sl',e2⟩;obtain ⟨o',e1⟩:=I.base.there b o e (nx b);obtain ⟨sl',e2⟩:=K.there I e1 (neO b o e);exact ⟨_,e2⟩;exact k2'
  rw [hst] at hfl;obtain ⟨oe,vs,a0,he,hc,hd,h0,r⟩:=x;subst hc;rcases r with ⟨_,_,h1⟩ | ⟨T,oT,ts,fl,rfl,ro,h1,hTe,hT,hdT,h3⟩;exact wpAny_leaving_firstW hfr hfl hf he hkb hen hd h1 h0 fun h' L=>fin h' a0 L.1 (by rw [hst];exact L.2.1) L.2.2.1 L.2.2.2;have hnT:B.get? T=none:=by rw [hB];exact Co _ (Am _ (by rw [ro];simp))
  have tr:s'.heap.TracedAtW B e oe.cls a0 fl:=⟨oe,vs,T,oT,ts,he,⟨rfl,h0⟩,hd,h1,hnT,hTe,hT,hdT,h3⟩;rcases hz with hz | hz | ⟨L,hL,hz⟩;cases hz;cases hz;exact wpAny_leaving_nextW hfr hfl hf tr hkb hen fun h' L=>fin h' a0 L.1 (by rw [hst];exact L.2.1) L.2.2.1 L.2.2.2;cases hz;unfold Fq;refine Av (Fk hL tr ?_);exact wpAny_landsW ⟨hkb,hen,hfl,tr⟩ fun h' F up=>fin h' a0 F.1 (by rw [hst];exact F.2.2.1) F.2.2.2 up
def CXE (P:Ao)(w:AK):CXT:=fun outer H s E ev s'=>∃e dx,ev=.ref e/\DictIs s' e dx/\CXE0 P w outer H s (fun cls _ H'=>E cls dx H') ev s'
def ER (X:Cx)(E:XK)(ev:Value)(s':Ac):Prop:=∃e dx,ev=.ref e/\DictIs s' e dx/\ER0 X (fun cls _ H'=>E cls dx H') ev s'
theorem er_leaves {E:XK}{R:Value->Ac->Prop}(h:ER X E ev s')
  (hP:X.prog=P) (hw:X.w=w) (hs:X.s₀=s₀) (hH:X.H₀=H₀) (ho:X.outer=outer) (hx:X.ex=[]) (hst:X.stack=X.env::outer) (hf:X.env.frame=some X.env.locals) :
  An (Ai P w) X.A (Fq X.env ev) (fun _ s''=>CXE P w outer H₀ s₀ E ev s'') R s':=by
 obtain ⟨e,dx,rfl,hd,h⟩:=h;exact AZ ((dk_leaving X.env (.ref e)).any (er_leaves0 (R:=R) h hP hw hs hH ho hx hst hf) hd) (fun _ s'' q=>⟨e,dx,rfl,q.2,q.1⟩) fun _ _ q=>q.1
theorem Inv.ownNew (I:Inv X pins σ H s)(hx:X.ex=[]){b:Addr}(hb:s.heap.get? b=none):H b=none/\X.s₀.heap.get? b=none/\b≠X.env.locals/\(∀x c,X.env.cells.lookup x=some c->c≠b)/\∀p∈X.pn++pins,p.1≠b:=by
 refine ⟨?_,?_,?_,fun x c e z=>?_,fun p hp z=>?_⟩;cases q:H b with
 | none=>rfl
 | some o =>obtain ⟨ob,e⟩:=(I.hok b o q).ob;rw [hb] at e;cases e
 cases q:X.s₀.heap.get? b with
 | none=>rfl
 | some o =>obtain ⟨o',e⟩:=I.base.there b o q (by rw [hx];simp);rw [hb] at e;cases e
 rintro rfl;obtain ⟨m,⟨o,_,_,ho,_⟩,_⟩:=I.loc;rw [hb] at ho;cases ho;obtain ⟨v,o,ho,_⟩:=I.cell x c e;rw [z,hb] at ho;cases ho;have e:=(I.pin p hp).1;rw [z,hb] at e;cases e
theorem PSs.weak {st:List Stmt}{t:TS}(h:PSs (X.wish E') st t)(hE:∀e s,E' e s->X.xe e s):PSs X st t:=fun pins s σ H D I hw =>
 AZ (h pins s σ H D (I.wish E') hw) (fun _ _ q=>q.unwish) hE
theorem Fun.okE {base:AR}{k:Nat}(F:Fun K x qual st f fd)(S:FnScope N ps (defScope st))(len:∀vs H Q E,sp vs H Q E->vs.length=ps.length)
    (hbody:∀(cdv:Value) (A:AI) (outer:List Env) (s:Ac) (H:Hp) (vs:List V) (Q:VK) (E:XK),Room k (A.deeper (Cv qual (defScope st) s.heap.objs.size f cdv))->sp vs H Q E->
      ∃t,PSs ((cxOf (CXE P w) P w K mg base N qual (defScope st) f cdv A outer s H E).wish (ER (cxOf (CXE P w) P w K mg base N qual (defScope st) f cdv A outer s H E) E)) (defBody st) t/\t {nx:=fun _ H'=>Q .non H',rt:=Q} (start N vs) H):FnOk P w K mg base (CXE P w) (k+1) f fd ps sp:=by
  obtain ⟨oc,od,kV,doc,pm,an,cdv,ct,osl,rfl,lk,hcd⟩:=F.ex;refine fn_of lk hcd S len fun A outer s H vs Q E hr hsp=>?_;obtain ⟨t,h,q⟩:=hbody cdv A outer s H vs Q E hr hsp;exact ⟨t,h.weak fun e s' x=>er_leaves x rfl rfl rfl rfl rfl rfl rfl rfl,q⟩
theorem passE0 {E:XK}(hx:X.ex=[]:=by rfl):Passes (CXE0 X.prog X.w) (X.wish (ER0 X E)) E:=fun pins σ H s ev s' I h=>by obtain ⟨e,T,cls,H',rfl,os,bare,un,hok,fr,x,ne,nT,hH1,hH2,q⟩:=h;have J:Inv X pins σ H s:=I.unwish;have I':Inv X pins σ H' s':=J.call' (ch:=[]) os un hok bare (by simp);refine ⟨pins,e,[e,T],cls,some .none,σ,H',rfl,I',x,.inr (.inl rfl),fun b hb=>?_,q⟩;simp only [Au,or_false,DT] at hb;rcases hb with rfl | rfl;exact ⟨hH1,(J.ownNew hx ne).2⟩;exact ⟨hH2,(J.ownNew hx nT).2⟩
theorem passE {E:XK}(hx:X.ex=[]:=by rfl):Passes (CXE X.prog X.w) (X.wish (ER X E)) E:=fun pins σ H s ev s' I h=>by obtain ⟨e,dx,rfl,hd,h⟩:=h;exact ⟨e,dx,rfl,hd,passE0 (X:=X) (E:=fun cls _ H'=>E cls dx H') hx pins σ H s (.ref e) s' (I.unwish.wish _) h⟩
abbrev bmV:List Value:=[.type "ValueError",.type "Exception",.type "BaseException",.type "object"]
theorem excObj (X:K.In h)(q:DS K C bmB newId=true) :
  ∃bm N nm q bs hdct sn sub ab col dd k0 k1 k2 k3 k5 mN,h.get? C=some (excClassObj nm q C N bs bm hdct sn sub ab col dd k0 k1 k2 k3 k5 newId)/\h.Ns N mN/\mN "__init__"=none/\OwnTail h bmB bm:=by
 unfold DS at q;split at q
 next dct cls slots look =>
  split at q
  next _ above z0 z1 z2 z3 maker z5 isMro isSlots =>
   rw [Aq,Aq,Aq,Aq,Aq] at q;obtain ⟨⟨⟨⟨⟨q1,q2⟩,q3⟩,q4⟩,q5⟩,q6⟩:=q;have same:=beq_iff_eq.mp q1;have mk:=beq_iff_eq.mp q2;have nodel:=(Bool.not_eq_true' _).mp q3;subst same mk;have all6:slots=#[z0,z1,z2,z3,some (.builtin maker),z5]:=Array.ext' isSlots;rcases cls with ⟨c1,c2,c3,c4,c5,c6,c7,c8,c9,c10,c11⟩;cases (show c11=false from nodel);cases (show c3=_ from isMro);cases all6;exact ⟨_,c4,c1,c5,c2,c6,c7,c8,c9,c10,dct,z0,z1,z2,z3,z5,_,X _ _ look,.of_isNs (PySem.W.isNs_of_in X q5),PySem.W.nsMap_none_of_in X q5 (beq_iff_eq.mp q6),PySem.W.tail_of_in X q4⟩
  next=>cases q
 next=>cases q
def tRaise (cls:Value)(E:XK)(t:TA):TS:=fun _ σ H=>t σ H fun vs H1=>vs.length<=Ah/\E cls none H1
theorem ps_raise {e:Expr}{E:XK}(hq:DS X.K C bmV "ValueError.__new__"=true)(hm:X.mg x=some (.ref C))(ha:PA (X.wish (ER X E)) (e::es) t)(hg:Gl X x:=by rfl)(hc:X.calm=true:=by rfl)(hx:X.ex=[]:=by rfl)
  (hdb:(x==("__debug__":Str))=false:=by decide) (he:Ab (e::es) X.env=(false,Ar e X.env)::Ab es X.env:=by rfl) (hpl:(AG cpos (Ab es X.env)).any (·.1)=false:=by rfl) :
  PS (X.wish (ER X E)) (.Raise (some (.Call (.Name x np) (e::es) [] cpos)) none pos) (tRaise (.ref C) E t):=by
 intro pins s σ H D I h;obtain ⟨bm,N,nm,q,bs,hdct,sn,sub,ab,col,dd,k0,k1,k2,k3,k5,mN,hC,hN,hni,T⟩:=excObj (h:=X.base) I.ok.mod.kin hq;refine wpAny_Raise_call_subT (C:=C) (nm:=nm) (q:=q) (N:=N) (bs:=bs) (bm:=bm) (hdct:=hdct) (sn:=sn) (sub:=sub) (ab:=ab) (col:=col) (dd:=dd) (k0:=k0) (k1:=k1) (k2:=k2) (k3:=k3) (k5:=k5)
  PySem.F.excBase_ValueError (mN:=mN) (T.hasType PySem.F.excBase_ValueError.hasBase) (I.ok.hd hc) (by rw [show Ab (e::es) (X.wish (ER X E)).env=(false,Ar e X.env)::Ab es X.env from he];show (false||(AG cpos (Ab es X.env)).any (·.1))=false;rw [hpl];rfl) hni (ld_glob I hg hm ⟨rfl,?_⟩ hdb)
 have hA:=ha cpos pins s σ H _ I h;rw [show Ab (e::es) (X.wish (ER X E)).env=(false,Ar e X.env)::Ab es X.env from he] at hA ⊢;refine ES (thn hA fun us s2 ⟨vs,H2,I2,r2,hl,q2⟩=>⟨rfl,by rw [<- r2.length];exact hl,I2.bk _ _ hC,hN.keeps I2.bk,T.keeps I2.bk,fun h' e hm=>?_⟩);obtain ⟨t,he',htn,ht⟩:=hm.there;have J2:Inv X pins σ H2 s2:=I2.unwish;have I3:Inv X pins σ H2 {s2 with heap:=h'}:=J2.kept (t':=s2.toks) hm.keeps;refine ⟨e,none,rfl,⟨_,he',rfl⟩,pins,e,[e],.ref C,none,σ,H2,rfl,I3,⟨_,_,_,he',rfl,rfl,rfl,.inl ⟨rfl,rfl,rfl⟩⟩,.inl rfl,fun b hb=>?_,q2⟩;rw [As.mp hb];exact J2.ownNew hx hm.new
theorem ExAt.mem {cls:Value}(x:ExAt h e cls own z):e∈own:=by obtain ⟨_,_,_,_,_,_,_,(⟨_,r,_⟩ | ⟨_,_,_,_,_,r,_⟩)⟩:=x<;>(rw [r];simp)
theorem traced_own {cls a0:Value}(I:Inv X pins σ H s)(oo:OwnOk X pins H own)(eo:e∈own)(hx:X.ex=[])(K:Kept X own s.heap h')
  (tr:h'.TracedAtW (Cw s.heap (own++frs X.stack)) e cls a0 fl):∃T,ExAt h' e cls [e,T] (some fl)/\OwnOk X pins H [e,T]:=by
 obtain ⟨oe,vs,T,oT,ts,he,⟨hc,h0⟩,hd,h1,hnT,hTe,hT,hdT,h3⟩:=tr;refine ⟨T,⟨oe,vs,a0,he,hc,hd,h0,.inr ⟨T,oT,ts,fl,rfl,rfl,h1,hTe,hT,hdT,h3⟩⟩,fun b hb=>?_⟩;simp only [Au,or_false,DT] at hb;rcases hb with rfl | rfl;exact oo _ eo;by_cases no:b∈own;exact oo _ no;exact I.ownNew hx (K.new hnT hT hdT no)
theorem ex_note {cls:Value}{R:Value->Ac->Prop}(I:Inv X pins σ H s)(x:ExAt s.heap e cls own z)
  (hz:z=none\/z=some .none\/∃L,X.env.frame=some L/\z=some (DW L)) (oo:OwnOk X pins H own) (hx:X.ex=[]) (hfr:A'.frames=some X.stack) (hst:X.stack=X.env::X.outer) (hf:X.env.frame=some X.env.locals)
  (k:∀s2 T,Inv X pins σ H s2->ExAt s2.heap e cls [e,T] (some (DW X.env.locals))->OwnOk X pins H [e,T]->Q () s2):An (Ai X.prog X.w) A' (DL (.ref e) X.env) Q R s:=by
 obtain ⟨hkb,hfl⟩:=I.hide own;obtain ⟨B,hB⟩:∃B,B=Cw s.heap (own++frs X.stack):=⟨_,rfl⟩;rw [<- hB] at hkb hfl;have eo:=x.mem;have hen:B.get? e=none:=by rw [hB];exact Co _ (Am _ eo)
 have fin:∀(h':AR) (a0:Value),Heap.NotedW B X.stack e cls a0 (DW X.env.locals) s.heap h'->Q () {s with heap:=h'}:=fun h' a0 N=>by subst hB;obtain ⟨k1,k2,k3,k4⟩:=N;have K:Kept X own s.heap h':=⟨k1,k2,k4⟩;obtain ⟨T,x',oo'⟩:=traced_own I oo eo hx K k3;exact k _ T (K.inv I oo (t':=s.toks)) x' oo'
 obtain ⟨oe,vs,a0,he,hc,hd,h0,r⟩:=x;subst hc;rw [hst] at hfr hfl;rcases r with ⟨_,_,h1⟩ | ⟨T,oT,ts,fl,rfl,ro,h1,hTe,hT,hdT,h3⟩;unfold DL;simp only [hf];refine (Av (wpAny_field he hd h1 ?_));rw [if_neg (by decide)];exact wpAny_entryW hfr hfl hf he hkb hen hd (Array.getElem?_eq_some_iff.mp h1).1 h0 fun h' N=>fin h' a0 (by rw [hst];exact N);have hnT:B.get? T=none:=by rw [hB];exact Co _ (Am _ (by rw [ro];simp))
 have tr:s.heap.TracedAtW B e oe.cls a0 fl:=⟨oe,vs,T,oT,ts,he,⟨rfl,h0⟩,hd,h1,hnT,hTe,hT,hdT,h3⟩;rcases hz with hz | hz | ⟨L,hL,hz⟩;cases hz;cases hz;exact wpAny_noteFrame_onW hfr hfl hf tr hkb hen fun h' N=>fin h' a0 (by rw [hst];exact N);cases hz;obtain rfl:X.env.locals=L:=AH (hf.symm.trans hL);refine Fk hf tr ?_;subst ro;exact k s T I ⟨oe,vs,a0,he,rfl,hd,h0,.inr ⟨T,oT,ts,_,rfl,rfl,h1,hTe,hT,hdT,h3⟩⟩ oo
theorem ex_land {cls:Value}{R:Value->Ac->Prop}(I:Inv X pins σ H s)(x:ExAt s.heap e cls [e,T] (some fl))(oo:OwnOk X pins H [e,T])(hx:X.ex=[])
  (k:∀s2 T',Inv X pins σ H s2->ExAt s2.heap e cls [e,T'] (some .none)->OwnOk X pins H [e,T']->Q () s2):An (Ai X.prog X.w) A' (GC (.ref e) none) Q R s:=by
 obtain ⟨hkb,hfl⟩:=I.hide [e,T];have eo:=x.mem;obtain ⟨oe,vs,a0,he,hc,hd,h0,r⟩:=x;rcases r with ⟨z,_⟩ | ⟨T',oT,ts,fl',z,ro,h1,hTe,hT,hdT,h3⟩;cases z;cases z;have hnT:(Cw s.heap ([e,T]++frs X.stack)).get? T'=none:=Co _ (Am _ (by rw [ro];simp));refine wpAny_setFlight_noneW hkb hfl ⟨oe,vs,T',oT,ts,he,⟨hc,h0⟩,hd,h1,hnT,hTe,hT,hdT,h3⟩ fun h' k1 k2 k3 k4=>?_;have K:Kept X [e,T] s.heap h':=⟨k1,k2,fun b o q hn=>⟨o.slots,k4 b o q hn⟩⟩;obtain ⟨T2,x',oo'⟩:=traced_own I oo eo hx K k3;exact k _ T2 (K.inv I oo (t':=s.toks)) x' oo'
theorem ex_noteD {cls:Value}{R:Value->Ac->Prop}(I:Inv X pins σ H s)(x:ExAt s.heap e cls own z)
  (hz:z=none\/z=some .none\/∃L,X.env.frame=some L/\z=some (DW L)) (oo:OwnOk X pins H own) (hx:X.ex=[]) (hfr:A'.frames=some X.stack) (hst:X.stack=X.env::X.outer) (hf:X.env.frame=some X.env.locals) (hd:DictIs s e dx)
  (k:∀s2 T,Inv X pins σ H s2->ExAt s2.heap e cls [e,T] (some (DW X.env.locals))->OwnOk X pins H [e,T]->DictIs s2 e dx->Q () s2):An (Ai X.prog X.w) A' (DL (.ref e) X.env) Q R s:=
 AZ ((dk_note (.ref e) X.env).any (ex_note (R:=R) (Q:=fun _ s2=>∃T,Inv X pins σ H s2/\ExAt s2.heap e cls [e,T] (some (DW X.env.locals))/\OwnOk X pins H [e,T]) I x hz oo hx hfr hst hf fun s2 T a b c=>⟨T,a,b,c⟩) hd)
  (fun _ s2 ⟨⟨T,a,b,c⟩,d⟩=>k s2 T a b c d) fun _ _ q=>q.1
theorem ex_landD {cls:Value}{R:Value->Ac->Prop}(I:Inv X pins σ H s)(x:ExAt s.heap e cls [e,T] (some fl))(oo:OwnOk X pins H [e,T])(hx:X.ex=[])(hd:DictIs s e dx)
  (k:∀s2 T',Inv X pins σ H s2->ExAt s2.heap e cls [e,T'] (some .none)->OwnOk X pins H [e,T']->DictIs s2 e dx->Q () s2):An (Ai X.prog X.w) A' (GC (.ref e) none) Q R s:=
 AZ ((dk_setFlight (.ref e) none).any (ex_land (R:=R) (Q:=fun _ s2=>∃T',Inv X pins σ H s2/\ExAt s2.heap e cls [e,T'] (some .none)/\OwnOk X pins H [e,T']) I x oo hx fun s2 T a b c=>⟨T,a,b,c⟩) hd)
  (fun _ s2 ⟨⟨T,a,b,c⟩,d⟩=>k s2 T a b c d) fun _ _ q=>q.1
def exO (e:Addr)(cls:Value)(dx:Option Addr):HO:=.ext fun h=>∃o vs,h.get? e=some o/\o.cls=cls/\o.data=.fields vs/\o.dict=dx
theorem Inv.track {cls:Value}(I:Inv X pins σ H s)(x:ExAt s.heap e cls own z)(oo:OwnOk X pins H own)(hdx:DictIs s e dx):Inv X pins σ (upd H e (exO e cls dx)) s:=by
 have eo:=x.mem;obtain ⟨oe,vs,a0,he,hc,hd,h0,r⟩:=x;obtain ⟨o2,he2,hd2⟩:=hdx;cases AH (he.symm.trans he2);have hn:=(oo e eo).1;have ne:∀b u,H b=some u->b≠e:=fun b u q z=>by rw [z,hn] at q;cases q
 rcases s with ⟨hp,g,d,tk,os⟩;refine I.step' (h':=hp) (g':=g) (t':=tk) (d':=d) (ch:=[e]) (fun b hb=>by rw [As.mp hb];exact (oo e eo).2) (fun b o _ _ _ q _=>q) (fun b o _ _ _ q _=>⟨o.slots,q⟩) (fun b o hb q n=>?_) (fun b o _ q=>⟨o,q⟩)
  (fun b xs q=>by rw [upd_ne (ne _ _ q)];exact q) (fun b o u q=>by rw [upd_ne (ne _ _ q)];exact q) (fun b p n q=>by rw [upd_ne (ne _ _ q)];exact q) (fun m hm=>hm) (fun a o q=>?_) I.bare
 rw [upd_ne (fun z=>hb (by simp [z]))];exact n;by_cases ea:a=e;subst ea;rw [upd_same] at q;cases q;exact ⟨⟨oe,vs,he,hc,hd,hd2⟩,⟨oe,he⟩,fun h1 h2 ⟨o,vs,q1,q2⟩ kk=>⟨o,vs,kk o q1,q2⟩⟩;rw [upd_ne ea] at q;exact (I.hok a o q).stay (fun b u _ q=>q) (fun b q=>by rw [upd_ne (ne _ _ q)];exact q) (fun b xs q=>by rw [upd_ne (ne _ _ q)];exact q) fun b ob u q=>by rw [upd_ne (ne _ _ q)];exact q
theorem Inv.gone (I:Inv X pins σ H s)(hn':h'.Ns X.env.locals m')(hs:C2 X.env.locals s.heap h'):Inv X pins (Aa X.N.length none) H {s with heap:=h',toks:=t'}:=by obtain ⟨m,hn,hl⟩:=id I.loc;obtain ⟨oL,_,_,hoL,_⟩:=id hn;have lt:∀b o,X.s₀.heap.get? b=some o->b≠X.env.locals:=fun b o e=>Bh (Ak (AT e) I.ok.above);refine ⟨I.ok,I.os,I.bare,⟨fun b o e n hb hx=>?_,fun b o e n hb hx=>?_,I.base.free,fun b o e hx=>?_,I.base.tups,I.base.frzs,I.base.tbls⟩,⟨m',hn',fun j y v' e1 e2 e3=>?_⟩,fun y c e=>?_,I.free,I.freeC,fun p hp=>?_,fun b ob e=>?_,by simp⟩;exact (hs.2 b (lt b o e)).trans (I.base.keep b o e n hb hx);obtain ⟨sl,e1⟩:=I.base.slot b o e n hb hx;exact ⟨sl,(hs.2 b (lt b o e)).trans e1⟩;obtain ⟨o',e1⟩:=I.base.there b o e hx;exact ⟨o',(hs.2 b (lt b o e)).trans e1⟩;rw [Ce] at e2;split at e2<;>cases e2;obtain ⟨w',z⟩:=I.cell y c e;exact ⟨w',z.sameBut hs (I.cne y c e)⟩;obtain ⟨e,n,ne,nf,d⟩:=I.pin p hp;exact ⟨(hs.2 p.1 ne).trans e,n,ne,nf,d⟩;refine (I.hok b ob e).stay (fun c w' hc q=>(hs.2 c ?_).trans q) (fun _ q=>q) (fun _ _ q=>q) fun _ _ _ q=>q;rintro rfl;rcases hc with hc | hc;rw [<- hc,I.free] at e;cases e;rw [I.free] at hc;cases hc
theorem Cx.Ok.setPn (ok:X.Ok)(pn:List (Addr×Obj)):({X with pn:=pn}:Cx).Ok:=⟨ok.mod,ok.kind,ok.glob,ok.blt,ok.above,ok.inj,ok.has,ok.cab,ok.hd,ok.frames,ok.stk,ok.exf,ok.bs,ok.bsz,ok.noex,ok.exfs,ok.funs,ok.frf⟩
theorem Cx.Ok.unsetPn (ok:({X with pn:=pn}:Cx).Ok):X.Ok:=⟨ok.mod,ok.kind,ok.glob,ok.blt,ok.above,ok.inj,ok.has,ok.cab,ok.hd,ok.frames,ok.stk,ok.exf,ok.bs,ok.bsz,ok.noex,ok.exfs,ok.funs,ok.frf⟩
theorem Inv.inpin (I:Inv X pins σ H s):Inv {X with pn:=X.pn++pins} [] σ H s:=⟨I.ok.setPn _,I.os,I.bare,I.base,I.loc,I.cell,I.free,I.freeC,fun p hp=>I.pin p (by simpa using hp),I.hok,I.len⟩
theorem Inv.outpin (I:Inv {X with pn:=X.pn++pins} pins' σ H s):Inv X pins σ H s:=⟨I.ok.unsetPn,I.os,I.bare,I.base,I.loc,I.cell,I.free,I.freeC,fun p hp=>I.pin p (Am _ hp),I.hok,I.len⟩
abbrev Cx.hand (X:Cx)(e:Addr):Cx:={X with A:=X.A.mark (some (.ref e)),calm:=false,xe:=fun _ _=>False}
theorem Inv.hand (I:Inv X pins σ H s)(e:Addr):Inv (X.hand e) pins σ H s:=
  ⟨⟨I.ok.mod,I.ok.kind,I.ok.glob,I.ok.blt,I.ok.above,I.ok.inj,I.ok.has,I.ok.cab,(fun z=>by cases z),I.ok.frames,I.ok.stk,I.ok.exf,I.ok.bs,I.ok.bsz,I.ok.noex,I.ok.exfs,I.ok.funs,I.ok.frf⟩,
    I.os,I.bare,I.base,I.loc,I.cell,I.free,I.freeC,I.pin,I.hok,I.len⟩
theorem Inv.unhand (I:Inv (X.hand e) pins σ H s)(hd:X.calm=true->X.A.handled=none):Inv X pins σ H s:=
  ⟨⟨I.ok.mod,I.ok.kind,I.ok.glob,I.ok.blt,I.ok.above,I.ok.inj,I.ok.has,I.ok.cab,hd,I.ok.frames,I.ok.stk,I.ok.exf,I.ok.bs,I.ok.bsz,I.ok.noex,I.ok.exfs,I.ok.funs,I.ok.frf⟩,
    I.os,I.bare,I.base,I.loc,I.cell,I.free,I.freeC,I.pin,I.hok,I.len⟩
def tTry (K:AC)(c:Value)(i N:Nat)(tb:XK->TS)(th:TS):TS:=fun D σ H=>∃E:XK,tb E D σ H/\∀cls dx H' e,E cls dx H'->H' e=none->Ee K cls c=some true/\
 ∀σ':St,σ'.length=N->th {nx:=fun _ H2=>D.nx (Aa N none) H2,rt:=D.rt,bk:=fun _ H2=>D.bk (Aa N none) H2,ct:=fun _ H2=>D.ct (Aa N none) H2} (σ'.set i (some (.ref e))) (upd H' e (exO e cls dx))
theorem ps_try {c n:Str}{hpos:Pos}{i:Nat}{th:TS}(hm:X.mg c=some (.ref C))
  (hb:∀(E:XK) (pn:List (Addr×Obj)),PSs (({X with pn:=pn}:Cx).wish (ER {X with pn:=pn} E)) body (tb E)) (hh:∀e:Addr,PSs (X.hand e) (b₀::suite) th)
  (hN:X.N.Nodup) (hi:X.N[i]?=some n) (hl:X.env.scope.names.lookup n=some .local) (hg:Gl X c:=by rfl) (hx:X.ex=[]:=by rfl) (hst:X.stack=X.env::X.outer:=by rfl) (hf:X.env.frame=some X.env.locals:=by rfl) (hdb:(c==("__debug__":Str))=false:=by decide) :
  PS X (.Try body [.ExceptHandler (some (.Name c np)) (some n) (b₀::suite) hpos] [] [] pos) (tTry X.K (.ref C) i X.N.length tb th):=by
 intro pins s σ H D I h;obtain ⟨E,h1,h2⟩:=h;refine wpAny_Try_except (AZ (hb E (X.pn++pins) [] s σ H D (I.inpin.wish _) h1) (fun f s1 q=>?_) fun ev s1 q=>?_)
 ·have q1:SP ({X with pn:=X.pn++pins}:Cx) [] D f s1:=q.unwish;have q':SP X pins D f s1:=by
   cases f with
   | next=>obtain ⟨σ',H',I',z⟩:=q1;exact ⟨σ',H',I'.outpin,z⟩
   | brk=>obtain ⟨σ',H',I',z⟩:=q1;exact ⟨σ',H',I'.outpin,z⟩
   | cont=>obtain ⟨σ',H',I',z⟩:=q1;exact ⟨σ',H',I'.outpin,z⟩
   | ret u=>obtain ⟨v,σ',H',I',r,z⟩:=q1;exact ⟨v,σ',H',I'.outpin,r,z⟩
  cases f with
  | next=>exact Dp q'
  | brk=>exact q'
  | cont=>exact q'
  | ret u=>exact q'
 ·obtain ⟨e0,dx,rfl,hdx,pins',e,own,cls,z,σ1,H1,ee,I1,x,hz,oo,qE⟩:=q;cases ee;have J1:Inv X pins σ1 H1 s1:=I1.outpin;have oo1:OwnOk X pins H1 own:=fun b hb=>let ⟨a1,a2,a3,a4,a5⟩:=oo b hb;⟨a1,a2,a3,a4,fun p hp=>a5 p (Am _ hp)⟩
  obtain ⟨hmat,hth⟩:=h2 cls dx H1 e0 qE (oo e0 x.mem).1;refine ex_noteD J1 x hz oo1 hx I.ok.frames hst hf hdx fun s2 T I2 x2 oo2 hd2=>?_;refine ex_landD I2 x2 oo2 hx hd2 fun s3 T3 I3 x3 oo3 hd3=>?_;refine wpAny_handleBy_cons (codeAny_handlers_test ?_) (by intro q;cases q);refine ld_glob (X:=X.hand e0) (I3.hand e0) hg hm ?_ hdb;have ty:PySem.W.Looks (Ai X.prog X.w) s3.heap (typeOf (.ref e0)) cls:=by obtain ⟨oe,vs,a0,he,hc,_⟩:=x3;subst hc;exact (PySem.W.Looks.ld he).andThen .now
  refine (PySem.W.exm_one I3.kIn ty hmat).here ?_;refine (codeAny_handlers_suite_as ?_);refine ex_landD (X:=X.hand e0) (I3.hand e0) x3 oo3 hx hd3 fun s4 T4 I4 x4 oo4 hd4=>?_;have I5:=I4.track x4 oo4 hd4;refine store_ok (X:=X.hand e0) I5 hN hi (.inl hl) (v:=.ref e0) rfl (fun s5 I6=>?_) (.inr hl);refine AZ (hh e0 pins s5 _ _ _ I6 (hth σ1 J1.len)) (fun f s6 q=>?_) fun _ _ z=>z.elim;have fin:∀{σ':St} {H':Hp} {Qf:Ac->Prop},Inv (X.hand e0) pins σ' H' s6->(∀s7,Inv X pins (Aa X.N.length none) H' s7->Qf s7)->An (Ai X.prog X.w) X.A (do bindName X.env n .none;unbindBehindTheSuite X.env n hpos) (fun _ s7=>Qf s7) X.xe s6:=fun {σ' H' Qf} J k=>by have J':Inv X pins σ' H' s6:=J.unhand I.ok.hd;obtain ⟨m,hn,_⟩:=J'.loc;exact wpAny_nameGoes hl hn (by rw [I.ok.kind];rfl) fun h' m' hn' hs=>k _ (J'.gone hn' hs)
  cases f with
  | next=>obtain ⟨σ',H',I',z⟩:=q;exact fin I' fun s7 J=>⟨_,_,J,z⟩
  | brk=>obtain ⟨σ',H',I',z⟩:=q;exact fin I' fun s7 J=>⟨_,_,J,z⟩
  | cont=>obtain ⟨σ',H',I',z⟩:=q;exact fin I' fun s7 J=>⟨_,_,J,z⟩
  | ret u=>obtain ⟨v,σ',H',I',r,z⟩:=q;exact fin I' fun s7 J=>⟨v,_,_,J,r,z⟩
end L2
namespace L2
open PySem PySem.Spec
variable {prog:Ao}{w:AK}{A:AI}{E:Value->Ac->Prop}{h:AR}{g:Array CS}{d:F0}{t:Nat}{os:Fv}{o:Obj}{vs:Array Value}{ct:Tok}{Q:Option Value->Ac->Prop}{nameV:Value}
section
variable {a C:Addr}
open PySem.W (Looks)
theorem xcls_get {R:DG->Ac->Prop}(hx:h.get? a=some o)(hc:o.cls=.ref C)(hsub:Looks (Ai prog w) h (Cu (.ref C) (.type "object")) true)(hq:R (.ok (.ret (.ref C))) ⟨h,g,d,t,os⟩) :
  Cp (Ai prog w) A (.call (.builtin "getset_descriptor.__get__") ⟨[.builtin "object.__class__",.ref a,.ref C],[]⟩) R ⟨h,g,d,t,os⟩:=by
 have isGs:(⟨h,g,d,t,os⟩:Ac).TypeIs (.builtin "object.__class__") "getset_descriptor":=Dm;refine FP EQ.plain F.entry_gs_get (EQ.check _ _ _ _ _ _ _ _ isGs (F.args_gs_get _ _ _) ?_);have ho:(".".intercalate ("object.__class__".cutAt '.').dropLast)="object":=F.owner_object_class
 repeat (any_goals (first | assumption | (with_reducible refine Cj hx ?_;rw [hc]) | (rw [ho];with_reducible refine hsub.here ?_) | wp_step))
 refine EB (Code.quiet_builtin _ (by decide +kernel)) (codeAny_builtin F.entry_object_class ?_)
 repeat (any_goals (first | assumption | (with_reducible refine Cj hx ?_;rw [hc]) | wp_step))
theorem xcls_entry {Q:Fin->Ac->Prop}(hx:h.get? a=some o)(hc:o.cls=.ref C)(hd:o.data=.fields vs)(hlk:Looks (Ai prog w) h (B8 (.ref C) "__class__") (some (.builtin "object.__class__")))(hsub:Looks (Ai prog w) h (Cu (.ref C) (.type "object")) true)(hq:Q (.done (.ret (.ref C))) ⟨h,g,d,t,os⟩) :
  An (Ai prog w) A (Builtin.«object.__getattribute__» ⟨[.ref a,.str "__class__" ct],[]⟩) Q E ⟨h,g,d,t,os⟩:=by
 have isGs:(⟨h,g,d,t,os⟩:Ac).TypeIs (.builtin "object.__class__") "getset_descriptor":=Dm;have known:=EB Dm (EB EQ.lookup F.slot_gs_set.lookup);obtain ⟨f5,f6,f7⟩:=known
 repeat (any_goals (first | assumption | (with_reducible refine Cj hx ?_;rw [hc]) | with_reducible refine hlk.here ?_ | wp_step))
 refine xcls_get hx hc hsub ?_
 repeat (any_goals first | assumption | wp_step)
theorem xcls_check {Q:Unit->Ac->Prop}(hx:h.get? a=some o)(hc:o.cls=.ref C)(hsb:Looks (Ai prog w) h (Cu (.ref C) (.type "BaseException")) true)(hq:Q () ⟨h,g,d,t,os⟩) :
  An (Ai prog w) A (GF "BaseException.__getattribute__" ⟨[.ref a,nameV],[]⟩) Q E ⟨h,g,d,t,os⟩:=by
 have hk:builtinKind "BaseException.__getattribute__"=some .slot/\splitId "BaseException.__getattribute__"=some ("BaseException","__getattribute__"):=⟨by decide +kernel,by decide +kernel⟩;have hag:=F.args_bexc_ga (.ref a) nameV;simp only [GF,hk.1,hk.2];refine Av ?_
 ·unfold isInstance
  repeat (first | (with_reducible refine Cj hx ?_;rw [hc]) | with_reducible refine hsb.here ?_ | wp_step)
  exact hq
theorem xcls_call {R:DG->Ac->Prop}(hx:h.get? a=some o)(hc:o.cls=.ref C)(hd:o.data=.fields vs)(hlk:Looks (Ai prog w) h (B8 (.ref C) "__class__") (some (.builtin "object.__class__")))(hsub:Looks (Ai prog w) h (Cu (.ref C) (.type "object")) true)
  (hsb:Looks (Ai prog w) h (Cu (.ref C) (.type "BaseException")) true) (hq:R (.ok (.ret (.ref C))) ⟨h,g,d,t,os⟩) :
  Cp (Ai prog w) A (.call (.builtin "BaseException.__getattribute__") ⟨[.ref a,.str "__class__" ct],[]⟩) R ⟨h,g,d,t,os⟩:=
 FP PySem.F.attr_ValueError.ga.plain F.entry_bexc_ga (xcls_check hx hc hsb (xcls_entry hx hc hd hlk hsub hq))
theorem xcls_by {Q:Value->Ac->Prop}(hx:h.get? a=some o)(hc:o.cls=.ref C)(hd:o.data=.fields vs)(hga:Looks (Ai prog w) h (B8 (.ref C) "__getattribute__") (some (.builtin "BaseException.__getattribute__")))(hge:Looks (Ai prog w) h (B8 (.ref C) "__getattr__") none)(hlk:Looks (Ai prog w) h (B8 (.ref C) "__class__") (some (.builtin "object.__class__")))(hsub:Looks (Ai prog w) h (Cu (.ref C) (.type "object")) true)
  (hsb:Looks (Ai prog w) h (Cu (.ref C) (.type "BaseException")) true) (hq:Q (.ref C) ⟨h,g,d,t,os⟩):An (Ai prog w) A (getAttrBy (.ref a) (.str "__class__" ct) false) Q E ⟨h,g,d,t,os⟩:=by
 have f3:=PySem.F.attr_ValueError.ga.bind (.ref a);have hz2:(Dr "BaseException.__getattribute__"==Dr "object.__getattribute__")=false:=by decide +kernel
 have hz1:(onTheHeap (AB C)&&Dr "BaseException.__getattribute__"==Dr "object.__getattribute__")=false:=by rw [hz2];rfl
 repeat (any_goals (first | assumption | (with_reducible refine Cj hx ?_;rw [hc]) | with_reducible refine hga.here ?_ | with_reducible refine hge.here ?_ | wp_step))
 refine xcls_call hx hc hd hlk hsub hsb ?_
 repeat (any_goals first | assumption | wp_step)
theorem xcls_attr (hx:h.get? a=some o)(hc:o.cls=.ref C)(hd:o.data=.fields vs)(hga:Looks (Ai prog w) h (B8 (.ref C) "__getattribute__") (some (.builtin "BaseException.__getattribute__")))(hge:Looks (Ai prog w) h (B8 (.ref C) "__getattr__") none)(hlk:Looks (Ai prog w) h (B8 (.ref C) "__class__") (some (.builtin "object.__class__")))(hsub:Looks (Ai prog w) h (Cu (.ref C) (.type "object")) true)
  (hsb:Looks (Ai prog w) h (Cu (.ref C) (.type "BaseException")) true) (hq:Q (some (.ref C)) ⟨h,g,d,t+1,os⟩):An (Ai prog w) A (getAttr? (.ref a) "__class__") Q E ⟨h,g,d,t,os⟩:=by
 unfold getAttr? getAttrBy?
 repeat (any_goals (first | assumption | with_reducible apply xcls_by hx hc hd hga hge hlk hsub hsb | wp_step))
end
end L2
namespace L2
open PySem PySem.Spec PyProof.Rows
variable {X:Cx}{a C f:Addr}{b:Bool}{e value:Expr}{es:List Expr}{te td ty:TE}{pos cpos:Pos}{K:AC}{σ:St}{H H':Hp}{x:Str}{body suite:List Stmt}{b₀ st:Stmt}{i t':Nat}{tbq:XK->TS}{P prog:Ao}{w:AK}{mg:Str->Option Value}{fd:BD}{N ps:List Str}{κ:Type}{o:Option V}{u r:Value}{y:V}{kvs:List (List Key×V)}{xs:List (List Key×Addr×Value)}{h h':AR}{ks:List Key}{pins:List (Addr×Obj)}{s:Ac}{A:AI}{E Q:Value->Ac->Prop}{vs:List (Key×Value)}{env:Env}
abbrev TJ:=St->Hp->(Hp->Prop)->Prop
def PJ (X:Cx)(es:List Expr)(t:TJ):Prop:=
 ∀(out:Str) (pins:List (Addr×Obj)) (s:Ac) (σ:St) (H:Hp) (Q:VK),Inv X pins σ H s->out.length+2000*es.length<=Ah->t σ H (fun H1=>∀z,Q (.str z) H1)->
  An (Ai X.prog X.w) X.A (joinParts out (BW es X.env)) (EP X pins σ Q) X.xe s
structure QJ (X:Cx)(es:List Expr)(t:TJ):Prop where
 out:PJ X es t
def jNil:TJ:=fun _ H Q=>Q H
def jCons (te:TE)(t:TJ):TJ:=fun σ H Q=>te σ H fun x H1=>∃y,x=.str y/\y.length<=2000/\t σ H1 Q
def tJs (t:TJ):TE:=fun σ H Q=>t σ H fun H1=>∀z,Q (.str z) H1
def tFv (te:TE):TE:=fun σ H Q=>te σ H fun x H1=>∃i,x=.int i/\i.natAbs.log2<1920/\∀y:Str,y.length<=2000->Q (.str y) H1
section
variable {a b:Expr}{t:TJ}
theorem pj_nil:PJ X [] jNil:=by intro out pins s σ H Q I hz q;exact joinParts_nil ⟨.str out,H,I.tok _,⟨_,rfl⟩,q out⟩ (by simpa using hz)
theorem pj_cons (he:PE X e te)(hr:PJ X es t)(hv:BW (e::es) X.env=Ar e X.env::BW es X.env):PJ X (e::es) (jCons te t):=by intro out pins s σ H Q I hz q;rw [hv];refine joinParts_cons (thn (he pins s σ H _ I q) fun v s1 hz9=>?_);obtain ⟨x,H1,I1,r1,y,ex,hl,q1⟩:=hz9;subst ex;obtain ⟨tk,rfl⟩:=r1;have e1:(out++y).length=out.length+y.length:=strLen_append ..;rw [A7] at hz;exact ⟨by omega,hr (out++y) pins s1 σ H1 Q I1 (by omega) q1⟩
theorem qj_nil:QJ X [] jNil:=⟨pj_nil⟩
theorem qj_cons (he:QE X e te)(hr:QJ X es t)(hv:BW (e::es) X.env=Ar e X.env::BW es X.env:=by rfl):QJ X (e::es) (jCons te t):=⟨pj_cons he.out hr.out hv⟩
theorem qe_js (h:QJ X (a::b::es) t)(hn:es.length<=100:=by decide)(hv:BW (a::b::es) X.env=Ar a X.env::Ar b X.env::BW es X.env:=by rfl):QE X (.JoinedStr (a::b::es) pos) (tJs t):=⟨fun pins s σ H Q I q =>
  JoinedStr_many (by
    have hz:(CW).length+2000*(a::b::es).length<=Ah:=by have e0:(CW).length=0:=rfl;rw [e0,A7,A7,FJ];omega
    have q':=h.out CW pins s σ H Q I hz q;rw [hv] at q';exact q')⟩
theorem qe_fv (he:QE X e te):QE X (.FormattedValue e (-1) none pos) (tFv te):=⟨fun pins s σ H Q I q =>
  FormattedValue_plain (thn (he.out pins s σ H _ I q) fun v s1 ⟨x,H1,I1,r1,i,ex,hd,q1⟩=>by
    subst ex;obtain ⟨tk,rfl⟩:=r1;exact formatField_int_small hd ⟨.str (toString i),H1,I1.tok _,⟨_,rfl⟩,q1 _ (A9 (int_text_len_1921 hd) (by decide))⟩)⟩
end
open PySem.W (Looks)
structure ErrIn (K:AC)(C:Addr):Prop where
 exc:DS K C bmV "ValueError.__new__"=true
 ty:C3 K (.ref C)=some (.type "type")
 cl:∃c,Em K C=some c
 ga:Ax K (.ref C) "__getattribute__"=some (some (.builtin "BaseException.__getattribute__"))
 ge:Ax K (.ref C) "__getattr__"=some none
 lk:Ax K (.ref C) "__class__"=some (some (.builtin "object.__class__"))
 so:Bs K (.ref C) (.type "object")=some true
 sb:Bs K (.ref C) (.type "BaseException")=some true
 se:Bs K (.ref C) (.ref C)=some true
section
variable {D e:Addr}
structure ErrK (K:AC)(C:Addr):Prop where
 ob:∃dd cd sl,K.lookup C=some ⟨.type "type",dd,.cls cd,sl⟩
 ty:C3 K (.ref C)=some (.type "type")
 cl:∃c,Em K C=some c
 ga:Ax K (.ref C) "__getattribute__"=some (some (.builtin "BaseException.__getattribute__"))
 ge:Ax K (.ref C) "__getattr__"=some none
 lk:Ax K (.ref C) "__class__"=some (some (.builtin "object.__class__"))
 so:Bs K (.ref C) (.type "object")=some true
 sb:Bs K (.ref C) (.type "BaseException")=some true
 se:Bs K (.ref C) (.ref C)=some true
theorem ErrIn.ob (E:ErrIn K C):∃dd cd sl,K.lookup C=some ⟨.type "type",dd,.cls cd,sl⟩:=by
 have q:=E.exc;unfold DS at q;split at q
 next dct cls slots look=>exact ⟨_,_,_,look⟩
 next=>cases q
theorem ErrIn.k (E:ErrIn K C):ErrK K C:=⟨E.ob,E.ty,E.cl,E.ga,E.ge,E.lk,E.so,E.sb,E.se⟩
theorem ErrK.kitC (E:ErrK K C)(h:Bs K (.ref D) (.ref C)=some b):kitCls K (.ref D) (.ref C)=some b:=by obtain ⟨c,hc⟩:=E.cl;show (if ((Em K C).isSome&&C3 K (.ref C)==some (.type "type"))=true then Bs K (.ref D) (.ref C) else none)=some b;rw [hc,E.ty,if_pos (by simp)];exact h
theorem ErrK.exm (E:ErrK K C)(h:Bs K (.ref D) (.ref C)=some b):Ee K (.ref D) (.ref C)=some b:=by unfold Ee;rw [E.sb,if_pos (by simp)];exact E.kitC h
theorem ErrK.kit (E:ErrK K C):PySem.W.KitX K (.ref e) (.ref C) (fun h=>∃o vs,h.get? e=some o/\o.cls=.ref C/\o.data=.fields vs) where
 ty:=fun M h X ⟨o,vs,he,hc,hd⟩=>by rw [<- hc];exact (Looks.ld he).andThen .now
 it:=fun M h X _=>(PySem.W.kit_cls X (E.kitC E.se)).2.1
 ne:=fun h tq dd its n sl X htq=>by
  refine Bool.eq_false_iff.mpr fun same=>?_;have e:C=tq:=by have:=beq_iff_eq.mp same;cases this;rfl
  subst e;obtain ⟨dd2,cd2,sl2,look⟩:=E.ob;have hC:=X _ _ look;rw [htq] at hC;have z:Dv "tuple"=Dv "type":=congrArg Obj.cls (AH hC);exact absurd z (by decide)
 ca:=fun {prog w A E' Q s} X ⟨o,vs,he,hc,hd⟩ hq=>by obtain ⟨h,g,d,t,os⟩:=s;exact xcls_attr he hc hd (Di X E.ga) (Di X E.ge) (Di X E.lk) (PySem.W.looks_subIn X E.so) (PySem.W.looks_subIn X E.sb) hq
end
def rIsX (K:AC):List V->Hp->VK->Prop:=fun xs H Q=>∃(e D C:Addr) (b:Bool),xs=[.ref e,.ref C]/\(∃dx,H e=some (exO e (.ref D) dx))/\ErrK K D/\DC K (.ref D) (.ref C)=some b/\Q (.bl b) H
section
theorem call_isX:CallR X (.builtin "isinstance") (rIsX X.K):=by intro pins s σ H xs us Q I r h;obtain ⟨e,D,C,b,rfl,⟨dx,he⟩,hE,hk,q⟩:=h;obtain ⟨ho,hvs,q1,q2,q3,_⟩:=(I.hok e _ he).1;obtain ⟨u,w',rfl,rx,ry⟩:=vals2 r;cases rx;cases ry;exact Cm hE.kit I.kIn ⟨ho,hvs,q1,q2,q3⟩ hk (by intro z;cases z) fun tk=>⟨.bl b,H,I.tok _,rfl,q⟩
variable {Q:VK}{D:Ends}
variable {a b c d:Expr}{ta tb tc:TE}
variable {t:TA}{np hpos:Pos}
theorem qs_raise {E:XK}(hq:DS X.K C bmV "ValueError.__new__"=true)(hm:X.mg x=some (.ref C))(ha:QA (X.wish (ER X E)) (e::es) t)(hg:Gl X x:=by rfl)(hc:X.calm=true:=by rfl)(hx:X.ex=[]:=by rfl)
  (hdb:(x==("__debug__":Str))=false:=by decide) (he:Ab (e::es) X.env=(false,Ar e X.env)::Ab es X.env:=by rfl) (hpl:(AG cpos (Ab es X.env)).any (·.1)=false:=by rfl) :
  QS (X.wish (ER X E)) (.Raise (some (.Call (.Name x np) (e::es) [] cpos)) none pos) (tRaise (.ref C) E t):=⟨ps_raise hq hm ha.out hg hc hx hdb he hpl⟩
theorem qs_try {c n:Str}{th:TS}(hm:X.mg c=some (.ref C))
  (hN:X.N.Nodup) (hi:X.N[i]?=some n) (hl:X.env.scope.names.lookup n=some .local)
  (hb:∀(E:XK) (pn:List (Addr×Obj)),QSs (({X with pn:=pn}:Cx).wish (ER {X with pn:=pn} E)) body (tbq E)) (hh:∀e:Addr,QSs (X.hand e) (b₀::suite) th)
  (hg:Gl X c:=by rfl) (hx:X.ex=[]:=by rfl) (hst:X.stack=X.env::X.outer:=by rfl) (hf:X.env.frame=some X.env.locals:=by rfl) (hdb:(c==("__debug__":Str))=false:=by decide) :
  QS X (.Try body [.ExceptHandler (some (.Name c np)) (some n) (b₀::suite) hpos] [] [] pos) (tTry X.K (.ref C) i X.N.length tbq th):=
 ⟨ps_try hm (fun E pn=>(hb E pn).out) (fun e=>(hh e).out) hN hi hl hg hx hst hf hdb⟩
end
theorem Fun.okEQ {base:AR}{qual:Str}{k:Nat}{sp:Sp}(F:Fun K x qual st f fd)(S:FnScope N ps (defScope st))(len:∀vs H Q E,sp vs H Q E->vs.length=ps.length)
    (hbody:∀(cdv:Value) (A:AI) (outer:List Env) (s:Ac) (H:Hp) (vs:List V) (Q:VK) (E:XK),Room k (A.deeper (Cv qual (defScope st) s.heap.objs.size f cdv))->sp vs H Q E->
      ∃t,QSs ((cxOf (CXE P w) P w K mg base N qual (defScope st) f cdv A outer s H E).wish (ER (cxOf (CXE P w) P w K mg base N qual (defScope st) f cdv A outer s H E) E)) (defBody st) t/\t {nx:=fun _ H'=>Q .non H',rt:=Q} (start N vs) H):FnOk P w K mg base (CXE P w) (k+1) f fd ps sp:=
  F.okE S len fun cdv A outer s H vs Q E hr h=>by obtain ⟨t,ht,q⟩:=hbody cdv A outer s H vs Q E hr h;exact ⟨t,ht.out,q⟩
structure Pl (n:Nat)(x:Str):Prop where
 len:x.length<=n
 asc:∀c∈x.cps.toList,c<128
section
variable [DecidableEq κ]
def valV (kvs:List (κ×V))(k:κ):Option V:=(kvs.find? fun kv=>decide (kv.1=k)).map (·.2)
def putK (kvs:List (κ×V))(k:κ)(v:V):List (κ×V):=
 if (kvs.any fun kv=>decide (kv.1=k))=true then kvs.map (fun kv=>if kv.1=k then (kv.1,v) else kv) else kvs++[(k,v)]
theorem valV_pos {p:κ×V}{r:List (κ×V)}{k:κ}(e:p.1=k):valV (p::r) k=some p.2:=by simp [valV,CQ,e]
theorem valV_neg {p:κ×V}{r:List (κ×V)}{k:κ}(e:¬p.1=k):valV (p::r) k=valV r k:=by simp [valV,CQ,e]
theorem valV_any (k:κ):∀kvs:List (κ×V),(kvs.any fun kv=>decide (kv.1=k))=(valV kvs k).isSome
 | []=>rfl
 | p::r=>by rw [D7];by_cases e:p.1=k;simp only [valV_pos e,decide_eq_true e,Bool.true_or,Option.isSome_some];rw [valV_neg e,decide_eq_false e,Bool.false_or];exact valV_any k r
theorem length_putK (kvs:List (κ×V))(k:κ)(v:V):(putK kvs k v).length<=kvs.length+1:=by unfold putK;split;rw [Ap];omega;rw [Az,A7,FY];omega
theorem RelO.isSome_eq {u:Option Value}(r:RelO o u):o.isSome=u.isSome:=by
 cases o with
 | none=>cases u with
  | none=>rfl
  | some _=>exact (show False from r).elim
 | some _=>cases u with
  | none=>exact (show False from r).elim
  | some _=>rfl
theorem KV.val {kvs:List (κ×V)}{vs:List (κ×Value)}(r:KV kvs vs)(k:κ):RelO (valV kvs k) (D3 vs k):=by
 unfold KV at r
 induction r with
 | nil=>exact BE
 | @cons p q ps qs h t ih =>
  obtain ⟨h1,h2⟩:=h;by_cases e:p.1=k;have e':q.1=k:=h1.symm.trans e;have b:D3 (q::qs) k=some q.2:=by simp [D3,CQ,e']
  rw [valV_pos e,b];exact h2;have e':¬q.1=k:=fun z=>e (h1.trans z);have b:D3 (q::qs) k=D3 qs k:=by simp [D3,CQ,e']
  rw [valV_neg e,b];exact ih
theorem KV.any {kvs:List (κ×V)}{vs:List (κ×Value)}(r:KV kvs vs)(k:κ):(kvs.any fun kv=>decide (kv.1=k))=vs.any fun kv=>decide (kv.1=k):=by
 unfold KV at r
 induction r with
 | nil=>rfl
 | cons h t ih=>rw [D7,D7,ih,h.1]
theorem KV.repl {kvs:List (κ×V)}{vs:List (κ×Value)}(r:KV kvs vs)(k:κ)(ry:RelV y u) :
  KV (kvs.map fun kv=>if kv.1=k then (kv.1,y) else kv) (vs.map fun kv=>if kv.1=k then (kv.1,u) else kv):=by
 unfold KV at r ⊢
 induction r with
 | nil=>exact .nil
 | @cons p q ps qs h t ih =>rw [Bt,Bt];refine .cons ?_ ih;obtain ⟨h1,h2⟩:=h;by_cases e:p.1=k;rw [if_pos e,if_pos (h1.symm.trans e)];exact ⟨h1,ry⟩;rw [if_neg e,if_neg (fun z=>e (h1.trans z))];exact ⟨h1,h2⟩
theorem KV.put {kvs:List (κ×V)}{vs:List (κ×Value)}(r:KV kvs vs)(k:κ)(ry:RelV y u):KV (putK kvs k y) (stored vs k u):=by unfold putK stored;rw [r.any k];by_cases e:(vs.any fun kv=>decide (kv.1=k))=true;rw [if_pos e,if_pos e];exact r.repl k ry;rw [if_neg e,if_neg e];exact Paired.snoc r ⟨rfl,ry⟩
theorem KV.length {kvs:List (κ×V)}{vs:List (κ×Value)}(r:KV kvs vs):kvs.length=vs.length:=Paired.length r
end
theorem kV_is {k:Key}(r:RelV (kV k) u):(mixKind P w).is k u=true:=by
 cases k with
 | inl i=>obtain ⟨t,e⟩:=(show ∃t,u=Ci i t from r);subst e;exact mixKind_int P w i t
 | inr x=>obtain ⟨t,e⟩:=(show ∃t,u=De x t from r);subst e;exact mixKind_str P w x t
theorem items_are {P:Ao}{w:AK}:∀{ks:List Key} {us:List Value},Vals (ks.map kV) us->ItemsAre (mixKind P w) ks us
 | [],_,r=>by rw [Gr] at r;cases r;exact .nil
 | k::ks,_,r=>by
  rw [Bt] at r;cases r with
  | cons h t=>exact .cons (kV_is h) (items_are t)
abbrev KT (H:Hp):List (List Key×V)->List (List Key×Addr×Value)->Prop:=Paired fun p q=>p.1=q.1/\H q.2.1=some (.tup (p.1.map kV))/\RelV p.2 q.2.2
theorem KT.val (r:KT H kvs xs)(k:List Key):RelO (valV kvs k) ((EF xs k).map (·.2)):=by
 induction r with
 | nil=>exact BE
 | @cons p q ps qs h t ih =>
  obtain ⟨h1,_,h2⟩:=h;by_cases e:p.1=k;have e':q.1=k:=h1.symm.trans e;have b:EF (q::qs) k=some q.2:=by simp [EF,CQ,e']
  rw [valV_pos e,b];exact h2;have e':¬q.1=k:=fun z=>e (h1.trans z);have b:EF (q::qs) k=EF qs k:=by simp [EF,CQ,e']
  rw [valV_neg e,b];exact ih
theorem KT.repl (r:KT H kvs xs)(k:List Key)(ry:RelV y u) :
  KT H (kvs.map fun kv=>if kv.1=k then (kv.1,y) else kv) (xs.map (putAt k u)):=by
 induction r with
 | nil=>exact .nil
 | @cons p q ps qs h t ih =>rw [Bt,Bt];refine .cons ?_ ih;obtain ⟨h1,h2,h3⟩:=h;unfold putAt;by_cases e:p.1=k;rw [if_pos e,if_pos (h1.symm.trans e)];exact ⟨h1,h2,ry⟩;rw [if_neg e,if_neg (fun z=>e (h1.trans z))];exact ⟨h1,h2,h3⟩
theorem KT.put (r:KT H kvs xs)(k:List Key){b:Addr}(hb:H b=some (.tup (k.map kV)))(ry:RelV y u) :
  KT H (putK kvs k y) (storedH xs k b u):=by
 have e:(kvs.any fun kv=>decide (kv.1=k))=(EF xs k).isSome:=by rw [valV_any,(r.val k).isSome_eq,E6]
 unfold putK storedH;rw [e];by_cases q:(EF xs k).isSome=true;rw [if_pos q,if_pos q];exact r.repl k ry;rw [if_neg q,if_neg q];exact Paired.snoc r ⟨rfl,hb,ry⟩
theorem KT.keeps (r:KT H kvs xs)(ht:∀b ys,H b=some (.tup ys)->H' b=some (.tup ys)):KT H' kvs xs:=Paired.mapP r fun _ _ z=>⟨z.1,ht _ _ z.2.1,z.2.2⟩
theorem rd_of {u:HO}(ok:HOk P w H h)(e:Rd H a u):ObjOk P w H h a u:=e.ok ok
theorem dk_rd {kvs:List (Key×V)}(ok:HOk P w H h)(e:Rd H a (.dK kvs)):kvs.length<=Ah/\(a==B9)=false/\∃vs,KV kvs vs/\h.DictOf (mixKind P w) a vs:=show ObjOk P w H h a (.dK kvs) from rd_of ok e
theorem dk_of {kvs:List (Key×V)}(ok:HOk P w H h)(e:H a=some (.dK kvs)):kvs.length<=Ah/\(a==B9)=false/\∃vs,KV kvs vs/\h.DictOf (mixKind P w) a vs:=dk_rd ok (.inl e)
theorem key_of (ok:HOk P w H h)(e:H a=some (.tup (ks.map kV))):(Ec (mixKind P w)).is h ks a:=by obtain ⟨_,its,r,o,h1,h2,n,h3⟩:=(show ObjOk P w H h a (.tup (ks.map kV)) from ok a _ e);exact ⟨o,its.toArray,n,h1,h2,h3,by simpa using items_are r⟩
theorem dt_rd (ok:HOk P w H h)(e:Rd H a (.dT kvs)):kvs.length<=Ah/\(a==B9)=false/\
  ∃xs,KT H kvs xs/\h.DictOfH (Ec (mixKind P w)) a xs:=by
 obtain ⟨z,y,xs,r,o,es,ep,h1,h2,h3,h4,h5⟩:=(show ObjOk P w H h a (.dT kvs) from rd_of ok e);refine ⟨z,y,xs,r,o,es,ep,h1,h2,h3,h4,fun x hx=>?_,h5⟩;have all:∀{l:List (List Key×V)} {m:List (List Key×Addr×Value)},KT H l m->∀x∈m,(Ec (mixKind P w)).is h x.1 x.2.1:=by
  intro l m q
  induction q with
  | nil=>intro x hx;exact nomatch hx
  | @cons p q ps qs hq t ih =>intro x hx;rcases Au.mp hx with e | hx;subst e;exact key_of ok (by rw [<- hq.1];exact hq.2.1);exact ih x hx
 exact all r x hx
theorem dt_of (ok:HOk P w H h)(e:H a=some (.dT kvs)):kvs.length<=Ah/\(a==B9)=false/\
  ∃xs,KT H kvs xs/\h.DictOfH (Ec (mixKind P w)) a xs:=dt_rd ok (.inl e)
def DGet (H:Hp)(a:Addr)(y:V)(r:Option V):Prop:=
 (∃kvs k,Rd H a (.dK kvs)/\y=kV k/\r=valV kvs k)\/∃kvs k b,Rd H a (.dT kvs)/\y=.ref b/\H b=some (.tup (k.map kV))/\r=valV kvs k
def DPut (H:Hp)(a:Addr)(y v:V)(H':Hp):Prop:=
 (∃kvs k,H a=some (.dK kvs)/\y=kV k/\kvs.length<Ah/\H'=upd H a (.dK (putK kvs k v)))\/
 ∃kvs k b,H a=some (.dT kvs)/\y=.ref b/\H b=some (.tup (k.map kV))/\kvs.length<Ah/\H'=upd H a (.dT (putK kvs k v))
theorem DPut.k {H:Hp}{a:Addr}{kvs:List (Key×V)}{k:Key}{v:V}(e:H a=some (.dK kvs))(hl:kvs.length<Ah):DPut H a (kV k) v (upd H a (.dK (putK kvs k v))):=.inl ⟨kvs,k,e,rfl,hl,rfl⟩
section
variable {v:V}
theorem Inv.big (I:Inv X pins σ H s):B9<s.heap.objs.size:=by have h:Af<s.heap.objs.size:=(I.mod.glob.keeps I.bk).lt;exact GJ (by decide) h
theorem d_getItem (hu:A.units+1<Bf)(I:Inv X pins σ H s)(g:DGet H a y (some v))(ry:RelV y u)(h:∀w' s',Inv X pins σ H s'->RelV v w'->Q w' s') :
  An (Ai X.prog X.w) A (Ew (.ref a) u) Q E s:=by
 rcases g with ⟨kvs,k,e,ey,l⟩ | ⟨kvs,k,b,e,ey,eb,l⟩;subst ey;obtain ⟨z,hd,vs,rel,dd⟩:=dk_rd I.hok e;obtain ⟨w',hw,rw'⟩:=RelO.some_of (v:=v) (o:=D3 vs k) (by rw [l];exact rel.val k);exact wpAny_getItem_of (kV_is ry) dd.mapOf hw (h w' _ (I.tok _) rw');subst ey;cases (show u=AB b from ry);obtain ⟨z,hd,xs,rel,dd⟩:=dt_rd I.hok e;obtain ⟨w',hw,rw'⟩:=RelO.some_of (v:=v) (o:=(EF xs k).map (·.2)) (by rw [l];exact rel.val k);obtain ⟨p,hp,hp2⟩:=AF.mp hw;refine wpAny_getItem_heap (DV hu) (key_of I.hok eb) dd hp ?_;rw [hp2];exact h w' _ (I.tok _) rw'
theorem d_notIn (hu:A.units+1<Bf)(I:Inv X pins σ H s)(g:DGet H a y o)(ry:RelV y u)(h:∀s',Inv X pins σ H s'->Q (.bool (!o.isSome)) s') :
  An (Ai X.prog X.w) A (BH .NotIn u (.ref a)) Q E s:=by
 rcases g with ⟨kvs,k,e,ey,l⟩ | ⟨kvs,k,b,e,ey,eb,l⟩;subst ey;obtain ⟨z,hd,vs,rel,dd⟩:=dk_rd I.hok e;refine wpAny_notIn_of (kV_is ry) hd dd.mapOf ?_;rw [<- (rel.val k).isSome_eq,<- l];exact h _ (I.tok _);subst ey;cases (show u=AB b from ry);obtain ⟨z,hd,xs,rel,dd⟩:=dt_rd I.hok e;refine wpAny_notIn_heap (DV hu) (key_of I.hok eb) hd dd ?_;have q:=(rel.val k).isSome_eq;rw [E6] at q;rw [<- q,<- l];exact h _ (I.tok _)
theorem d_write {ob:HO}(I:Inv X pins σ H s)(mu:Mut (H a))(hs:C2 a s.heap h')(he:∃q,h'.get? a=some q)(new:ObjOk X.prog X.w (upd H a ob) h' a ob) :
  Inv X pins σ (upd H a ob) {s with heap:=h',toks:=t'}:=
 I.write (x:=a) (e:=a) mu (.inl rfl) (fun b q hb z=>(hs.2 b hb).trans z) he new
theorem dk_new {kvs:List (Key×V)}(z:kvs.length<=Ah)(hd:(a==B9)=false)(rel:KV kvs vs)(dd:h'.DictOf (mixKind P w) a vs) :
  ObjOk P w H' h' a (.dK kvs):=⟨z,hd,vs,rel,dd⟩
theorem d_setItem {Q:Unit->Ac->Prop}(hu:A.units+1<Bf)(I:Inv X pins σ H s)(g:DPut H a y v H')(ry:RelV y u)(rv:RelV v r)(h:∀s',Inv X pins σ H' s'->Q () s') :
  An (Ai X.prog X.w) A (Fn (.ref a) u r) Q E s:=by
 rcases g with ⟨kvs,k,e,ey,l,eH⟩ | ⟨kvs,k,b,e,ey,eb,l,eH⟩;subst ey eH;obtain ⟨z,hd,vs,rel,dd⟩:=dk_of I.hok e;have hz:vs.length<=Ah:=by rw [<- rel.length];exact z
 have hl:(putK kvs k v).length<=Ah:=by have:=length_putK kvs k v;omega
 refine wpAny_setItem_pairs (hsz:=hz) (kV_is ry) dd fun h' dd' hs=>h _ ?_;have he:∃q,h'.get? a=some q:=let ⟨q,_,_,hq,_⟩:=dd';⟨q,hq⟩
 exact d_write I (by rw [e];exact BE) hs he (dk_new hl hd (rel.put k rv) dd');subst ey eH;cases (show u=AB b from ry);obtain ⟨z,hd,xs,rel,dd⟩:=dt_of I.hok e;have hz:xs.length<=Ah:=by rw [<- Paired.length rel];exact z
 have hl:(putK kvs k v).length<=Ah:=by have:=length_putK kvs k v;omega
 refine wpAny_setItem_heap (hsz:=hz) (DV hu) (key_of I.hok eb) dd fun h' dd' hs=>h _ ?_;obtain ⟨q,es,ep,hq,h2,h3,h4,_,h5⟩:=dd';refine d_write I (by rw [e];exact BE) hs ⟨q,hq⟩ ⟨hl,hd,_,(rel.put k eb rv).keeps fun c ys ec=>?_,q,es,ep,hq,h2,h3,h4,h5⟩;rw [upd_ne (ne_of ec e (fun z=>nomatch z))];exact ec
variable {kvs:List (Key×V)}{k:Key}
end
def NoSl (i:Expr):Prop:=∀ov iv,Ej i false ov iv=operate [ov,iv] (Ew ov iv)
theorem subD_of {slice:Expr}{T id:String}
  (hl:B8 (.type T) "__getitem__"=pure (some (.builtin id))) (hs:NoSl slice)
  (h:An (Ai prog w) A (Ar value env) (fun o s₁=>An (Ai prog w) A (Ar slice env) (fun i s₂=>s₂.TypeIs o T/\An (Ai prog w) A (Ew o i) Q E s₂) E s₁) E s) :
  An (Ai prog w) A (Ar (.Subscript value slice pos) env) Q E s:=by
 refine Gi (AZ h (fun o s₁ h₁=>AZ h₁ (fun i s₂ h₂=>?_) fun _ _ x=>x) fun _ _ x=>x);obtain ⟨hT,h₂⟩:=h₂;unfold E4;refine Av ?_;rw [getitemInPython_of_ne hT.not_modules];refine Av (wpAny_specialOf hT hl ?_);have fin:An (Ai prog w) A (Ej slice false o i) (fun r s₃=>An (Ai prog w) A (letTemporaryGo value o r >>= fun _=>pure r) Q E s₃) E s₂:=by rw [hs o i];exact wpAny_operating (AZ h₂ (fun r s₃ h₃=>Av (wpAny_letTemporaryGo (AY h₃))) fun _ _ x=>x)
 first
  | exact AY (Av fin)
  | exact Av (AY (Av fin))
  | exact Av fin
theorem dict_typeIs (I:Inv X pins σ H s)(g:DGet H a y o):s.TypeIs (.ref a) "dict":=by rcases g with ⟨kvs,k,e,_,_⟩ | ⟨kvs,k,b,e,_,_,_⟩;obtain ⟨_,_,vs,_,dd⟩:=dk_rd I.hok e;exact dd.typeIs;obtain ⟨_,_,xs,_,dd⟩:=dt_rd I.hok e;exact dd.typeIs
def tDGet (td ty:TE):TE:=fun σ H Q=>td σ H fun x H1=>ty σ H1 fun y H2=>∃a v,x=.ref a/\DGet H2 a y (some v)/\Q v H2
def sDPut (td ty tv:TE):TS:=fun D σ H=>tv σ H fun v H1=>td σ H1 fun x H2=>ty σ H2 fun y H3=>∃a H4,x=.ref a/\DPut H3 a y v H4/\D.nx σ H4
section
variable {o i:Expr}{pos' tpos:Pos}{tv:TE}
theorem pe_dget (hu:X.A.units+1<Bf)(ho:PE X o td)(hi:PE X i ty)(hs:NoSl i):PE X (.Subscript o i pos) (tDGet td ty):=by intro pins s σ H Q I h;refine subD_of PySem.F.slot_dict_getitem.lookup hs (thn (ho pins s σ H _ I h) fun u s1 ⟨x,H1,I1,rx,q1⟩=>thn (hi pins s1 σ H1 _ I1 q1) fun iv s2 ⟨y,H2,I2,ry,a,v,ex,g,q2⟩=>?_);subst ex;obtain rfl:u=AB a:=rx;exact ⟨dict_typeIs I2 g,d_getItem hu I2 g ry fun w' s3 I3 rw'=>⟨v,H2,I3,rw',q2⟩⟩
theorem ps_dput (hu:X.A.units+1<Bf)(ho:PE X o td)(hi:PE X i ty)(hv:PE X value tv)(hs:A8 value (some (.Subscript o i pos')) pos.line X.env=pure false) :
  PS X (.Assign [.Subscript o i pos'] value pos) (sDPut td ty tv):=by
 intro pins s σ H D I h;refine wpAny_Assign_Subscript (thn (hv pins s σ H _ I h) fun r s1 ⟨v,H1,I1,rv,q1⟩=>thn (ho pins s1 σ H1 _ I1 q1) fun u s2 ⟨x,H2,I2,rx,q2⟩=>thn (hi pins s2 σ H2 _ I2 q2) fun iv s3 ⟨y,H3,I3,ry,a,H4,ex,g,q3⟩=>?_) hs;subst ex;obtain rfl:u=AB a:=rx;exact d_setItem hu I3 g ry rv fun s4 I4=>⟨σ,H4,I4,q3⟩
end
theorem dk_empty (h:AR)(hb:B9<h.objs.size):ObjOk P w H (h.push {cls:=.type "dict",data:=.dict #[]}) h.objs.size (.dK []):=⟨Dg _,beq_eq_false_iff_ne.mpr (Ne.symm (Bh hb)),[],.nil,He h⟩
def tDNewK:TE:=fun _ H Q=>∀p,H p=none->Q (.ref p) (upd H p (.dK []))
theorem pe_dnewK:PE X (.Dict [] [] pos) tDNewK:=fun pins s σ H Q I h =>
 wpAny_Dict_empty ⟨.ref s.heap.objs.size,_,I.laid (a:=s.heap.objs.size) (o:=.dK []) (t':=s.toks) (fun _ _ q=>Al _ q) (AM _) (dk_empty s.heap I.big),rfl,h _ (I.hok.fresh (AM _))⟩
structure M1 (X:Cx)(o:Expr)(m:Str)(apos:Pos)(e:Expr)(cpos:Pos):Prop where
  base:AS o m X.env (Ar o X.env)=Ar o X.env
  few:((AG cpos (Ab [e] X.env)).all (fun x=>!x.1)&&(BC cpos (AU [] X.env)).all (fun x=>x.1.isSome)
    && decide (([e]:List Expr).length+([]:List BO).length+(if ([]:List BO).isEmpty then 0 else 1)<30))=true
  line:(apos.endLine==cpos.line)=true
  trees:AG cpos (Ab [e] X.env)=[(false,Ar e X.env)]
structure M2 (X:Cx)(o:Expr)(m:Str)(apos:Pos)(e f:Expr)(cpos:Pos):Prop where
  base:AS o m X.env (Ar o X.env)=Ar o X.env
  few:((AG cpos (Ab [e,f] X.env)).all (fun x=>!x.1)&&(BC cpos (AU [] X.env)).all (fun x=>x.1.isSome)
    && decide (([e,f]:List Expr).length+([]:List BO).length+(if ([]:List BO).isEmpty then 0 else 1)<30))=true
  line:(apos.endLine==cpos.line)=true
  trees:AG cpos (Ab [e,f] X.env)=[(false,Ar e X.env),(false,Ar f X.env)]
def IsD (H:Hp)(a:Addr):Prop:=(∃kvs,Rd H a (.dK kvs))\/∃kvs,Rd H a (.dT kvs)
theorem isD_at (I:Inv X pins σ H s)(d:IsD H a) :
  s.TypeIs (.ref a) "dict"/\(∀b,AB a=.ref b->∃ob,s.heap.get? b=some ob/\ob.dict=none)/\(a==B9)=false:=by
 rcases d with ⟨kvs,e⟩ | ⟨kvs,e⟩;obtain ⟨_,hd,vs,_,dd⟩:=dk_rd I.hok e;refine ⟨dd.typeIs,fun b q=>?_,hd⟩;cases q;obtain ⟨ob,_,_,h1,h2,_⟩:=dd;exact ⟨ob,h1,h2.2.1⟩;obtain ⟨_,hd,xs,_,dd⟩:=dt_rd I.hok e;refine ⟨dd.typeIs,fun b q=>?_,hd⟩;cases q;obtain ⟨ob,_,_,h1,h2,_⟩:=dd;exact ⟨ob,h1,h2.2.1⟩
section
variable {d:V}
variable {o f:Expr}{apos:Pos}{tx:TE}{kvs:List (Key×V)}
end
end L2
namespace Dl
open PySem
variable {α β:Type}
set_option genInjectivity true in
inductive D where
 | non
 | bl (b:Bool)
 | int (i:Int)
 | str (x:Str)
 | lst (xs:List D)
 | tup (xs:List D)
 | scr (ns:List Int)
 | rng (lo hi:Int)
 | exc (c:String) (f:Option Int)
 | obj (c:String) (ns:List Str) (xs:List D)
 | dct (ks:List (Int ⊕ Str)) (xs:List D)
 | dtt (ks:List (List (Int ⊕ Str))) (xs:List D)
 | flst (xs:List D)
 | fdt (ks:List (List (Int ⊕ Str))) (xs:List D)
 | fobj (c:String) (ns:List Str) (xs:List D)
 | fdk (ks:List (Int ⊕ Str)) (xs:List D)
 deriving Inhabited
set_option genInjectivity true in
inductive R (α:Type) where
 | ok (a:α)
 | err (c:String) (f:Option Int)
 | bad
abbrev Env:=List (Option D)
set_option genInjectivity true in
inductive Fl where
 | nx (ρ:Env)
 | ret (d:D)
 | brk (ρ:Env)
 | cnt (ρ:Env)
def R.bind {α β:Type}:R α->(α->R β)->R β
 | .ok a,f=>f a
 | .err c x,_=>.err c x
 | .bad,_=>.bad
@[simp] theorem bind_ok (a:α)(f:α->R β):(R.ok a).bind f=f a:=(rfl)
@[simp] theorem bind_err (c:String)(x:Option Int)(f:α->R β):(R.err c x:R α).bind f=.err c x:=(rfl)
@[simp] theorem bind_bad (f:α->R β):(R.bad:R α).bind f=.bad:=(rfl)
abbrev FE:=Env->R D
abbrev FT:=Env->R Bool
abbrev FA:=Env->R (List D)
abbrev FO:=Env->R (Option Int)
abbrev FS:=Env->R Fl
def fC (d:D):FE:=fun _=>.ok d
def fV (i:Nat):FE:=fun ρ=>match ρ[i]? with
 | some (some d)=>.ok d
 | _=>.bad
def oR {α:Type}:Option α->R α
 | some a=>.ok a
 | none=>.bad
@[simp] theorem oR_some (a:α):oR (some a)=.ok a:=(rfl)
@[simp] theorem oR_none :(oR (none:Option α))=.bad:=(rfl)
def f1 (g:D->Option D)(a:FE):FE:=fun ρ=>(a ρ).bind fun x=>oR (g x)
def f2 (g:D->D->Option D)(a b:FE):FE:=fun ρ=>(a ρ).bind fun x=>(b ρ).bind fun y=>oR (g x y)
def aNil:FA:=fun _=>.ok []
def aCons (a:FE)(r:FA):FA:=fun ρ=>(a ρ).bind fun x=>(r ρ).bind fun xs=>.ok (x::xs)
def fA (g:List D->Option D)(a:FA):FE:=fun ρ=>(a ρ).bind fun xs=>oR (g xs)
def fCall (F:List D->R D)(a:FA):FE:=fun ρ=>(a ρ).bind F
abbrev lim:Nat:=1000000
def gLst (xs:List D):Option D:=if xs.length<=lim then some (.lst xs) else none
def gTup (xs:List D):Option D:=if xs.length<=lim then some (.tup xs) else none
mutual
def flat:D->Bool
 | .lst _=>false
 | .tup xs=>flatA xs
 | .non=>true
 | .bl _=>true
 | .int _=>true
 | .str _=>true
 | .scr _=>true
 | .rng _ _=>true
 | .exc _ _=>true
 | .obj _ _ _=>false
 | .dct _ _=>false
 | .dtt _ _=>false
 | .flst _=>true
 | .fdt _ _=>true
 | .fobj _ _ _=>true
 | .fdk _ _=>true
def flatA:List D->Bool
 | []=>true
 | x::xs=>flat x&&flatA xs
end
def gFlat (d:D):Option D:=if flat d then some d else none
def gAdd:D->D->Option D
 | .int i,.int j=>some (.int (i+j))
 | .str x,.str y=>if x.length+y.length<=lim then some (.str (x++y)) else none
 | .lst xs,.lst ys=>if xs.length+ys.length<=lim/\flatA xs/\flatA ys then some (.lst (xs++ys)) else none
 | _,_=>none
def gAddI:D->D->Option D
 | .int i,.int j=>some (.int (i+j))
 | _,_=>none
def gSub:D->D->Option D
 | .int i,.int j=>some (.int (i - j))
 | _,_=>none
def short (i:Int):Bool:=decide (-(2 ^ 64)<i)&&decide (i<2 ^ 64)
def gMul:D->D->Option D
 | .int i,.int j=>if short i||short j then some (.int (i*j)) else none
 | .lst xs,.int k=>if k<=1000000/\xs.length*k.toNat<=lim/\-1000000<=k/\flatA xs then some (.lst (Aa k.toNat xs).flatten) else none
 | _,_=>none
def gMod:D->D->Option D
 | .int i,.int j=>if 0<j then some (.int (i % j)) else none
 | _,_=>none
def gDiv:D->D->Option D
 | .int i,.int j=>if 0<j/\j<2 ^ 200 then some (.int (i / j)) else none
 | _,_=>none
def gPow:D->D->Option D
 | .int i,.int j=>if 0<=j/\j<=1000000/\i.natAbs<2 ^ 64 then some (.int (i ^ j.toNat)) else none
 | _,_=>none
def gNeg:D->Option D
 | .int i=>some (.int (-i))
 | _=>none
def gLt:D->D->Option D
 | .int i,.int j=>some (.bl (decide (i<j)))
 | _,_=>none
def gGt:D->D->Option D
 | .int i,.int j=>some (.bl (decide (j<i)))
 | _,_=>none
def gGe:D->D->Option D
 | .int i,.int j=>some (.bl (decide (j<=i)))
 | _,_=>none
mutual
def dep:D->Nat
 | .lst xs=>depA xs+1
 | .tup xs=>depA xs+1
 | .scr _=>100
 | .rng _ _=>100
 | .exc _ _=>100
 | .obj _ _ _=>100
 | .dct _ _=>100
 | .dtt _ _=>100
 | .flst _=>100
 | .fdt _ _=>100
 | .fobj _ _ _=>100
 | .fdk _ _=>100
 | .non=>0
 | .bl _=>0
 | .int _=>0
 | .str _=>0
def depA:List D->Nat
 | []=>0
 | x::xs=>max (dep x) (depA xs)
end
mutual
def eqv:D->D->Bool
 | .non,.non=>true
 | .bl a,.bl b=>a==b
 | .bl a,.int j=>(if a then 1 else 0)==j
 | .int i,.bl b=>i==(if b then 1 else 0)
 | .int i,.int j=>i==j
 | .str x,.str y=>x==y
 | .lst xs,.lst ys=>eqvA xs ys
 | .tup xs,.tup ys=>eqvA xs ys
 | _,_=>false
def eqvA:List D->List D->Bool
 | [],[]=>true
 | x::xs,y::ys=>eqv x y&&eqvA xs ys
 | _,_=>false
end
def gEq (a b:D):Option D:=if dep a<=20/\dep b<=20 then some (.bl (eqv a b)) else none
def gNe (a b:D):Option D:=if dep a<=20/\dep b<=20 then some (.bl (!eqv a b)) else none
def ixD (n:Nat)(i:Int):Option Nat:=if 0<=i then (if i<n then some i.toNat else none) else if -(n:Int)<=i then some (i+n).toNat else none
def atD {α:Type}(xs:List α)(i:Int):Option α:=(ixD xs.length i).bind fun j=>xs[j]?
def sixD (n d:Nat):Option Int->Nat
 | none=>d
 | some v=>if v<0 then (max (v+(n:Int)) 0).toNat else min v.toNat n
def cut {α:Type}(xs:List α)(lo hi:Option Int):List α:=(xs.drop (sixD xs.length 0 lo)).take (sixD xs.length xs.length hi - sixD xs.length 0 lo)
def gIx:D->D->Option D
 | .lst xs,.int i=>(atD xs i)
 | .tup xs,.int i=>(atD xs i)
 | .scr ns,.int i=>((atD ns i).map D.int)
 | .flst xs,.int i=>(atD xs i)
 | .str z,.int i=>if z.length<=lim then ((atD z.cps.toList i).map fun c=>D.str ⟨#[c]⟩) else none
 | _,_=>none
def gIxL (x y:D):Option D:=match x with
 | .lst _=>gIx x y
 | _=>none
def oNone:FO:=fun _=>.ok none
def oSome (a:FE):FO:=fun ρ=>(a ρ).bind fun d=>match d with
 | .int i=>.ok (some i)
 | _=>.bad
def fSl (g:D->Option Int->Option Int->Option D)(a:FE)(l h:FO):FE:=fun ρ=>(a ρ).bind fun x=>(l ρ).bind fun lo=>(h ρ).bind fun hi=>oR (g x lo hi)
def gSl:D->Option Int->Option Int->Option D
 | .lst xs,lo,hi=>if flatA xs then some (.lst (cut xs lo hi)) else none
 | .scr ns,lo,hi=>some (.lst ((cut ns lo hi).map D.int))
 | .flst xs,lo,hi=>if flatA xs then some (.lst (cut xs lo hi)) else none
 | _,_,_=>none
def plain (n:Nat)(z:Str):Bool:=decide (z.length<=n)&&z.cps.toList.all (fun c=>decide (c<128))
def intsOf:List D->Option (List Int)
 | []=>some []
 | .int i::r=>(intsOf r).map (i::·)
 | _::_=>none
def bools:List D->Option (List Bool)
 | []=>some []
 | .bl i::r=>(bools r).map (i::·)
 | _::_=>none
def gLen:List D->Option D
 | [.lst xs]=>some (.int xs.length)
 | [.tup xs]=>some (.int xs.length)
 | [.scr xs]=>some (.int xs.length)
 | [.flst xs]=>some (.int xs.length)
 | [.str z]=>if z.length<=lim then some (.int z.length) else none
 | _=>none
def gSum:List D->Option D
 | [.lst xs]=>(intsOf xs).bind fun ns=>some (.int ns.sum)
 | _=>none
def maxL:List Int->Int
 | []=>0
 | x::r=>r.foldl max x
def gMin:List D->Option D
 | [.int i,.int j]=>some (.int (if j<i then j else i))
 | _=>none
def rngL (lo:Int)(n:Nat):List D:=(AW n).map fun (k:Nat)=>D.int (lo+(k:Int))
def gList:List D->Option D
 | [.lst xs]=>if flatA xs then some (.lst xs) else none
 | [.tup xs]=>if flatA xs then some (.lst xs) else none
 | [.flst xs]=>if flatA xs then some (.lst xs) else none
 | [.rng i j]=>if -1000000000<=i/\i<=1000000000/\-1000000000<=j/\j<=1000000000/\(j - i).toNat<=lim then some (.lst (rngL i (j - i).toNat)) else none
 | _=>none
def gListV:List D->Option D
 | [.lst xs]=>some (.lst xs)
 | _=>none
def gRange:List D->Option D
 | [.int j]=>some (.rng 0 j)
 | [.int i,.int j]=>some (.rng i j)
 | _=>none
def tyName:D->String
 | .non=>"NoneType"
 | .bl _=>"bool"
 | .int _=>"int"
 | .str _=>"str"
 | .lst _=>"list"
 | .tup _=>"tuple"
 | .scr _=>"list"
 | .rng _ _=>"range"
 | .exc c _=>c
 | .obj c _ _=>c
 | .dct _ _=>"dict"
 | .dtt _ _=>"dict"
 | .flst _=>"list"
 | .fdt _ _=>"dict"
 | .fobj c _ _=>c
 | .fdk _ _=>"dict"
def gIsI (c:String):D->Option D
 | .non=>some (.bl false)
 | .bl _=>some (.bl (c=="bool"||c=="int"))
 | .int _=>some (.bl (c=="int"))
 | .str _=>some (.bl (c=="str"))
 | .lst _=>some (.bl (c=="list"))
 | .tup _=>some (.bl (c=="tuple"))
 | .flst _=>some (.bl (c=="list"))
 | _=>none
def gIsT (tb:List (String×Bool)):D->Option D
 | .exc k _=>(tb.lookup k).map D.bl
 | _=>none
def cE (a:FE):FT:=fun ρ=>(a ρ).bind fun d=>match d with
 | .bl b=>.ok b
 | _=>.bad
def cNot (a:FT):FT:=fun ρ=>(a ρ).bind fun b=>.ok (!b)
def cAnd (a b:FT):FT:=fun ρ=>(a ρ).bind fun x=>if x then b ρ else .ok false
def cOr (a b:FT):FT:=fun ρ=>(a ρ).bind fun x=>if x then .ok true else b ρ
def fAnd (a b:FE):FE:=fun ρ=>(a ρ).bind fun x=>match x with
 | .bl true=>b ρ
 | .bl false=>.ok (.bl false)
 | _=>.bad
def fOr (a b:FE):FE:=fun ρ=>(a ρ).bind fun x=>match x with
 | .bl true=>.ok (.bl true)
 | .bl false=>b ρ
 | _=>.bad
def gNot:D->Option D
 | .bl b=>some (.bl (!b))
 | _=>none
def fIf (c:FT)(a b:FE):FE:=fun ρ=>(c ρ).bind fun x=>if x then a ρ else b ρ
def fChain (g g':D->D->Option D)(a b c:FE):FE:=fun ρ=>(a ρ).bind fun x=>(b ρ).bind fun y=>(oR (g x y)).bind fun z=>match z with
 | .bl true=>(c ρ).bind fun w=>oR (g' y w)
 | .bl false=>.ok (.bl false)
 | _=>.bad
abbrev FB:=D->Env->R Env
def bName (i:Nat):FB:=fun d ρ=>.ok (ρ.set i (some d))
def bNil:List D->Env->R Env
 | [],ρ=>.ok ρ
 | _,_=>.bad
def bCons (b:FB)(r:List D->Env->R Env):List D->Env->R Env
 | d::ds,ρ=>(b d ρ).bind fun ρ'=>r ds ρ'
 | _,_=>.bad
def bTup (r:List D->Env->R Env):FB:=fun d ρ=>match d with
 | .tup ds=>r ds ρ
 | _=>.bad
def R.calm {α:Type}:R α->R α
 | .ok a=>.ok a
 | .err _ _=>.bad
 | .bad=>.bad
@[simp] theorem calm_ok (a:α):(R.ok a).calm=.ok a:=(rfl)
def compN (k:Nat)(b:FB)(c:FT)(e:FE)(ρ:Env):List D->R (List D)
 | []=>.ok []
 | x::xs=>(b x (ρ++Aa k none)).calm.bind fun ρ1=>(c ρ1).bind fun t=>if t then (e ρ1).bind fun y=>(compN k b c e ρ xs).bind fun ys=>.ok (y::ys) else compN k b c e ρ xs
def cYes:FT:=fun _=>.ok true
abbrev FI:=Env->R (List D)
def jList (a:FE):FI:=fun ρ=>(a ρ).bind fun d=>match d with
 | .lst xs=>if xs.length<=lim then .ok xs else .bad
 | .scr ns=>if ns.length<=lim then .ok (ns.map D.int) else .bad
 | .flst xs=>if xs.length<=lim then .ok xs else .bad
 | _=>.bad
def jTup (a:FE):FI:=fun ρ=>(a ρ).bind fun d=>match d with
 | .tup xs=>if xs.length<=lim then .ok xs else .bad
 | _=>.bad
def jRng1 (a:FA):FI:=fun ρ=>(a ρ).bind fun ds=>match ds with
 | [.int j]=>if -1000000000<=j/\j<=1000000 then .ok (rngL 0 j.toNat) else .bad
 | _=>.bad
def jRng2 (a:FA):FI:=fun ρ=>(a ρ).bind fun ds=>match ds with
 | [.int i,.int j]=>if -1000000000<=i/\i<=1000000000/\-1000000000<=j/\j<=1000000000/\(j - i).toNat<=lim then .ok (rngL i (j - i).toNat) else .bad
 | _=>.bad
def sortI (ns:List Int):List Int:=ns.mergeSort fun a b=>decide (a<=b)
def gSort:List D->Option D
 | [.lst xs]=>(intsOf xs).bind fun ns=>if ns.length<64 then some (.lst ((sortI ns).map D.int)) else none
 | _=>none
def fComp (n k:Nat)(it:FI)(b:FB)(c:FT)(e:FE):FE:=fun ρ=>if ρ.length=n then (it ρ).bind fun xs=>(compN k b c e ρ xs).calm.bind fun ys=>.ok (.lst ys) else .bad
def sNx:FS:=fun ρ=>.ok (.nx ρ)
def sNever:FS:=fun _=>.bad
def sSeq (a b:FS):FS:=fun ρ=>(a ρ).bind fun fl=>match fl with
 | .nx ρ'=>b ρ'
 | fl=>.ok fl
def sSet (i:Nat)(e:FE):FS:=fun ρ=>(e ρ).bind fun d=>.ok (.nx (ρ.set i (some d)))
def sRet (e:FE):FS:=fun ρ=>(e ρ).bind fun d=>.ok (.ret d)
def sIf (c:FT)(a b:FS):FS:=fun ρ=>(c ρ).bind fun x=>if x then a ρ else b ρ
def sApp (i:Nat)(e:FE):FS:=fun ρ=>match ρ[i]? with
 | some (some (.lst xs))=>(e ρ).bind fun d=>if xs.length<lim then .ok (.nx (ρ.set i (some (.lst (xs++[d]))))) else .bad
 | _=>.bad
def sPut (i:Nat)(k e:FE):FS:=fun ρ=>(e ρ).bind fun d=>match ρ[i]? with
 | some (some (.lst xs))=>(k ρ).bind fun z=>match z with
  | .int n=>if flat d=true/\flatA xs=true then match ixD xs.length n with
    | some j=>.ok (.nx (ρ.set i (some (.lst (xs.set j d)))))
    | none=>.bad
   else .bad
  | _=>.bad
 | _=>.bad
def sDrop (e:FE):FS:=fun ρ=>(e ρ).bind fun _=>.ok (.nx ρ)
def sAsg (e:FE)(b:FB):FS:=fun ρ=>(e ρ).bind fun d=>(b d ρ).calm.bind fun ρ'=>.ok (.nx ρ')
def forD (b:FB)(s:FS):List D->Env->R Fl
 | [],ρ=>.ok (.nx ρ)
 | x::xs,ρ=>(b x ρ).calm.bind fun ρ1=>(s ρ1).bind fun fl=>match fl with
  | .nx ρ2=>forD b s xs ρ2
  | .cnt ρ2=>forD b s xs ρ2
  | .brk ρ2=>.ok (.nx ρ2)
  | .ret d=>.ok (.ret d)
def sFor (it:FI)(b:FB)(s:FS):FS:=fun ρ=>(it ρ).bind fun xs=>forD b s xs ρ
def whileD (c:FT)(s:FS):Nat->Env->R Fl
 | 0,_=>.bad
 | n+1,ρ=>(c ρ).bind fun b=>if b then (s ρ).bind fun fl=>match fl with
  | .nx ρ2=>whileD c s n ρ2
  | .cnt ρ2=>whileD c s n ρ2
  | .brk ρ2=>.ok (.nx ρ2)
  | .ret d=>.ok (.ret d)
  else .ok (.nx ρ)
def sWhile (n:Nat)(c:FT)(s:FS):FS:=fun ρ=>whileD c s n ρ
def gFv:D->Option D
 | .int i=>if i.natAbs<2 ^ 200 then some (.int i) else none
 | _=>none
def sRaise (c:String)(words:FA):FS:=fun ρ=>(words ρ).bind fun _=>.err c none
def strsOf:List D->Option (List Str)
 | []=>some []
 | .str i::r=>(strsOf r).map (i::·)
 | _::_=>none
def gJoin:D->D->Option D
 | .str s,.lst ds=>(strsOf ds).bind fun ts=>if (ts.map (·.length)).sum+ts.length*s.length<=lim then some (.str (Str.join s ts)) else none
 | _,_=>none
def fJoin (a b:FE):FE:=fun ρ=>(a ρ).bind fun x=>match x with
 | .str s=>(b ρ).bind fun y=>oR (gJoin (.str s) y)
 | _=>.bad
def sTry (cs:List String)(N i:Nat)(b h:FS):FS:=fun ρ=>match b ρ with
 | .err c x=>if cs.contains c then (h ((Aa N none).set i (some (.exc c x)))).calm.bind fun fl=>match fl with
   | .nx _=>.ok (.nx (Aa N none))
   | .brk _=>.ok (.brk (Aa N none))
   | .cnt _=>.ok (.cnt (Aa N none))
   | .ret d=>.ok (.ret d)
  else .bad
 | r=>r
def fIx (f:Str):List Str->Option Nat
 | []=>none
 | g::r=>if g=f then some 0 else (fIx f r).map (·+1)
def gFld (c:String)(f:Str):D->Option D
 | .obj c' ns xs=>if c'=c then (fIx f ns).bind fun j=>xs[j]? else none
 | _=>none
def putO (c:String)(f:Str)(d:D):D->Option D
 | .obj c' ns xs=>if c'=c/\ns.length<100 then match fIx f ns with
   | some j=>some (.obj c' ns (xs.set j d))
   | none=>some (.obj c' (ns++[f]) (xs++[d]))
  else none
 | _=>none
def sFld (i:Nat)(c:String)(f:Str)(e:FE):FS:=fun ρ=>(e ρ).bind fun d=>match ρ[i]? with
 | some (some o)=>(oR (putO c f d o)).bind fun o'=>.ok (.nx (ρ.set i (some o')))
 | _=>.bad
def appO (c:String)(f:Str)(d:D):D->Option D
 | .obj c' ns xs=>if c'=c then (fIx f ns).bind fun j=>match xs[j]? with
   | some (.lst ys)=>if ys.length<lim then some (.obj c' ns (xs.set j (.lst (ys++[d])))) else none
   | _=>none
  else none
 | _=>none
def sFldApp (i:Nat)(c:String)(f:Str)(e:FE):FS:=fun ρ=>match ρ[i]? with
 | some (some o)=>match gFld c f o with
  | some (.lst _)=>(e ρ).bind fun d=>(oR (appO c f d o)).bind fun o'=>.ok (.nx (ρ.set i (some o')))
  | _=>.bad
 | _=>.bad
def fMeth (c:String)(m:Str)(F:List D->R D)(a:FE)(args:FA):FE:=fun ρ=>(a ρ).bind fun d=>match d with
 | .obj c' ns xs=>if c'=c/\fIx m ns=none then (args ρ).bind fun ys=>F (.obj c' ns xs::ys) else .bad
 | _=>.bad
abbrev FM:=Env->R (D×Env)
abbrev FMT:=Env->R (Bool×Env)
def mMeth (i:Nat)(c:String)(m:Str)(G:List D->R (D×D))(args:FA):FM:=fun ρ=>match ρ[i]? with
 | some (some (.obj c' ns xs))=>if c'=c/\fIx m ns=none then (args ρ).bind fun ys=>(G (.obj c' ns xs::ys)).bind fun p=>.ok (p.1,ρ.set i (some p.2)) else .bad
 | _=>.bad
def sDropM (a:FM):FS:=fun ρ=>(a ρ).bind fun p=>.ok (.nx p.2)
def sSetM (i:Nat)(a:FM):FS:=fun ρ=>(a ρ).bind fun p=>.ok (.nx (p.2.set i (some p.1)))
def fMake (c:String)(G:List D->R (D×D))(args:FA):FE:=fun ρ=>(args ρ).bind fun ys=>(G (.obj c [] []::ys)).bind fun p=>match p.1 with
 | .non=>.ok p.2
 | _=>.bad
def mbCons (s:FS)(r:FM):FM:=fun ρ=>(s ρ).bind fun fl=>match fl with
 | .nx ρ'=>r ρ'
 | _=>.bad
def mbRet (e:FE):FM:=fun ρ=>(e ρ).bind fun d=>.ok (d,ρ)
def mbEnd (s:FS):FM:=mbCons s fun ρ=>.ok (.non,ρ)
def runM (N:Nat)(G:FM)(ds:List D):R (D×D):=(G (ds.map some++Aa (N - ds.length) none)).bind fun p=>match p.2[0]? with
 | some (some d)=>.ok (p.1,d)
 | _=>.bad
def run (N:Nat)(b:FS)(ds:List D):R D:=(b (ds.map some++Aa (N - ds.length) none)).bind fun fl=>match fl with
 | .nx _=>.ok .non
 | .ret d=>.ok d
 | _=>.bad
def keyD:D->Option (Int ⊕ Str)
 | .int i=>some (.inl i)
 | .str x=>some (.inr x)
 | _=>none
def dHas (ks:List (Int ⊕ Str))(k:Int ⊕ Str):Bool:=ks.any fun j=>decide (j=k)
def dPut (ks:List (Int ⊕ Str))(xs:List D)(k:Int ⊕ Str)(d:D):D:=if dHas ks k then .dct ks (Cy (fun j x=>if j=k then d else x) ks xs) else .dct (ks++[k]) (xs++[d])
def sDPut (i:Nat)(k e:FE):FS:=fun ρ=>(e ρ).bind fun d=>match ρ[i]? with
 | some (some (.dct ks xs))=>(k ρ).bind fun z=>match keyD z with
  | some q=>if flat d=true/\flatA xs=true/\ks.length<lim then .ok (.nx (ρ.set i (some (dPut ks xs q d)))) else .bad
  | none=>.bad
 | _=>.bad
def catO:Str->List D->Option D
 | out,[]=>some (.str out)
 | out,.str y::r=>if y.length<=2000 then catO (out++y) r else none
 | _,_=>none
abbrev Pc:=Int×Str
def sLt (x y:Str):Bool:=decide (x.cps.toList<y.cps.toList)
def pcLt (p q:Pc):Bool:=if p.1=q.1 then (if p.2=q.2 then false else sLt p.2 q.2) else decide (p.1<q.1)
def ctLt:List Pc->List Pc->Bool
 | [],[]=>false
 | [],_::_=>true
 | _::_,[]=>false
 | p::c,q::d=>if p=q then ctLt c d else pcLt p q
def aVars:List Nat->FA
 | []=>aNil
 | j::r=>aCons (fV j) (aVars r)
def keyLs (fb:FE)(fr:Env):List D->R (List Int)
 | []=>.ok []
 | x::r=>(fb (some x::fr)).calm.bind fun k=>match k with
  | .int k=>(keyLs fb fr r).bind fun ks=>.ok (k::ks)
  | _=>.bad
def dAt:List (Int ⊕ Str)->List D->Int ⊕ Str->Option D
 | j::ks,x::xs,k=>if j=k then some x else dAt ks xs k
 | _,_,_=>none
abbrev Pr:=Int×(Int ⊕ Str)
def kLt:Int ⊕ Str->Int ⊕ Str->Bool
 | .inl a,.inl b=>decide (a<b)
 | .inr a,.inr b=>sLt a b
 | _,_=>false
def prLt (p q:Pr):Bool:=if p.1=q.1 then kLt p.2 q.2 else decide (p.1<q.1)
def insP (c:Pr):List Pr->List Pr
 | []=>[c]
 | d::r=>if prLt c d=true then c::d::r else d::insP c r
def sortP:List Pr->List Pr
 | []=>[]
 | c::r=>insP c (sortP r)
def prOfD:D->Option Pr
 | .tup [.int i,.int j]=>some (i,.inl j)
 | .tup [.int i,.str z]=>some (i,.inr z)
 | _=>none
def prsOf:List D->Option (List Pr)
 | []=>some []
 | d::r=>(prOfD d).bind fun c=>(prsOf r).bind fun cs=>some (c::cs)
def kOk:Int ⊕ Str->Bool
 | .inl _=>true
 | .inr z=>z.cps.all fun c=>decide (c<0x110000)
def addKs (ks:List Int)(k:Int):List Int:=if k∈ks then ks else ks++[k]
def addAll (ks:List Int):List Int->List Int
 | []=>ks
 | n::ns=>addAll (addKs ks n) ns
def gFzL:D->Option D
 | .lst ds=>if flatA ds=true then some (.flst ds) else none
 | _=>none
end Dl
namespace Dl
def ilt (p q:Int):Bool:=decide (p<q)
def ilLt:List Int->List Int->Bool
 | [],[]=>false
 | [],_::_=>true
 | _::_,[]=>false
 | p::c,q::d=>if p=q then ilLt c d else ilt p q
end Dl
namespace Dl
open PySem
end Dl
namespace Dl
end Dl
namespace Dl
open PySem
end Dl
namespace Dl
end Dl
namespace Dl
open PySem
def gFldF (c:String)(f:Str):D->Option D
 | .fobj c' ns xs=>if c'=c then (fIx f ns).bind fun j=>xs[j]? else none
 | _=>none
def fMethF (c:String)(m:Str)(F:List D->R D)(a:FE)(args:FA):FE:=fun ρ=>(a ρ).bind fun d=>match d with
 | .fobj c' ns xs=>if c'=c/\fIx m ns=none then (args ρ).bind fun ys=>F (.fobj c' ns xs::ys) else .bad
 | _=>.bad
def gFzO:D->Option D
 | .obj c (f::ns) (.dct ks xs::ds)=>if flatA xs=true/\flatA ds=true then some (.fobj c (f::ns) (.fdk ks xs::ds)) else none
 | _=>none
def gNotK (x:D):D->Option D
 | .fdk ks _=>(keyD x).map fun k=>.bl (!dHas ks k)
 | _=>none
def gAtK:D->D->Option D
 | .fdk ks xs,y=>if flatA xs=true then (keyD y).bind fun k=>dAt ks xs k else none
 | _,_=>none
def gLenK:D->Option D
 | .fdk ks _=>some (.int ks.length)
 | _=>none
def kyD:Int ⊕ Str->D
 | .inl i=>.int i
 | .inr x=>.str x
def gListK:List D->Option D
 | [.fdk ks _]=>if ks.length<=lim/\ks.all kOk=true then some (.lst (ks.map kyD)) else none
 | _=>none
def gDictK:List D->Option D
 | [.fdk ks xs]=>if ks.length<=lim/\flatA xs=true then some (.dct ks xs) else none
 | _=>none
def jVals (a:FE):FI:=fun ρ=>(a ρ).bind fun d=>match d with
 | .fdk ks xs=>if ks.length<=lim/\flatA xs=true then .ok xs else .bad
 | _=>.bad
def sFldAug (i:Nat)(c:String)(f:Str)(g:D->D->Option D)(e:FE):FS:=fun ρ=>match ρ[i]? with
 | some (some o)=>match gFld c f o with
  | some (.int k)=>(e ρ).bind fun d=>match g (.int k) d with
   | some (.int z)=>(oR (putO c f (.int z) o)).bind fun o'=>.ok (.nx (ρ.set i (some o')))
   | _=>.bad
  | _=>.bad
 | _=>.bad
def sFldPut (i:Nat)(c:String)(f:Str)(k e:FE):FS:=fun ρ=>(e ρ).bind fun d=>match ρ[i]? with
 | some (some (.obj c' ns ds))=>if c'=c then match fIx f ns with
   | some j=>match ds[j]? with
    | some (.dct ks xs)=>(k ρ).bind fun z=>match keyD z with
     | some q=>if flat d=true/\flatA xs=true/\ks.length<lim then .ok (.nx (ρ.set i (some (.obj c ns (ds.set j (dPut ks xs q d)))))) else .bad
     | none=>.bad
    | _=>.bad
   | none=>.bad
  else .bad
 | _=>.bad
def mMethFld (i:Nat)(c:String)(f:Str)(c2:String)(m:Str)(G:List D->R (D×D))(args:FA):FM:=fun ρ=>match ρ[i]? with
 | some (some (.obj c' ns ds))=>if c'=c then match fIx f ns with
   | some j=>match ds[j]? with
    | some (.obj c2' ns2 ds2)=>if c2'=c2/\fIx m ns2=none then (args ρ).bind fun ys=>(G (.obj c2 ns2 ds2::ys)).bind fun p=>.ok (p.1,ρ.set i (some (.obj c ns (ds.set j p.2)))) else .bad
    | _=>.bad
   | none=>.bad
  else .bad
 | _=>.bad
def mEnter (i:Nat)(c:String)(m:Str)(G:List D->R (D×D))(c2:String)(m2:Str)(G2:List D->R (D×D))(args:FA):FM:=fun ρ=>match ρ[(0:Nat)]?,ρ[i]? with
 | some (some (D.obj c' ns ds)),some (some (D.obj c2' ns2 ds2))=>if c'=c/\fIx m ns=none/\c2'=c2/\fIx m2 ns2=none then (args ρ).bind fun ys=>(G2 (.obj c2 ns2 ds2::ys)).bind fun p=>match gFzO p.2 with
   | some z=>if flat p.1=true then (G [.obj c ns ds,z,p.1]).bind fun r=>.ok (r.1,(ρ.set i none).set 0 (some r.2)) else .bad
   | none=>.bad
  else .bad
 | _,_=>.bad
def thw:D->D
 | .flst xs=>.lst xs
 | d=>d
def gNeF (a b:D):Option D:=gNe (thw a) (thw b)
end Dl
namespace L2
open PySem PySem.Spec PyProof.Rows
open Dl (D R FE FT FA FO FS FI FB Fl)
variable {K:AC}{H H' H1 H2 H0 Hb Hc:Hp}{a Dd c0:Addr}{xs vs ys:List V}{C:String->Addr}{ds:List D}{A:Nat->List Addr}{d d' d0:D}{v v0:V}{ns ns':List Int}{E:XK}{Γ Δ Γ' Δ' Γ1 Δ1 Γl Δl Γk Δk Γ2 Δ2:List Nat}{m m1 m2 mr j i m3 n N x1 jj:Nat}{S1 S2 S3:List (Nat×Bool)}{σ:St}{ρ:DEnv}{α:Type}{er er':String->Option Int->Prop}{t:TA}{f ff:FA}{B Bx By A' B' l A0 as:List Addr}{r:List V->Hp->VK->Prop}{g:List D->Option D}{ta tb te ts tk:TE}{fa fb fe fc fk:FE}{P:List Value->Prop}{F:List D->R D}{y z x qual ty nm md:Str}{Q:VK}{p pos p2 apos cpos pos' np hpos jp tpos cp p1 ap p' rp:Pos}{gv:Int->Int->V}{Cd:Int->Int->Prop}{X:Cx}{lo:Int}{tl:TO}{th u:TS}{fl fh:FO}{J:It}{tc tA:TT}{Rr:Hp->Prop}{es ifs elts:List Expr}{o':HO}{wi:TI}{fi:FI}{b e st o tg iter elt kx cx:Expr}{c T cn newId initId:String}{op:FR}{hi ex:Option Expr}{CX:CXT}{ps loose sn:List Str}{sc:Scope}{gg:TG}{fg:FB}{s1 b₀:Stmt}{ss body suite:List Stmt}{w:AK}{mg:Str->Option Value}{fd:BD}{dx dd:Option Addr}{cs:List String}{s:Ac}{tj:TJ}{pins:List (Addr×Obj)}{h' h:AR}{prog q:Ao}{a₀:Array AO}{G:List D->R (D×D)}{fm:FM}{pl:Sem Bool}{XP:(Str->Option Value)->AR->Prop}{kwd:List (Str×Expr)}{os:Fv}{bm bmB sub:List Value}{hdct ab:Bool}{col:Option Bool}{k0 k1 k2 k3 k5:Option Value}{env:Env}
def FzL (K:AC)(H:Hp)(a:Addr)(xs:List V):Prop:=
 (∃o,H a=some (.frz o (.lst xs)))\/∃(o:Obj) (its:Array Value) (n:Nat),K.lookup a=some o/\o.cls=.type "list"/\o.dict=none/\o.data=.seq its n/\its.size<=Ah/\Vals xs its.toList
theorem FzL.sq (h:FzL K H a xs):SqL K H a xs:=by rcases h with ⟨o,h⟩ | h;exact .inl (.inr ⟨o,h⟩);exact .inr h
def fnm (c:String):Str:=if c="TooMany" then "most" else "at"
def FOk (H:Hp)(c:String)(f:Option Int)(dx:Option Addr):Prop:=match f with
 | none=>True
 | some i=>∃d,dx=some d/\H d=some (.xd [(fnm c,.int i)])
section
variable (K:AC)(C:String->Addr)
mutual
def Rp (H:Hp):D->V->List Addr->Prop
 | .non,v,A=>v=.non/\A=[]
 | .bl b,v,A=>v=.bl b/\A=[]
 | .int i,v,A=>v=.int i/\A=[]
 | .str x,v,A=>v=.str x/\BZ x=true/\A=[]
 | .lst ds,v,A=>∃a xs B,v=.ref a/\H a=some (.lst xs)/\RpA H ds xs B/\A=a::B
 | .tup ds,v,A=>∃a xs,v=.ref a/\H a=some (.tup xs)/\RpA H ds xs A
 | .scr ns,v,A=>∃a,v=.ref a/\FzL K H a (ns.map V.int)/\A=[]
 | .rng lo hi,v,A=>∃a,v=.ref a/\H a=some (.rng lo hi)/\A=[]
 | .exc c f,v,A=>∃e dx,v=.ref e/\H e=some (exO e (.ref (C c)) dx)/\FOk H c f dx/\A=[]
 | .obj c ns ds,v,A=>∃a dx xs B,v=.ref a/\H a=some (.ins (C c) dx (ns.zip xs))/\ns.length=ds.length/\RpA H ds xs B/\A=a::B
 | .dct ks ds,v,A=>∃a xs B,v=.ref a/\H a=some (.dK (ks.zip xs))/\ks.length=ds.length/\RpA H ds xs B/\A=a::B
 | .dtt ks ds,v,A=>∃a xs B,v=.ref a/\H a=some (.dT (ks.zip xs))/\ks.length=ds.length/\RpA H ds xs B/\A=a::B
 | .flst ds,v,A=>∃a o xs,v=.ref a/\H a=some (.frz o (.lst xs))/\RpA H ds xs []/\A=[]
 | .fdt ks ds,v,A=>∃a o xs,v=.ref a/\H a=some (.frz o (.dT (ks.zip xs)))/\ks.length=ds.length/\RpA H ds xs []/\A=[]
 | .fobj c ns ds,v,A=>∃a o dx xs,v=.ref a/\H a=some (.frz o (.ins (C c) dx (ns.zip xs)))/\ns.length=ds.length/\RpA H ds xs []/\A=[]
 | .fdk ks ds,v,A=>∃a o xs,v=.ref a/\H a=some (.frz o (.dK (ks.zip xs)))/\ks.length=ds.length/\RpA H ds xs []/\A=[]
def RpA (H:Hp):List D->List V->List Addr->Prop
 | [],xs,A=>xs=[]/\A=[]
 | d::ds,xs,A=>∃x r B B',xs=x::r/\Rp H d x B/\RpA H ds r B'/\A=B++B'
end
end
inductive IsM:HO->Prop where
 | lst {xs:List V}:IsM (.lst xs)
 | ins {C dx:Addr} {fs:List (Str×V)}:IsM (.ins C dx fs)
 | dct {kvs:List (Key×V)}:IsM (.dK kvs)
 | dtt {kvs:List (List Key×V)}:IsM (.dT kvs)
def Ext (W:Addr->Prop)(H H':Hp):Prop:=∀b o,H b=some o->H' b=some o\/(W b/\IsM o)
theorem Ext.same (h:Same H H'):Ext (fun _=>False) H H':=fun b o q=>.inl (h b o q)
mutual
theorem Rp.ext {W:Addr->Prop}(h:Ext W H H'):∀{d:D} {v:V} {A:List Addr},(∀a∈A,¬W a)->Rp K C H d v A->Rp K C H' d v A
 | .non,_,_,_,r=>r
 | .bl _,_,_,_,r=>r
 | .int _,_,_,_,r=>r
 | .str _,_,_,_,r=>r
 | .lst ds,v,A,hw,r=>by obtain ⟨a,xs,B,e1,e2,e3,e4⟩:=r;subst e4;refine ⟨a,xs,B,e1,?_,RpA.ext h (fun b hb=>hw b (.tail _ hb)) e3,rfl⟩;rcases h a _ e2 with q | ⟨q,_⟩;exact q;exact absurd q (hw a (.head _))
 | .tup ds,v,A,hw,r=>by obtain ⟨a,xs,e1,e2,e3⟩:=r;refine ⟨a,xs,e1,?_,RpA.ext h hw e3⟩;rcases h a _ e2 with q | ⟨_,q⟩;exact q;cases q
 | .scr ns,v,A,_,r=>by obtain ⟨a,e1,e2,e3⟩:=r;refine ⟨a,e1,?_,e3⟩;rcases e2 with ⟨o,e2⟩ | e2;rcases h a _ e2 with q | ⟨_,q⟩;exact .inl ⟨o,q⟩;cases q;exact .inr e2
 | .rng lo hi,v,A,_,r=>by obtain ⟨a,e1,e2,e3⟩:=r;refine ⟨a,e1,?_,e3⟩;rcases h a _ e2 with q | ⟨_,q⟩;exact q;cases q
 | .exc c f,v,A,_,r=>by
  obtain ⟨a,dx,e1,e2,e3,e4⟩:=r;refine ⟨a,dx,e1,?_,?_,e4⟩;rcases h a _ e2 with q | ⟨_,q⟩;exact q;cases q;cases f with
  | none=>trivial
  | some i =>obtain ⟨d,z1,z2⟩:=e3;refine ⟨d,z1,?_⟩;rcases h d _ z2 with q | ⟨_,q⟩;exact q;cases q
 | .obj c ns ds,v,A,hw,r=>by obtain ⟨a,dx,xs,B,e1,e2,e0,e3,e4⟩:=r;subst e4;refine ⟨a,dx,xs,B,e1,?_,e0,RpA.ext h (fun b hb=>hw b (.tail _ hb)) e3,rfl⟩;rcases h a _ e2 with q | ⟨q,_⟩;exact q;exact absurd q (hw a (.head _))
 | .dct ks ds,v,A,hw,r=>by obtain ⟨a,xs,B,e1,e2,e0,e3,e4⟩:=r;subst e4;refine ⟨a,xs,B,e1,?_,e0,RpA.ext h (fun b hb=>hw b (.tail _ hb)) e3,rfl⟩;rcases h a _ e2 with q | ⟨q,_⟩;exact q;exact absurd q (hw a (.head _))
 | .dtt ks ds,v,A,hw,r=>by obtain ⟨a,xs,B,e1,e2,e0,e3,e4⟩:=r;subst e4;refine ⟨a,xs,B,e1,?_,e0,RpA.ext h (fun b hb=>hw b (.tail _ hb)) e3,rfl⟩;rcases h a _ e2 with q | ⟨q,_⟩;exact q;exact absurd q (hw a (.head _))
 | .flst ds,v,A,hw,r=>by obtain ⟨a,o,xs,e1,e2,e3,e4⟩:=r;refine ⟨a,o,xs,e1,?_,RpA.ext h (fun _ hb=>nomatch hb) e3,e4⟩;rcases h a _ e2 with q | ⟨_,q⟩;exact q;cases q
 | .fdt ks ds,v,A,hw,r=>by obtain ⟨a,o,xs,e1,e2,e0,e3,e4⟩:=r;refine ⟨a,o,xs,e1,?_,e0,RpA.ext h (fun _ hb=>nomatch hb) e3,e4⟩;rcases h a _ e2 with q | ⟨_,q⟩;exact q;cases q
 | .fobj c ns ds,v,A,hw,r=>by obtain ⟨a,o,dx,xs,e1,e2,e0,e3,e4⟩:=r;refine ⟨a,o,dx,xs,e1,?_,e0,RpA.ext h (fun _ hb=>nomatch hb) e3,e4⟩;rcases h a _ e2 with q | ⟨_,q⟩;exact q;cases q
 | .fdk ks ds,v,A,hw,r=>by obtain ⟨a,o,xs,e1,e2,e0,e3,e4⟩:=r;refine ⟨a,o,xs,e1,?_,e0,RpA.ext h (fun _ hb=>nomatch hb) e3,e4⟩;rcases h a _ e2 with q | ⟨_,q⟩;exact q;cases q
theorem RpA.ext {W:Addr->Prop}(h:Ext W H H'):∀{ds:List D} {vs:List V} {A:List Addr},(∀a∈A,¬W a)->RpA K C H ds vs A->RpA K C H' ds vs A
 | [],_,_,_,r=>r
 | d::ds,vs,A,hw,r=>by obtain ⟨x,l,B,B',e1,e2,e3,e4⟩:=r;subst e4;exact ⟨x,l,B,B',e1,Rp.ext h (fun a ha=>hw a (Am _ ha)) e2,RpA.ext h (fun a ha=>hw a (Aj _ ha)) e3,rfl⟩
end
theorem Rp.same (h:Same H H'){d:D}{v:V}{A:List Addr}(r:Rp K C H d v A):Rp K C H' d v A:=r.ext (Ext.same h) (fun _ _ q=>q)
theorem RpA.same (h:Same H H'){d:List D}{v:List V}{A:List Addr}(r:RpA K C H d v A):RpA K C H' d v A:=r.ext (Ext.same h) (fun _ _ q=>q)
def Agree (W:List Addr)(H Hb:Hp):Prop:=(∀a∈W,Hb a=H a)/\∀b o,H b=some o->¬IsM o->Hb b=some o
theorem Agree.ext {W:List Addr}(h:Agree W H H'):Ext (fun a=>a∉W) H H':=fun b o q=>by by_cases hb:b∈W;exact .inl ((h.1 b hb).trans q);by_cases ho:IsM o;exact .inr ⟨hb,ho⟩;exact .inl (h.2 b o q ho)
theorem RpA.agree {W:List Addr}(h:Agree W H H'){A:List Addr}(hA:∀a∈A,a∈W)(r:RpA K C H ds vs A):RpA K C H' ds vs A:=r.ext h.ext fun a ha z=>z (hA a ha)
mutual
theorem Rp.isl:∀{d:D} {v:V} {A:List Addr},Rp K C H d v A->∀a∈A,∃o,H a=some o/\IsM o
 | .non,_,_,r,a,ha=>by rw [r.2] at ha;cases ha
 | .bl _,_,_,r,a,ha=>by rw [r.2] at ha;cases ha
 | .int _,_,_,r,a,ha=>by rw [r.2] at ha;cases ha
 | .str _,_,_,r,a,ha=>by rw [r.2.2] at ha;cases ha
 | .lst ds,_,_,r,a,ha=>by obtain ⟨b,xs,B,e1,e2,e3,e4⟩:=r;rw [e4] at ha;rcases Au.mp ha with z | z;rw [z];exact ⟨_,e2,.lst⟩;exact RpA.isl e3 a z
 | .tup ds,_,_,r,a,ha=>by obtain ⟨b,xs,e1,e2,e3⟩:=r;exact RpA.isl e3 a ha
 | .scr _,_,_,r,a,ha=>by obtain ⟨_,_,_,e⟩:=r;rw [e] at ha;cases ha
 | .rng _ _,_,_,r,a,ha=>by obtain ⟨_,_,_,e⟩:=r;rw [e] at ha;cases ha
 | .exc _ _,_,_,r,a,ha=>by obtain ⟨_,_,_,_,_,e⟩:=r;rw [e] at ha;cases ha
 | .obj c ns ds,_,_,r,a,ha=>by obtain ⟨b,dx,xs,B,e1,e2,e0,e3,e4⟩:=r;rw [e4] at ha;rcases Au.mp ha with z | z;rw [z];exact ⟨_,e2,.ins⟩;exact RpA.isl e3 a z
 | .dct ks ds,_,_,r,a,ha=>by obtain ⟨b,xs,B,e1,e2,e0,e3,e4⟩:=r;rw [e4] at ha;rcases Au.mp ha with z | z;rw [z];exact ⟨_,e2,.dct⟩;exact RpA.isl e3 a z
 | .dtt ks ds,_,_,r,a,ha=>by obtain ⟨b,xs,B,e1,e2,e0,e3,e4⟩:=r;rw [e4] at ha;rcases Au.mp ha with z | z;rw [z];exact ⟨_,e2,.dtt⟩;exact RpA.isl e3 a z
 | .flst ds,_,_,r,a,ha=>by obtain ⟨b,o,xs,e1,e2,e3,e4⟩:=r;rw [e4] at ha;cases ha
 | .fdt ks ds,_,_,r,a,ha=>by obtain ⟨b,o,xs,e1,e2,e0,e3,e4⟩:=r;rw [e4] at ha;cases ha
 | .fobj c ns ds,_,_,r,a,ha=>by obtain ⟨b,o,dx,xs,e1,e2,e0,e3,e4⟩:=r;rw [e4] at ha;cases ha
 | .fdk ks ds,_,_,r,a,ha=>by obtain ⟨b,o,xs,e1,e2,e0,e3,e4⟩:=r;rw [e4] at ha;cases ha
theorem RpA.isl:∀{ds:List D} {vs:List V} {A:List Addr},RpA K C H ds vs A->∀a∈A,∃o,H a=some o/\IsM o
 | [],_,_,r,a,ha=>by rw [r.2] at ha;cases ha
 | d::ds,_,_,r,a,ha=>by obtain ⟨x,l,B,B',e1,e2,e3,e4⟩:=r;rw [e4] at ha;rcases Ae.mp ha with z | z;exact Rp.isl e2 a z;exact RpA.isl e3 a z
end
mutual
theorem Rp.flat:∀{d:D} {v:V} {A:List Addr},Dl.flat d=true->Rp K C H d v A->A=[]
 | .non,_,_,_,r=>r.2
 | .bl _,_,_,_,r=>r.2
 | .int _,_,_,_,r=>r.2
 | .str _,_,_,_,r=>r.2.2
 | .lst _,_,_,h,_=>by simp [Dl.flat] at h
 | .tup ds,_,_,h,r=>by obtain ⟨b,xs,e1,e2,e3⟩:=r;exact RpA.flat (by simpa [Dl.flat] using h) e3
 | .scr _,_,_,_,r=>by obtain ⟨_,_,_,e⟩:=r;exact e
 | .rng _ _,_,_,_,r=>by obtain ⟨_,_,_,e⟩:=r;exact e
 | .exc _ _,_,_,_,r=>by obtain ⟨_,_,_,_,_,e⟩:=r;exact e
 | .obj _ _ _,_,_,h,_=>by simp [Dl.flat] at h
 | .dct _ _,_,_,h,_=>by simp [Dl.flat] at h
 | .dtt _ _,_,_,h,_=>by simp [Dl.flat] at h
 | .flst _,_,_,_,r=>by obtain ⟨_,_,_,_,_,_,e⟩:=r;exact e
 | .fdt _ _,_,_,_,r=>by obtain ⟨_,_,_,_,_,_,_,e⟩:=r;exact e
 | .fobj _ _ _,_,_,_,r=>by obtain ⟨_,_,_,_,_,_,_,_,e⟩:=r;exact e
 | .fdk _ _,_,_,_,r=>by obtain ⟨_,_,_,_,_,_,_,e⟩:=r;exact e
theorem RpA.flat:∀{ds:List D} {vs:List V} {A:List Addr},Dl.flatA ds=true->RpA K C H ds vs A->A=[]
 | [],_,_,_,r=>r.2
 | d::ds,_,_,h,r=>by obtain ⟨x,l,B,B',e1,e2,e3,e4⟩:=r;simp only [Dl.flatA,Aq] at h;rw [e4,Rp.flat h.1 e2,RpA.flat h.2 e3];rfl
end
theorem RpA.len:∀{ds:List D} {vs:List V} {A:List Addr},RpA K C H ds vs A->vs.length=ds.length
 | [],_,_,r=>by rw [r.1];rfl
 | d::ds,_,_,r=>by obtain ⟨x,l,B,B',e1,e2,e3,e4⟩:=r;rw [e1,A7,A7,RpA.len e3]
theorem RpA.get:∀{ds:List D} {vs:List V} {A:List Addr} {i:Nat} {d:D},RpA K C H ds vs A->ds[i]?=some d->∃v B,vs[i]?=some v/\Rp K C H d v B/\∀a∈B,a∈A
 | [],_,_,_,_,_,h=>by simp at h
 | d::ds,_,_,0,_,r,h=>by obtain ⟨x,l,B,B',e1,e2,e3,e4⟩:=r;simp only [Ep,Dc] at h;subst h e1 e4;exact ⟨x,B,rfl,e2,fun a ha=>Am _ ha⟩
 | d::ds,_,_,i+1,_,r,h=>by obtain ⟨x,l,B,B',e1,e2,e3,e4⟩:=r;simp only [BV] at h;obtain ⟨v,B2,q1,q2,q3⟩:=RpA.get e3 h;subst e1 e4;exact ⟨v,B2,by simpa using q1,q2,fun a ha=>Aj _ (q3 a ha)⟩
theorem RpA.get':∀{ds:List D} {vs:List V} {A:List Addr} {i:Nat} {v:V},RpA K C H ds vs A->vs[i]?=some v->∃d B,ds[i]?=some d/\Rp K C H d v B/\∀a∈B,a∈A:=fun {ds vs A i v} r h=>by
 have hl:=r.len;have hi:i<ds.length:=by have:=(Ad.mp h).1;omega
 obtain ⟨v',B,q1,q2,q3⟩:=r.get (AA hi);rw [h] at q1;cases q1;exact ⟨_,B,AA hi,q2,q3⟩
theorem RpA.app:∀{ds es:List D} {vs ws:List V} {A B:List Addr},RpA K C H ds vs A->RpA K C H es ws B->RpA K C H (ds++es) (vs++ws) (A++B)
 | [],_,_,_,_,_,r,q=>by obtain ⟨e1,e2⟩:=r;subst e1 e2;exact q
 | d::ds,_,_,_,_,_,r,q=>by obtain ⟨x,l,B,B',e1,e2,e3,e4⟩:=r;subst e1 e4;exact ⟨x,_,B,_,rfl,e2,RpA.app e3 q,CK ..⟩
theorem RpA.one {A:List Addr}(r:Rp K C H d v A):RpA K C H [d] [v] A:=⟨v,[],A,[],rfl,r,⟨rfl,rfl⟩,(BN _).symm⟩
theorem RpA.flatDrop {A:List Addr}:Dl.flatA ds=true->RpA K C H ds vs A->∀n,RpA K C H (ds.drop n) (vs.drop n) []:=by
 intro h r n
 induction ds generalizing vs A n with
 | nil=>rw [r.1];simp;exact ⟨rfl,rfl⟩
 | cons d ds ih =>
  have r0:=r;obtain ⟨x,l,B,B',e1,e2,e3,e4⟩:=r;cases n with
  | zero =>have z:=RpA.flat h r0;subst z;exact r0
  | succ n =>simp only [Dl.flatA,Aq] at h;subst e1;exact ih h.2 e3 n
theorem RpA.flatTake {A:List Addr}:Dl.flatA ds=true->RpA K C H ds vs A->∀n,RpA K C H (ds.take n) (vs.take n) []:=by
 intro h r n
 induction ds generalizing vs A n with
 | nil=>rw [r.1];simp;exact ⟨rfl,rfl⟩
 | cons d ds ih =>
  obtain ⟨x,l,B,B',e1,e2,e3,e4⟩:=r;simp only [Dl.flatA,Aq] at h;have z:=Rp.flat h.1 e2;subst e1 z;cases n with
  | zero=>exact ⟨rfl,rfl⟩
  | succ n=>exact ⟨x,_,[],_,rfl,e2,ih h.2 e3 n,rfl⟩
theorem flatA_drop (h:Dl.flatA ds=true):∀n,Dl.flatA (ds.drop n)=true:=by
 intro n
 induction ds generalizing n with
 | nil=>simp;rfl
 | cons d ds ih =>
  cases n with
  | zero=>exact h
  | succ n =>simp only [Dl.flatA,Aq] at h;exact ih h.2 n
theorem RpA.ints :RpA K C H (ns.map D.int) (ns.map V.int) []:=by
 induction ns with
 | nil=>exact ⟨rfl,rfl⟩
 | cons n ns ih=>exact ⟨_,_,[],[],rfl,⟨rfl,rfl⟩,ih,rfl⟩
theorem RpA.ofInts:∀{ds:List D} {vs:List V} {A:List Addr} {ns:List Int},RpA K C H ds vs A->Dl.intsOf ds=some ns->vs=ns.map V.int
 | [],_,_,ns,r,h=>by simp only [Dl.intsOf,Dc] at h;rw [r.1,<- h];rfl
 | d::ds,_,_,ns,r,h=>by
  obtain ⟨x,l,B,B',e1,e2,e3,e4⟩:=r;cases d<;>simp only [Dl.intsOf] at h<;>try cases h
  obtain ⟨ms,h1,h2⟩:=AF.mp h;rw [e1,e2.1,RpA.ofInts e3 h1,<- h2];rfl
mutual
def toPy:D->DH
 | .non=>.none
 | .bl b=>.bool b
 | .int i=>.int i
 | .str x=>.str x
 | .lst ds=>.list (toPyA ds)
 | .tup ds=>.tuple (toPyA ds)
 | .scr _=>.none
 | .rng _ _=>.none
 | .exc _ _=>.none
 | .obj _ _ _=>.none
 | .dct _ _=>.none
 | .dtt _ _=>.none
 | .flst _=>.none
 | .fdt _ _=>.none
 | .fobj _ _ _=>.none
 | .fdk _ _=>.none
def toPyA:List D->List DH
 | []=>[]
 | d::ds=>toPy d::toPyA ds
end
mutual
theorem Rp.dn:∀{d:D} {v:V} {A:List Addr} {n:Nat},Dl.dep d<=n->n<100->Rp K C H d v A->Dn K H v (toPy d)/\(toPy d).canLay0=true/\(toPy d).depth=Dl.dep d
 | .non,_,_,_,_,_,r=>by rw [r.1];exact ⟨.non,rfl,rfl⟩
 | .bl _,_,_,_,_,_,r=>by rw [r.1];exact ⟨.bl _,rfl,rfl⟩
 | .int _,_,_,_,_,_,r=>by rw [r.1];exact ⟨.int _,rfl,rfl⟩
 | .str _,_,_,_,_,_,r=>by rw [r.1];exact ⟨.str _,by simpa [toPy,C7] using r.2.1,by simp [toPy,Dy,Dl.dep]⟩
 | .lst ds,_,_,n,h,hn,r=>by obtain ⟨a,xs,B,e1,e2,e3,e4⟩:=r;simp only [Dl.dep] at h;obtain ⟨q1,q2,q3⟩:=RpA.dn (n:=n) (by omega) hn e3;rw [e1];exact ⟨.lst (SqL.of e2) q1,by simpa [toPy,C7] using q2,by simp [toPy,Dy,Dl.dep,q3]⟩
 | .tup ds,_,_,n,h,hn,r=>by obtain ⟨a,xs,e1,e2,e3⟩:=r;simp only [Dl.dep] at h;obtain ⟨q1,q2,q3⟩:=RpA.dn (n:=n) (by omega) hn e3;rw [e1];exact ⟨.tup (SqT.of e2) q1,by simpa [toPy,C7] using q2,by simp [toPy,Dy,Dl.dep,q3]⟩
 | .scr _,_,_,n,h,hn,_=>by simp only [Dl.dep] at h;omega
 | .rng _ _,_,_,n,h,hn,_=>by simp only [Dl.dep] at h;omega
 | .exc _ _,_,_,n,h,hn,_=>by simp only [Dl.dep] at h;omega
 | .obj _ _ _,_,_,n,h,hn,_=>by simp only [Dl.dep] at h;omega
 | .dct _ _,_,_,n,h,hn,_=>by simp only [Dl.dep] at h;omega
 | .dtt _ _,_,_,n,h,hn,_=>by simp only [Dl.dep] at h;omega
 | .flst _,_,_,n,h,hn,_=>by simp only [Dl.dep] at h;omega
 | .fdt _ _,_,_,n,h,hn,_=>by simp only [Dl.dep] at h;omega
 | .fobj _ _ _,_,_,n,h,hn,_=>by simp only [Dl.dep] at h;omega
 | .fdk _ _,_,_,n,h,hn,_=>by simp only [Dl.dep] at h;omega
theorem RpA.dn:∀{ds:List D} {vs:List V} {A:List Addr} {n:Nat},Dl.depA ds<=n->n<100->RpA K C H ds vs A->DnA K H vs (toPyA ds)/\E5 (toPyA ds)=true/\Fu (toPyA ds)=Dl.depA ds
 | [],_,_,_,_,_,r=>by rw [r.1];exact ⟨.nil,rfl,rfl⟩
 | d::ds,_,_,n,h,hn,r=>by obtain ⟨x,l,B,B',e1,e2,e3,e4⟩:=r;simp only [Dl.depA] at h;obtain ⟨q1,q2,q3⟩:=Rp.dn (n:=n) (by omega) hn e2;obtain ⟨p1,p2,p3⟩:=RpA.dn (n:=n) (by omega) hn e3;rw [e1];exact ⟨.cons q1 p1,by simp [toPyA,E5,q2,p2],by simp [toPyA,Fu,Dl.depA,q3,p3]⟩
end
mutual
theorem eqv_py:∀{d e:D},Dl.dep d<100->Dl.dep e<100->EU (toPy d) (toPy e)=Dl.eqv d e
 | .non,e,_,h=>by cases e<;>first | rfl | exact absurd h (A6 100)
 | .bl _,e,_,h=>by cases e<;>first | rfl | exact absurd h (A6 100)
 | .int _,e,_,h=>by cases e<;>first | rfl | exact absurd h (A6 100)
 | .str _,e,_,h=>by cases e<;>first | rfl | exact absurd h (A6 100)
 | .lst ds,e,h1,h=>by
  cases e with
  | lst es=>exact eqvA_py (CN h1) (CN h)
  | _=>rfl
 | .tup ds,e,h1,h=>by
  cases e with
  | tup es=>exact eqvA_py (CN h1) (CN h)
  | _=>rfl
 | .scr _,_,h,_=>absurd h (A6 100)
 | .rng _ _,_,h,_=>absurd h (A6 100)
 | .exc _ _,_,h,_=>absurd h (A6 100)
 | .obj _ _ _,_,h,_=>absurd h (A6 100)
 | .dct _ _,_,h,_=>absurd h (A6 100)
 | .dtt _ _,_,h,_=>absurd h (A6 100)
 | .flst _,_,h,_=>absurd h (A6 100)
 | .fdt _ _,_,h,_=>absurd h (A6 100)
 | .fobj _ _ _,_,h,_=>absurd h (A6 100)
 | .fdk _ _,_,h,_=>absurd h (A6 100)
theorem eqvA_py:∀{d e:List D},Dl.depA d<100->Dl.depA e<100->FQ (toPyA d) (toPyA e)=Dl.eqvA d e
 | [],[],_,_=>rfl
 | [],_::_,_,_=>rfl
 | _::_,[],_,_=>rfl
 | d::ds,e::es,h1,h=>by have a1:Dl.dep d<100/\Dl.depA ds<100:=G9.mp h1;have a2:Dl.dep e<100/\Dl.depA es<100:=G9.mp h;show (EU (toPy d) (toPy e)&&FQ (toPyA ds) (toPyA es))=(Dl.eqv d e&&Dl.eqvA ds es);rw [eqv_py a1.1 a2.1,eqvA_py a1.2 a2.2]
end
abbrev DEnv:=Dl.Env
section
variable (K:AC)(C:String->Addr)
structure EnvOk (H0 Hb H:Hp)(Γ Δ:List Nat)(σ:St)(ρ:DEnv)(A:Nat->List Addr):Prop where
 s0:Same H0 Hb
 same:Same Hb H
 len:σ.length=ρ.length
 rep:∀i d,ρ[i]?=some (some d)->∃v,σ[i]?=some (some v)/\Rp K C H d v (A i)
 nil:∀i,(∀d,ρ[i]?≠some (some d))->A i=[]
 loc:∀i∈Γ,∀a∈A i,H0 a=none
 top:∀i∈Γ,∀a r,A i=a::r->Hb a=none/\a∉r/\∀j,j≠i->a∉A j
 deep:∀i∈Δ,(A i).Nodup/\(∀j,j≠i->∀a∈A i,a∉A j)/\∀a∈A i,Hb a=none
def InS (A:Nat->List Addr)(S:List (Nat×Bool))(a:Addr):Prop:=∃p∈S,if p.2=true then a∈(A p.1).tail else a∈A p.1
def Res (m:Nat)(S:List (Nat×Bool))(H:Hp)(A:Nat->List Addr)(d:D)(v:V)(H':Hp):Prop:=
 ∃B,Rp K C H' d v B/\(∀a∈B,H a=none\/InS A S a)/\(m=1->∀a r,B=a::r->H a=none/\a∉r)/\(m=2->B.Nodup)
def ResA (m:Nat)(S:List (Nat×Bool))(H:Hp)(A:Nat->List Addr)(ds:List D)(vs:List V)(H':Hp):Prop:=
 ∃B,RpA K C H' ds vs B/\(∀a∈B,H a=none\/InS A S a)/\(m=2->B.Nodup)
def EC (E:XK)(c:String)(x:Option Int)(H:Hp):Prop:=∀dx,FOk H c x dx->E (.ref (C c)) dx H
def Post {α:Type}(r:R α)(ok:α->Prop)(er:String->Option Int->Prop):Prop:=match r with
 | .ok a=>ok a
 | .err c x=>er c x
 | .bad=>False
def EOk (E:XK)(Γ Δ:List Nat)(m:Nat)(S:List (Nat×Bool))(t:TE)(f:FE):Prop:=∀(H0 Hb H:Hp) (σ:St) (ρ:DEnv) (A:Nat->List Addr) (Q:VK),EnvOk K C H0 Hb H Γ Δ σ ρ A->
 Post (f ρ) (fun d=>∀v H',Same H H'->Res K C m S H A d v H'->Q v H') (fun c x=>∀H',Same H H'->EC C E c x H')->t σ H Q
def AOk (E:XK)(Γ Δ:List Nat)(m:Nat)(S:List (Nat×Bool))(t:TA)(f:FA):Prop:=∀(H0 Hb H:Hp) (σ:St) (ρ:DEnv) (A:Nat->List Addr) (Q:List V->Hp->Prop),EnvOk K C H0 Hb H Γ Δ σ ρ A->
 Post (f ρ) (fun d=>∀v H',Same H H'->ResA K C m S H A d v H'->Q v H') (fun c x=>∀H',Same H H'->EC C E c x H')->t σ H Q
def TOk (E:XK)(Γ Δ:List Nat)(t:TT)(f:FT):Prop:=∀(H0 Hb H:Hp) (σ:St) (ρ:DEnv) (A:Nat->List Addr) (Q:Bool->Hp->Prop),EnvOk K C H0 Hb H Γ Δ σ ρ A->
 Post (f ρ) (fun b=>∀H',Same H H'->Q b H') (fun c x=>∀H',Same H H'->EC C E c x H')->t σ H Q
def OOk (E:XK)(Γ Δ:List Nat)(t:TO)(f:FO):Prop:=∀(H0 Hb H:Hp) (σ:St) (ρ:DEnv) (A:Nat->List Addr) (Q:Option Int->Hp->Prop),EnvOk K C H0 Hb H Γ Δ σ ρ A->
 Post (f ρ) (fun b=>∀H',Same H H'->Q b H') (fun c x=>∀H',Same H H'->EC C E c x H')->t σ H Q
def PostS (E:XK)(mr:Nat)(Γl Δl Γ' Δ':List Nat)(H0 Hb:Hp)(D:Ends)(r:R Fl):Prop:=Post r (fun fl=>match fl with
    | .nx ρ'=>∀σ' H' A',EnvOk K C H0 Hb H' Γ' Δ' σ' ρ' A'->D.nx σ' H'
    | .ret d=>∀v H',Same H0 H'->Res K C mr [] H0 (fun _=>[]) d v H'->D.rt v H'
    | .brk ρ'=>∀σ' H' A',EnvOk K C H0 Hb H' Γl Δl σ' ρ' A'->D.bk σ' H'
    | .cnt ρ'=>∀σ' H' A',EnvOk K C H0 Hb H' Γl Δl σ' ρ' A'->D.ct σ' H')
  (fun c x=>∀H',Same H0 H'->EC C E c x H')
def SOk (E:XK)(mr:Nat)(Γl Δl Γ Δ Γ' Δ':List Nat)(t:TS)(f:FS):Prop:=∀(H0 Hb H:Hp) (σ:St) (ρ:DEnv) (A:Nat->List Addr) (D:Ends),EnvOk K C H0 Hb H Γ Δ σ ρ A->
 PostS K C E mr Γl Δl Γ' Δ' H0 Hb D (f ρ)->t D σ H
end
section
variable {S:List (Nat×Bool)}
theorem EnvOk.mono (h:EnvOk K C H0 Hb H Γ Δ σ ρ A)(g:Same H H'):EnvOk K C H0 Hb H' Γ Δ σ ρ A:=⟨h.s0,h.same.trans g,h.len,fun i d e=>let ⟨v,q1,q2⟩:=h.rep i d e;⟨v,q1,q2.same g⟩,h.nil,h.loc,h.top,h.deep⟩
theorem EnvOk.weak (h:EnvOk K C H0 Hb H Γ Δ σ ρ A)(h1:∀i∈Γ',i∈Γ)(h2:∀i∈Δ',i∈Δ):EnvOk K C H0 Hb H Γ' Δ' σ ρ A:=⟨h.s0,h.same,h.len,h.rep,h.nil,fun i hi=>h.loc i (h1 i hi),fun i hi=>h.top i (h1 i hi),fun i hi=>h.deep i (h2 i hi)⟩
theorem EnvOk.is (h:EnvOk K C H0 Hb H Γ Δ σ ρ A)(ha:a∈A j):∃o,H a=some o/\IsM o:=by by_cases q:∃d,ρ[j]?=some (some d);obtain ⟨d,q⟩:=q;obtain ⟨v,_,r⟩:=h.rep j d q;exact r.isl a ha;rw [h.nil j fun d e=>q ⟨d,e⟩] at ha;cases ha
theorem EnvOk.ne (h:EnvOk K C H0 Hb H Γ Δ σ ρ A)(ha:a∈A j)(hn:H a=none):False:=by obtain ⟨xs,q,_⟩:=h.is ha;rw [q] at hn;cases hn
theorem InS.mem (h:InS A S a):∃p∈S,a∈A p.1:=by obtain ⟨p,hp,q⟩:=h;refine ⟨p,hp,?_⟩;split at q;exact EX q;exact q
theorem InS.mono (h:InS A S1 a)(hs:∀p∈S1,p∈S2):InS A S2 a:=let ⟨p,hp,q⟩:=h;⟨p,hs p hp,q⟩
theorem Post.imp {r:R α}{ok ok':α->Prop}(h:Post r ok er)(h1:∀a,ok a->ok' a)(h2:∀c x,er c x->er' c x):Post r ok' er':=by
 cases r with
 | ok a=>exact h1 a h
 | err c x=>exact h2 c x h
 | bad=>exact h
theorem Post.bind {α β:Type}{r:R α}{g:α->R β}{ok:β->Prop}{er:String->Option Int->Prop}(h:Post (r.bind g) ok er):Post r (fun a=>Post (g a) ok er) er:=by
 cases r with
 | ok a=>exact h
 | err c x=>exact h
 | bad=>exact h
theorem Res.flat (r:Rp K C H' d v []):Res K C m S H A d v H':=⟨[],r,fun _ h=>(nomatch h),fun _ _ _ e=>(nomatch e),fun _=>Bw⟩
theorem eok_c (h:∀H,Rp K C H d v []):EOk K C E Γ Δ 2 [] (tC v) (Dl.fC d):=fun _ _ H _ _ _ _ _ p=>p v H (Same.refl _) (Res.flat (h H))
theorem fV_ok {ok:D->Prop}(h:Post (Dl.fV i ρ) ok er):∃d,ρ[i]?=some (some d)/\ok d:=by unfold Dl.fV at h;split at h;rename_i d e;exact ⟨d,e,h⟩;exact h.elim
theorem eok_v :EOk K C E Γ Δ 0 [(i,false)] (tVar i) (Dl.fV i):=fun H0 Hb H σ ρ A Q I p=>by obtain ⟨d,e,p⟩:=fV_ok p;obtain ⟨v,e1,r⟩:=I.rep i d e;exact ⟨v,e1,p v H (Same.refl _) ⟨A i,r,fun a ha=>.inr ⟨(i,false),.head _,ha⟩,(fun z=>nomatch z),(fun z=>nomatch z)⟩⟩
theorem eok_vd (hi:i∈Δ):EOk K C E Γ Δ 2 [(i,false)] (tVar i) (Dl.fV i):=fun H0 Hb H σ ρ A Q I p=>by obtain ⟨d,e,p⟩:=fV_ok p;obtain ⟨v,e1,r⟩:=I.rep i d e;exact ⟨v,e1,p v H (Same.refl _) ⟨A i,r,fun a ha=>.inr ⟨(i,false),.head _,ha⟩,(fun z=>nomatch z),fun _=>(I.deep i hi).1⟩⟩
theorem eok_flat {t:TE}{f:FE}(h:EOk K C E Γ Δ m S t f):EOk K C E Γ Δ 2 [] t (Dl.f1 Dl.gFlat f):=fun H0 Hb H σ ρ A Q I p =>
  h H0 Hb H σ ρ A Q I (p.bind.imp (fun d q v H' g r=>by
    unfold Dl.gFlat at q;split at q;rename_i hf;obtain ⟨B,r1,_⟩:=r;have e:=r1.flat hf;subst e;exact q v H' g (Res.flat r1)
    · exact q.elim) fun _ _ q=>q)
theorem Res.later {H3:Hp}(g1:Same H0 H1)(g2:Same H2 H3)(r:Res K C m S H1 A d v H2):Res K C m S H0 A d v H3:=by obtain ⟨B,r1,r2,r3,r4⟩:=r;exact ⟨B,r1.same g2,fun a ha=>(r2 a ha).imp (fun h=>g1.free h) id,fun hm a l e=>⟨g1.free (r3 hm a l e).1,(r3 hm a l e).2⟩,r4⟩
theorem Res.new (r:Rp K C H' d v B)(h1:B.Nodup)(h2:∀a∈B,H a=none):Res K C m S H A d v H':=⟨B,r,fun a ha=>.inl (h2 a ha),fun _ a l e=>by subst e;exact ⟨h2 a (.head _),(Ag.mp h1).1⟩,fun _=>h1⟩
theorem oR_ok {o:Option α}{ok:α->Prop}(h:Post (Dl.oR o) ok er):∃a,o=some a/\ok a:=by
 cases o with
 | none=>exact h.elim
 | some a=>exact ⟨a,rfl,h⟩
def GOk (K:AC)(C:String->Addr)(r:R2)(g:D->D->Option D):Prop:=
 ∀(H:Hp) (x y d:D) (vx vy:V) (Bx By:List Addr) (Q:VK),Rp K C H x vx Bx->Rp K C H y vy By->g x y=some d->(∀v H' B,Same H H'->Rp K C H' d v B->B.Nodup->(∀a∈B,H a=none)->Q v H')->r vx vy H Q
def GAk (K:AC)(C:String->Addr)(r:List V->Hp->VK->Prop)(g:List D->Option D):Prop:=
 ∀(H:Hp) (xs:List D) (d:D) (vs:List V) (Bx:List Addr) (Q:VK),RpA K C H xs vs Bx->g xs=some d->(∀v H' B,Same H H'->Rp K C H' d v B->B.Nodup->(∀a∈B,H a=none)->Q v H')->r vs H Q
theorem eok_op {r:R2}{g:D->D->Option D}(hg:GOk K C r g)(ha:EOk K C E Γ Δ m1 S1 ta fa)(hb:EOk K C E Γ Δ m2 S2 tb fb):EOk K C E Γ Δ 2 [] (tOp r ta tb) (Dl.f2 g fa fb):=
  fun H0 Hb H σ ρ A Q I p=>ha H0 Hb H σ ρ A _ I (p.bind.imp (fun x q vx H1 g1 r1=>hb H0 Hb H1 σ ρ A _ (I.mono g1) (q.bind.imp (fun y q vy H2 g2 r2=>by
    obtain ⟨d,e,q⟩:=oR_ok q;obtain ⟨Bx,r1,_⟩:=r1;obtain ⟨By,r2,_⟩:=r2;exact hg H2 x y d vx vy Bx By Q (r1.same g2) r2 e fun v H' B g3 r3 h1 h2=>q v H' (g1.trans (g2.trans g3)) (Res.new r3 h1 fun a ha=>(g1.trans g2).free (h2 a ha))) fun c x q H' g'=>q H' (g1.trans g'))) fun c x q H' g'=>q H' g')
theorem eok_un {r:V->Hp->VK->Prop}{g:D->Option D}(hg:∀(H:Hp) (x d:D) (vx:V) (Bx:List Addr) (Q:VK),Rp K C H x vx Bx->g x=some d->(∀v H' B,Same H H'->Rp K C H' d v B->B.Nodup->(∀a∈B,H a=none)->Q v H')->r vx H Q)
    (ha:EOk K C E Γ Δ m1 S1 ta fa):EOk K C E Γ Δ 2 [] (tUn r ta) (Dl.f1 g fa):=
  fun H0 Hb H σ ρ A Q I p=>ha H0 Hb H σ ρ A _ I (p.bind.imp (fun x q vx H1 g1 r1=>by
    obtain ⟨d,e,q⟩:=oR_ok q;obtain ⟨Bx,r1,_⟩:=r1;exact hg H1 x d vx Bx Q r1 e fun v H' B g3 r3 h1 h2=>q v H' (g1.trans g3) (Res.new r3 h1 fun a ha=>g1.free (h2 a ha))) fun c x q H' g'=>q H' g')
theorem no_some {d:α}{P:Prop}(e:(none:Option α)=some d):P:=nomatch e
theorem one_at {F:List D->Option D}(hn:F []=none)(hc:∀x y r,F (x::y::r)=none):∀{ds:List D} {d:D},F ds=some d->∃x,ds=[x]
 | [],_,e=>no_some (hn.symm.trans e)
 | [x],_,_=>⟨x,rfl⟩
 | x::y::r,_,e=>no_some ((hc x y r).symm.trans e)
theorem gIx_lst {y:D}(e:Dl.gIx (.lst ds) y=some d):∃i,y=.int i/\atI ds i=some d:=by
 cases y with
 | int i=>exact ⟨i,rfl,e⟩
 | _=>exact no_some e
theorem gIx_tup {y:D}(e:Dl.gIx (.tup ds) y=some d):∃i,y=.int i/\atI ds i=some d:=by
 cases y with
 | int i=>exact ⟨i,rfl,e⟩
 | _=>exact no_some e
theorem gIx_scr {y:D}(e:Dl.gIx (.scr ns) y=some d):∃i,y=.int i/\(atI ns i).map D.int=some d:=by
 cases y with
 | int i=>exact ⟨i,rfl,e⟩
 | _=>exact no_some e
theorem gIx_str {y:D}(e:Dl.gIx (.str z) y=some d):∃i,y=.int i/\z.length<=Dl.lim/\(atI z.cps.toList i).map (fun c=>D.str ⟨#[c]⟩)=some d:=by
 cases y with
 | int i =>have e':(if z.length<=Dl.lim then ((Dl.atD z.cps.toList i).map fun c=>D.str ⟨#[c]⟩) else none)=some d:=e;by_cases h:z.length<=Dl.lim;rw [if_pos h] at e';exact ⟨i,rfl,h,e'⟩;rw [if_neg h] at e';exact no_some e'
 | _=>exact no_some e
theorem gIx_flst {y:D}(e:Dl.gIx (.flst ds) y=some d):∃i,y=.int i/\atI ds i=some d:=by
 cases y with
 | int i=>exact ⟨i,rfl,e⟩
 | _=>exact no_some e
theorem gIx_at {x y:D}(e:Dl.gIx x y=some d):∃i,y=.int i/\((∃ds,x=.lst ds/\atI ds i=some d)\/(∃ds,x=.tup ds/\atI ds i=some d)\/(∃ns,x=.scr ns/\(atI ns i).map D.int=some d)\/(∃z,x=.str z/\z.length<=Dl.lim/\(atI z.cps.toList i).map (fun c=>D.str ⟨#[c]⟩)=some d)\/∃ds,x=.flst ds/\atI ds i=some d):=by
 cases x with
 | lst ds=>exact (gIx_lst e).imp fun _ h=>⟨h.1,.inl ⟨ds,rfl,h.2⟩⟩
 | tup ds=>exact (gIx_tup e).imp fun _ h=>⟨h.1,.inr (.inl ⟨ds,rfl,h.2⟩)⟩
 | scr ns=>exact (gIx_scr e).imp fun _ h=>⟨h.1,.inr (.inr (.inl ⟨ns,rfl,h.2⟩))⟩
 | str z=>exact (gIx_str e).imp fun _ h=>⟨h.1,.inr (.inr (.inr (.inl ⟨z,rfl,h.2⟩)))⟩
 | flst ds=>exact (gIx_flst e).imp fun _ h=>⟨h.1,.inr (.inr (.inr (.inr ⟨ds,rfl,h.2⟩)))⟩
 | _=>exact no_some e
theorem at_seq {β:Type}{ds:List α}{xs:List β}{i:Int}{d:α}{v:β}(hl:xs.length=ds.length)(e:atI ds i=some d)(h1:GD i ds.length=some j)(hv:xs[j]?=some v):atI xs i=some v:=by
 unfold atI at e ⊢;rw [hl];cases hx:ixN ds.length i with
 | none=>rw [hx] at e;cases e
 | some k =>obtain ⟨z1,_⟩:=ixN_seq hx;rw [h1] at z1;cases z1;exact hv
theorem gIx_ok {x y:D}{vx vy:V}(rx:Rp K C H x vx Bx)(ry:Rp K C H y vy By)(e:Dl.gIx x y=some d)(q:∀v B,Rp K C H d v B->(∀a∈B,a∈Bx)->((∃ds,x=.lst ds)->∀a∈B,a∈Bx.tail)->Q v H):rIx K vx vy H Q:=by obtain ⟨i,rfl,h⟩:=gIx_at e;cases ry.1;rcases h with ⟨ds,rfl,e'⟩ | ⟨ds,rfl,e'⟩ | ⟨ns,rfl,e'⟩ | ⟨z,rfl,hz,e'⟩ | ⟨ds,rfl,e'⟩;obtain ⟨a,xs,B,rfl,e2,e3,rfl⟩:=rx;obtain ⟨j,h1,h2,_⟩:=atI_get e';obtain ⟨v,B',q1,q2,q3⟩:=e3.get h2;exact rd_ixL (SqL.of e2) (v:=v) (at_seq e3.len e' h1 q1) (q v B' q2 (fun a ha=>.tail _ (q3 a ha)) fun _ a ha=>q3 a ha);obtain ⟨a,xs,rfl,e2,e3⟩:=rx;obtain ⟨j,h1,h2,_⟩:=atI_get e';obtain ⟨v,B',q1,q2,q3⟩:=e3.get h2;exact rd_ixT (SqT.of e2) (v:=v) (at_seq e3.len e' h1 q1) (q v B' q2 q3 fun z=>by obtain ⟨_,z⟩:=z;cases z);obtain ⟨a,rfl,e2,rfl⟩:=rx;obtain ⟨n,h1,rfl⟩:=AF.mp e';obtain ⟨j,h2,h3,_⟩:=atI_get h1;exact .inl ⟨a,ns.map V.int,i,.int n,rfl,rfl,e2.sq,at_seq (Ap _) h1 h2 (by rw [Bg,h3];rfl),q (.int n) [] ⟨rfl,rfl⟩ (fun _ h=>(nomatch h)) fun _ _ h=>(nomatch h)⟩;obtain ⟨rfl,e2,rfl⟩:=rx;obtain ⟨c,h1,rfl⟩:=AF.mp e';refine .inr (.inr ⟨z,i,c,rfl,rfl,A9 hz (by decide),h1,q _ [] ⟨rfl,?_,rfl⟩ (fun _ h=>(nomatch h)) fun _ _ h=>(nomatch h)⟩);obtain ⟨j,_,h3,_⟩:=atI_get h1;have hm:c∈z.cps:=ET.mp (BB h3);have ho:z.cps.all (·<0x110000)=true:=e2;have:=(Array.all_eq_true_iff_forall_mem.mp ho) c hm;unfold BZ;simpa using this;obtain ⟨a,o,xs,rfl,e2,e3,rfl⟩:=rx;obtain ⟨j,h1,h2,_⟩:=atI_get e';obtain ⟨v,B',q1,q2,q3⟩:=e3.get h2;exact rd_ixL (FzL.sq (.inl ⟨o,e2⟩)) (v:=v) (at_seq e3.len e' h1 q1) (q v B' q2 q3 fun z=>by obtain ⟨_,z⟩:=z;cases z)
theorem eok_ix (ha:EOk K C E Γ Δ m1 S1 ta fa)(hb:EOk K C E Γ Δ m2 S2 tb fb):EOk K C E Γ Δ 0 S1 (tOp (rIx K) ta tb) (Dl.f2 Dl.gIx fa fb):=
  fun H0 Hb H σ ρ A Q I p=>ha H0 Hb H σ ρ A _ I (p.bind.imp (fun x q vx H1 g1 r1=>hb H0 Hb H1 σ ρ A _ (I.mono g1) (q.bind.imp (fun y q vy H2 g2 r2=>by
    obtain ⟨d,e,q⟩:=oR_ok q;obtain ⟨Bx,r1,r1',_⟩:=r1;obtain ⟨By,r2,_⟩:=r2;exact gIx_ok (r1.same g2) r2 e fun v B r3 h _=>q v H2 (g1.trans g2) ⟨B,r3,fun a ha=>r1' a (h a ha),(fun z=>nomatch z),(fun z=>nomatch z)⟩) fun c x q H' g'=>q H' (g1.trans g'))) fun c x q H' g'=>q H' g')
def gIxL (x y:D):Option D:=match x with
 | .lst _=>Dl.gIx x y
 | _=>none
theorem sameNew {p:Addr}(h:H p=none)(o:HO):Same H (upd H p o):=fun b u q=>by rw [upd_ne (ne_of_none q h)];exact q
abbrev Out (K:AC)(C:String->Addr)(H:Hp)(d:D)(Q:VK):Prop:=∀v H' B,Same H H'->Rp K C H' d v B->B.Nodup->(∀a∈B,H a=none)->Q v H'
theorem Out.flat (q:Out K C H d Q)(r:Rp K C H d v []):Q v H:=q v H [] (Same.refl _) r Bw (fun _ h=>nomatch h)
theorem Out.lst {ds:List D}{vs:List V}{p:Addr}(q:Out K C H (.lst ds) Q)(r:RpA K C H ds vs [])(hp:H p=none):Q (.ref p) (upd H p (.lst vs)):=q _ _ [p] (sameNew hp _) ⟨p,vs,[],rfl,upd_same,r.same (sameNew hp _),rfl⟩ (by simp) (fun a ha=>by rw [As.mp ha];exact hp)
theorem limLine (h:n<=Dl.lim):n<=Ah:=A9 h (by decide)
theorem limLine' (h:n<Dl.lim):n<Ah:=Ak h (by decide)
theorem strOk_cat (h1:BZ x=true)(h2:BZ y=true):BZ (x++y)=true:=by unfold BZ at *;show (x.cps++y.cps).all _=true;rw [Array.all_append,h1,h2];rfl
theorem RpA.nil:RpA K C H [] [] []:=⟨rfl,rfl⟩
theorem RpA.flat' {A:List Addr}(h:Dl.flatA ds=true)(r:RpA K C H ds vs A):RpA K C H ds vs []:=by have e:=RpA.flat h r;subst e;exact r
theorem RpA.rep {ds:List D}{vs:List V}(r:RpA K C H ds vs []):∀n,RpA K C H (Aa n ds).flatten (Aa n vs).flatten []
 | 0=>RpA.nil
 | n+1=>by rw [A4,A4,Bp,Bp];exact r.app (RpA.rep r n)
theorem gok_add:GOk K C rAddA Dl.gAdd:=by intro H x y d vx vy Bx By Q rx ry e q;unfold Dl.gAdd at e;split at e;cases e;obtain ⟨rfl,_⟩:=rx;obtain ⟨rfl,_⟩:=ry;exact rd_add (Out.flat q ⟨rfl,rfl⟩);split at e;rename_i hz;cases e;obtain ⟨rfl,h1,_⟩:=rx;obtain ⟨rfl,h2,_⟩:=ry;exact .inr (.inl ⟨_,_,rfl,rfl,limLine hz,Out.flat q ⟨rfl,strOk_cat h1 h2,rfl⟩⟩);cases e;split at e;rename_i hz;cases e;obtain ⟨a,xs,B,rfl,e2,e3,_⟩:=rx;obtain ⟨a',xs',B',rfl,e2',e3',_⟩:=ry;obtain ⟨hz,f1,f2⟩:=hz;refine rd_cat e2 e2' (by rw [e3.len,e3'.len];exact limLine hz) fun p hp=>?_;exact Out.lst q ((e3.flat' f1).app (e3'.flat' f2)) hp;cases e;cases e
theorem gok_I0 {g:Int->Int->D}{f:D->D->Option D}(hf:∀x y d,f x y=some d->∃i j,x=.int i/\y=.int j/\d=g i j)(hr:∀H i j,Rp K C H (g i j) (gv i j) []):GOk K C (rI0 gv) f:=by intro H x y d vx vy Bx By Q rx ry e q;obtain ⟨i,j,rfl,rfl,rfl⟩:=hf x y d e;obtain ⟨rfl,_⟩:=rx;obtain ⟨rfl,_⟩:=ry;exact rd_I0 (Out.flat q (hr H i j))
theorem gok_I {g:Int->Int->D}{f:D->D->Option D}(hf:∀x y d,f x y=some d->∃i j,x=.int i/\y=.int j/\d=g i j/\Cd i j)(hr:∀H i j,Rp K C H (g i j) (gv i j) []):GOk K C (rI Cd gv) f:=by intro H x y d vx vy Bx By Q rx ry e q;obtain ⟨i,j,rfl,rfl,rfl,hc⟩:=hf x y d e;obtain ⟨rfl,_⟩:=rx;obtain ⟨rfl,_⟩:=ry;exact rd_I hc (Out.flat q (hr H i j))
theorem rpI {i:Int}:Rp K C H (.int i) (.int i) []:=⟨rfl,rfl⟩
theorem rpB {i:Bool}:Rp K C H (.bl i) (.bl i) []:=⟨rfl,rfl⟩
theorem gok_sub:GOk K C (rI0 fun i j=>.int (i - j)) Dl.gSub:=gok_I0 (fun x y d e=>by unfold Dl.gSub at e;split at e<;>cases e;exact ⟨_,_,rfl,rfl,rfl⟩) fun _ _ _=>rpI
theorem gok_lt:GOk K C (rI0 fun i j=>.bl (decide (i<j))) Dl.gLt:=gok_I0 (fun x y d e=>by unfold Dl.gLt at e;split at e<;>cases e;exact ⟨_,_,rfl,rfl,rfl⟩) fun _ _ _=>rpB
theorem gok_gt:GOk K C (rI0 fun i j=>.bl (decide (j<i))) Dl.gGt:=gok_I0 (fun x y d e=>by unfold Dl.gGt at e;split at e<;>cases e;exact ⟨_,_,rfl,rfl,rfl⟩) fun _ _ _=>rpB
theorem gok_ge:GOk K C (rI0 fun i j=>.bl (decide (j<=i))) Dl.gGe:=gok_I0 (fun x y d e=>by unfold Dl.gGe at e;split at e<;>cases e;exact ⟨_,_,rfl,rfl,rfl⟩) fun _ _ _=>rpB
theorem gok_mod:GOk K C (rI (fun _ j=>0<j) fun i j=>.int (i % j)) Dl.gMod:=gok_I (fun x y d e=>by
  unfold Dl.gMod at e;split at e;split at e;rename_i h;cases e;exact ⟨_,_,rfl,rfl,rfl,h⟩;cases e
  · cases e) fun _ _ _=>rpI
theorem gok_div:GOk K C (rI CDivL fun i j=>.int (i / j)) Dl.gDiv:=gok_I (fun x y d e=>by
  unfold Dl.gDiv at e;split at e;split at e;rename_i h;cases e;exact ⟨_,_,rfl,rfl,rfl,h⟩;cases e
  · cases e) fun _ _ _=>rpI
theorem gok_pow:GOk K C (rI CPow fun i j=>.int (i ^ j.toNat)) Dl.gPow:=gok_I (fun x y d e=>by
  unfold Dl.gPow at e;split at e;split at e;rename_i h;cases e;exact ⟨_,_,rfl,rfl,rfl,h⟩;cases e
  · cases e) fun _ _ _=>rpI
theorem short_mul {i j:Int}(h:(Dl.short i||Dl.short j)=true):CMul i j:=by unfold Dl.short at h;simp only [Bool.or_eq_true,Aq,decide_eq_true_eq] at h;exact h
theorem gok_mul:GOk K C rMulA Dl.gMul:=by intro H x y d vx vy Bx By Q rx ry e q;unfold Dl.gMul at e;split at e;split at e;rename_i h;cases e;obtain ⟨rfl,_⟩:=rx;obtain ⟨rfl,_⟩:=ry;exact rd_mul (short_mul h) (Out.flat q rpI);cases e;split at e;rename_i h;cases e;obtain ⟨a,xs,B,rfl,e2,e3,_⟩:=rx;obtain ⟨rfl,_⟩:=ry;obtain ⟨h1,h2,h3,h4⟩:=h;refine rd_rep e2 (by omega) (by omega) (by rw [e3.len];exact limLine h2) fun p hp=>?_;exact Out.lst q ((e3.flat' h4).rep _) hp;cases e;cases e
theorem shaped_of {A:List Addr}(h:Dl.dep d<=20)(r:Rp K C H d v A):Dn K H v (toPy d)/\B4 (toPy d)=true:=by obtain ⟨q1,q2,q3⟩:=r.dn h (by decide);refine ⟨q1,?_⟩;unfold B4;rw [q2,q3];simp only [Bool.true_and,decide_eq_true_eq];omega
theorem gok_eq:GOk K C (rEqA K) Dl.gEq:=by intro H x y d vx vy Bx By Q rx ry e q;unfold Dl.gEq at e;split at e;rename_i h;cases e;obtain ⟨a1,a2⟩:=shaped_of h.1 rx;obtain ⟨b1,b2⟩:=shaped_of h.2 ry;refine .inr ⟨_,_,a1,b1,a2,b2,?_⟩;rw [eqv_py (by omega) (by omega)];exact Out.flat q rpB;cases e
theorem gok_ne:GOk K C (rNeA K) Dl.gNe:=by intro H x y d vx vy Bx By Q rx ry e q;unfold Dl.gNe at e;split at e;rename_i h;cases e;obtain ⟨a1,a2⟩:=shaped_of h.1 rx;obtain ⟨b1,b2⟩:=shaped_of h.2 ry;refine .inr ⟨_,_,a1,b1,a2,b2,?_⟩;rw [eqv_py (by omega) (by omega)];exact Out.flat q rpB;cases e
theorem aok_nil:AOk K C E Γ Δ 2 [] tNil Dl.aNil:=fun _ _ H _ _ _ _ _ p=>p [] H (Same.refl _) ⟨[],RpA.nil,(fun _ h=>nomatch h),fun _=>Bw⟩
theorem InS.left (h:InS A S1 a):InS A (S1++S2) a:=h.mono fun _ hp=>Am _ hp
theorem InS.right (h:InS A S2 a):InS A (S1++S2) a:=h.mono fun _ hp=>Aj _ hp
theorem aok_cons (he:EOk K C E Γ Δ m1 S1 te fe)(ha:AOk K C E Γ Δ m2 S2 t f):AOk K C E Γ Δ 0 (S1++S2) (tCons te t) (Dl.aCons fe f):=
  fun H0 Hb H σ ρ A Q I p=>he H0 Hb H σ ρ A _ I (p.bind.imp (fun x q vx H1 g1 r1=>ha H0 Hb H1 σ ρ A _ (I.mono g1) (q.bind.imp (fun ys q vs H2 g2 r2=>by
    obtain ⟨Bx,r1,r1',_⟩:=r1;obtain ⟨By,r2,r2',_⟩:=r2;exact q _ H2 (g1.trans g2) ⟨Bx++By,⟨vx,vs,Bx,By,rfl,r1.same g2,r2,rfl⟩,fun a h=>(Ae.mp h).elim (fun h=>(r1' a h).imp id InS.left) (fun h=>(r2' a h).imp (fun h=>g1.free h) InS.right),(fun z=>nomatch z)⟩)
    fun c x q H' g'=>q H' (g1.trans g'))) fun c x q H' g'=>q H' g')
theorem aok_consD (he:EOk K C E Γ Δ 2 S1 te fe)(ha:AOk K C E Γ Δ 2 S2 t f)(h1:∀p∈S1,p.1∈Δ:=by decide)(h2:∀p∈S1,∀q∈S2,p.1≠q.1:=by decide):AOk K C E Γ Δ 2 (S1++S2) (tCons te t) (Dl.aCons fe f):=
  fun H0 Hb H σ ρ A Q I p=>he H0 Hb H σ ρ A _ I (p.bind.imp (fun x q vx H1 g1 r1=>ha H0 Hb H1 σ ρ A _ (I.mono g1) (q.bind.imp (fun ys q vs H2 g2 r2=>by
    obtain ⟨Bx,r1,r1',_,n1⟩:=r1;obtain ⟨By,r2,r2',n2⟩:=r2;refine q _ H2 (g1.trans g2) ⟨Bx++By,⟨vx,vs,Bx,By,rfl,r1.same g2,r2,rfl⟩,fun a h=>(Ae.mp h).elim (fun h=>(r1' a h).imp id InS.left) (fun h=>(r2' a h).imp (fun h=>g1.free h) InS.right),fun _=>?_⟩;refine AQ.mpr ⟨n1 rfl,n2 rfl,fun a ha b hb e=>?_⟩;subst e;rcases r2' a hb with z | z;obtain ⟨xs,w,_⟩:=r1.isl a ha;rw [w] at z;cases z
    · obtain ⟨p2,hp2,z⟩:=z.mem;rcases r1' a ha with w | w;exact I.ne z w
      · obtain ⟨p1,hp1,w⟩:=w.mem;exact (I.deep p1.1 (h1 p1 hp1)).2.1 p2.1 (fun e=>h2 p1 hp1 p2 hp2 e.symm) a w z)
    fun c x q H' g'=>q H' (g1.trans g'))) fun c x q H' g'=>q H' g')
theorem eok_lst (ha:AOk K C E Γ Δ 2 S t f):EOk K C E Γ Δ 2 S (tLst t) (Dl.fA Dl.gLst f):=
  fun H0 Hb H σ ρ A Q I p=>ha H0 Hb H σ ρ A _ I (p.bind.imp (fun ds q vs H1 g1 r1=>by
    obtain ⟨d,e,q⟩:=oR_ok q;unfold Dl.gLst at e;split at e;rename_i hz;cases e;obtain ⟨B,r1,r1',n1⟩:=r1;refine ⟨by rw [r1.len];exact limLine hz,fun p hp=>?_⟩;have g2:=sameNew hp (.lst vs);refine q _ _ (g1.trans g2) ⟨p::B,⟨p,vs,B,rfl,upd_same,r1.same g2,rfl⟩,fun a ha=>?_,(fun z=>nomatch z),fun _=>Ag.mpr ⟨fun h=>?_,n1 rfl⟩⟩;rcases Au.mp ha with z | z;rw [z];exact .inl (g1.free hp);exact r1' a z;obtain ⟨xs,w,_⟩:=r1.isl p h;rw [w] at hp;cases hp
    · cases e) fun c x q H' g'=>q H' g')
theorem eok_lst1 (ha:AOk K C E Γ Δ m S t f):EOk K C E Γ Δ 1 S (tLst t) (Dl.fA Dl.gLst f):=
  fun H0 Hb H σ ρ A Q I p=>ha H0 Hb H σ ρ A _ I (p.bind.imp (fun ds q vs H1 g1 r1=>by
    obtain ⟨d,e,q⟩:=oR_ok q;unfold Dl.gLst at e;split at e;rename_i hz;cases e;obtain ⟨B,r1,r1',n1⟩:=r1;refine ⟨by rw [r1.len];exact limLine hz,fun p hp=>?_⟩;have g2:=sameNew hp (.lst vs);refine q _ _ (g1.trans g2) ⟨p::B,⟨p,vs,B,rfl,upd_same,r1.same g2,rfl⟩,fun a ha=>?_,fun _ a r e=>?_,(fun z=>nomatch z)⟩;rcases Au.mp ha with z | z;rw [z];exact .inl (g1.free hp);exact r1' a z;cases e;refine ⟨g1.free hp,fun h=>?_⟩;obtain ⟨xs,w,_⟩:=r1.isl p h;rw [w] at hp;cases hp
    · cases e) fun c x q H' g'=>q H' g')
theorem eok_tup (hm:m=0\/m=2)(ha:AOk K C E Γ Δ m S t f):EOk K C E Γ Δ m S (tTup t) (Dl.fA Dl.gTup f):=
  fun H0 Hb H σ ρ A Q I p=>ha H0 Hb H σ ρ A _ I (p.bind.imp (fun ds q vs H1 g1 r1=>by
    obtain ⟨d,e,q⟩:=oR_ok q;unfold Dl.gTup at e;split at e;rename_i hz;cases e;obtain ⟨B,r1,r1',n1⟩:=r1;refine ⟨by rw [r1.len];exact limLine hz,fun p hp=>?_⟩;have g2:=sameNew hp (.tup vs);exact q _ _ (g1.trans g2) ⟨B,⟨p,vs,rfl,upd_same,r1.same g2⟩,r1',(fun z=>by omega),n1⟩
    · cases e) fun c x q H' g'=>q H' g')
theorem eok_cb (hg:GAk K C r g)(ha:AOk K C E Γ Δ m S t f):EOk K C E Γ Δ 2 [] (tCB r t) (Dl.fA g f):=
  fun H0 Hb H σ ρ A Q I p=>ha H0 Hb H σ ρ A _ I (p.bind.imp (fun ds q vs H1 g1 r1=>by
    obtain ⟨d,e,q⟩:=oR_ok q;obtain ⟨B,r1,_⟩:=r1;exact hg H1 ds d vs B Q r1 e fun v H' B' g2 r2 h1 h2=>q v H' (g1.trans g2) (Res.new r2 h1 fun a ha=>g1.free (h2 a ha))) fun c x q H' g'=>q H' g')
theorem RpA.one' {A:List Addr}(r:RpA K C H [d] vs A):∃v,vs=[v]/\Rp K C H d v A:=by obtain ⟨x,l,B,B',e1,e2,e3,e4⟩:=r;obtain ⟨e5,e6⟩:=e3;subst e1 e4 e5 e6;rw [BN];exact ⟨x,rfl,e2⟩
theorem RpA.two' {e:D}{A:List Addr}(r:RpA K C H [d,e] vs A):∃v w B B',vs=[v,w]/\Rp K C H d v B/\Rp K C H e w B':=by obtain ⟨x,l,B,B',e1,e2,e3,e4⟩:=r;obtain ⟨w,e5,e6⟩:=e3.one';subst e1 e5;exact ⟨x,w,B,B',rfl,e2,e6⟩
theorem gak_len:GAk K C (rLenA K) Dl.gLen:=by
 intro H xs d vs B Q r e q;obtain ⟨x,rfl⟩:=one_at (F:=Dl.gLen) rfl (fun x _ _=>by cases x<;>rfl) e;obtain ⟨v,rfl,r1⟩:=r.one';cases x with
 | lst xs =>cases (show some (D.int xs.length)=some d from e);obtain ⟨a,ys,B,rfl,e2,e3,_⟩:=r1;refine rd_lenL (SqL.of e2) ?_;rw [e3.len];exact Out.flat q rpI
 | tup xs =>cases (show some (D.int xs.length)=some d from e);obtain ⟨a,ys,rfl,e2,e3⟩:=r1;refine rd_lenT (SqT.of e2) ?_;rw [e3.len];exact Out.flat q rpI
 | scr xs =>cases (show some (D.int xs.length)=some d from e);obtain ⟨a,rfl,e2,_⟩:=r1;refine rd_lenL e2.sq ?_;rw [Ap];exact Out.flat q rpI
 | flst xs =>cases (show some (D.int xs.length)=some d from e);obtain ⟨a,o,ys,rfl,e2,e3,_⟩:=r1;refine rd_lenL (FzL.sq (.inl ⟨o,e2⟩)) ?_;rw [e3.len];exact Out.flat q rpI
 | str z =>have e:(if z.length<=Dl.lim then some (D.int z.length) else none)=some d:=e;by_cases hz:z.length<=Dl.lim;rw [if_pos hz] at e;cases e;obtain ⟨rfl,_⟩:=r1;exact rd_lenS (limLine hz) (Out.flat q rpI);rw [if_neg hz] at e;exact no_some e
 | _=>exact no_some e
theorem gak_sum:GAk K C (rSum K) Dl.gSum:=by
 intro H xs d vs B Q r e q;obtain ⟨x,rfl⟩:=one_at (F:=Dl.gSum) rfl (fun x _ _=>by cases x<;>rfl) e;obtain ⟨v,rfl,r1⟩:=r.one';cases x with
 | lst xs =>obtain ⟨ns,h1,h2⟩:=Bm.mp e;cases h2;obtain ⟨a,ys,B,rfl,e2,e3,_⟩:=r1;have h:=e3.ofInts h1;subst h;exact rd_sum (SqL.of e2) (Out.flat q rpI)
 | _=>exact no_some e
def rMin2:List V->Hp->VK->Prop:=fun xs H Q=>∃i j,xs=[.int i,.int j]/\Q (.int (if j<i then j else i)) H
theorem call_minR (hc:X.calm=true):CallR X (.builtin "min") rMin2:=call_min2 hc
theorem gak_min:GAk K C rMin2 Dl.gMin:=by intro H xs d vs B Q r e q;unfold Dl.gMin at e;split at e;cases e;obtain ⟨v,w,B,B',rfl,r1,r2⟩:=r.two';obtain ⟨rfl,_⟩:=r1;obtain ⟨rfl,_⟩:=r2;exact ⟨_,_,rfl,Out.flat q rpI⟩;cases e
theorem RpA.rng :RpA K C H (Dl.rngL lo n) (rngV lo n) []:=by
 unfold Dl.rngL rngV;generalize AW n=l
 induction l with
 | nil=>exact RpA.nil
 | cons k l ih=>exact ⟨_,_,[],[],rfl,rpI,ih,rfl⟩
theorem gak_list:GAk K C (rList K) Dl.gList:=by
 intro H xs d vs B Q r e q;obtain ⟨x,rfl⟩:=one_at (F:=Dl.gList) rfl (fun x _ _=>by cases x<;>rfl) e;obtain ⟨v,rfl,r1⟩:=r.one';cases x with
 | lst xs =>have e:(if Dl.flatA xs then some (D.lst xs) else none)=some d:=e;split at e;rename_i hf;cases e;obtain ⟨a,ys,B,rfl,e2,e3,_⟩:=r1;exact rd_listL (SqL.of e2) fun l hl=>Out.lst q (e3.flat' hf) hl;exact no_some e
 | tup xs =>have e:(if Dl.flatA xs then some (D.lst xs) else none)=some d:=e;split at e;rename_i hf;cases e;obtain ⟨a,ys,rfl,e2,e3⟩:=r1;exact .inl ⟨a,ys,rfl,.inr (SqT.of e2),fun l hl=>Out.lst q (e3.flat' hf) hl⟩;exact no_some e
 | flst xs =>have e:(if Dl.flatA xs then some (D.lst xs) else none)=some d:=e;split at e;rename_i hf;cases e;obtain ⟨a,o,ys,rfl,e2,e3,_⟩:=r1;exact rd_listL (FzL.sq (.inl ⟨o,e2⟩)) fun l hl=>Out.lst q (e3.flat' hf) hl;exact no_some e
 | rng i j =>have e:(if -1000000000<=i/\i<=1000000000/\-1000000000<=j/\j<=1000000000/\(j - i).toNat<=Dl.lim then some (D.lst (Dl.rngL i (j - i).toNat)) else none)=some d:=e;split at e;rename_i hf;cases e;obtain ⟨a,rfl,e2,_⟩:=r1;obtain ⟨h1,h2,h3,h4,h5⟩:=hf;exact rd_listR e2 (by omega) (by omega) (by omega) (by omega) h5 fun l hl=>Out.lst q RpA.rng hl;exact no_some e
 | _=>exact no_some e
theorem gak_range:GAk K C rRange Dl.gRange:=by intro H xs d vs B Q r e q;unfold Dl.gRange at e;split at e;cases e;obtain ⟨v,rfl,r1⟩:=r.one';obtain ⟨rfl,_⟩:=r1;exact rd_range1 fun p hp=>q _ _ [] (sameNew hp _) ⟨p,rfl,upd_same,rfl⟩ Bw (fun _ h=>nomatch h);cases e;obtain ⟨v,w,B,B',rfl,r1,r2⟩:=r.two';obtain ⟨rfl,_⟩:=r1;obtain ⟨rfl,_⟩:=r2;exact rd_range2 fun p hp=>q _ _ [] (sameNew hp _) ⟨p,rfl,upd_same,rfl⟩ Bw (fun _ h=>nomatch h);cases e
theorem ook_none:OOk K C E Γ Δ tNoPart Dl.oNone:=fun _ _ H _ _ _ _ _ p=>p H (Same.refl _)
theorem ook_some {t:TE}{f:FE}(h:EOk K C E Γ Δ m S t f):OOk K C E Γ Δ (tPart t) (Dl.oSome f):=fun H0 Hb H σ ρ A Q I p=>h H0 Hb H σ ρ A _ I (p.bind.imp (fun d q v H' g r=>by
  obtain ⟨B,r,_⟩:=r;cases d with
  | int i =>obtain ⟨rfl,_⟩:=r;exact ⟨i,rfl,q H' g⟩
  | _=>exact q.elim) fun c x q H' g'=>q H' g')
theorem six_eq (n d:Nat)(o:Option Int):Dl.sixD n d o=HT.sIx n d o:=by
 cases o with
 | none=>rfl
 | some v =>have h:=HT.clip_eq v n d;show (if v<0 then (max (v+(n:Int)) 0).toNat else min v.toNat n)=_;by_cases hv:v<0;rw [if_pos hv] at h ⊢;omega;rw [if_neg hv] at h ⊢;omega
theorem RpA.cut {ds:List D}{vs:List V}{A:List Addr}(h:Dl.flatA ds=true)(r:RpA K C H ds vs A)(lo hi:Option Int):RpA K C H (Dl.cut ds lo hi) (cutV vs lo hi) []:=by unfold Dl.cut cutV;rw [six_eq,six_eq,r.len];exact (r.flatDrop h _).flatTake (flatA_drop h _) _
theorem cut_ints (ns:List Int)(lo hi:Option Int):cutV (ns.map V.int) lo hi=(Dl.cut ns lo hi).map V.int:=by unfold Dl.cut cutV;rw [six_eq,six_eq,Ap,Gj,List.map_drop]
theorem eok_sl {th:TO}(ha:EOk K C E Γ Δ m S ta fa)(hl:OOk K C E Γ Δ tl fl)(hh:OOk K C E Γ Δ th fh):EOk K C E Γ Δ 2 [] (tSl (rSlL K) ta tl th) (Dl.fSl Dl.gSl fa fl fh):=
  fun H0 Hb H σ ρ A Q I p=>ha H0 Hb H σ ρ A _ I (p.bind.imp (fun x q vx H1 g1 r1=>hl H0 Hb H1 σ ρ A _ (I.mono g1) (q.bind.imp (fun lo q H2 g2=>hh H0 Hb H2 σ ρ A _ (I.mono (g1.trans g2)) (q.bind.imp (fun hi q H3 g3=>by
    obtain ⟨d,e,q⟩:=oR_ok q;obtain ⟨B,r1,_⟩:=r1;have r1:=r1.same (g2.trans g3);have g13:=g1.trans (g2.trans g3);have out:Out K C H3 d Q:=fun v H' B g4 r h1 h2=>q v H' (g13.trans g4) (Res.new r h1 fun a ha=>g13.free (h2 a ha));unfold Dl.gSl at e;split at e;split at e;rename_i hf;cases e;obtain ⟨a,ys,B,rfl,e2,e3,_⟩:=r1;exact rd_slL (SqL.of e2) fun p hp=>Out.lst out (e3.cut hf _ _) hp;cases e;cases e;obtain ⟨a,rfl,e2,_⟩:=r1;refine rd_slL e2.sq fun p hp=>?_;rw [cut_ints];exact Out.lst out RpA.ints hp;split at e;rename_i hf;cases e;obtain ⟨a,o,ys,rfl,e2,e3,_⟩:=r1;exact rd_slL (FzL.sq (.inl ⟨o,e2⟩)) fun p hp=>Out.lst out (e3.cut hf _ _) hp;cases e
    · cases e) fun c x q H' g'=>q H' ((g1.trans g2).trans g'))) fun c x q H' g'=>q H' (g1.trans g'))) fun c x q H' g'=>q H' g')
theorem tok_of {t:TE}{f:FE}(h:EOk K C E Γ Δ m S t f):∀(H0 Hb H:Hp) (σ:St) (ρ:DEnv) (A:Nat->List Addr) (Q:Bool->Hp->Prop),EnvOk K C H0 Hb H Γ Δ σ ρ A->
    Post (Dl.cE f ρ) (fun b=>∀H',Same H H'->Q b H') (fun c x=>∀H',Same H H'->EC C E c x H')->t σ H fun x H'=>∃k,x=.bl k/\Q k H':=fun H0 Hb H σ ρ A Q I p=>h H0 Hb H σ ρ A _ I (p.bind.imp (fun d q v H' g r=>by
  obtain ⟨B,r,_⟩:=r;cases d with
  | bl b =>obtain ⟨rfl,_⟩:=r;exact ⟨b,rfl,q H' g⟩
  | _=>exact q.elim) fun c x q H' g'=>q H' g')
theorem tok_test {t:TE}{f:FE}(h:EOk K C E Γ Δ m S t f):TOk K C E Γ Δ (tTest t) (Dl.cE f):=tok_of h
theorem tok_B {t:TE}{f:FE}(h:EOk K C E Γ Δ m S t f):TOk K C E Γ Δ (tB t) (Dl.cE f):=tok_of h
theorem tok_not {t:TT}{f:FT}(h:TOk K C E Γ Δ t f):TOk K C E Γ Δ (tNot t) (Dl.cNot f):=fun H0 Hb H σ ρ A Q I p=>h H0 Hb H σ ρ A _ I (p.bind.imp (fun b q H' g=>q H' g) fun c x q H' g'=>q H' g')
theorem tok_or {t u:TT}{f g:FT}(h:TOk K C E Γ Δ t f)(h':TOk K C E Γ Δ u g):TOk K C E Γ Δ (tOr t u) (Dl.cOr f g):=fun H0 Hb H σ ρ A Q I p=>h H0 Hb H σ ρ A _ I (p.bind.imp (fun b q H' g'=>by
  cases b with
  | false=>exact h' H0 Hb H' σ ρ A Q (I.mono g') (Post.imp q (fun b q H2 g2=>q H2 (g'.trans g2)) fun c x q H2 g2=>q H2 (g'.trans g2))
  | true=>exact q H' g') fun c x q H' g'=>q H' g')
theorem tok_yes:TOk K C E Γ Δ tYes Dl.cYes:=fun _ _ H _ _ _ _ _ p=>p H (Same.refl _)
theorem EOk.run {t:TE}{f:FE}(h:EOk K C E Γ Δ m S t f)(I:EnvOk K C H0 Hb H Γ Δ σ ρ A)(g:Same H H1)
  (p:Post (f ρ) (fun d=>∀v H',Same H H'->Res K C m S H A d v H'->Q v H') (fun c x=>∀H',Same H H'->EC C E c x H')):t σ H1 Q:=
 h H0 Hb H1 σ ρ A Q (I.mono g) (p.imp (fun d q v H2 g2 r=>q v H2 (g.trans g2) (r.later g (Same.refl _))) fun c x q H2 g2=>q H2 (g.trans g2))
theorem eok_and (ha:EOk K C E Γ Δ m1 S1 ta fa)(hb:EOk K C E Γ Δ m S tb fb):EOk K C E Γ Δ m S (tAndV ta tb) (Dl.fAnd fa fb):=fun H0 Hb H σ ρ A Q I p=>ha H0 Hb H σ ρ A _ I (p.bind.imp (fun d q v H' g r=>by
  obtain ⟨B,r,_⟩:=r;cases d with
  | bl b =>
    obtain ⟨rfl,_⟩:=r;refine ⟨b,rfl,?_⟩;cases b with
    | true=>exact hb.run I g q
    | false=>exact q _ H' g (Res.flat rpB)
  | _=>exact q.elim) fun c x q H' g'=>q H' g')
theorem eok_not (ha:EOk K C E Γ Δ m1 S1 ta fa):EOk K C E Γ Δ 2 [] (tNotV ta) (Dl.f1 Dl.gNot fa):=fun H0 Hb H σ ρ A Q I p=>ha H0 Hb H σ ρ A _ I (p.bind.imp (fun d q v H' g r=>by
  obtain ⟨B,r,_⟩:=r;cases d with
  | bl b =>obtain ⟨rfl,_⟩:=r;exact ⟨b,rfl,q _ H' g (Res.flat rpB)⟩
  | _=>exact q.elim) fun c x q H' g'=>q H' g')
def spD (K:AC)(C:String->Addr)(n mr:Nat)(F:List D->R D):Sp:=fun vs H Q E=>∃ds B,ds.length=n/\RpA K C H ds vs B/\
 Post (F ds) (fun d=>∀v H',Same H H'->Res K C mr [] H (fun _=>[]) d v H'->Q v H') (fun c x=>∀H',Same H H'->EC C E c x H')
theorem InS.none (h:InS A [] a):False:=by obtain ⟨p,hp,_⟩:=h;cases hp
theorem Res.reA {A':Nat->List Addr}(r:Res K C m [] H A d v H'):Res K C m S H A' d v H':=by obtain ⟨B,r1,r2,r3,r4⟩:=r;exact ⟨B,r1,fun a ha=>(r2 a ha).imp id fun h=>h.none.elim,r3,r4⟩
theorem eok_call (ha:AOk K C E Γ Δ m S t f)(hn:∀ρ ds,f ρ=.ok ds->ds.length=n):EOk K C E Γ Δ mr [] (tCall (spD K C n mr F) [] E t) (Dl.fCall F f):=
  fun H0 Hb H σ ρ A Q I p=>rd_call (ha H0 Hb H σ ρ A _ I (by
    have p':=p.bind;cases e:f ρ with
    | bad=>rw [e] at p';exact p'
    | err c x=>rw [e] at p';exact p'
    | ok ds =>
      rw [e] at p';intro vs H1 g1 r1;obtain ⟨B,r1,_⟩:=r1;exact ⟨ds,B,hn ρ ds e,r1,Post.imp p' (fun d q v H' g2 r=>q v H' (g1.trans g2) ((r.later g1 (Same.refl _)).reA)) fun c x q H' g'=>q H' (g1.trans g')⟩))
theorem len_nil (ρ:DEnv)(ds:List D)(h:Dl.aNil ρ=.ok ds):ds.length=0:=by cases h;rfl
theorem len_cons (hf:∀ρ ds,f ρ=.ok ds->ds.length=n)(ρ:DEnv)(ds:List D)(h:Dl.aCons fe f ρ=.ok ds):ds.length=n+1:=by
 unfold Dl.aCons at h;cases e:fe ρ with
 | ok x =>
  rw [e] at h;cases e':f ρ with
  | ok xs =>rw [e'] at h;cases h;rw [A7,hf ρ xs e']
  | err c x=>rw [e'] at h;cases h
  | bad=>rw [e'] at h;cases h
 | err c x=>rw [e] at h;cases h
 | bad=>rw [e] at h;cases h
def Goes (K:AC)(C:String->Addr)(J:It)(ds:List D)(Hb:Hp):Prop:=∀H2,Same Hb H2->(∀i,i<ds.length->J.go i H2)/\(∀i,ds.length<=i->J.stop i H2)/\
 ∀i x H3,i<ds.length->J.yld i H2 x H3->Same H2 H3/\∃d B,ds[i]?=some d/\Rp K C H3 d x B/\∀a∈B,Hb a≠none
def IOk (K:AC)(C:String->Addr)(E:XK)(Γ Δ:List Nat)(S:List (Nat×Bool))(wi:TI)(f:FI):Prop:=∀(H0 Hb H:Hp) (σ:St) (ρ:DEnv) (A:Nat->List Addr) (Rr:It->Hp->Prop),EnvOk K C H0 Hb H Γ Δ σ ρ A->
  Post (f ρ) (fun ds=>∀J H' W,Same H H'->(∀a∈W,(∃o,H' a=some o/\IsM o)/\(H a=none\/InS A S a))->ds.length<=Dl.lim->
    (∀Hc,Agree W H' Hc->Goes K C J ds Hc)->Rr J H') (fun c x=>∀H',Same H H'->EC C E c x H')->wi σ H Rr
theorem goes_of (r:RpA K C Hc ds vs B)(h:∀H2,Same Hc H2->(∀i,i<vs.length->J.go i H2)/\(∀i,vs.length<=i->J.stop i H2)/\∀i x H3,J.yld i H2 x H3->H3=H2/\(i<vs.length->vs[i]?=some x)):Goes K C J ds Hc:=fun H2 g=>by obtain ⟨h1,h2,h3⟩:=h H2 g;have hl:=r.len;refine ⟨fun i hi=>h1 i (by omega),fun i hi=>h2 i (by omega),fun i x H3 hi y=>?_⟩;obtain ⟨e,y2⟩:=h3 i x H3 y;subst e;obtain ⟨d,Bd,q1,q2,q3⟩:=r.get' (y2 (by omega));refine ⟨Same.refl _,d,Bd,q1,q2.same g,fun a ha z=>?_⟩;obtain ⟨xs,e,_⟩:=q2.isl a ha;rw [e] at z;cases z
theorem goes_list (r:RpA K C Hc ds vs B)(h:∀H2,Same Hc H2->SqL K H2 a vs):Goes K C (Itl K a) ds Hc:=goes_of r fun H2 g=>by have q:=h H2 g;exact ⟨fun i hi=>⟨vs,vs[i],q,by simp [hi]⟩,fun i hi=>⟨vs,q,hi⟩,fun i x H3 y=>⟨y.1,fun _=>y.2 vs q⟩⟩
theorem goes_rng :Goes K C (Itr lo n) (Dl.rngL lo n) Hc:=goes_of (vs:=rngV lo n) RpA.rng fun H2 _=>by
 have hl:(rngV lo n).length=n:=by simp [rngV]
 refine ⟨fun i hi=>by rw [hl] at hi;exact hi,fun i hi=>by rw [hl] at hi;exact hi,fun i x H3 y=>⟨y.1,fun hi=>?_⟩⟩;rw [hl] at hi;rw [y.2];simp [rngV,hi]
theorem FzL.keep (h:FzL K H a xs)(hk:∀b o,H b=some o->¬IsM o->Hb b=some o):FzL K Hb a xs:=by rcases h with ⟨o,h⟩ | h;exact .inl ⟨o,hk a _ h (fun z=>by cases z)⟩;exact .inr h
theorem FzL.same (h:FzL K H a xs)(g:Same H Hb):FzL K Hb a xs:=h.keep fun b o q _=>g b o q
theorem iok_list {t:TE}{f:FE}(h:EOk K C E Γ Δ m S t f):IOk K C E Γ Δ S (iList K t) (Dl.jList f):=fun H0 Hb H σ ρ A Rr I p=>h H0 Hb H σ ρ A _ I (p.bind.imp (fun d q v H' g r=>by
  obtain ⟨B,r,r',_⟩:=r;cases d with
  | lst ds =>obtain ⟨a,xs,B',rfl,e2,e3,e4⟩:=r;subst e4;simp only at q;split at q;rename_i hl;refine ⟨a,rfl,⟨xs,SqL.of e2⟩,q _ H' (a::B') g (fun b hb=>?_) hl fun Hc h1=>goes_list (e3.agree h1 fun b hb=>.tail _ hb) fun H2 g2=>SqL.of (g2 _ _ ((h1.1 a (.head _)).trans e2))⟩;rcases Au.mp hb with z | z;rw [z];exact ⟨⟨_,e2,.lst⟩,r' a (.head _)⟩;exact ⟨e3.isl b z,r' b (.tail _ z)⟩;exact q.elim
  | scr ns =>obtain ⟨a,rfl,e2,_⟩:=r;simp only at q;split at q;rename_i hl;exact ⟨a,rfl,⟨_,e2.sq⟩,q _ H' [] g (fun b hb=>nomatch hb) (by rw [Ap];exact hl) fun Hc h2=>goes_list RpA.ints fun H2 g2=>((e2.keep h2.2).same g2).sq⟩;exact q.elim
  | flst ds =>obtain ⟨a,o,xs,rfl,e2,e3,_⟩:=r;simp only at q;split at q;rename_i hl;exact ⟨a,rfl,⟨xs,FzL.sq (.inl ⟨o,e2⟩)⟩,q _ H' [] g (fun b hb=>nomatch hb) hl fun Hc h2=>goes_list (e3.agree h2 fun b hb=>hb) fun H2 g2=>(((FzL.keep (.inl ⟨o,e2⟩) h2.2)).same g2).sq⟩;exact q.elim
  | _=>exact q.elim) fun c x q H' g'=>q H' g')
theorem rngL_len (lo:Int)(n:Nat):(Dl.rngL lo n).length=n:=by simp [Dl.rngL]
theorem iok_rng1 (h:AOk K C E Γ Δ m S t f):IOk K C E Γ Δ [] (iRng1 t) (Dl.jRng1 f):=fun H0 Hb H σ ρ A Rr I p=>h H0 Hb H σ ρ A _ I (p.bind.imp (fun ds q vs H' g r=>by
  obtain ⟨B,r,_⟩:=r;split at q;split at q;rename_i hl;obtain ⟨v,rfl,r1⟩:=r.one';obtain ⟨rfl,_⟩:=r1;exact ⟨_,rfl,by omega,by omega,q _ H' [] g (fun b hb=>nomatch hb) (by rw [rngL_len];show _<=1000000;omega) fun Hc _=>goes_rng⟩;exact q.elim
  · exact q.elim) fun c x q H' g'=>q H' g')
theorem comp_gen {k:Nat}{g:TG}(go:Goes K C J ds Hc)(Pv:Nat->Hp->Prop)(h0:Pv 0 (upd H Dd (.lst [])))(hb:∀i H,Pv i H->Same Hc H)
    (hs:∀i d x B H H3,ds[i]?=some d->Pv i H->Same H H3->Rp K C H3 d x B->(∀a∈B,Hc a≠none)->∀os:St,os.length=k->g x (σ++os) H3 fun σ' Hg=>(∃os',os'.length=k/\σ'=σ++os')/\tc σ' Hg fun b H2=>if b=true then te σ' H2 fun v H3=>∃ys,H3 Dd=some (.lst ys)/\ys.length<Ah/\Pv (i+1) (upd H3 Dd (.lst (ys++[v]))) else Pv (i+1) H2)
    (hd:∀H,Pv ds.length H->Rr H) :
    ∃W:Nat->Nat->Hp->Prop,(∃m,W 0 m (upd H Dd (.lst [])))/\∀i m H,W i m H->
      (J.stop i H/\Rr H)\/(J.go i H/\∃N:Hp->Prop,(∀H',N H'->∃m',m'<m/\W (i+1) m' H')/\∀x H',J.yld i H x H'->∀os:St,os.length=k->g x (σ++os) H' fun σ' Hg=>(∃os',os'.length=k/\σ'=σ++os')/\tc σ' Hg fun b H2 =>
        if b=true then te σ' H2 fun v H3=>∃ys,H3 Dd=some (.lst ys)/\ys.length<Ah/\N (upd H3 Dd (.lst (ys++[v])))
        else N H2):=by
  refine ⟨fun i m H=>m=ds.length - i/\i<=ds.length/\Pv i H,⟨ds.length,by simp,Dg _,h0⟩,?_⟩;rintro i m H1 ⟨rfl,hi,p⟩;obtain ⟨g1,g2,g3⟩:=go H1 (hb i H1 p);by_cases hlt:i<ds.length;refine .inr ⟨g1 i hlt,Pv (i+1),fun H' p'=>⟨ds.length - (i+1),by omega,rfl,hlt,p'⟩,fun x H' y=>?_⟩;obtain ⟨e,d,B,y1,y2,y3⟩:=g3 i x H' hlt y;exact hs i d x B H1 H' y1 p e y2 y3;have e:i=ds.length:=by omega
  subst e;exact .inl ⟨g2 _ (AM _),hd H1 p⟩
theorem for_gen {g:TG}{tb:TS}{Dd:Ends}(go:Goes K C J ds Hc)(Pv:Nat->St->Hp->Prop)(h0:Pv 0 σ H)(hb:∀i σ H,Pv i σ H->Same Hc H)
  (hs:∀i d x B σ H H3,ds[i]?=some d->Pv i σ H->Same H H3->Rp K C H3 d x B->(∀a∈B,Hc a≠none)->g x σ H3 fun σ2 H2=>tb {Dd with nx:=Pv (i+1),ct:=Pv (i+1),bk:=Dd.nx} σ2 H2) (hd:∀σ H,Pv ds.length σ H->Dd.nx σ H) :
  ∃W:Nat->Nat->St->Hp->Prop,(∃m,W 0 m σ H)/\∀i m σ H,W i m σ H->
   (J.stop i H/\Dd.nx σ H)\/(J.go i H/\∃N:St->Hp->Prop,(∀σ' H',N σ' H'->∃m',m'<m/\W (i+1) m' σ' H')/\∀x H',J.yld i H x H'->g x σ H' fun σ2 H2=>tb {Dd with nx:=N,ct:=N,bk:=Dd.nx} σ2 H2):=by
 refine ⟨fun i m σ H=>m=ds.length - i/\i<=ds.length/\Pv i σ H,⟨ds.length,by simp,Dg _,h0⟩,?_⟩;rintro i m σ H1 ⟨rfl,hi,p⟩;obtain ⟨g1,g2,g3⟩:=go H1 (hb i σ H1 p);by_cases hlt:i<ds.length;refine .inr ⟨g1 i hlt,Pv (i+1),fun σ' H' p'=>⟨ds.length - (i+1),by omega,rfl,hlt,p'⟩,fun x H' y=>?_⟩;obtain ⟨e,d,B,y1,y2,y3⟩:=g3 i x H' hlt y;exact hs i d x B σ H1 H' y1 p e y2 y3;have e:i=ds.length:=by omega
 subst e;exact .inl ⟨g2 _ (AM _),hd σ H1 p⟩
theorem EnvOk.more (I:EnvOk K C H0 Hb H Γ Δ σ ρ A)(os:St):EnvOk K C H H H [] [] (σ++os) (ρ++Aa os.length none) A:=by refine ⟨Same.refl _,Same.refl _,by rw [Az,Az,I.len,C9],fun i e h=>?_,fun i h=>?_,(fun _ h=>nomatch h),(fun _ h=>nomatch h),(fun _ h=>nomatch h)⟩;by_cases hi:i<ρ.length;rw [AE hi] at h;obtain ⟨w,q1,q2⟩:=I.rep i e h;refine ⟨w,?_,q2⟩;rw [AE (by rw [I.len];exact hi)];exact q1;rw [Bk (by omega)] at h;have hm:=BB h;rw [C4] at hm;exact absurd hm.2 (by intro z;cases z);refine I.nil i fun e h'=>h e ?_;rw [AE (Ad.mp h').1];exact h'
def NOk (K:AC)(C:String->Addr)(n k:Nat)(g:TG)(b:FB):Prop:=∀(H:Hp) (σ os:St) (ρ:DEnv) (A:Nat->List Addr) (d:D) (v:V) (B:List Addr) (Rr:St->Hp->Prop),σ.length=n->os.length=k->EnvOk K C H H H [] [] (σ++os) ρ A->Rp K C H d v B->
 Post (b d ρ) (fun ρ'=>∀os' A',os'.length=k->EnvOk K C H H H [] [] (σ++os') ρ' A'->Rr (σ++os') H) (fun _ _=>False)->g v (σ++os) H Rr
def NsOk (K:AC)(C:String->Addr)(n k:Nat)(g:TGs)(b:List D->DEnv->R DEnv):Prop:=∀(H:Hp) (σ os:St) (ρ:DEnv) (A:Nat->List Addr) (d:List D) (v:List V) (B:List Addr) (Rr:St->Hp->Prop),σ.length=n->os.length=k->EnvOk K C H H H [] [] (σ++os) ρ A->RpA K C H d v B->
 Post (b d ρ) (fun ρ'=>∀os' A',os'.length=k->EnvOk K C H H H [] [] (σ++os') ρ' A'->Rr (σ++os') H) (fun _ _=>False)->g v (σ++os) H Rr
theorem comp_split (k:Nat)(b:FB)(c:FT)(e:FE)(ρ:DEnv)(xs:List D){x:D}(h:xs[i]?=some x):Dl.compN k b c e ρ (xs.drop i)=(b x (ρ++Aa k none)).calm.bind fun ρ1=>(c ρ1).bind fun t=>if t then (e ρ1).bind fun y=>(Dl.compN k b c e ρ (xs.drop (i+1))).bind fun ys=>.ok (y::ys) else Dl.compN k b c e ρ (xs.drop (i+1)):=by obtain ⟨hi,rfl⟩:=Ad.mp h;rw [BF hi];rfl
theorem calm_of {r:R α}{ok:α->Prop}(h:Post r.calm ok er):Post r ok (fun _ _=>False):=by
 cases r with
 | ok a=>exact h
 | err c x=>exact h
 | bad=>exact h
theorem get_set {l:List α}{x y:α}(h:(l.set i x)[j]?=some y):(j=i/\i<l.length/\y=x)\/(j≠i/\l[j]?=some y):=by by_cases e:i=j;subst e;rw [List.getElem?_set_self'] at h;by_cases hi:i<l.length;rw [AA hi] at h;simp at h;exact .inl ⟨rfl,hi,h.symm⟩;rw [List.getElem?_eq_none (by omega)] at h;cases h;rw [Bc e] at h;exact .inr ⟨fun z=>e z.symm,h⟩
theorem EnvOk.put (I:EnvOk K C H0 Hb H Γ Δ σ ρ A)(r:Rp K C H d v B)
  (h1:∀j∈Γ',j≠i->j∈Γ/\∀a l,A j=a::l->a∉B)
  (h2:i∈Γ'->(∀a∈B,H0 a=none)/\∀a l,B=a::l->Hb a=none/\a∉l/\∀j,j≠i->a∉A j)
  (h3:∀j∈Δ',j≠i->j∈Δ/\∀a∈A j,a∉B)
  (h4:i∈Δ'->B.Nodup/\(∀j,j≠i->∀a∈B,a∉A j)/\∀a∈B,Hb a=none):∃A',EnvOk K C H0 Hb H Γ' Δ' (σ.set i (some v)) (ρ.set i (some d)) A'/\∀j a,a∈A' j->a∈B\/a∈A j:=by
 by_cases hi:i<ρ.length;refine ⟨fun j=>if j=i then B else A j,⟨I.s0,I.same,by rw [BG,BG,I.len],fun j e h=>?_,fun j h=>?_,fun j hj a ha=>?_,fun j hj a l e=>?_,fun j hj=>?_⟩,fun j a ha=>?_⟩;rcases get_set h with ⟨e1,_,e2⟩ | ⟨e1,e2⟩;subst e1;cases e2;refine ⟨v,?_,by rw [if_pos rfl];exact r⟩;rw [BJ (by rw [I.len];exact hi)];obtain ⟨w,q1,q2⟩:=I.rep j e e2;refine ⟨w,?_,by rw [if_neg e1];exact q2⟩;rw [Bc (fun z=>e1 z.symm)];exact q1;by_cases e:j=i;subst e;exact absurd (BJ hi) (h d);rw [if_neg e];refine I.nil j fun x hx=>h x ?_;rw [Bc (fun z=>e z.symm)];exact hx;by_cases e:j=i;subst e;rw [if_pos rfl] at ha;exact (h2 hj).1 a ha;rw [if_neg e] at ha;exact I.loc j (h1 j hj e).1 a ha;by_cases e':j=i;subst e';rw [if_pos rfl] at e;obtain ⟨q0,q1,q2⟩:=(h2 hj).2 a l e;refine ⟨q0,q1,fun k hk=>?_⟩;rw [if_neg hk];exact q2 k hk;rw [if_neg e'] at e;obtain ⟨q0,q⟩:=h1 j hj e';obtain ⟨q3,q1,q2⟩:=I.top j q0 a l e;refine ⟨q3,q1,fun k hk=>?_⟩;by_cases ek:k=i;rw [if_pos ek];exact q a l e;rw [if_neg ek];exact q2 k hk;by_cases e:j=i;subst e;rw [if_pos rfl];obtain ⟨q1,q2,q3⟩:=h4 hj;refine ⟨q1,fun k hk a ha=>?_,q3⟩;rw [if_neg hk];exact q2 k hk a ha;rw [if_neg e];obtain ⟨q0,q⟩:=h3 j hj e;obtain ⟨q1,q2,q3⟩:=I.deep j q0;refine ⟨q1,fun k hk a ha=>?_,q3⟩;by_cases ek:k=i;rw [if_pos ek];exact q a ha;rw [if_neg ek];exact q2 k hk a ha;have ha:a∈(if j=i then B else A j):=ha;by_cases e:j=i;rw [if_pos e] at ha;exact .inl ha;rw [if_neg e] at ha;exact .inr ha;have e1:ρ.set i (some d)=ρ:=Eo (by omega);have e2:σ.set i (some v)=σ:=Eo (by rw [I.len];omega);have e3:A i=[]:=I.nil i fun x h=>by have:=(Ad.mp h).1;omega
 refine ⟨A,?_,fun j a ha=>.inr ha⟩;rw [e1,e2];refine ⟨I.s0,I.same,I.len,I.rep,I.nil,fun j hj a ha=>?_,fun j hj a l e=>?_,fun j hj=>?_⟩;by_cases e:j=i;subst e;rw [e3] at ha;cases ha;exact I.loc j (h1 j hj e).1 a ha;by_cases e':j=i;subst e';rw [e3] at e;cases e;exact I.top j (h1 j hj e').1 a l e;by_cases e:j=i;subst e;rw [e3];exact ⟨Bw,fun _ _ _ h=>(nomatch h),fun _ h=>(nomatch h)⟩;exact I.deep j (h3 j hj e).1
theorem EnvOk.writeA {es:List D}(I:EnvOk K C H0 Hb H Γ Δ σ ρ A)(hi:i∈Γ)(hA:A i=a::l)(hl:i<ρ.length)(hs:σ[i]?=some (some (.ref a)))
  (mk:∀H',H' a=some o'->RpA K C H' es ys B'->Rp K C H' d' (.ref a) (a::B')) (r:RpA K C H es ys B') (hn:∀b∈B',H0 b=none) (ha:a∉B')
  (h1:∀j∈Γ',j≠i->j∈Γ/\∀b l,A j=b::l->b∉B')
  (h2:∀j∈Δ',j≠i->j∈Δ/\∀b∈A j,b∉B')
  (h3:i∈Δ'->B'.Nodup/\(∀j,j≠i->∀b∈B',b∉A j)/\∀b∈B',Hb b=none):∃A',EnvOk K C H0 Hb (upd H a o') Γ' Δ' σ (ρ.set i (some d')) A'/\∀j b,b∈A' j->b∈a::B'\/b∈A j:=by
 obtain ⟨xs,hxs,hm⟩:=I.is (j:=i) (a:=a) (by rw [hA];exact .head _);have hne:∀j,j≠i->a∉A j:=(I.top i hi a l hA).2.2;have hb0:Hb a=none:=(I.top i hi a l hA).1;have h0:H0 a=none:=I.loc i hi a (by rw [hA];exact .head _);have ext:Ext (fun b=>b=a) H (upd H a o'):=fun b o h=>by by_cases e:b=a;subst e;rw [hxs] at h;cases h;exact .inr ⟨rfl,hm⟩;rw [upd_ne e];exact .inl h
 refine ⟨fun j=>if j=i then a::B' else A j,⟨I.s0,fun b o h=>?_,by rw [BG,I.len],fun j e h=>?_,fun j h=>?_,fun j hj b hb=>?_,fun j hj b l' e=>?_,fun j hj=>?_⟩,fun j b hb=>?_⟩;rw [upd_ne (ne_of_none h hb0)];exact I.same b o h;rcases get_set h with ⟨e1,_,e2⟩ | ⟨e1,e2⟩;subst e1;cases e2;refine ⟨.ref a,hs,?_⟩;rw [if_pos rfl];exact mk _ upd_same (r.ext ext (fun b hb h=>ha (by rw [h] at hb;exact hb)));obtain ⟨w,q1,q2⟩:=I.rep j e e2;refine ⟨w,q1,?_⟩;rw [if_neg e1];exact q2.ext ext fun b hb h=>hne j e1 (by rw [h] at hb;exact hb);by_cases e:j=i;subst e;exact absurd (BJ hl) (h _);rw [if_neg e];refine I.nil j fun x hx=>h x ?_;rw [Bc (fun z=>e z.symm)];exact hx;by_cases e:j=i;subst e;rw [if_pos rfl] at hb;rcases Au.mp hb with z | z;rw [z];exact h0;exact hn b z;rw [if_neg e] at hb;exact I.loc j (h1 j hj e).1 b hb;by_cases e':j=i;subst e';rw [if_pos rfl] at e;cases e;refine ⟨hb0,ha,fun k hk=>?_⟩;rw [if_neg hk];exact hne k hk;rw [if_neg e'] at e;obtain ⟨q0,q⟩:=h1 j hj e';obtain ⟨q3,q1,q2⟩:=I.top j q0 b l' e;refine ⟨q3,q1,fun k hk=>?_⟩;by_cases ek:k=i;rw [if_pos ek];intro z;rcases Au.mp z with z | z;exact hne j e' (by rw [e,z];exact .head _);exact q b l' e z;rw [if_neg ek];exact q2 k hk;by_cases e:j=i;subst e;rw [if_pos rfl];obtain ⟨q1,q2,q3⟩:=h3 hj;refine ⟨Ag.mpr ⟨ha,q1⟩,fun k hk b hb=>?_,fun b hb=>?_⟩;rw [if_neg hk];rcases Au.mp hb with z | z;rw [z];exact hne k hk;exact q2 k hk b z;rcases Au.mp hb with z | z;rw [z];exact hb0;exact q3 b z;rw [if_neg e];obtain ⟨q0,q⟩:=h2 j hj e;obtain ⟨q1,q2,q3⟩:=I.deep j q0;refine ⟨q1,fun k hk b hb=>?_,q3⟩;by_cases ek:k=i;rw [if_pos ek];intro z;rcases Au.mp z with z | z;exact hne j e (by rw [<- z];exact hb);exact q b hb z;rw [if_neg ek];exact q2 k hk b hb;by_cases e:j=i;simp only [if_pos e] at hb;exact .inl hb;simp only [if_neg e] at hb;exact .inr hb
theorem EnvOk.writeO {es:List D}(I:EnvOk K C H0 Hb H Γ Δ σ ρ A)(hi:i∈Γ)(hA:A i=a::l)(hl:i<ρ.length)(hs:σ[i]?=some (some (.ref a)))
  (mk:∀H',H' a=some o'->RpA K C H' es ys B'->Rp K C H' d' (.ref a) (a::B')) (r:RpA K C H es ys B') (hn:∀b∈B',H0 b=none) (ha:a∉B')
  (h1:∀j∈Γ',j≠i->j∈Γ/\∀b l,A j=b::l->b∉B')
  (h2:∀j∈Δ',j≠i->j∈Δ/\∀b∈A j,b∉B')
  (h3:i∈Δ'->B'.Nodup/\(∀j,j≠i->∀b∈B',b∉A j)/\∀b∈B',Hb b=none):∃A',EnvOk K C H0 Hb (upd H a o') Γ' Δ' σ (ρ.set i (some d')) A':=
 let ⟨A',h,_⟩:=I.writeA hi hA hl hs mk r hn ha h1 h2 h3;⟨A',h⟩
theorem EnvOk.write {es:List D}(I:EnvOk K C H0 Hb H Γ Δ σ ρ A)(hi:i∈Γ)(hA:A i=a::l)(hl:i<ρ.length)(hs:σ[i]?=some (some (.ref a)))
  (r:RpA K C H es ys B') (hn:∀b∈B',H0 b=none) (ha:a∉B')
  (h1:∀j∈Γ',j≠i->j∈Γ/\∀b l,A j=b::l->b∉B')
  (h2:∀j∈Δ',j≠i->j∈Δ/\∀b∈A j,b∉B')
  (h3:i∈Δ'->B'.Nodup/\(∀j,j≠i->∀b∈B',b∉A j)/\∀b∈B',Hb b=none):∃A',EnvOk K C H0 Hb (upd H a (.lst ys)) Γ' Δ' σ (ρ.set i (some (.lst es))) A':=I.writeO hi hA hl hs (fun _ q1 q2=>⟨a,_,_,rfl,q1,q2,rfl⟩) r hn ha h1 h2 h3
theorem nok_name {k:Nat}(i:Nat)(h1:n<=i)(h2:i<n+k):NOk K C n k (gName i) (Dl.bName i):=fun H σ os ρ A d v B Rr hσ hos I r p=>by
 have e:(σ++os).set i (some v)=σ++os.set (i - n) (some v):=by rw [<- hσ,C8 _ _ (by omega)]
 obtain ⟨A',I',_⟩:=I.put (Γ':=[]) (Δ':=[]) (i:=i) r (fun _ h=>nomatch h) (fun h=>nomatch h) (fun _ h=>nomatch h) (fun h=>nomatch h);show Rr ((σ++os).set i (some v)) H;rw [e] at I' ⊢;exact p _ A' (by rw [BG];exact hos) I'
theorem eok_comp {k:Nat}{g:TG}{fb:FB}{fc:FT}(hi:IOk K C E Γ Δ S wi fi)(hg:NOk K C n k g fb)(hc:TOk K C E0 [] [] tc fc)(he:EOk K C E0 [] [] 2 [] te fe):EOk K C E Γ Δ 2 [] (tCompN k g wi tc te) (Dl.fComp n k fi fb fc fe):=fun H0 Hb H σ ρ A Q I p=>by
  unfold Dl.fComp at p;split at p
  · rename_i hn;refine hi H0 Hb H σ ρ A _ I (p.bind.imp (fun ds q J H1 W g1 hW hlen hJ Dd hD=>?_) fun c x q H' g'=>q H' g');have I1:=I.mono g1;have go:Goes K C J ds H1:=hJ H1 ⟨fun _ _=>rfl,fun b o h _=>h⟩;have q':=calm_of q.bind;refine comp_gen go (fun i H2=>Same H1 H2/\∃(us:List D) (ys:List V) (B':List Addr),H2 Dd=some (.lst ys)/\us.length<=i/\RpA K C H2 us ys B'/\B'.Nodup/\Dd∉B'/\(∀a∈B',H1 a=none)/\
      Post (Dl.compN k fb fc fe ρ (ds.drop i)) (fun zs=>∀v H',Same H H'->Res K C 2 [] H A (.lst (us++zs)) v H'->Q v H') (fun _ _=>False)) ⟨sameNew hD _,[],[],[],upd_same,AM _,RpA.nil,Bw,(fun h=>nomatch h),(fun _ h=>nomatch h),q'⟩ (fun _ _ h=>h.1) ?_ ?_
    · rintro i x v Bx H2a H2 hx ⟨g2a,us,ys,B',hD2,hul,ru,nd,hDB,hnew,pq⟩ g2b rx _ os hos;have g2:=g2a.trans g2b;have hil:=(Ad.mp hx).1;rw [comp_split _ _ _ _ _ _ hx] at pq;have I2:=(I1.mono g2).more os;have pq':=calm_of pq.bind;rw [<- hos] at pq';refine hg H2 σ os _ A x v Bx _ (by rw [I.len,hn]) hos I2 rx (pq'.imp (fun ρ1 pq os1 A1 ho1 I3=>⟨⟨os1,ho1,rfl⟩,?_⟩) fun _ _ z=>z);refine hc H2 H2 H2 _ _ _ _ I3 (pq.bind.imp (fun b pq H3 g3=>?_) fun _ _ z=>z.elim);have hD2':=g2b _ _ hD2;have ru':=ru.same g2b;cases b with
      | false =>simp only [BP,if_false] at pq ⊢;rw [hos] at pq;exact ⟨g2.trans g3,us,ys,B',g3 _ _ hD2',by omega,ru'.same g3,nd,hDB,hnew,pq⟩
      | true =>
        simp only [if_true] at pq ⊢;refine he H2 H2 H3 _ _ _ _ (I3.mono g3) (pq.bind.imp (fun y pq w H4 g4 r4=>?_) fun _ _ z=>z.elim);rw [hos] at pq;obtain ⟨By,ry,hy1,_,hy2⟩:=r4;have g24:=g3.trans g4;have hD4:=g24 _ _ hD2';have hnewy:∀a∈By,H3 a=none:=fun a ha=>(hy1 a ha).elim id fun z=>z.none.elim;have hDy:Dd∉By:=fun h=>by have z:=hnewy Dd h;rw [g3 _ _ hD2'] at z;cases z
        have ext:Ext (fun a=>a=Dd) H4 (upd H4 Dd (.lst (ys++[w]))):=fun b o h=>by by_cases e:b=Dd;subst e;rw [hD4] at h;cases h;exact .inr ⟨rfl,.lst⟩;rw [upd_ne e];exact .inl h
        have hDB':Dd∉B'++By:=fun h=>(Ae.mp h).elim hDB hDy;refine ⟨ys,hD4,?_,?_,us++[y],ys++[w],B'++By,upd_same,by rw [Az];simp;omega,?_,?_,hDB',?_,?_⟩;rw [ru.len];exact limLine' (by omega);intro b o h;have hb:b≠Dd:=ne_of_none h hD;rw [upd_ne hb];exact (g2.trans g24) b o h;exact ((ru'.same g24).app (RpA.one ry)).ext ext fun a ha h=>hDB' (by rw [h] at ha;exact ha);refine AQ.mpr ⟨nd,hy2 rfl,fun a ha b hb e=>?_⟩;subst e;obtain ⟨xs,z,_⟩:=(ru'.same g3).isl a ha;rw [hnewy a hb] at z;cases z;intro a ha;rcases Ae.mp ha with h | h;exact hnew a h;exact (g2.trans g3).free (hnewy a h)
        · exact pq.bind.imp (fun zs pq v H' g' r=>by
            rw [CK] at r;exact pq v H' g' r) fun _ _ z=>z
    rintro H2 ⟨g2,us,ys,B',hD2,hul,ru,nd,hDB,hnew,pq⟩;rw [FH] at pq;have pq:∀v H',Same H H'->Res K C 2 [] H A (.lst (us++[])) v H'->Q v H':=pq;rw [BN] at pq;refine pq _ H2 (g1.trans g2) ⟨Dd::B',⟨Dd,ys,B',rfl,hD2,ru,rfl⟩,fun a ha=>.inl ?_,(fun z=>nomatch z),fun _=>Ag.mpr ⟨hDB,nd⟩⟩;rcases Au.mp ha with h | h;rw [h];exact g1.free hD;exact g1.free (hnew a h)
  exact p.elim
theorem PostS.weak {H0 Hb:Hp}{D:Ends}{r:R Fl}(h:PostS K C E mr Γl Δl Γ' Δ' H0 Hb D r)(h1:∀i∈Γ',i∈Γ1)(h2:∀i∈Δ',i∈Δ1):PostS K C E mr Γl Δl Γ1 Δ1 H0 Hb D r:=by
 unfold PostS at *;refine Post.imp h (fun fl q=>?_) fun _ _ q=>q;cases fl with
 | nx ρ'=>exact fun σ' H' A' I=>q σ' H' A' (I.weak h1 h2)
 | ret d=>exact q
 | brk ρ'=>exact q
 | cnt ρ'=>exact q
theorem sok_weak {t:TS}{f:FS}(h:SOk K C E mr Γl Δl Γ Δ Γ1 Δ1 t f)(h1:∀i∈Γ',i∈Γ1:=by decide)(h2:∀i∈Δ',i∈Δ1:=by decide):SOk K C E mr Γl Δl Γ Δ Γ' Δ' t f:=fun H0 Hb H σ ρ A D I p =>
 h H0 Hb H σ ρ A D I (p.weak h1 h2)
theorem sok_nx:SOk K C E mr Γl Δl Γ Δ Γ Δ tNext Dl.sNx:=fun _ _ H σ _ A _ I p=>p σ H A I
theorem sok_never:SOk K C E mr Γl Δl Γ Δ Γ' Δ' tNever Dl.sNever:=fun _ _ _ _ _ _ _ _ p=>p.elim
theorem sok_seq {t:TS}{f g:FS}(h1:SOk K C E mr Γl Δl Γ Δ Γ1 Δ1 t f)(h2:SOk K C E mr Γl Δl Γ1 Δ1 Γ' Δ' u g):SOk K C E mr Γl Δl Γ Δ Γ' Δ' (tSeq t u) (Dl.sSeq f g):=fun H0 Hb H σ ρ A D I p =>
  h1 H0 Hb H σ ρ A _ I (Post.imp (Post.bind p) (fun fl q=>by
    cases fl with
    | nx ρ'=>exact fun σ' H' A' I'=>h2 H0 Hb H' σ' ρ' A' D I' q
    | ret d=>exact q
    | brk ρ'=>exact q
    | cnt ρ'=>exact q) fun _ _ q=>q)
theorem Same.from0 (I:EnvOk K C H0 Hb H Γ Δ σ ρ A)(g:Same H H'):Same H0 H':=I.s0.trans (I.same.trans g)
theorem EnvOk.top_out (I:EnvOk K C H0 Hb H Γ Δ σ ρ A)(hj:j∈Γ)(hS:(j,false)∉S)(e:A j=a::l):¬InS A S a:=fun h=>by
 obtain ⟨q0,q1,q2⟩:=I.top j hj a l e;obtain ⟨p,hp,q⟩:=h;split at q;by_cases ep:p.1=j;rw [ep,e] at q;exact q1 q;exact q2 p.1 ep (EX q);rename_i hf;by_cases ep:p.1=j;refine hS ?_;have:p=(j,false):=by obtain ⟨p1,p2⟩:=p;simp at ep hf;rw [ep,hf]
 rw [<- this];exact hp;exact q2 p.1 ep q
theorem EnvOk.deep_out (I:EnvOk K C H0 Hb H Γ Δ σ ρ A)(hj:j∈Δ)(hS:∀p∈S,p.1≠j)(e:a∈A j):¬InS A S a:=fun h=>by obtain ⟨p,hp,q⟩:=h.mem;exact (I.deep j hj).2.1 p.1 (hS p hp) a e q
theorem sok_set2 (he:EOk K C E Γ Δ 2 [] te fe)(h1:∀j∈Γ',j=i\/j∈Γ:=by decide)(h2:∀j∈Δ',j=i\/j∈Δ:=by decide):SOk K C E mr Γl Δl Γ Δ Γ' Δ' (tAsg te (gName i)) (Dl.sSet i fe):=fun H0 Hb H σ ρ A D I p =>
  he H0 Hb H σ ρ A _ I (Post.imp (Post.bind p) (fun d q v H1 g1 r=>by
    obtain ⟨B,r1,r2,r3,r4⟩:=r;have hn:∀a∈B,H a=none:=fun a ha=>(r2 a ha).elim id fun z=>z.none.elim;have nd:=r4 rfl;obtain ⟨A',I',_⟩:=(I.mono g1).put (Γ':=Γ') (Δ':=Δ') (i:=i) r1 (fun j hj e=>⟨(h1 j hj).elim (fun z=>absurd z e) id,fun a l e' ha=>I.ne (j:=j) (by rw [e'];exact .head _) (hn a ha)⟩)
      (fun _=>⟨fun a ha=>I.s0.free (I.same.free (hn a ha)),fun a l e=>by subst e;exact ⟨I.same.free (hn a (.head _)),(Ag.mp nd).1,fun j _ h=>I.ne h (hn a (.head _))⟩⟩)
      (fun j hj e=>⟨(h2 j hj).elim (fun z=>absurd z e) id,fun a ha hB=>I.ne ha (hn a hB)⟩)
      (fun _=>⟨nd,fun j _ a ha h=>I.ne h (hn a ha),fun a ha=>I.same.free (hn a ha)⟩)
    exact q _ H1 A' I') fun c x q H' g'=>q H' (Same.from0 I g'))
theorem sok_ret2 (he:EOk K C E Γ Δ 2 S te fe)(h0:∀p∈S,p.1∈Δ:=by decide):SOk K C E 2 Γl Δl Γ Δ Γ' Δ' (tRet te) (Dl.sRet fe):=fun H0 Hb H σ ρ A D I p =>
  he H0 Hb H σ ρ A _ I (Post.imp (Post.bind p) (fun d q v H1 g1 r=>by
    obtain ⟨B,r1,r2,r3,r4⟩:=r;refine q v H1 (Same.from0 I g1) ⟨B,r1,fun a ha=>.inl ((r2 a ha).elim (fun z=>I.s0.free (I.same.free z)) fun z=>?_),(fun z=>nomatch z),r4⟩;obtain ⟨p,hp,z⟩:=z.mem;exact I.s0.free ((I.deep p.1 (h0 p hp)).2.2 a z)) fun c x q H' g'=>q H' (Same.from0 I g'))
theorem sok_if {t:TS}{fc:FT}{f g:FS}(hc:TOk K C E Γ Δ tc fc)(h1:SOk K C E mr Γl Δl Γ Δ Γ' Δ' t f)(h2:SOk K C E mr Γl Δl Γ Δ Γ' Δ' u g):SOk K C E mr Γl Δl Γ Δ Γ' Δ' (tIfS tc t u) (Dl.sIf fc f g):=fun H0 Hb H σ ρ A D I p =>
  hc H0 Hb H σ ρ A _ I (Post.imp (Post.bind p) (fun b q H1 g1=>by
    cases b with
    | true=>exact h1 H0 Hb H1 σ ρ A D (I.mono g1) q
    | false=>exact h2 H0 Hb H1 σ ρ A D (I.mono g1) q) fun c x q H' g'=>q H' (Same.from0 I g'))
theorem slot_lst (I:EnvOk K C H0 Hb H Γ Δ σ ρ A)(e:ρ[i]?=some (some (.lst ds))):∃a xs l,σ[i]?=some (some (.ref a))/\H a=some (.lst xs)/\RpA K C H ds xs l/\A i=a::l/\i<ρ.length:=by obtain ⟨v,q1,a,xs,l,rfl,q3,q4,q5⟩:=I.rep i _ e;exact ⟨a,xs,l,q1,q3,q4,q5,(Ad.mp e).1⟩
theorem sok_app2 (hi:i∈Γ:=by decide)(he:EOk K C E Γ Δ 2 [] te fe):SOk K C E mr Γl Δl Γ Δ Γ Δ (tDrop (tBM K "list" rAppend (tVar i) (tCons te tNil))) (Dl.sApp i fe):=fun H0 Hb H σ ρ A D I p=>by
  unfold Dl.sApp at p;split at p
  · rename_i ds e;obtain ⟨a,xs,l,s1,h1,r1,hA,hl⟩:=slot_lst I e;refine ⟨.ref a,s1,.inl ⟨rfl,xs,SqL.of h1⟩,he H0 Hb H σ ρ A _ I (Post.imp (Post.bind p) (fun d q v H1 g1 r=>?_) fun c x q H' g'=>q H' (Same.from0 I g'))⟩;split at q
    · rename_i hz;obtain ⟨B,r2,r3,_,r4⟩:=r;have hn:∀a∈B,H a=none:=fun a ha=>(r3 a ha).elim id fun z=>z.none.elim;have h1':=g1 _ _ h1;show rAppend (.ref a) [v] H1 fun _ H3=>D.nx σ H3;refine rd_app h1' (by rw [r1.len];exact limLine' hz) ?_;obtain ⟨tb,ta,tt⟩:=I.top i hi a l hA;have I1:=I.mono g1;have haB:a∉B:=fun z=>by have:=hn a z;rw [h1] at this;cases this
      have w1:∀b∈l++B,H0 b=none:=fun b hb=>by rcases Ae.mp hb with z | z;exact I.loc i hi b (by rw [hA];exact .tail _ z);exact I.s0.free (I.same.free (hn b z))
      have w2:∀j∈Γ,j≠i->j∈Γ/\∀b l',A j=b::l'->b∉l++B:=fun j hj e=>⟨hj,fun b l' e' z=>by
        rcases Ae.mp z with z | z;exact (I.top j hj b l' e').2.2 i (fun w=>e w.symm) (by rw [hA];exact .tail _ z)
        · exact I.ne (j:=j) (by rw [e'];exact .head _) (hn b z)⟩
      have w3:∀j∈Δ,j≠i->j∈Δ/\∀b∈A j,b∉l++B:=fun j hj e=>⟨hj,fun b hb z=>by
        rcases Ae.mp z with z | z;exact (I.deep j hj).2.1 i (fun w=>e w.symm) b hb (by rw [hA];exact .tail _ z)
        · exact I.ne hb (hn b z)⟩
      have w4:i∈Δ->(l++B).Nodup/\(∀j,j≠i->∀b∈l++B,b∉A j)/\∀b∈l++B,Hb b=none:=fun hd=>by obtain ⟨d1,d2,d3⟩:=I.deep i hd;rw [hA] at d1 d2 d3;refine ⟨AQ.mpr ⟨(Ag.mp d1).2,r4 rfl,fun x hx y hy e=>?_⟩,fun j hj b hb=>?_,fun b hb=>?_⟩;subst e;exact I.ne (j:=i) (by rw [hA];exact .tail _ hx) (hn x hy);rcases Ae.mp hb with z | z;exact d2 j hj b (.tail _ z);exact fun w=>I.ne w (hn b z);rcases Ae.mp hb with z | z;exact d3 b (.tail _ z);exact I.same.free (hn b z)
      obtain ⟨A',I'⟩:=I1.write (Γ':=Γ) (Δ':=Δ) hi hA hl s1 ((r1.same g1).app (RpA.one r2)) w1 (fun z=>(Ae.mp z).elim ta haB) w2 w3 w4;exact q _ _ A' I'
    exact q.elim
  exact p.elim
def BOk (K:AC)(C:String->Addr)(Γ Δ:List Nat)(g:TG)(b:FB):Prop:=∀(H0 Hb H:Hp) (σ:St) (ρ:DEnv) (A:Nat->List Addr) (d:D) (v:V) (B:List Addr) (Rr:St->Hp->Prop),EnvOk K C H0 Hb H Γ Δ σ ρ A->Rp K C H d v B->(∀a∈B,Hb a≠none)->
 Post (b d ρ) (fun ρ'=>∀σ' A',EnvOk K C H0 Hb H Γ Δ σ' ρ' A'->Rr σ' H) (fun _ _=>False)->g v σ H Rr
def BsOk (K:AC)(C:String->Addr)(Γ Δ:List Nat)(g:TGs)(b:List D->DEnv->R DEnv):Prop:=∀(H0 Hb H:Hp) (σ:St) (ρ:DEnv) (A:Nat->List Addr) (d:List D) (v:List V) (B:List Addr) (Rr:St->Hp->Prop),EnvOk K C H0 Hb H Γ Δ σ ρ A->RpA K C H d v B->(∀a∈B,Hb a≠none)->
 Post (b d ρ) (fun ρ'=>∀σ' A',EnvOk K C H0 Hb H Γ Δ σ' ρ' A'->Rr σ' H) (fun _ _=>False)->g v σ H Rr
theorem bok_name (h1:i∉Γ:=by decide)(h2:i∉Δ:=by decide):BOk K C Γ Δ (gName i) (Dl.bName i):=fun H0 Hb H σ ρ A d v B Rr I r hB p=>by obtain ⟨A',I',_⟩:=I.put (Γ':=Γ) (Δ':=Δ) (i:=i) r (fun j hj e=>⟨hj,fun a l e' ha=>hB a ha (I.top j hj a l e').1⟩) (fun hj=>absurd hj h1) (fun j hj e=>⟨hj,fun a ha hb=>hB a hb ((I.deep j hj).2.2 a ha)⟩) (fun hj=>absurd hj h2);exact p _ A' I'
def ownAt (A:Nat->List Addr)(Γ Δ:List Nat):List Addr:=Γ.flatMap (fun i=>(A i).take 1)++Δ.flatMap A
theorem mem_own (h:a∈ownAt A Γ Δ):(∃i∈Γ,∃l,A i=a::l)\/∃i∈Δ,a∈A i:=by
 rcases Ae.mp h with h | h;obtain ⟨i,hi,h⟩:=CT.mp h;left;refine ⟨i,hi,?_⟩;cases e:A i with
 | nil=>rw [e] at h;cases h
 | cons b l =>rw [e] at h;simp only [List.take_succ_cons,List.take_zero,As] at h;rw [h];exact ⟨l,rfl⟩
 obtain ⟨i,hi,h⟩:=CT.mp h;exact .inr ⟨i,hi,h⟩
theorem own_top (hi:i∈Γ)(e:A i=a::l):a∈ownAt A Γ Δ:=Am _ (CT.mpr ⟨i,hi,by rw [e];simp⟩)
theorem own_deep (hi:i∈Δ)(h:a∈A i):a∈ownAt A Γ Δ:=Aj _ (CT.mpr ⟨i,hi,h⟩)
theorem forD_split (b:FB)(s:FS)(xs:List D){x:D}(h:xs[i]?=some x)(ρ:DEnv):Dl.forD b s (xs.drop i) ρ=(b x ρ).calm.bind fun ρ1=>(s ρ1).bind fun fl=>match fl with
  | .nx ρ2=>Dl.forD b s (xs.drop (i+1)) ρ2
  | .cnt ρ2=>Dl.forD b s (xs.drop (i+1)) ρ2
  | .brk ρ2=>.ok (.nx ρ2)
  | .ret d=>.ok (.ret d):=by
 obtain ⟨hi,rfl⟩:=Ad.mp h;rw [BF hi];rfl
theorem sok_for {g:TG}{tb:TS}{fb:FB}{fs:FS}(hi:IOk K C E Γ Δ S wi fi)(hb:BOk K C Γl Δl g fb)(hs:SOk K C E mr Γl Δl Γl Δl Γl Δl tb fs)
    (h1:∀i∈Γl,i∈Γ:=by decide) (h2:∀i∈Δl,i∈Δ:=by decide) (h3:∀p∈S,p.1∉Γl/\p.1∉Δl:=by decide):SOk K C E mr Γk Δk Γ Δ Γl Δl (tFor wi g tb) (Dl.sFor fi fb fs):=fun H0 Hb H σ ρ A D I p=>by
  refine hi H0 Hb H σ ρ A _ I (Post.imp (Post.bind p) (fun ds q J H1 W g1 hW hlen hJ=>?_) fun c x q H' g'=>q H' (Same.from0 I g'));have I1:=(I.mono g1).weak h1 h2;have hlst:∀a∈ownAt A Γl Δl,∃o,H1 a=some o/\IsM o:=fun a ha=>by rcases mem_own ha with ⟨i,_,l,e⟩ | ⟨i,_,e⟩;exact I1.is (j:=i) (by rw [e];exact .head _);exact I1.is e
  have hbn:∀a∈ownAt A Γl Δl,Hb a=none:=fun a ha=>by rcases mem_own ha with ⟨i,hi,l,e⟩ | ⟨i,hi,e⟩;exact (I1.top i hi a l e).1;exact (I1.deep i hi).2.2 a e
  have hout:∀a∈W,a∉ownAt A Γl Δl:=fun a ha ho=>by rcases (hW a ha).2 with z | z;rcases mem_own ho with ⟨i,hi,l,e⟩ | ⟨i,hi,e⟩;exact I.ne (j:=i) (by rw [e];exact .head _) z;exact I.ne e z;rcases mem_own ho with ⟨i,hi,l,e⟩ | ⟨i,hi,e⟩;exact I1.top_out hi (fun h=>(h3 _ h).1 hi) e z;exact I1.deep_out hi (fun p hp e'=>(h3 p hp).2 (by rw [e'];exact hi)) e z
  let Hc:Hp:=fun b=>if b∈ownAt A Γl Δl then none else H1 b
  have c1:Same Hc H1:=fun b o h=>by show H1 b=some o;have h:(if b∈ownAt A Γl Δl then none else H1 b)=some o:=h;split at h;cases h;exact h
  have c2:Same Hb Hc:=fun b o h=>by show (if b∈ownAt A Γl Δl then none else H1 b)=some o;rw [if_neg fun ho=>by rw [hbn b ho] at h;cases h];exact I1.same b o h
  have c3:∀a,a∉ownAt A Γl Δl->Hc a=H1 a:=fun a ha=>if_neg ha;have c4:∀a∈ownAt A Γl Δl,Hc a=none:=fun a ha=>if_pos ha;have I2:EnvOk K C H0 Hc H1 Γl Δl σ ρ A:=⟨I1.s0.trans c2,c1,I1.len,I1.rep,I1.nil,I1.loc,fun i hi a l e=>⟨c4 a (own_top hi e),(I1.top i hi a l e).2⟩,fun i hi=>⟨(I1.deep i hi).1,(I1.deep i hi).2.1,fun a ha=>c4 a (own_deep hi ha)⟩⟩;have back:∀{σ':St} {ρ':DEnv} {H':Hp} {A':Nat->List Addr},EnvOk K C H0 Hc H' Γl Δl σ' ρ' A'->EnvOk K C H0 Hb H' Γl Δl σ' ρ' A':=fun I' =>
    ⟨I1.s0,c2.trans I'.same,I'.len,I'.rep,I'.nil,I'.loc,fun i hi a l e=>⟨c2.free (I'.top i hi a l e).1,(I'.top i hi a l e).2⟩,fun i hi=>⟨(I'.deep i hi).1,(I'.deep i hi).2.1,fun a ha=>c2.free ((I'.deep i hi).2.2 a ha)⟩⟩
  have go:Goes K C J ds Hc:=hJ Hc ⟨fun a ha=>c3 a (hout a ha),fun b o h hn=>(c3 b fun ho=>by
    obtain ⟨xs,e,hm⟩:=hlst b ho;rw [e] at h;cases h;exact hn hm).trans h⟩
  refine for_gen go (fun k σ' H'=>∃ρ' A',EnvOk K C H0 Hc H' Γl Δl σ' ρ' A'/\PostS K C E mr Γk Δk Γl Δl H0 Hb D (Dl.forD fb fs (ds.drop k) ρ')) ⟨ρ,A,I2,q⟩ (fun _ _ _ ⟨_,_,I',_⟩=>I'.same) ?_ ?_;rintro k d x Bx σ' Ha H' hd ⟨ρ',A',Ia,pq⟩ ga rx hBx;have I':=Ia.mono ga;rw [forD_split _ _ _ hd] at pq;have pq':=calm_of (Post.bind pq);refine hb H0 Hc H' σ' ρ' A' d x Bx _ I' rx hBx (Post.imp pq' (fun ρ1 pq σ1 A1 I1'=>?_) fun _ _ z=>z);refine hs H0 Hc H' σ1 ρ1 A1 _ I1' (Post.imp (Post.bind pq) (fun fl pq=>?_) fun _ _ z=>z);cases fl with
  | nx ρ2=>exact fun σ2 H2 A2 I2'=>⟨ρ2,A2,I2',pq⟩
  | cnt ρ2=>exact fun σ2 H2 A2 I2'=>⟨ρ2,A2,I2',pq⟩
  | brk ρ2=>exact fun σ2 H2 A2 I2'=>pq σ2 H2 A2 (back I2')
  | ret d=>exact pq
  rintro σ' H' ⟨ρ',A',I',pq⟩;rw [FH] at pq;exact pq σ' H' A' (back I')
theorem start_env (r:RpA K C H ds vs B):∃A,EnvOk K C H H H [] [] (vs.map some++Aa (N - vs.length) none) (ds.map some++Aa (N - ds.length) none) A:=by
 have hl:=r.len;have key:∀{ds:List D} {vs:List V} {B:List Addr},RpA K C H ds vs B->∃A:Nat->List Addr,(∀(i:Nat) d,ds[i]?=some d->∃v,vs[i]?=some v/\Rp K C H d v (A i))/\∀i,ds.length<=i->A i=[]:=by
  intro ds
  induction ds with
  | nil=>intro vs B r;exact ⟨fun _=>[],fun i d h=>by simp at h,fun _ _=>rfl⟩
  | cons d ds ih =>
   intro vs B r;obtain ⟨x,l,B1,B2,e1,e2,e3,e4⟩:=r;obtain ⟨A,h1,h2⟩:=ih e3;subst e1;refine ⟨fun i=>match i with | 0=>B1 | i+1=>A i,fun i d' h=>?_,fun i h=>?_⟩;cases i with
   | zero=>simp at h;subst h;exact ⟨x,rfl,e2⟩
   | succ i=>simp at h;obtain ⟨v,q1,q2⟩:=h1 i d' h;exact ⟨v,by simpa using q1,q2⟩
   cases i with
   | zero=>simp at h
   | succ i=>exact h2 i (by simpa using h)
 obtain ⟨A,h1,h2⟩:=key r;refine ⟨A,Same.refl _,Same.refl _,by simp [hl],fun i d h=>?_,fun i h=>?_,(fun _ h=>nomatch h),(fun _ h=>nomatch h),(fun _ h=>nomatch h)⟩;by_cases hi:i<ds.length;rw [AE (by simpa using hi),Bg] at h;obtain ⟨d',hd,e⟩:=AF.mp h;cases e;obtain ⟨v,q1,q2⟩:=h1 i d hd;refine ⟨v,?_,q2⟩;rw [AE (by simp [hl,hi]),Bg,q1];rfl;rw [Bk (by simpa using hi)] at h;have:=BB h;rw [C4] at this;exact absurd this.2 (by intro z;cases z);by_cases hi:i<ds.length;exact absurd (by rw [AE (by simpa using hi),Bg,AA hi];rfl) (h ds[i]);exact h2 i (by omega)
theorem run_post {t:TS}{f:FS}(h:SOk K C E mr [] [] [] [] Γ' Δ' t f)(r:RpA K C H ds vs B)
  (p:Post (Dl.run N f ds) (fun d=>∀v H',Same H H'->Res K C mr [] H (fun _=>[]) d v H'->Q v H') (fun c x=>∀H',Same H H'->EC C E c x H')) :
  t {nx:=fun _ H'=>Q .non H',rt:=Q} (vs.map some++Aa (N - vs.length) none) H:=by
 obtain ⟨A,I⟩:=start_env (N:=N) r;refine h H H H _ _ A _ I (Post.imp (Post.bind p) (fun fl q=>?_) fun _ _ q=>q);cases fl with
 | nx ρ'=>exact fun σ' H' A' I'=>q _ H' I'.same (Res.flat ⟨rfl,rfl⟩)
 | ret d=>exact q
 | brk _=>exact q.elim
 | cnt _=>exact q.elim
end
structure JE (X:Cx)(C:String->Addr)(E:XK)(Γ Δ:List Nat)(m:Nat)(S:List (Nat×Bool))(e:Expr)(t:TE)(f:FE):Prop where
 q:QE X e t
 o:EOk X.K C E Γ Δ m S t f
structure JT (X:Cx)(C:String->Addr)(E:XK)(Γ Δ:List Nat)(e:Expr)(t:TT)(f:FT):Prop where
 q:QT X e t
 o:TOk X.K C E Γ Δ t f
structure JW (X:Cx)(C:String->Addr)(E:XK)(Γ Δ:List Nat)(e:Expr)(t:TT)(f:FT):Prop where
 q:QW X e t
 o:TOk X.K C E Γ Δ t f
structure JA (X:Cx)(C:String->Addr)(E:XK)(Γ Δ:List Nat)(m:Nat)(S:List (Nat×Bool))(e:List Expr)(n:Nat)(t:TA)(f:FA):Prop where
 q:QA X e t
 o:AOk X.K C E Γ Δ m S t f
 n:∀ρ ds,f ρ=.ok ds->ds.length=n
structure JO (X:Cx)(C:String->Addr)(E:XK)(Γ Δ:List Nat)(e:Option Expr)(t:TO)(f:FO):Prop where
 q:QO X e t
 o:OOk X.K C E Γ Δ t f
structure JI (X:Cx)(C:String->Addr)(E:XK)(Γ Δ:List Nat)(S:List (Nat×Bool))(tg e:Expr)(t:TI)(f:FI):Prop where
 q:QI X tg e t
 o:IOk X.K C E Γ Δ S t f
structure JG (X:Cx)(C:String->Addr)(Γ Δ:List Nat)(e:Expr)(t:TG)(f:FB):Prop where
 q:QG X e t
 o:BOk X.K C Γ Δ t f
structure JGs (X:Cx)(C:String->Addr)(Γ Δ:List Nat)(es:List Expr)(n:Nat)(t:TGs)(f:List D->DEnv->R DEnv):Prop where
 q:QGs X es t
 o:BsOk X.K C Γ Δ t f
 n:∀ds ρ ρ',f ds ρ=.ok ρ'->ds.length=n
structure JS (X:Cx)(C:String->Addr)(E:XK)(mr:Nat)(Γl Δl Γ Δ Γ' Δ':List Nat)(s:Stmt)(t:TS)(f:FS):Prop where
 q:QS X s t
 o:SOk X.K C E mr Γl Δl Γ Δ Γ' Δ' t f
structure JSs (X:Cx)(C:String->Addr)(E:XK)(mr:Nat)(Γl Δl Γ Δ Γ' Δ':List Nat)(s:List Stmt)(t:TS)(f:FS):Prop where
 q:QSs X s t
 o:SOk X.K C E mr Γl Δl Γ Δ Γ' Δ' t f
structure JIf (X:Cx)(C:String->Addr)(E:XK)(Γ Δ:List Nat)(e:List Expr)(t:TT)(f:FT):Prop where
 q:QIf X e t
 o:TOk X.K C E Γ Δ t f
section
variable {S:List (Nat×Bool)}{a c:Expr}{rest:List Expr}{tc:TE}{fs:FE}
theorem ce_int {i:Int}:JE X C E Γ Δ 2 [] (.Constant (.int i) j pos) (tC (.int i)) (Dl.fC (.int i)):=⟨qe_int,eok_c fun _=>rpI⟩
theorem ce_bl {i:Bool}:JE X C E Γ Δ 2 [] (.Constant (.bool i) j pos) (tC (.bl i)) (Dl.fC (.bl i)):=⟨qe_bl,eok_c fun _=>rpB⟩
theorem ce_str (h:BZ x=true:=by decide +kernel):JE X C E Γ Δ 2 [] (.Constant (.str x) j pos) (tC (.str x)) (Dl.fC (.str x)):=⟨qe_str,eok_c fun _=>⟨rfl,h,rfl⟩⟩
theorem ce_v (i:Nat)(hN:X.N[i]?=some x:=by rfl)(hv:autoParam (Vis X.env.scope x) aT3._auto_1)(hd:(x==("__debug__":Str))=false:=by decide)
  (hcd:(x==("__classdict__":Str))=false:=by decide):JE X C E Γ Δ 0 [(i,false)] (.Name x pos) (tVar i) (Dl.fV i):=⟨qv i hN hv hd hcd,eok_v⟩
theorem ce_vd (i:Nat)(hi:i∈Δ:=by decide)(hN:X.N[i]?=some x:=by rfl)(hv:autoParam (Vis X.env.scope x) aT3._auto_1)(hd:(x==("__debug__":Str))=false:=by decide)
  (hcd:(x==("__classdict__":Str))=false:=by decide):JE X C E Γ Δ 2 [(i,false)] (.Name x pos) (tVar i) (Dl.fV i):=⟨qv i hN hv hd hcd,eok_vd hi⟩
theorem ce_flat (h:JE X C E Γ Δ m S e te fe):JE X C E Γ Δ 2 [] e te (Dl.f1 Dl.gFlat fe):=⟨h.q,eok_flat h.o⟩
theorem ce_op {r:R2}{g:D->D->Option D}(ho:OpR X (BX op) r)(hg:GOk X.K C r g)(ha:JE X C E Γ Δ m1 S1 a ta fa)(hb:JE X C E Γ Δ m2 S2 b tb fb):JE X C E Γ Δ 2 [] (.BinOp a op b pos) (tOp r ta tb) (Dl.f2 g fa fb):=⟨qe_op ho ha.q hb.q,eok_op hg ha.o hb.o⟩
theorem ce_neg (ha:JE X C E Γ Δ m1 S1 a ta fa):JE X C E Γ Δ 2 [] (.UnaryOp .USub a pos) (tUn (rU fun i=>.int (-i)) ta) (Dl.f1 Dl.gNeg fa):=⟨qe_un un_neg ha.q,eok_un (fun H x d vx Bx Q r e q=>by
  unfold Dl.gNeg at e;split at e;cases e;obtain ⟨rfl,_⟩:=r;exact rd_U (Out.flat q rpI)
  · cases e) ha.o⟩
theorem ct_cmp {op:Hr}{r:R2}{g:D->D->Option D}(ho:OpR X (BH op) r)(hg:GOk X.K C r g)(ha:JE X C E Γ Δ m1 S1 a ta fa)(hb:JE X C E Γ Δ m2 S2 b tb fb)(hm:C5 op b=false):JT X C E Γ Δ (.Compare a [op] [b] pos) (tTest (tOp r ta tb)) (Dl.cE (Dl.f2 g fa fb)):=⟨qt_cmpR ho ha.q hb.q hm,tok_test (eok_op hg ha.o hb.o)⟩
theorem ce_one {op:BoolOp}(h:JE X C E Γ Δ m S a ta fa):JE X C E Γ Δ m S (.BoolOp op [a] pos) ta fa:=⟨qe_one h.q,h.o⟩
theorem ce_and (ha:JE X C E Γ Δ m1 S1 a ta fa)(hb:JE X C E Γ Δ m S (.BoolOp .And (b::rest) pos) tb fb):JE X C E Γ Δ m S (.BoolOp .And (a::b::rest) pos) (tAndV ta tb) (Dl.fAnd fa fb):=⟨qe_and ha.q hb.q,eok_and ha.o hb.o⟩
theorem ce_not (ha:JE X C E Γ Δ m1 S1 a ta fa):JE X C E Γ Δ 2 [] (.UnaryOp .Not a pos) (tNotV ta) (Dl.f1 Dl.gNot fa):=⟨qe_not ha.q,eok_not ha.o⟩
theorem ct_val (h:JE X C E Γ Δ m S e te fe)(he:∀whole,isTrue e X.env whole=(do let v <- whole;B5 e.pos;BA [v] (truthy v)):=by intro _;rfl):JT X C E Γ Δ e (tB te) (Dl.cE fe):=⟨qt_val h.q he,tok_B h.o⟩
theorem ct_not {fA:FT}(ha:JT X C E Γ Δ a tA fA):JT X C E Γ Δ (.UnaryOp .Not a pos) (tNot tA) (Dl.cNot fA):=⟨qt_not ha.q,tok_not ha.o⟩
theorem cw_or1 {fA:FT}(ha:JT X C E Γ Δ a tA fA):JW X C E Γ Δ (.BoolOp .Or [a] pos) tA fA:=⟨qw_or1 ha.q,ha.o⟩
theorem cw_or {tB':TT}{fA fB:FT}(ha:JT X C E Γ Δ a tA fA)(hb:JW X C E Γ Δ (.BoolOp .Or (b::rest) pos) tB' fB):JW X C E Γ Δ (.BoolOp .Or (a::b::rest) pos) (tOr tA tB') (Dl.cOr fA fB):=⟨qw_or ha.q hb.q,tok_or ha.o hb.o⟩
theorem ct_w {fA:FT}(h:JW X C E Γ Δ a tA fA):JT X C E Γ Δ a tA fA:=⟨qt_w h.q,h.o⟩
theorem ca_nil:JA X C E Γ Δ 2 [] [] 0 tNil Dl.aNil:=⟨qa_nil,aok_nil,len_nil⟩
theorem ca_cons (ha:JE X C E Γ Δ m1 S1 e te fe)(hr:JA X C E Γ Δ m2 S2 es n t f)(hs:Ab (e::es) X.env=(false,Ar e X.env)::Ab es X.env):JA X C E Γ Δ 0 (S1++S2) (e::es) (n+1) (tCons te t) (Dl.aCons fe f):=⟨qa_cons ha.q hr.q hs,aok_cons ha.o hr.o,len_cons hr.n⟩
theorem ca_cons2 (ha:JE X C E Γ Δ 2 [] e te fe)(hr:JA X C E Γ Δ 2 [] es n t f)(hs:Ab (e::es) X.env=(false,Ar e X.env)::Ab es X.env):JA X C E Γ Δ 2 [] (e::es) (n+1) (tCons te t) (Dl.aCons fe f):=⟨qa_cons ha.q hr.q hs,aok_consD (S1:=[]) (S2:=[]) ha.o hr.o (fun _ h=>nomatch h) (fun _ h=>nomatch h),len_cons hr.n⟩
theorem ce_tup (h:JA X C E Γ Δ 2 S es n t f):JE X C E Γ Δ 2 S (.Tuple es x1 pos) (tTup t) (Dl.fA Dl.gTup f):=⟨qe_tup h.q,eok_tup (.inr rfl) h.o⟩
theorem ce_tup0 (h:JA X C E Γ Δ 0 S es n t f):JE X C E Γ Δ 0 S (.Tuple es x1 pos) (tTup t) (Dl.fA Dl.gTup f):=⟨qe_tup h.q,eok_tup (.inl rfl) h.o⟩
theorem ce_lst (h:JA X C E Γ Δ 2 S es n t f):JE X C E Γ Δ 2 S (.List es pos) (tLst t) (Dl.fA Dl.gLst f):=⟨qe_lst h.q,eok_lst h.o⟩
theorem ce_lst1 (h:JA X C E Γ Δ m S es n t f):JE X C E Γ Δ 1 S (.List es pos) (tLst t) (Dl.fA Dl.gLst f):=⟨qe_lst h.q,eok_lst1 h.o⟩
theorem ce_ix (K:AC)(ha:JE X C E Γ Δ m1 S1 a ta fa)(hb:JE X C E Γ Δ m2 S2 b tb fb)(hs:PlainIx b)(hK:X.K=K:=by rfl):JE X C E Γ Δ 0 S1 (.Subscript a b pos) (tOp (rIx K) ta tb) (Dl.f2 Dl.gIx fa fb):=by subst hK;exact ⟨qe_ix ix_seq ha.q hb.q hs,eok_ix ha.o hb.o⟩
theorem co_none:JO X C E Γ Δ none tNoPart Dl.oNone:=⟨qo_none,ook_none⟩
theorem co_some (h:JE X C E Γ Δ m S e te fe):JO X C E Γ Δ (some e) (tPart te) (Dl.oSome fe):=⟨qo_some h.q,ook_some h.o⟩
theorem ce_sl (K:AC){lo:Option Expr}{th:TO}(he:JE X C E Γ Δ m S e te fe)(hl:JO X C E Γ Δ lo tl fl)(hu:JO X C E Γ Δ hi th fh)(hK:X.K=K:=by rfl):JE X C E Γ Δ 2 [] (.Subscript e (.Slice lo hi none p2) pos) (tSl (rSlL K) te tl th) (Dl.fSl Dl.gSl fe fl fh):=by subst hK;exact ⟨qe_slice sl_list he.q hl.q hu.q,eok_sl he.o hl.o hu.o⟩
theorem ce_call {k:Nat}(Df:Def X.prog X.w X.K X.mg X.base CX k x ps (spD K C n mr F))(hr:Room k X.A)(hg:Gl X x)(hx:Passes CX X E)
  (ha:JA X C E Γ Δ m S (e::es) n t f) (hdb:(x==("__debug__":Str))=false:=by decide) (he:Ab (e::es) X.env=(false,Ar e X.env)::Ab es X.env:=by rfl) (hpl:(AG pos (Ab es X.env)).any (·.1)=false:=by rfl) (hK:X.K=K:=by rfl) :
  JE X C E Γ Δ mr [] (.Call (.Name x p) (e::es) [] pos) (tCall (spD K C n mr F) [] E t) (Dl.fCall F f):=by
 subst hK;exact ⟨qe_callD Df hr hg hx ha.q hdb he hpl,eok_call ha.o ha.n⟩
theorem ce_callB {id:String}(hc:CallR X (.builtin id) r)(hgk:GAk X.K C r g)(hg:Gl X x)(hm:X.mg x=none)(hv:Bq x=some (.builtin id))(ha:JA X C E Γ Δ m S (e::es) n t f)(hn:x≠"__name__":=by decide)(hdb:(x==("__debug__":Str))=false:=by decide)
  (he:Ab (e::es) X.env=(false,Ar e X.env)::Ab es X.env:=by rfl) (hpl:(AG pos (Ab es X.env)).any (·.1)=false:=by rfl):JE X C E Γ Δ 2 [] (.Call (.Name x p) (e::es) [] pos) (tCB r t) (Dl.fA g f):=⟨qe_callB hc hg hm hv ha.q hn hdb he hpl,eok_cb hgk ha.o⟩
theorem ce_callTy (hc:CallR X (.type T) r)(hgk:GAk X.K C r g)(hg:Gl X x)(hm:X.mg x=none)(hv:Bq x=some (.type T))(ha:JA X C E Γ Δ m S (e::es) n t f)(hn:x≠"__name__":=by decide)(hdb:(x==("__debug__":Str))=false:=by decide)
  (he:Ab (e::es) X.env=(false,Ar e X.env)::Ab es X.env:=by rfl) (hpl:(AG pos (Ab es X.env)).any (·.1)=false:=by rfl):JE X C E Γ Δ 2 [] (.Call (.Name x p) (e::es) [] pos) (tCB r t) (Dl.fA g f):=⟨qe_callTy hc hg hm hv ha.q hn hdb he hpl,eok_cb hgk ha.o⟩
theorem ci_list (h:JE X C E Γ Δ m S e te fe):JI X C E Γ Δ S tg e (iList X.K te) (Dl.jList fe):=⟨qi_list h.q,iok_list h.o⟩
theorem ci_rng1 (hg:Gl X "range")(hm:X.mg "range"=none)(ha:JA X C E Γ Δ m S [a] n t f)(hs:Ab [a] X.env=[(false,Ar a X.env)]:=by rfl):JI X C E Γ Δ [] tg (.Call (.Name "range" p) [a] [] pos) (iRng1 t) (Dl.jRng1 f):=⟨qi_range1 hg hm ha.q hs,iok_rng1 ha.o⟩
theorem cg_name (h1:i∉Γ:=by decide)(h2:i∉Δ:=by decide)(hN:X.N.Nodup)(hi:X.N[i]?=some x)(hx:Loc X.env.scope x)(hf:autoParam (X.fn x=true\/X.env.scope.names.lookup x=some .local) aT0._auto_1):JG X C Γ Δ (.Name x pos) (gName i) (Dl.bName i):=⟨qg_name hN hi hx hf,bok_name h1 h2⟩
theorem cif_nil:JIf X C E Γ Δ [] tYes Dl.cYes:=⟨qif_nil,tok_yes⟩
structure JB (X:Cx)(C:String->Addr)(n k:Nat)(e:Expr)(t:TG)(f:FB):Prop where
 q:QG X e t
 o:NOk X.K C n k t f
structure JBs (X:Cx)(C:String->Addr)(n k:Nat)(es:List Expr)(l:Nat)(t:TGs)(f:List D->DEnv->R DEnv):Prop where
 q:QGs X es t
 o:NsOk X.K C n k t f
 n:∀ds ρ ρ',f ds ρ=.ok ρ'->ds.length=l
theorem cb_name {k:Nat}(i:Nat)(hN:X.N.Nodup:=by decide +kernel)(hi:X.N[i]?=some x:=by rfl)(hx:Loc X.env.scope x:=by exact .inl rfl)(hf:X.fn x=true\/X.env.scope.names.lookup x=some .local:=by exact .inr rfl)(h1:n<=i:=by decide)(h2:i<n+k:=by decide):JB X C n k (.Name x pos) (gName i) (Dl.bName i):=⟨qg_name hN hi hx hf,nok_name i h1 h2⟩
theorem ce_comp {tc:TT}{fc:FT}(esc:Scope)(N N2 xs:List Str)(B:BlkN sc esc xs N N2)(hi:JI X C E Γ Δ S tg iter wi fi)(hg:∀cl C' s0 H0 fp,JB (X.blkN N2 xs sc cl C' s0 H0 fp) C n xs.length tg gg fg)(ht:∀cl C' s0 H0 fp,JIf (X.blkN N2 xs sc cl C' s0 H0 fp) C E0 [] [] ifs tc fc)(he:∀cl C' s0 H0 fp,JE (X.blkN N2 xs sc cl C' s0 H0 fp) C E0 [] [] 2 [] elt te fe)
  (hesc:X.env.scope=esc:=by rfl) (hN:X.N=N:=by rfl) (hc:X.calm=true:=by rfl) (hs:∀v,AV iter X.env v=pure v:=by intro _;rfl):JE X C E Γ Δ 2 [] (.ListComp elt [⟨tg,iter,ifs,0⟩] sc pos) (tCompN xs.length gg wi tc te) (Dl.fComp n xs.length fi fg fc fe):=
 ⟨qe_compN esc N N2 xs B hi.q (fun cl C' s0 H0 fp=>(hg cl C' s0 H0 fp).q) (fun cl C' s0 H0 fp=>(ht cl C' s0 H0 fp).q) (fun cl C' s0 H0 fp=>(he cl C' s0 H0 fp).q) hesc hN hc hs,eok_comp hi.o (hg [] 0 X.s₀ X.H₀ []).o (ht [] 0 X.s₀ X.H₀ []).o (he [] 0 X.s₀ X.H₀ []).o⟩
variable {other:List Stmt}{v:TS}{g h:FS}
theorem css_nil:JSs X C E mr Γl Δl Γ Δ Γ Δ [] tNext Dl.sNx:=⟨qss_nil,sok_nx⟩
theorem css_cons (Γ1 Δ1:List Nat)(h1:JS X C E mr Γl Δl Γ Δ Γ1 Δ1 s1 u g)(h2:JSs X C E mr Γl Δl Γ1 Δ1 Γ' Δ' ss v h):JSs X C E mr Γl Δl Γ Δ Γ' Δ' (s1::ss) (tSeq u v) (Dl.sSeq g h):=⟨qss_cons h1.q h2.q,sok_seq h1.o h2.o⟩
theorem css_one (h1:JS X C E mr Γl Δl Γ Δ Γ' Δ' s1 u g):JSs X C E mr Γl Δl Γ Δ Γ' Δ' [s1] u g:=⟨qss_one h1.q,h1.o⟩
theorem css_weak (Γ1 Δ1:List Nat)(h:JSs X C E mr Γl Δl Γ Δ Γ1 Δ1 ss u g)(h1:∀i∈Γ',i∈Γ1:=by decide)(h2:∀i∈Δ',i∈Δ1:=by decide):JSs X C E mr Γl Δl Γ Δ Γ' Δ' ss u g:=⟨h.q,sok_weak h.o h1 h2⟩
theorem cs_never:JS X C E mr Γl Δl Γ Δ Γ' Δ' s1 tNever Dl.sNever:=⟨qs_never,sok_never⟩
theorem cs_ret (he:JE X C E Γ Δ 2 S e te fe)(h0:∀p∈S,p.1∈Δ:=by decide):JS X C E 2 Γl Δl Γ Δ Γ' Δ' (.Return (some e) pos) (tRet te) (Dl.sRet fe):=⟨qs_ret he.q,sok_ret2 he.o h0⟩
theorem cs_if {fA:FT}(hc:JT X C E Γ Δ c tA fA)(ha:JSs X C E mr Γl Δl Γ Δ Γ' Δ' body u g)(hb:JSs X C E mr Γl Δl Γ Δ Γ' Δ' other v h):JS X C E mr Γl Δl Γ Δ Γ' Δ' (.If c body other pos) (tIfS tA u v) (Dl.sIf fA g h):=⟨qs_if hc.q ha.q hb.q,sok_if hc.o ha.o hb.o⟩
theorem cs_set (hN:X.N.Nodup)(hi:X.N[i]?=some x)(hx:Loc X.env.scope x)(he:JE X C E Γ Δ 2 [] e te fe)(hs:A8 e (some (.Name x pos')) pos.line X.env=pure false:=by rfl)(hf:autoParam (X.fn x=true\/X.env.scope.names.lookup x=some .local) aT0._auto_1)
  (h1:∀j∈Γ',j=i\/j∈Γ:=by decide) (h2:∀j∈Δ',j=i\/j∈Δ:=by decide):JS X C E mr Γl Δl Γ Δ Γ' Δ' (.Assign [.Name x pos'] e pos) (tAsg te (gName i)) (Dl.sSet i fe):=⟨qs_set hN hi hx he.q hs hf,sok_set2 he.o h1 h2⟩
theorem cs_setC {py spos:Pos}{tc:TT}{fc:FT}(esc:Scope)(N N2 xs:List Str)(B:BlkN sc esc xs N N2)(hy:N[i]?=some y)(hl:esc.names.lookup y=some .local)(hi:JI X C E Γ Δ S tg iter wi fi)(hg:∀cl C' s0 H0 fp,JB (X.blkN N2 xs sc cl C' s0 H0 fp) C n xs.length tg gg fg)(ht:∀cl C' s0 H0 fp,JIf (X.blkN N2 xs sc cl C' s0 H0 fp) C E0 [] [] ifs tc fc)(he:∀cl C' s0 H0 fp,JE (X.blkN N2 xs sc cl C' s0 H0 fp) C E0 [] [] 2 [] elt te fe)
  (hesc:X.env.scope=esc:=by rfl) (hN:X.N=N:=by rfl) (hc:X.calm=true:=by rfl) (hsw:A8 (.ListComp elt [⟨tg,iter,ifs,0⟩] sc pos) (some (.Name y py)) spos.line X.env=pure true:=by rfl) (hs:∀v,AV iter X.env v=pure v:=by intro _;rfl)
  (h1:∀j∈Γ',j=i\/j∈Γ:=by decide) (h2:∀j∈Δ',j=i\/j∈Δ:=by decide):JS X C E mr Γl Δl Γ Δ Γ' Δ' (.Assign [.Name y py] (.ListComp elt [⟨tg,iter,ifs,0⟩] sc pos) spos) (tAsg (tCompN xs.length gg wi tc te) (gName i)) (Dl.sSet i (Dl.fComp n xs.length fi fg fc fe)):=
 ⟨qs_compN esc N N2 xs B hy hl hi.q (fun cl C' s0 H0 fp=>(hg cl C' s0 H0 fp).q) (fun cl C' s0 H0 fp=>(ht cl C' s0 H0 fp).q) (fun cl C' s0 H0 fp=>(he cl C' s0 H0 fp).q) hesc hN hc hsw hs,sok_set2 (eok_comp hi.o (hg [] 0 X.s₀ X.H₀ []).o (ht [] 0 X.s₀ X.H₀ []).o (he [] 0 X.s₀ X.H₀ []).o) h1 h2⟩
theorem cs_app (hi:i∈Γ:=by decide)(hN:X.N[i]?=some x:=by rfl)(hv:autoParam (Vis X.env.scope x) aT3._auto_1)(hd:(x==("__debug__":Str))=false:=by decide)(hcd:(x==("__classdict__":Str))=false:=by decide)
  (he:JE X C E Γ Δ 2 [] e te fe) (hse:Ab [e] X.env=(false,Ar e X.env)::Ab [] X.env)
  (hbase:AS (.Name x p) "append" X.env (Ar (.Name x p) X.env)=Ar (.Name x p) X.env:=by rfl)
  (hfew:((AG cpos (Ab [e] X.env)).all (fun x=>!x.1)&&(BC cpos (AU [] X.env)).all (fun x=>x.1.isSome)&&decide (([e]:List Expr).length+([]:List BO).length+(if ([]:List BO).isEmpty then 0 else 1)<30))=true:=by rfl)
  (hline:(apos.endLine==cpos.line)=true:=by rfl) (hplain:(AG cpos (Ab ([]:List Expr) X.env)).any (·.1)=false:=by rfl) (hsw:A8 (.Call (.Attribute (.Name x p) "append" apos) [e] [] cpos) none pos.line X.env=pure false:=by rfl) :
  JS X C E mr Γl Δl Γ Δ Γ Δ (.Expr (.Call (.Attribute (.Name x p) "append" apos) [e] [] cpos) pos) (tDrop (tBM X.K "list" rAppend (tVar i) (tCons te tNil))) (Dl.sApp i fe):=
 ⟨qs_expr (qe_bm PySem.F.plainAttrs_list PySem.F.slot_list_append PySem.F.type_list_append mt_append (qv i hN hv hd hcd) (qa_cons he.q qa_nil hse) hbase hfew hline hse hplain) hsw,sok_app2 hi he.o⟩
theorem cs_for {tt:TG}{fb:FB}(Γl Δl:List Nat)(hp:GG (Ai X.prog X.w) X.A X.env X.xe)(hc:X.calm=true)(hi:JI X C E Γ Δ S tg iter wi fi)(hg:JG X C Γl Δl tg tt fb)(hb:JSs X C E mr Γl Δl Γl Δl Γl Δl body u g)(hs:∀x,AV iter X.env x=pure x:=by intro _;rfl)
  (h1:∀i∈Γl,i∈Γ:=by decide) (h2:∀i∈Δl,i∈Δ:=by decide) (h3:∀p∈S,p.1∉Γl/\p.1∉Δl:=by decide):JS X C E mr Γk Δk Γ Δ Γl Δl (.For tg iter body [] pos) (tFor wi tt u) (Dl.sFor fi fb g):=⟨qs_for hp hc hi.q hg.q hb.q hs,sok_for hi.o hg.o hb.o h1 h2 h3⟩
end
theorem Fun.okC {P:Ao}{base:AR}{st:Stmt}{f:Addr}{N:List Str}{k:Nat}{g:FS}(F:Fun K x qual st f fd)(S:FnScope N ps (defScope st))(hn:ps.length=n)
    (hbody:∀(cdv:Value) (A:AI) (outer:List Env) (s:Ac) (H:Hp) (E:XK),Room k (A.deeper (Cv qual (defScope st) s.heap.objs.size f cdv))->
      ∃t,JSs (cxOf CX0 P w K mg base N qual (defScope st) f cdv A outer s H E).nox C E0 mr [] [] [] [] Γ' Δ' (defBody st) t g):FnOk P w K mg base CX0 (k+1) f fd ps (spD K C n mr fun ds=>(Dl.run N.length g ds).calm):=
  F.okQ S (fun vs H Q E h=>by
    obtain ⟨ds,B,h1,h2,_⟩:=h;rw [h2.len,h1,hn]) fun cdv A outer s H vs Q E hr h=>by
    obtain ⟨ds,B,h1,h2,h3⟩:=h;obtain ⟨t,ht⟩:=hbody cdv A outer s H E hr;exact ⟨t,ht.q,run_post (K:=K) ht.o h2 (Post.imp (calm_of h3) (fun _ q=>q) fun _ _ z=>z.elim)⟩
section
variable {S:List (Nat×Bool)}
def Kit (c:String):Prop:=∀(K:AC) (d:D) (b:Bool),Dl.gIsI c d=some (.bl b)->DC K (.type (Dl.tyName d)) (.type c)=some b
theorem kit_int:Kit "int":=fun K d b h=>by cases d<;>cases h<;>rfl
theorem kit_bool:Kit "bool":=fun K d b h=>by cases d<;>cases h<;>rfl
theorem kit_list:Kit "list":=fun K d b h=>by cases d<;>cases h<;>rfl
theorem kit_tuple:Kit "tuple":=fun K d b h=>by cases d<;>cases h<;>rfl
theorem eok_isI (hk:Kit c)(ha:EOk K C E Γ Δ m S ta fa):EOk K C E Γ Δ 2 [] (tCB (rIsI K) (tCons ta (tCons (tC (.ty c)) tNil))) (Dl.f1 (Dl.gIsI c) fa):=fun H0 Hb H σ ρ A Q I p =>
  ha H0 Hb H σ ρ A _ I (p.bind.imp (fun x q v H1 g1 r=>by
    obtain ⟨d,e,q⟩:=oR_ok q;obtain ⟨B,r,_⟩:=r;have out:∀b t,d=.bl b->TyOf K H1 v t->t=.type (Dl.tyName x)->rIsI K [v,.ty c] H1 Q:=fun b t ed ty et=>by subst ed et;exact rd_isI ty (hk K x b e) (q _ H1 g1 (Res.flat rpB))
    show rIsI K [v,.ty c] H1 Q;cases x with
    | non=>cases e;exact out _ _ rfl (by rw [r.1];exact .non) rfl
    | bl b=>cases e;exact out _ _ rfl (by rw [r.1];exact .bl _) rfl
    | int i=>cases e;exact out _ _ rfl (by rw [r.1];exact .int _) rfl
    | str z=>cases e;exact out _ _ rfl (by rw [r.1];exact .str _) rfl
    | lst ds =>cases e;obtain ⟨a,xs,B,rfl,e2,_⟩:=r;exact out _ _ rfl (.lst e2) rfl
    | tup ds =>cases e;obtain ⟨a,xs,rfl,e2,_⟩:=r;exact out _ _ rfl (.tup e2) rfl
    | scr _=>cases e
    | rng _ _=>cases e
    | exc _ _=>cases e
    | obj _ _ _=>cases e
    | dct _ _=>cases e
    | dtt _ _=>cases e
    | flst _ =>cases e;obtain ⟨a,o,xs,rfl,e2,_⟩:=r;exact out _ _ rfl (.frz e2) rfl
    | fobj _ _ _=>cases e
    | fdk _ _=>cases e
    | fdt _ _=>cases e) fun c x q H' g'=>q H' g')
theorem EnvOk.rewrite {es:List D}(I:EnvOk K C H0 Hb H Γ Δ σ ρ A)(g1:Same H H1)(hi:i∈Γ)(hA:A i=a::l)(hl:i<ρ.length)(s1:σ[i]?=some (some (.ref a)))(r:RpA K C H1 es ys B')
    (hB:∀b∈B',b∈l\/H b=none) (hD:i∈Δ->B'.Nodup):∃A',EnvOk K C H0 Hb (upd H1 a (.lst ys)) Γ Δ σ (ρ.set i (some (.lst es))) A':=by
  obtain ⟨tb,ta,tt⟩:=I.top i hi a l hA;have ha:a∈A i:=by rw [hA];exact .head _
  have w1:∀b∈B',H0 b=none:=fun b hb=>(hB b hb).elim (fun z=>I.loc i hi b (by rw [hA];exact .tail _ z)) fun z=>I.s0.free (I.same.free z);have w0:a∉B':=fun z=>(hB a z).elim ta fun z=>I.ne ha z;have w2:∀j∈Γ,j≠i->j∈Γ/\∀b l',A j=b::l'->b∉B':=fun j hj e=>⟨hj,fun b l' e' z=>(hB b z).elim
    (fun z=>(I.top j hj b l' e').2.2 i (fun w=>e w.symm) (by rw [hA];exact .tail _ z)) fun z=>I.ne (j:=j) (by rw [e'];exact .head _) z⟩
  have w3:∀j∈Δ,j≠i->j∈Δ/\∀b∈A j,b∉B':=fun j hj e=>⟨hj,fun b hb z=>(hB b z).elim
    (fun z=>(I.deep j hj).2.1 i (fun w=>e w.symm) b hb (by rw [hA];exact .tail _ z)) fun z=>I.ne hb z⟩
  have w4:i∈Δ->B'.Nodup/\(∀j,j≠i->∀b∈B',b∉A j)/\∀b∈B',Hb b=none:=fun hd=>by obtain ⟨d1,d2,d3⟩:=I.deep i hd;rw [hA] at d2 d3;exact ⟨hD hd,fun j hj b hb=>(hB b hb).elim (fun z=>d2 j hj b (.tail _ z)) fun z w=>I.ne w z,fun b hb=>(hB b hb).elim (fun z=>d3 b (.tail _ z)) fun z=>I.same.free z⟩
  exact (I.mono g1).write (Γ':=Γ) (Δ':=Δ) hi hA hl s1 r w1 w0 w2 w3 w4
theorem RpA.set:∀{ds:List D} {vs:List V} {A:List Addr} {j:Nat} {d:D} {v:V},RpA K C H ds vs A->Rp K C H d v []->Dl.flatA ds=true->RpA K C H (ds.set j d) (vs.set j v) []
 | [],_,_,_,_,_,r,_,_=>by rw [r.1];exact RpA.nil
 | x::ds,_,_,0,d,v,r,q,h=>by obtain ⟨y,l,B,B',e1,e2,e3,e4⟩:=r;simp only [Dl.flatA,Aq] at h;subst e1;exact ⟨v,l,[],[],rfl,q,e3.flat' h.2,rfl⟩
 | x::ds,_,_,j+1,d,v,r,q,h=>by obtain ⟨y,l,B,B',e1,e2,e3,e4⟩:=r;simp only [Dl.flatA,Aq] at h;subst e1;have z:=e2.flat h.1;subst z;exact ⟨y,_,[],[],rfl,e2,RpA.set e3 q h.2,rfl⟩
theorem sok_put (hi:i∈Γ:=by decide)(he:EOk K C E Γ Δ m1 S1 te fe)(hk:EOk K C E Γ Δ m2 S2 tk fk):SOk K C E mr Γl Δl Γ Δ Γ Δ (tAsg te (gSub (tVar i) tk rSetL)) (Dl.sPut i fk fe):=fun H0 Hb H σ ρ A D I p=>by
 refine he H0 Hb H σ ρ A _ I (Post.imp (Post.bind p) (fun d q v H1 g1 r=>?_) fun c x q H' g'=>q H' (Same.from0 I g'));have I1:=I.mono g1;split at q;rename_i ds e;obtain ⟨a,xs,l,s1,h1,r1,hA,hl⟩:=slot_lst I1 e;refine ⟨.ref a,s1,hk H0 Hb H1 σ ρ A _ I1 (Post.imp (Post.bind q) (fun z q w H2 g2 rz=>?_) fun c x q H' g'=>q H' (Same.from0 I1 g'))⟩;obtain ⟨Bz,rz,_⟩:=rz;obtain ⟨B,rd,_⟩:=r;cases z with
 | int n =>obtain ⟨rfl,_⟩:=rz;simp only at q;split at q;rename_i hf;split at q;rename_i j ej;have zB:=rd.flat hf.1;subst zB;obtain ⟨A',I'⟩:=I1.rewrite g2 hi hA hl s1 (RpA.set (j:=j) (r1.same g2) (rd.same g2) hf.2) (fun _ hb=>nomatch hb) fun _=>Bw;exact ⟨a,xs,n,j,rfl,rfl,g2 _ _ h1,by rw [r1.len];exact ej,q _ _ A' I'⟩;exact q.elim;exact q.elim
 | _=>exact q.elim
 exact q.elim
def BsN (K:AC)(C:String->Addr)(Γ Δ Γ' Δ':List Nat)(g:TGs)(b:List D->DEnv->R DEnv):Prop:=∀(H0 Hb H:Hp) (σ:St) (ρ:DEnv) (A:Nat->List Addr) (d:List D) (v:List V) (B:List Addr) (Rr:St->Hp->Prop),EnvOk K C H0 Hb H Γ Δ σ ρ A->RpA K C H d v B->B.Nodup->(∀a∈B,Hb a=none/\∀j,a∉A j)->
 Post (b d ρ) (fun ρ'=>∀σ' A',EnvOk K C H0 Hb H Γ' Δ' σ' ρ' A'->Rr σ' H) (fun _ _=>False)->g v σ H Rr
variable {a c:Expr}{rest:List Expr}{tc:TE}{fs:FE}
theorem ce_isI (K:AC)(hk:Kit T)(hg:Gl X "isinstance")(hm:X.mg "isinstance"=none)(hgt:Gl X ty)(hmt:X.mg ty=none)(hvt:Bq ty=some (.type T))(ha:JE X C E Γ Δ m S e te fe)(hse:Ab (e::[.Name ty p2]) X.env=(false,Ar e X.env)::Ab [.Name ty p2] X.env)
  (hn:ty≠"__name__":=by decide) (hd:(ty==("__debug__":Str))=false:=by decide) (hpl:(AG pos (Ab [.Name ty p2] X.env)).any (·.1)=false:=by rfl) (hK:X.K=K:=by rfl) :
  JE X C E Γ Δ 2 [] (.Call (.Name "isinstance" p) [e,.Name ty p2] [] pos) (tCB (rIsI K) (tCons te (tCons (tC (.ty T)) tNil))) (Dl.f1 (Dl.gIsI T) fe):=by
 subst hK;exact ⟨qe_callB call_isinst hg hm Ds (qa_cons ha.q (qa_cons (qe_bltn (v:=.ty T) hgt hmt hvt rfl hn hd) qa_nil star_name) hse) (by decide) (by decide) hse hpl,eok_isI hk ha.o⟩
theorem cs_put (hi:i∈Γ:=by decide)(hN:X.N[i]?=some x:=by rfl)(hv:autoParam (Vis X.env.scope x) aT3._auto_1)(hd:(x==("__debug__":Str))=false:=by decide)(hcd:(x==("__classdict__":Str))=false:=by decide)
    (he:JE X C E Γ Δ m1 S1 e te fe) (hk:JE X C E Γ Δ m2 S2 kx tk fk) (hs:E2 [.Subscript (.Name x p) kx p2] e pos.line X.env=pure false:=by rfl) (hw:E3 [.Subscript (.Name x p) kx p2] e X.env=pure none:=by rfl) (h1:(EG [.Subscript (.Name x p) kx p2] X.env).map (·.2)=[C6 (.Subscript (.Name x p) kx p2) X.env]:=by rfl)
    (hq:∀v,C6 (.Subscript (.Name x p) kx p2) X.env v=(do
      let ov <- BA [v] (Ar (.Name x p) X.env)
      let iv <- BA [v,ov] (Ar kx X.env)
      B5 p2
      BA [v,ov,iv] (Fn ov iv v)
      release [v,ov,iv] []):=by intro _;rfl) :
    JS X C E mr Γl Δl Γ Δ Γ Δ (.Assign [.Subscript (.Name x p) kx p2] e pos) (tAsg te (gSub (tVar i) tk rSetL)) (Dl.sPut i fk fe):=⟨qs_asg he.q (qg_sub (qv i hN hv hd hcd) hk.q set_list hq) hs hw h1,sok_put hi he.o hk.o⟩
structure JN (X:Cx)(C:String->Addr)(Γ Δ Γ' Δ':List Nat)(es:List Expr)(n:Nat)(t:TGs)(f:List D->DEnv->R DEnv):Prop where
 q:QGs X es t
 o:BsN X.K C Γ Δ Γ' Δ' t f
 n:∀ds ρ ρ',f ds ρ=.ok ρ'->ds.length=n
theorem ce_glob {i:Int}{u:Value}(hg:Gl X x)(hm:X.mg x=some u)(r:RelV (.int i) u)(hd:(x==("__debug__":Str))=false:=by decide):JE X C E Γ Δ 2 [] (.Name x pos) (tC (.int i)) (Dl.fC (.int i)):=⟨qe_glob hg hm r hd,eok_c fun _=>rpI⟩
end
section
variable {S:List (Nat×Bool)}
theorem EnvOk.base (h:EnvOk K C Hb Hb H Γ Δ σ ρ A)(s:Same H0 Hb):EnvOk K C H0 Hb H Γ Δ σ ρ A:=⟨s,h.same,h.len,h.rep,h.nil,fun i hi a ha=>s.free (h.loc i hi a ha),h.top,h.deep⟩
theorem EnvOk.fresh (h:EnvOk K C H0 Hb H Γ Δ σ ρ A):EnvOk K C Hb Hb H [] [] σ ρ A:=⟨Same.refl _,h.same,h.len,h.rep,h.nil,fun _ hi=>(nomatch hi),fun _ hi=>(nomatch hi),fun _ hi=>(nomatch hi)⟩
theorem EnvOk.none {H0 Hb H:Hp}(s:Same H0 Hb)(g:Same Hb H)(N:Nat):EnvOk K C H0 Hb H Γ Δ (Aa N Be) (Aa N Be) (fun _=>[]):=
  ⟨s,g,by simp,(fun i d e=>by
      rw [Ce] at e;split at e<;>cases e),fun _ _=>rfl,fun _ _ a ha=>(nomatch ha),fun _ _ a r e=>(nomatch e),fun _ _=>⟨Bw,fun _ _ a ha=>(nomatch ha),fun a ha=>(nomatch ha)⟩⟩
theorem Same.upd {H:Hp}{e:Addr}{o:HO}(h:H e=Be):Same H (L2.upd H e o):=fun b o' hb=>by
 have:b≠e:=fun q=>by rw [q,h] at hb;cases hb
 rw [upd_ne this];exact hb
theorem FOk.same {x:Option Int}(h:FOk H c x dx)(g:Same H H'):FOk H' c x dx:=by
 cases x with
 | none=>trivial
 | some i=>obtain ⟨d,e1,e2⟩:=h;exact ⟨d,e1,g _ _ e2⟩
theorem EnvOk.caught {e:Addr}{x:Option Int}(s:Same H0 Hb)(g:Same Hb H)(hl:σ.length=N)(he:H e=some (exO e (.ref (C c)) dx))(hf:FOk H c x dx)(hi:i<N) :
    EnvOk K C H0 Hb H [] [] (σ.set i (some (.ref e))) ((Aa N Be).set i (some (.exc c x))) (fun _=>[]):=
  ⟨s,g,by simp [hl],(fun j d q=>by
      rw [Fy] at q;split at q;rename_i hj;subst hj;rw [if_pos (by simpa using hi)] at q;cases q;exact ⟨.ref e,by rw [Fy,if_pos rfl,if_pos (by omega)],e,dx,rfl,he,hf,rfl⟩
      · rw [Ce] at q;split at q<;>cases q),fun _ _=>rfl,fun _ hi=>(nomatch hi),fun _ hi=>(nomatch hi),fun _ hi=>(nomatch hi)⟩
theorem Res.base (s:Same H0 Hb)(r:Res K C m [] Hb (fun _=>[]) d v H'):Res K C m [] H0 (fun _=>[]) d v H':=by obtain ⟨B,r1,r2,r3,r4⟩:=r;exact ⟨B,r1,fun a ha=>(r2 a ha).imp s.free id,fun q a l e=>⟨s.free (r3 q a l e).1,(r3 q a l e).2⟩,r4⟩
theorem sok_try {tb:XK->TS}{fb fh:FS}{Eh:XK}(hb:∀E',SOk K C E' mr Γl Δl [] [] Γ1 Δ1 (tb E') fb)(hh:SOk K C Eh mr [] [] [] [] Γ2 Δ2 th fh)
  (hc:∀c∈cs,Ee K (.ref (C c)) (.ref c0)=some true) (hi:i<N):SOk K C E mr Γl Δl Γ Δ Γ1 Δ1 (tTry K (.ref c0) i N tb th) (Dl.sTry cs N i fb fh):=fun H0 Hb H σ ρ A D I p=>by
 refine ⟨fun cls dx H'=>Same Hb H'/\∃c x,cls=.ref (C c)/\FOk H' c x dx/\fb ρ=.err c x,?_,?_⟩;refine hb _ Hb Hb H σ ρ A D I.fresh ?_;unfold Dl.sTry at p;cases e:fb ρ with
 | bad=>rw [e] at p;exact p
 | err c x =>exact fun H' g dx hf=>⟨g,c,x,rfl,hf,rfl⟩
 | ok fl =>
  rw [e] at p;cases fl with
  | nx ρ'=>exact fun σ' H' A' I'=>p σ' H' A' (I'.base I.s0)
  | brk ρ'=>exact fun σ' H' A' I'=>p σ' H' A' (I'.base I.s0)
  | cnt ρ'=>exact fun σ' H' A' I'=>p σ' H' A' (I'.base I.s0)
  | ret d=>exact fun v H' g r=>p v H' (I.s0.trans g) (r.base I.s0)
 rintro cls dx H' e ⟨g,c,x,rfl,hf,ef⟩ he;unfold Dl.sTry at p;rw [ef] at p;simp only [] at p;by_cases hcs:cs.contains c=true;rw [if_pos hcs] at p;refine ⟨hc c (by simpa using hcs),fun σ' hl=>?_⟩;have g':=Same.upd (o:=exO e (.ref (C c)) dx) he;refine hh H0 Hb _ _ _ (fun _=>[]) _ (EnvOk.caught I.s0 (g.trans g') hl upd_same (hf.same g') hi) ?_;have q:=calm_of (Post.bind p);refine Post.imp q (fun fl q=>?_) fun _ _ z=>z.elim;cases fl with
 | nx ρ'=>exact fun σ2 H2 A2 I2=>q _ H2 _ (EnvOk.none I.s0 I2.same N)
 | brk ρ'=>exact fun σ2 H2 A2 I2=>q _ H2 _ (EnvOk.none I.s0 I2.same N)
 | cnt ρ'=>exact fun σ2 H2 A2 I2=>q _ H2 _ (EnvOk.none I.s0 I2.same N)
 | ret d=>exact fun v H2 g2 r=>q v H2 g2 r
 rw [if_neg hcs] at p;exact p.elim
def JOk (K:AC)(C:String->Addr)(E:XK)(Γ Δ:List Nat)(t:TJ)(f:FA):Prop:=∀(H0 Hb H:Hp) (σ:St) (ρ:DEnv) (A:Nat->List Addr) (Q:Hp->Prop),EnvOk K C H0 Hb H Γ Δ σ ρ A->
 Post (f ρ) (fun _=>∀H',Same H H'->Q H') (fun c x=>∀H',Same H H'->EC C E c x H')->t σ H Q
theorem jok_nil:JOk K C E Γ Δ jNil Dl.aNil:=fun _ _ H _ _ _ _ _ p=>p H (Same.refl _)
theorem jok_str {s:Str}{t:TJ}(h:s.length<=2000)(ht:JOk K C E Γ Δ t f):JOk K C E Γ Δ (jCons (tC (.str s)) t) f:=fun H0 Hb H σ ρ A Q I p=>⟨s,rfl,h,ht H0 Hb H σ ρ A Q I p⟩
theorem log2_lt200 (h:n<2 ^ 200):n.log2<1920:=by by_cases h0:n=0;subst h0;decide;exact (G4 h0).mpr (Ak h (Nat.pow_le_pow_right (by omega) (by omega)))
theorem jok_fv {t:TJ}(he:EOk K C E Γ Δ m S te fe)(ht:JOk K C E Γ Δ t f):JOk K C E Γ Δ (jCons (tFv te) t) (Dl.aCons (Dl.f1 Dl.gFv fe) f):=fun H0 Hb H σ ρ A Q I p=>by
 have p1:=Post.bind p;have p2:=Post.bind p1;refine he H0 Hb H σ ρ A _ I (Post.imp p2 (fun d q v H1 g r=>?_) fun _ _ q=>q);obtain ⟨B,r1,_⟩:=r;cases d with
 | int i =>unfold Dl.gFv at q;simp only [] at q;by_cases hi:i.natAbs<2 ^ 200;rw [if_pos hi] at q;have e:v=.int i:=r1.1;subst e;refine ⟨i,rfl,log2_lt200 hi,fun y hy=>⟨y,rfl,hy,?_⟩⟩;exact ht H0 Hb H1 σ ρ A Q (I.mono g) (Post.imp (Post.bind q) (fun ds q H2 g2=>q H2 (g.trans g2)) fun c x q H2 g2=>q H2 (g.trans g2));rw [if_neg hi] at q;exact q.elim
 | _=>exact q.elim
theorem sok_raiseF {t:TJ}(ha:JOk K C E Γ Δ t f):SOk K C E mr Γl Δl Γ Δ Γ' Δ' (tRaise (.ref (C c)) E (tCons (tJs t) tNil)) (Dl.sRaise c f):=fun H0 Hb H σ ρ A D I p =>
 ha H0 Hb H σ ρ A _ I (Post.imp (Post.bind p) (fun _ q H1 g z=>⟨(by show 1<=Ah;decide),q H1 (Same.from0 I g) Be trivial⟩) fun _ _ q H1 g=>q H1 (Same.from0 I g))
theorem cs_try {c:Str}{tb:XK->TS}{fb fh:FS}(cs:List String)(hm:X.mg c=some (.ref c0))
  (hb:∀(E:XK) (pn:List (Addr×Obj)),JSs (({X with pn:=pn}:Cx).wish (ER {X with pn:=pn} E)) C E mr Γl Δl [] [] Γ1 Δ1 body (tb E) fb) (hh:∀a:Addr,JSs (X.hand a) C E0 mr [] [] [] [] Γ2 Δ2 (b₀::suite) th fh)
  (hc:∀c∈cs,Ee X.K (.ref (C c)) (.ref c0)=some true)
  (hN:X.N.Nodup) (hi:X.N[i]?=some nm) (hl:X.env.scope.names.lookup nm=some .local)
  (hg:Gl X c:=by rfl) (hx:X.ex=[]:=by rfl) (hst:X.stack=X.env::X.outer:=by rfl) (hf:X.env.frame=some X.env.locals:=by rfl) (hdb:(c==("__debug__":Str))=false:=by decide) :
  JS X C E mr Γl Δl Γ Δ Γ1 Δ1 (.Try body [.ExceptHandler (some (.Name c np)) (some nm) (b₀::suite) hpos] [] [] pos) (tTry X.K (.ref c0) i X.N.length tb th) (Dl.sTry cs X.N.length i fb fh):=
 ⟨qs_try hm hN hi hl (fun E pn=>(hb E pn).q) (fun a=>(hh a).q) hg hx hst hf hdb,sok_try (fun E'=>(hb E' []).o) (hh 0).o hc (Ad.mp hi).1⟩
end
theorem Fun.okCE {P:Ao}{base:AR}{st:Stmt}{f:Addr}{N:List Str}{k:Nat}{g:FS}(F:Fun K x qual st f fd)(S:FnScope N ps (defScope st))(hn:ps.length=n)
    (hbody:∀(cdv:Value) (A:AI) (outer:List Env) (s:Ac) (H:Hp) (E:XK),Room k (A.deeper (Cv qual (defScope st) s.heap.objs.size f cdv))->
      ∃t,JSs ((cxOf (CXE P w) P w K mg base N qual (defScope st) f cdv A outer s H E).wish (ER (cxOf (CXE P w) P w K mg base N qual (defScope st) f cdv A outer s H E) E)) C E mr [] [] [] [] Γ' Δ' (defBody st) t g):FnOk P w K mg base (CXE P w) (k+1) f fd ps (spD K C n mr fun ds=>Dl.run N.length g ds):=
  F.okEQ S (fun vs H Q E h=>by
    obtain ⟨ds,B,h1,h2,_⟩:=h;rw [h2.len,h1,hn]) fun cdv A outer s H vs Q E hr h=>by
    obtain ⟨ds,B,h1,h2,h3⟩:=h;obtain ⟨t,ht⟩:=hbody cdv A outer s H E hr;exact ⟨t,ht.q,run_post (K:=K) ht.o h2 h3⟩
section
variable {S:List (Nat×Bool)}
variable {a c:Expr}{rest:List Expr}{tc:TE}{fs:FE}{g:FS}
end
structure ClsIn (K:AC)(C:Addr):Prop where
 ty:C3 K (.ref C)=some (.type "type")
 cl:∃c,Em K C=some c
 se:Bs K (.ref C) (.ref C)=some true
theorem ErrIn.cls {C:Addr}(h:ErrIn K C):ClsIn K C:=⟨h.ty,h.cl,h.se⟩
theorem ClsIn.kitO {C D:Addr}{b:Bool}(E:ClsIn K C)(h:Bs K (.ref D) (.ref C)=some b):DC K (.ref D) (.ref C)=some b:=by
 have k:kitCls K (.ref D) (.ref C)=some b:=by obtain ⟨c,hc⟩:=E.cl;show (if ((Em K C).isSome&&C3 K (.ref C)==some (.type "type"))=true then Bs K (.ref D) (.ref C) else none)=some b;rw [hc,E.ty,if_pos (by simp)];exact h
 unfold DC;by_cases q:((AB D)==(AB C))=true;rw [if_pos q];have e:D=C:=by have:=beq_iff_eq.mp q;cases this;rfl
 subst e;rw [E.se] at h;exact h;rw [if_neg q];exact k
theorem all_nil {P:α->Prop}:∀c∈([]:List α),P c:=fun _ h=>nomatch h
theorem all_cons {P:α->Prop}{a:α}{l:List α}(h:P a)(hl:∀c∈l,P c):∀c∈a::l,P c:=fun c hc=>(Au.mp hc).elim (fun e=>by rw [e];exact h) fun hc=>hl c hc
section
variable {S:List (Nat×Bool)}
theorem lookup_memB {k:String}{b:Bool}:∀{tb:List (String×Bool)},tb.lookup k=some b->(k,b)∈tb
 | [],h=>by cases h
 | (x,y)::r,h=>by
  rw [AN] at h;split at h;rename_i e;have e:k=x:=by simpa using e
  cases h;rw [e];exact .head _;exact .tail _ (lookup_memB h)
theorem eok_isX {c:Addr}{tb:List (String×Bool)}(htb:∀p∈tb,ErrK K (C p.1)/\DC K (.ref (C p.1)) (.ref c)=some p.2)(he:EOk K C E Γ Δ m S te fe):EOk K C E Γ Δ 2 [] (tCB (rIsX K) (tCons te (tCons (tC (.ref c)) tNil))) (Dl.f1 (Dl.gIsT tb) fe):=
  fun H0 Hb H σ ρ A Q I p=>he H0 Hb H σ ρ A _ I (p.bind.imp (fun d q v H1 g1 r=>by
    obtain ⟨z,e,q⟩:=oR_ok q;obtain ⟨B,r,_⟩:=r;show rIsX K [v,.ref c] H1 Q;cases d with
    | exc k f =>have e:(tb.lookup k).map D.bl=some z:=e;obtain ⟨b,e1,e2⟩:=AF.mp e;subst e2;obtain ⟨a,dx,rfl,h1,_⟩:=r;obtain ⟨t1,t2⟩:=htb _ (lookup_memB e1);exact ⟨a,C k,c,b,rfl,⟨dx,h1⟩,t1,t2,q _ _ g1 (Res.flat rpB)⟩
    | _=>cases e) fun c x q H' g'=>q H' g')
end
structure JJ (X:Cx)(C:String->Addr)(E:XK)(Γ Δ:List Nat)(es:List Expr)(t:TJ)(f:FA):Prop where
 q:QJ X es t
 o:JOk X.K C E Γ Δ t f
section
variable {S:List (Nat×Bool)}{a c:Expr}{rest:List Expr}{tc:TE}{fs:FE}{s:Stmt}{g:FS}
theorem cj_nil:JJ X C E Γ Δ [] jNil Dl.aNil:=⟨qj_nil,jok_nil⟩
theorem cj_str (h:JJ X C E Γ Δ es tj f)(hx:x.length<=2000:=by decide)(hv:BW (.Constant (.str x) jj pos::es) X.env=Ar (.Constant (.str x) jj pos) X.env::BW es X.env:=by rfl):JJ X C E Γ Δ (.Constant (.str x) jj pos::es) (jCons (tC (.str x)) tj) f:=⟨qj_cons qe_str h.q hv,jok_str hx h.o⟩
theorem cj_fv (he:JE X C E Γ Δ m S e te fe)(h:JJ X C E Γ Δ es tj f)(hv:BW (.FormattedValue e (-1) none pos::es) X.env=Ar (.FormattedValue e (-1) none pos) X.env::BW es X.env:=by rfl):JJ X C E Γ Δ (.FormattedValue e (-1) none pos::es) (jCons (tFv te) tj) (Dl.aCons (Dl.f1 Dl.gFv fe) f):=⟨qj_cons (qe_fv he.q) h.q hv,jok_fv he.o h.o⟩
theorem cs_raiseF (hq:DS X.K (C cn) bmV "ValueError.__new__"=true)(hm:X.mg x=some (.ref (C cn)))(hj:JJ (X.wish (ER X E)) C E Γ Δ (a::b::es) tj f)(hn:es.length<=100:=by decide)(hv:BW (a::b::es) X.env=Ar a X.env::Ar b X.env::BW es X.env:=by rfl)
  (hg:Gl X x:=by rfl) (hc:X.calm=true:=by rfl) (hx:X.ex=[]:=by rfl)
  (hdb:(x==("__debug__":Str))=false:=by decide) (he:Ab [.JoinedStr (a::b::es) jp] X.env=(false,Ar (.JoinedStr (a::b::es) jp) X.env)::Ab [] X.env:=by rfl) (hpl:(AG cpos (Ab ([]:List Expr) X.env)).any (·.1)=false:=by rfl) :
  JS (X.wish (ER X E)) C E mr Γl Δl Γ Δ Γ' Δ' (.Raise (some (.Call (.Name x np) [.JoinedStr (a::b::es) jp] [] cpos)) none pos) (tRaise (.ref (C cn)) E (tCons (tJs tj) tNil)) (Dl.sRaise cn f):=
 ⟨qs_raise hq hm (qa_cons (qe_js hj.q hn hv) qa_nil he) hg hc hx hdb he hpl,sok_raiseF hj.o⟩
theorem ce_isX (K:AC){c:Addr}{tb:List (String×Bool)}(hg:Gl X "isinstance")(hm:X.mg "isinstance"=none)(hgx:Gl X x)(hmx:X.mg x=some (.ref c))(htb:∀p∈tb,ErrK K (C p.1)/\DC K (.ref (C p.1)) (.ref c)=some p.2)(ha:JE X C E Γ Δ m S e te fe)
  (hse:Ab (e::[.Name x p2]) X.env=(false,Ar e X.env)::Ab [.Name x p2] X.env) (hd:(x==("__debug__":Str))=false:=by decide) (hpl:(AG pos (Ab [.Name x p2] X.env)).any (·.1)=false:=by rfl) (hK:X.K=K:=by rfl) :
  JE X C E Γ Δ 2 [] (.Call (.Name "isinstance" p) [e,.Name x p2] [] pos) (tCB (rIsX K) (tCons te (tCons (tC (.ref c)) tNil))) (Dl.f1 (Dl.gIsT tb) fe):=by
 subst hK;exact ⟨qe_callB call_isX hg hm Ds (qa_cons ha.q (qa_cons (qe_glob (v:=.ref c) hgx hmx rfl hd) qa_nil star_name) hse) (by decide) (by decide) hse hpl,eok_isX htb ha.o⟩
end
section
variable {a:Expr}
variable {S:List (Nat×Bool)}
end
section
variable {S:List (Nat×Bool)}{a:Expr}
end
section
def rSorted (K:AC):List V->Hp->VK->Prop:=fun vs H Q=>∃(a:Addr) (ns:List Int),vs=[.ref a]/\SqL K H a (ns.map V.int)/\ns.length<64/\∀(ns':List Int) (r:Addr),ns'.Perm ns->ns'.Pairwise (·<=·)->H r=none->Q (.ref r) (upd H r (.lst (ns'.map V.int)))
theorem call_sorted:CallR X (.builtin "sorted") (rSorted X.K):=by intro pins s σ H xs us Q I r h;obtain ⟨a,ns,rfl,hq,hl,q⟩:=h;obtain ⟨u,rfl,rx⟩:=vals1 r;cases rx;obtain ⟨its,rv,p,hz⟩:=I.list hq;have hlen:=rv.length;rw [Ap] at hlen;refine sorted_ints p.isList (intsAre_of rv) (by omega) fun out ns' h1 h2 h3=>?_;obtain ⟨e,he⟩:=sortedAll_at s.heap its out;have hn:H (s.heap.objs.size+1)=none:=I.hok.fresh (E7 _);have hv:=vals_ints h1;have hl':=hv.length;have I2:=I.laid (t':=s.toks) (o:=.lst (ns'.map V.int)) (h':=sortedAll s.heap its out) (fun b o q=>sortedAll_old q) (E7 _) ⟨by rw [Ap,h2.length_eq];exact D4 (Ak hl (by decide)),out.toList,e,hv,by simpa [seqObj] using he⟩;exact ⟨.ref (s.heap.objs.size+1),_,I2,rfl,q ns' _ h2 h3 hn⟩
variable {S:List (Nat×Bool)}
theorem sortI_eq (h:ns'.Perm ns)(o:ns'.Pairwise (·<=·)):ns'=Dl.sortI ns:=by refine PySem.W.ksm_same (h.trans (List.mergeSort_perm ns _).symm) o ?_;have:=List.pairwise_mergeSort (le:=fun a b:Int=>decide (a<=b)) (fun a b c h1 h2=>by simp at *;omega) (fun a b=>by simp;omega) ns;exact this.imp fun h=>by simpa using h
theorem gak_sort:GAk K C (rSorted K) Dl.gSort:=by intro H xs d vs Bx Q r e q;unfold Dl.gSort at e;split at e;rename_i ds;obtain ⟨ns,h1,h2⟩:=Bm.mp e;split at h2;rename_i hl;cases h2;obtain ⟨v,rfl,r1⟩:=r.one';obtain ⟨a,ys,B,rfl,e2,e3,_⟩:=r1;have z:=RpA.ofInts e3 h1;subst z;refine ⟨a,ns,rfl,SqL.of e2,hl,fun ns' r hp ho hr=>?_⟩;rw [sortI_eq hp ho];exact Out.lst q RpA.ints hr;cases h2;cases e
theorem sok_drop (he:EOk K C E Γ Δ m S te fe):SOk K C E mr Γl Δl Γ Δ Γ Δ (tDrop te) (Dl.sDrop fe):=fun H0 Hb H σ ρ A D I p =>
 he H0 Hb H σ ρ A _ I (Post.imp (Post.bind p) (fun d q v H1 g1 r=>q σ H1 A (I.mono g1)) fun c x q H' g'=>q H' (Same.from0 I g'))
variable {S:List (Nat×Bool)}{a c:Expr}{rest:List Expr}{tc:TE}{fs:FE}{bpos:Pos}
theorem cs_drop (he:JE X C E Γ Δ m S e te fe)(hs:A8 e none pos.line X.env=pure false:=by rfl):JS X C E mr Γl Δl Γ Δ Γ Δ (.Expr e pos) (tDrop te) (Dl.sDrop fe):=⟨qs_expr he.q hs,sok_drop he.o⟩
end
section
variable {kp:Pos}{k:Nat}
variable {S:List (Nat×Bool)}
end
section
variable {S:List (Nat×Bool)}{a c:Expr}{rest:List Expr}{tc:TE}{fs:FE}{kp:Pos}{k:Nat}
variable {g:FS}
end
section
variable {a:Expr}{pt2:Pos}{k k2:Nat}
end
section
variable {S:List (Nat×Bool)}
theorem RpA.one_of:∀{ds:List D} {vs:List V} {B:List Addr} {j:Nat} {d:D},RpA K C H ds vs B->ds[j]?=some d->∃B1 Bj B2 v,B=B1++(Bj++B2)/\vs[j]?=some v/\Rp K C H d v Bj/\
    ∀(W:Addr->Prop) H2 d' Bj',Ext W H H2->(∀a∈B1++B2,¬W a)->Rp K C H2 d' v Bj'->RpA K C H2 (ds.set j d') vs (B1++(Bj'++B2))
  | [],_,_,_,_,_,h=>by simp at h
  | d0::ds,_,_,0,d,r,h=>by obtain ⟨x,l,B,B',e1,e2,e3,e4⟩:=r;simp only [Ep,Dc] at h;subst h e1 e4;exact ⟨[],B,B',x,rfl,rfl,e2,fun W H2 d' Bj' he hn r'=>⟨x,l,Bj',B',rfl,r',e3.ext he fun a ha=>hn a ha,rfl⟩⟩
  | d0::ds,_,_,j+1,d,r,h=>by
    obtain ⟨x,l,B,B',e1,e2,e3,e4⟩:=r;simp only [BV] at h;obtain ⟨B1,Bj,B2,v,q1,q2,q3,q4⟩:=RpA.one_of e3 h;subst e1 e4 q1;refine ⟨B++B1,Bj,B2,v,by rw [CK],by simpa using q2,q3,fun W H2 d' Bj' he hn r'=>?_⟩;exact ⟨x,l,B,B1++(Bj'++B2),rfl,e2.ext he fun a ha=>hn a (by simp [ha]),q4 W H2 d' Bj' he (fun a ha=>hn a (by
      rcases Ae.mp ha with z | z;simp [z]
      · simp [z])) r',by rw [CK]⟩
theorem EnvOk.dead {σ':St}(I:EnvOk K C H0 Hb H Γ Δ σ ρ A)(hσ:σ'.length=σ.length)(hk:∀k,k≠j->σ'[k]?=σ[k]?)(h1:j∉Γ)(h2:j∉Δ):EnvOk K C H0 Hb H Γ Δ σ' (ρ.set j Be) (fun k=>if k=j then [] else A k):=by refine ⟨I.s0,I.same,by rw [BG,hσ,I.len],fun k e h=>?_,fun k h=>?_,fun k hk a ha=>?_,fun k hk a l e=>?_,fun k hk=>?_⟩;rcases get_set h with ⟨e1,_,e2⟩ | ⟨e1,e2⟩;cases e2;obtain ⟨w,q1,q2⟩:=I.rep k e e2;exact ⟨w,(hk k e1).trans q1,by rw [if_neg e1];exact q2⟩;by_cases e:k=j;rw [if_pos e];rw [if_neg e];exact I.nil k fun x hx=>h x (by rw [Bc (fun z=>e z.symm)];exact hx);have e:k≠j:=fun z=>h1 (by rw [<- z];exact hk);rw [if_neg e] at ha;exact I.loc k hk a ha;have e':k≠j:=fun z=>h1 (by rw [<- z];exact hk);rw [if_neg e'] at e;obtain ⟨t1,t2,t3⟩:=I.top k hk a l e;refine ⟨t1,t2,fun i hi=>?_⟩;by_cases ei:i=j;rw [if_pos ei];exact fun z=>nomatch z;rw [if_neg ei];exact t3 i hi;have e':k≠j:=fun z=>h2 (by rw [<- z];exact hk);simp only [if_neg e'];obtain ⟨t1,t2,t3⟩:=I.deep k hk;refine ⟨t1,fun i hi a ha=>?_,t3⟩;by_cases ei:i=j;rw [if_pos ei];exact fun z=>nomatch z;rw [if_neg ei];exact t2 i hi a ha
variable {a c lx:Expr}{rest:List Expr}{tc tl:TE}{fs fl:FE}
variable {A:AI}{E:Value->Ac->Prop}
variable {k:Nat}
end
open Dl (FM FMT)
theorem lookup_fIx {α:Type}(f:Str):∀{ns:List Str} {xs:List α},ns.length=xs.length->(ns.zip xs).lookup f=(Dl.fIx f ns).bind (xs[·]?)
 | [],[],_=>rfl
 | [],_::_,h=>by simp at h
 | _::_,[],h=>by simp at h
 | g::ns,x::xs,h=>by
  have ih:=lookup_fIx f (ns:=ns) (xs:=xs) (by simpa using h);rw [BK,AN,Dl.fIx];by_cases e:g=f;subst e;simp;have e':(f==g)=false:=by simp [Ne.symm e]
  rw [e',if_neg e,ih];cases Dl.fIx f ns<;>simp
theorem putF_some (f:Str)(v:V):∀{ns:List Str} {xs:List V} {j:Nat},ns.length=xs.length->Dl.fIx f ns=some j->putF f v (ns.zip xs)=ns.zip (xs.set j v)
 | [],_,_,_,h=>by simp [Dl.fIx] at h
 | _::_,[],_,h,_=>by simp at h
 | g::ns,x::xs,j,h,hj=>by rw [BK,putF];rw [Dl.fIx] at hj;by_cases e:g=f;rw [if_pos e] at hj ⊢;cases hj;simp;rw [if_neg e] at hj ⊢;obtain ⟨k,hk,rfl⟩:=AF.mp hj;rw [putF_some f v (by simpa using h) hk];simp
theorem putF_none (f:Str)(v:V):∀{ns:List Str} {xs:List V},ns.length=xs.length->Dl.fIx f ns=none->putF f v (ns.zip xs)=(ns++[f]).zip (xs++[v])
 | [],[],_,_=>rfl
 | [],_::_,h,_=>by simp at h
 | _::_,[],h,_=>by simp at h
 | g::ns,x::xs,h,hj=>by rw [BK,putF];rw [Dl.fIx] at hj;by_cases e:g=f;rw [if_pos e] at hj;cases hj;rw [if_neg e] at hj ⊢;rw [putF_none f v (by simpa using h) (by simpa using hj)];simp
theorem fIx_lt {f:Str}:∀{ns:List Str} {j:Nat},Dl.fIx f ns=some j->j<ns.length
 | [],_,h=>by simp [Dl.fIx] at h
 | g::ns,j,h=>by rw [Dl.fIx] at h;split at h;cases h;simp;obtain ⟨k,hk,rfl⟩:=AF.mp h;have:=fIx_lt hk;simp;omega
section
variable {S:List (Nat×Bool)}
theorem eok_fld {f:Str}(hc:Cls K (C c))(hn:NoAttr K (C c) f)(he:EOk K C E Γ Δ m S te fe):EOk K C E Γ Δ 0 S (tFld K te f) (Dl.f1 (Dl.gFld c f) fe):=fun H0 Hb H σ ρ A Q I p =>
  he H0 Hb H σ ρ A _ I (p.bind.imp (fun d q v H1 g1 r=>by
    obtain ⟨z,e,q'⟩:=oR_ok q;cases d with
    | obj c' ns ds =>simp only [Dl.gFld] at e;split at e;rename_i hcc;subst hcc;obtain ⟨B,r,rB,_⟩:=r;obtain ⟨a,dx,xs,B',rfl,h1,hl,r3,rfl⟩:=r;obtain ⟨j,hj,e⟩:=Bm.mp e;obtain ⟨u,Bu,q1,q2,q3⟩:=r3.get e;refine ⟨a,C c',dx,_,u,rfl,h1,hc,hn,?_,q' _ _ g1 ⟨Bu,q2,fun b hb=>rB b (.tail _ (q3 b hb)),(fun z=>nomatch z),(fun z=>nomatch z)⟩⟩;rw [lookup_fIx f (by rw [r3.len,hl]),hj];exact q1;cases e
    | _=>cases e) fun c x q H' g'=>q H' g')
theorem eok_meth {fa:FA}(he:EOk K C E Γ Δ m1 S1 te fe)(ha:AOk K C E Γ Δ m2 S2 t fa)(hn:∀ρ ds,fa ρ=.ok ds->ds.length=n) :
    EOk K C E Γ Δ mr [] (tMeth (C c) md (spD K C (n+1) mr F) [] E te t) (Dl.fMeth c md F fe fa):=fun H0 Hb H σ ρ A Q I p =>
  he H0 Hb H σ ρ A _ I (p.bind.imp (fun d q v H1 g1 r=>by
    cases d with
    | obj c' ns ds =>
      simp only at q;split at q;rename_i hcc;obtain ⟨hcc,hmd⟩:=hcc;subst hcc;obtain ⟨B,r,rB,_⟩:=r;obtain ⟨a,dx,xs,B',rfl,h1,hl,r3,rfl⟩:=id r;refine ⟨a,dx,_,rfl,h1,by rw [lookup_fIx md (by rw [r3.len,hl]),hmd];rfl,?_⟩;refine ha H0 Hb H1 σ ρ A _ (I.mono g1) ?_;cases e:fa ρ with
      | bad=>rw [e] at q;exact q
      | err c x=>rw [e] at q;exact fun H' g'=>q H' (g1.trans g')
      | ok ys =>rw [e] at q;intro vs H2 g2 r2;obtain ⟨B2,r2,_⟩:=r2;rw [BN];refine ⟨.obj c' ns ds::ys,_,by rw [A7,hn ρ ys e],⟨_,_,_,_,rfl,r.same g2,r2,rfl⟩,Post.imp q (fun d q v H' g3 r=>?_) fun c x q H' g'=>q H' (g1.trans (g2.trans g'))⟩;exact q v H' (g1.trans (g2.trans g3)) ((r.later (g1.trans g2) (Same.refl _)).reA)
      exact q.elim
    | _=>exact q.elim) fun c x q H' g'=>q H' g')
def spM (K:AC)(C:String->Addr)(n:Nat)(G:List D->R (D×D)):Sp:=fun vs H Q E=>∃d0 ds v0 vs' A0 B,vs=v0::vs'/\ds.length=n/\Rp K C H d0 v0 A0/\A0.Nodup/\RpA K C H ds vs' B/\(∀a∈B,a∉A0)/\
 Post (G (d0::ds)) (fun p=>∀v H' A1 Br,(∀b o,b∉A0->H b=some o->H' b=some o)->Rp K C H' p.2 v0 A1->A1.Nodup->(∀a∈A1,a∈A0\/H a=none)->Rp K C H' p.1 v Br->Br.Nodup->(∀a∈Br,(a∈A0\/H a=none)/\a∉A1)->Q v H')
  (fun c x=>∀H',(∀b o,b∉A0->H b=some o->H' b=some o)->EC C E c x H')
theorem EnvOk.deepTo (I:EnvOk K C H0 Hb H Γ Δ σ ρ A)(hi:i∈Δ)(hl:i<ρ.length)(hs:σ[i]?=some (some v))
  (hk:∀c o,c∉A i->H c=some o->H' c=some o) (r:Rp K C H' d' v A') (nd:A'.Nodup) (hA:∀a∈A',a∈A i\/(Hb a=Be/\∀j,a∉A j)) :
  EnvOk K C H0 Hb H' Γ Δ σ (ρ.set i (some d')) (fun j=>if j=i then A' else A j):=by
 obtain ⟨d1,d2,d3⟩:=I.deep i hi;have hA2:∀a∈A',Hb a=Be/\∀j,j≠i->a∉A j:=fun a ha=>(hA a ha).elim (fun z=>⟨d3 a z,fun j hj=>d2 j hj a z⟩) fun z=>⟨z.1,fun j _=>z.2 j⟩;have ext:Ext (fun c=>c∈A i) H H':=fun c o h=>by by_cases e:c∈A i;obtain ⟨o',ho,hm⟩:=I.is e;rw [ho] at h;cases h;exact .inr ⟨e,hm⟩;exact .inl (hk c o e h)
 refine ⟨I.s0,fun c o h=>?_,by rw [BG,I.len],fun j e h=>?_,fun j h=>?_,fun j hj c hc=>?_,fun j hj c l' e=>?_,fun j hj=>?_⟩;exact hk c o (fun z=>by rw [d3 c z] at h;cases h) (I.same c o h);rcases get_set h with ⟨e1,_,e2⟩ | ⟨e1,e2⟩;subst e1;cases e2;exact ⟨v,hs,by rw [if_pos rfl];exact r⟩;obtain ⟨w,q1,q2⟩:=I.rep j e e2;refine ⟨w,q1,?_⟩;rw [if_neg e1];exact q2.ext ext fun c hc z=>d2 j e1 c z hc;by_cases e:j=i;subst e;exact absurd (BJ hl) (h d');rw [if_neg e];exact I.nil j fun x hx=>h x (by rw [Bc (fun z=>e z.symm)];exact hx);by_cases e:j=i;subst e;rw [if_pos rfl] at hc;exact I.s0.free (hA2 c hc).1;rw [if_neg e] at hc;exact I.loc j hj c hc;by_cases e':j=i;subst e';rw [if_pos rfl] at e;subst e;refine ⟨(hA2 c (.head _)).1,(Ag.mp nd).1,fun k hk=>?_⟩;rw [if_neg hk];exact (hA2 c (.head _)).2 k hk;rw [if_neg e'] at e;obtain ⟨q1,q2,q3⟩:=I.top j hj c l' e;refine ⟨q1,q2,fun k hk=>?_⟩;by_cases e2:k=i;subst e2;rw [if_pos rfl];exact fun z=>(hA2 c z).2 j e' (by rw [e];exact .head _);rw [if_neg e2];exact q3 k hk;by_cases e:j=i;subst e;rw [if_pos rfl];refine ⟨nd,fun k hk a ha=>?_,fun a ha=>(hA2 a ha).1⟩;rw [if_neg hk];exact (hA2 a ha).2 k hk;rw [if_neg e];obtain ⟨q1,q2,q3⟩:=I.deep j hj;refine ⟨q1,fun k hk a ha=>?_,q3⟩;by_cases e2:k=i;subst e2;rw [if_pos rfl];exact fun z=>(hA2 a z).2 j e ha;rw [if_neg e2];exact q2 k hk a ha
def MOk (K:AC)(C:String->Addr)(E:XK)(Γ Δ:List Nat)(t:TE)(f:FM):Prop:=∀(H0 Hb H:Hp) (σ:St) (ρ:DEnv) (A:Nat->List Addr) (Q:VK),EnvOk K C H0 Hb H Γ Δ σ ρ A->
 Post (f ρ) (fun p=>∀v H' A' B,EnvOk K C H0 Hb H' Γ Δ σ p.2 A'->Rp K C H' p.1 v B->B.Nodup->(∀a∈B,Hb a=none/\∀j,a∉A' j)->Q v H') (fun c x=>∀H',Same H0 H'->EC C E c x H')->t σ H Q
def MTOk (K:AC)(C:String->Addr)(E:XK)(Γ Δ:List Nat)(t:TT)(f:FMT):Prop:=∀(H0 Hb H:Hp) (σ:St) (ρ:DEnv) (A:Nat->List Addr) (Q:Bool->Hp->Prop),EnvOk K C H0 Hb H Γ Δ σ ρ A->
 Post (f ρ) (fun p=>∀H' A',EnvOk K C H0 Hb H' Γ Δ σ p.2 A'->Q p.1 H') (fun c x=>∀H',Same H0 H'->EC C E c x H')->t σ H Q
theorem mok_meth {fa:FA}(hi:i∈Δ)(ha:AOk K C E Γ Δ m S t fa)(hn:∀ρ ds,fa ρ=.ok ds->ds.length=n)(hS:∀p∈S,p.1≠i) :
  MOk K C E Γ Δ (tMeth (C c) md (spM K C n G) [] E (tVar i) t) (Dl.mMeth i c md G fa):=fun H0 Hb H σ ρ A Q I p=>by
 unfold Dl.mMeth at p;split at p;rename_i c' ns ds e0;split at p;rename_i hcc;obtain ⟨hcc,hmd⟩:=hcc;subst hcc;obtain ⟨v0,hs,r0⟩:=I.rep i _ e0;obtain ⟨a,dx,xs,B',rfl,h1,hl,r3,hAi⟩:=id r0;refine ⟨_,hs,a,dx,_,rfl,h1,by rw [lookup_fIx md (by rw [r3.len,hl]),hmd];rfl,?_⟩;refine ha H0 Hb H σ ρ A _ I ?_;cases e:fa ρ with
 | bad=>rw [e] at p;exact p
 | err c x=>rw [e] at p;exact fun H' g'=>p H' (Same.from0 I g')
 | ok ys =>rw [e] at p;intro vs H1 g1 r2;obtain ⟨B2,r2,rB,_⟩:=r2;rw [BN];obtain ⟨d1,d2,d3⟩:=I.deep i hi;have I1:=I.mono g1;refine ⟨.obj c' ns ds,ys,_,vs,A i,B2,rfl,hn ρ ys e,r0.same g1,d1,r2,fun b hb hz=>(rB b hb).elim (fun z=>I.ne hz z) (I.deep_out hi hS hz),Post.imp (Post.bind (r:=G (.obj c' ns ds::ys)) p) (fun q pq v H' A1 Br hk r1 nd1 hA1 rr ndr hBr=>?_) fun c x q H' hk=>?_⟩;refine pq v H' _ Br (I1.deepTo hi (Ad.mp e0).1 hs hk r1 nd1 fun b hb=>(hA1 b hb).imp id fun z=>⟨I1.same.free z,fun j hj=>I1.ne hj z⟩) rr ndr fun b hb=>⟨(hBr b hb).1.elim (fun z=>d3 b z) fun z=>I1.same.free z,fun j=>?_⟩;by_cases e1:j=i;rw [if_pos e1];exact (hBr b hb).2;rw [if_neg e1];exact fun hj=>(hBr b hb).1.elim (fun z=>d2 j e1 b z hj) fun z=>I1.ne hj z;refine q H' fun b o h=>hk b o (fun z=>?_) (I1.same b o (I.s0 b o h));rw [I.s0.free (d3 b z)] at h;cases h
 exact p.elim;exact p.elim
theorem sok_setM (h:MOk K C E Γ Δ te fm)(h1:∀j∈Γ',j=i\/j∈Γ:=by decide)(h2:∀j∈Δ',j=i\/j∈Δ:=by decide):SOk K C E mr Γl Δl Γ Δ Γ' Δ' (tAsg te (gName i)) (Dl.sSetM i fm):=fun H0 Hb H σ ρ A D I p =>
  h H0 Hb H σ ρ A _ I (Post.imp (Post.bind p) (fun q pq v H1 A1 B I1 r nd hB=>by
    obtain ⟨A',I',_⟩:=I1.put (Γ':=Γ') (Δ':=Δ') (i:=i) r (fun j hj e=>⟨(h1 j hj).elim (fun z=>absurd z e) id,fun a l e' ha=>(hB a ha).2 j (by rw [e'];exact .head _)⟩)
      (fun _=>⟨fun a ha=>I1.s0.free (hB a ha).1,fun a l e=>by subst e;exact ⟨(hB a (.head _)).1,(Ag.mp nd).1,fun j _=>(hB a (.head _)).2 j⟩⟩)
      (fun j hj e=>⟨(h2 j hj).elim (fun z=>absurd z e) id,fun a ha hb=>(hB a hb).2 j ha⟩)
      (fun _=>⟨nd,fun j _ a ha=>(hB a ha).2 j,fun a ha=>(hB a ha).1⟩)
    exact pq _ H1 A' I') fun c x q=>q)
theorem eok_make {fa:FA}(ha:AOk K C E Γ Δ m S t fa)(hn:∀ρ ds,fa ρ=.ok ds->ds.length=n):EOk K C E Γ Δ 2 [] (tMake (C c) (spM K C n G) [] E t) (Dl.fMake c G fa):=fun H0 Hb H σ ρ A Q I p=>by
 refine ha H0 Hb H σ ρ A _ I ?_;unfold Dl.fMake at p;cases e:fa ρ with
 | bad=>rw [e] at p;exact p
 | err c x=>rw [e] at p;exact p
 | ok ys =>
  rw [e] at p;intro vs H1 g1 r x dx hx hdx hne;obtain ⟨B2,r2,rB,_⟩:=r;rw [BN];have gs:Same H1 (upd (upd H1 dx (.own x)) x (.ins (C c) dx [])):=fun b o h=>by rw [upd_ne (ne_of_none h hx),upd_ne (ne_of_none h hdx)];exact h
  have back:∀H',(∀b o,b∉[x]->(upd (upd H1 dx (.own x)) x (.ins (C c) dx [])) b=some o->H' b=some o)->Same H1 H':=fun H' hk b o h=>hk b o (by simpa using ne_of_none h hx) (gs b o h);refine ⟨.obj c [] [],ys,_,vs,[x],B2,rfl,hn ρ ys e,⟨x,dx,[],[],rfl,upd_same,rfl,⟨rfl,rfl⟩,rfl⟩,by simp,r2.same gs,fun b hb hz=>?_,Post.imp (Post.bind p) (fun q pq v H' A1 Br hk r1 nd1 hA1 rr ndr hBr=>?_) fun c x q H' hk=>q H' (g1.trans (back H' hk))⟩;have hz:b=x:=by simpa using hz
  obtain ⟨o,ho,_⟩:=r2.isl b hb;rw [hz,hx] at ho;cases ho;obtain ⟨d,d1⟩:=q;cases d with
  | non =>refine ⟨rr.1,pq _ H' (g1.trans (back H' hk)) ⟨A1,r1,fun a ha=>.inl ?_,(fun z=>nomatch z),fun _=>nd1⟩⟩;refine g1.free ?_;rcases hA1 a ha with z | z;rw [show a=x by simpa using z];exact hx;exact gs.free z
  | _=>exact pq.elim
theorem RpA.setV:∀{ds:List D} {vs:List V} {B:List Addr} {j:Nat} {d:D} {v:V} {Bd:List Addr},RpA K C H ds vs B->j<ds.length->Rp K C H d v Bd->∃B1 Bj B2,B=B1++(Bj++B2)/\RpA K C H (ds.set j d) (vs.set j v) (B1++(Bd++B2))
 | [],_,_,_,_,_,_,_,h,_=>by simp at h
 | d0::ds,_,_,0,d,v,Bd,r,_,q=>by obtain ⟨x,l,B,B',e1,e2,e3,e4⟩:=r;subst e1 e4;exact ⟨[],B,B',rfl,v,l,Bd,B',rfl,q,e3,rfl⟩
 | d0::ds,_,_,j+1,d,v,Bd,r,h,q=>by obtain ⟨x,l,B,B',e1,e2,e3,e4⟩:=r;subst e1 e4;obtain ⟨B1,Bj,B2,rfl,r2⟩:=RpA.setV (j:=j) e3 (by simpa using h) q;exact ⟨B++B1,Bj,B2,by simp,x,l.set j v,B,_,rfl,e2,r2,by simp⟩
theorem nodup_swap {B1 Bj B2:List Addr}(h:(B1++(Bj++B2)).Nodup)(nd:B.Nodup)(hd:∀a∈B,a∉B1/\a∉B2):(B1++(B++B2)).Nodup:=by obtain ⟨h1,h2,h3⟩:=AQ.mp h;obtain ⟨h4,h5,h6⟩:=AQ.mp h2;refine AQ.mpr ⟨h1,AQ.mpr ⟨nd,h5,fun a ha b hb e=>(hd a ha).2 (by rw [e];exact hb)⟩,fun a ha b hb e=>?_⟩;subst e;rcases Ae.mp hb with z | z;exact (hd a z).1 ha;exact h3 a ha a (Aj _ z) rfl
def SOkP (K:AC)(C:String->Addr)(E:XK)(Γ Δ Γ' Δ':List Nat)(t:TS)(f:FS):Prop:=∀(H0 Hb H:Hp) (σ:St) (ρ:DEnv) (A:Nat->List Addr) (D:Ends),EnvOk K C H0 Hb H Γ Δ σ ρ A->
  Post (f ρ) (fun fl=>match fl with
    | .nx ρ'=>∀σ' H' A',σ'[0]?=σ[0]?->EnvOk K C H0 Hb H' Γ' Δ' σ' ρ' A'->D.nx σ' H'
    | _=>False) (fun c x=>∀H',Same H0 H'->EC C E c x H')->t D σ H
theorem sokp_set2 (he:EOk K C E Γ Δ 2 [] te fe)(h0:i≠0:=by decide)(h1:∀j∈Γ',j=i\/j∈Γ:=by decide)(h2:∀j∈Δ',j=i\/j∈Δ:=by decide):SOkP K C E Γ Δ Γ' Δ' (tAsg te (gName i)) (Dl.sSet i fe):=fun H0 Hb H σ ρ A D I p =>
  he H0 Hb H σ ρ A _ I (Post.imp (Post.bind p) (fun d q v H1 g1 r=>by
    obtain ⟨B,r1,r2,r3,r4⟩:=r;have hn:∀a∈B,H a=none:=fun a ha=>(r2 a ha).elim id fun z=>z.none.elim;have nd:=r4 rfl;obtain ⟨A',I',_⟩:=(I.mono g1).put (Γ':=Γ') (Δ':=Δ') (i:=i) r1 (fun j hj e=>⟨(h1 j hj).elim (fun z=>absurd z e) id,fun a l e' ha=>I.ne (j:=j) (by rw [e'];exact .head _) (hn a ha)⟩)
      (fun _=>⟨fun a ha=>I.s0.free (I.same.free (hn a ha)),fun a l e=>by subst e;exact ⟨I.same.free (hn a (.head _)),(Ag.mp nd).1,fun j _ h=>I.ne h (hn a (.head _))⟩⟩)
      (fun j hj e=>⟨(h2 j hj).elim (fun z=>absurd z e) id,fun a ha hB=>I.ne ha (hn a hB)⟩)
      (fun _=>⟨nd,fun j _ a ha h=>I.ne h (hn a ha),fun a ha=>I.same.free (hn a ha)⟩)
    exact q _ H1 A' (Bc h0) I') fun c x q H' g'=>q H' (Same.from0 I g'))
theorem sokp_ifN {fc:FT}(hc:TOk K C E Γ Δ tc fc):SOkP K C E Γ Δ Γ Δ (tIfS tc tNever tNext) (Dl.sIf fc Dl.sNever Dl.sNx):=fun H0 Hb H σ ρ A D I p =>
  hc H0 Hb H σ ρ A _ I (Post.imp (Post.bind p) (fun b q H1 g1=>by
    cases b with
    | true=>exact q.elim
    | false=>exact q σ H1 A rfl (I.mono g1)) fun c x q H' g'=>q H' (Same.from0 I g'))
theorem putO_obj {f:Str}{o o':D}(e:Dl.putO c f d o=some o'):∃ns ds,o=.obj c ns ds/\ns.length<100/\(match Dl.fIx f ns with
      | some j=>some (D.obj c ns (ds.set j d))
      | none=>some (D.obj c (ns++[f]) (ds++[d])))=some o':=by
  cases o with
  | obj c' ns ds =>
    have e':(if c'=c/\ns.length<100 then (match Dl.fIx f ns with
      | some j=>some (D.obj c' ns (ds.set j d))
      | none=>some (D.obj c' (ns++[f]) (ds++[d]))) else none)=some o':=e
    by_cases h:c'=c/\ns.length<100;rw [if_pos h] at e';obtain ⟨rfl,h2⟩:=h;exact ⟨ns,ds,rfl,h2,e'⟩;rw [if_neg h] at e';cases e'
  | _=>cases e
theorem gFld_obj {f:Str}{o:D}(e:Dl.gFld c f o=some d):∃ns ds j,o=.obj c ns ds/\Dl.fIx f ns=some j/\ds[j]?=some d:=by
 cases o with
 | obj c' ns ds =>have e':(if c'=c then (Dl.fIx f ns).bind fun j=>ds[j]? else none)=some d:=e;by_cases h:c'=c;rw [if_pos h] at e';obtain ⟨j,h1,h2⟩:=Bm.mp e';exact ⟨ns,ds,j,by rw [h],h1,h2⟩;rw [if_neg h] at e';cases e'
 | _=>cases e
theorem sokp_fld {f:Str}(hc:Cls K (C c))(hn:NoAttr K (C c) f)(hi:i∈Δ)(he:EOk K C E Γ Δ 2 [] te fe):SOkP K C E Γ Δ Γ Δ (sFld K (tVar i) te f) (Dl.sFld i c f fe):=fun H0 Hb H σ ρ A D I p =>
  he H0 Hb H σ ρ A _ I (Post.imp (Post.bind p) (fun d q v H1 g1 r=>by
    obtain ⟨B,r1,r2,r3,r4⟩:=r;have hB:∀a∈B,H a=none:=fun a ha=>(r2 a ha).elim id fun z=>z.none.elim;have nd:=r4 rfl;split at q;rename_i o e0;obtain ⟨o',e,q'⟩:=oR_ok (Post.bind q);obtain ⟨ns,ds,rfl,hlen,e⟩:=putO_obj e;have I1:=I.mono g1;obtain ⟨v0,hs,r0⟩:=I1.rep i _ e0;obtain ⟨a,dx,xs,B',rfl,h1,hl,r3',hAi⟩:=r0;obtain ⟨d1,d2,d3⟩:=I1.deep i hi;rw [hAi] at d1 d2 d3;have haB:a∉B:=fun z=>I.ne (j:=i) (by rw [hAi];exact .head _) (hB a z);obtain ⟨na,nB'⟩:=Ag.mp d1;have hxs:ns.length=xs.length:=by rw [r3'.len,hl]
    refine ⟨_,hs,a,C c,dx,_,rfl,h1,hc,hn,by rw [CP];omega,?_⟩;have hk:∀b o,b∉A i->H1 b=some o->upd H1 a (.ins (C c) dx (putF f v (ns.zip xs))) b=some o:=fun b o hb h=>by rw [upd_ne (fun z=>hb (by rw [hAi,z];exact .head _))];exact h
    have ext:Ext (fun b=>b=a) H1 (upd H1 a (.ins (C c) dx (putF f v (ns.zip xs)))):=fun b o h=>by by_cases e:b=a;subst e;rw [h1] at h;cases h;exact .inr ⟨rfl,.ins⟩;rw [upd_ne e];exact .inl h
    have rv:=r1.ext ext fun b hb z=>haB (by rw [<- z];exact hb);have rx:=r3'.ext ext fun b hb z=>na (by rw [<- z];exact hb);have hfr:∀b∈B,b∉a::B':=fun b hb z=>I.ne (j:=i) (by rw [hAi];exact z) (hB b hb);have hnew:∀b∈B,Hb b=none/\∀j,b∉A j:=fun b hb=>⟨I.same.free (hB b hb),fun j z=>I.ne z (hB b hb)⟩;cases hj:Dl.fIx f ns with
    | some j =>
      rw [hj] at e;cases e;have hjl:j<ds.length:=by rw [<- hl];exact fIx_lt hj
      obtain ⟨B1,Bj,B2,rfl,r5⟩:=rx.setV hjl rv;refine q' σ _ _ rfl (I1.deepTo hi (Ad.mp e0).1 hs hk ⟨a,dx,xs.set j v,B1++(B++B2),rfl,by rw [upd_same,putF_some f v hxs hj],by rw [BG];exact hl,r5,rfl⟩ (Ag.mpr ⟨fun z=>?_,nodup_swap nB' nd fun b hb=>⟨fun z=>hfr b hb (by simp [z]),fun z=>hfr b hb (by simp [z])⟩⟩) fun b hb=>?_);simp only [Ae] at z na;rcases z with z | z | z;exact na (.inl z);exact haB z;exact na (.inr (.inr z));rw [hAi];simp only [Au,Ae] at hb ⊢;rcases hb with z | z | z | z;exact .inl (.inl z);exact .inl (.inr (.inl z));exact .inr (hnew b z);exact .inl (.inr (.inr (.inr z)))
    | none =>rw [hj] at e;cases e;refine q' σ _ _ rfl (I1.deepTo hi (Ad.mp e0).1 hs hk ⟨a,dx,xs++[v],B'++B,rfl,by rw [upd_same,putF_none f v hxs hj],by simp [hl],rx.app (RpA.one rv),rfl⟩ (Ag.mpr ⟨fun z=>(Ae.mp z).elim na haB,AQ.mpr ⟨nB',nd,fun b hb b' hb' e=>hfr b' hb' (by rw [<- e];exact .tail _ hb)⟩⟩) fun b hb=>?_);rw [hAi];simp only [Au,Ae] at hb ⊢;rcases hb with z | z | z;exact .inl (.inl z);exact .inl (.inr z);exact .inr (hnew b z)
    · exact q.elim) fun c x q H' g'=>q H' (Same.from0 I g'))
theorem sokp_fldApp {f:Str}(hc:Cls K (C c))(hn:NoAttr K (C c) f)(hi:i∈Δ)(he:EOk K C E Γ Δ 2 [] te fe) :
    SOkP K C E Γ Δ Γ Δ (tDrop (tBM K "list" rAppend (tFld K (tVar i) f) (tCons te tNil))) (Dl.sFldApp i c f fe):=fun H0 Hb H σ ρ A D I p=>by
  unfold Dl.sFldApp at p;split at p
  · rename_i o e0;split at p
    · rename_i ys0 eg;obtain ⟨ns,ds,j,rfl,hj,eg⟩:=gFld_obj eg;obtain ⟨v0,hs,r0⟩:=I.rep i _ e0;obtain ⟨a,dx,xs,B',rfl,h1,hl,r3,hAi⟩:=r0;obtain ⟨d1,d2,d3⟩:=I.deep i hi;rw [hAi] at d1 d2 d3;obtain ⟨na,nB'⟩:=Ag.mp d1;obtain ⟨B1,Bj,B2,w,rfl,hw,rj,up⟩:=r3.one_of eg;obtain ⟨b,zs,Bl,rfl,hb,rl,rfl⟩:=rj;refine ⟨_,hs,a,C c,dx,_,.ref b,rfl,h1,hc,hn,by rw [lookup_fIx f (by rw [r3.len,hl]),hj];exact hw,.inl ⟨rfl,zs,SqL.of hb⟩,he H0 Hb H σ ρ A _ I (Post.imp (Post.bind p) (fun d q v H1 g1 r=>?_) fun c x q H' g'=>q H' (Same.from0 I g'))⟩;obtain ⟨B,r1,r2,_,r4⟩:=r;have hB:∀a∈B,H a=none:=fun a ha=>(r2 a ha).elim id fun z=>z.none.elim;have nd:=r4 rfl;obtain ⟨o',e,q'⟩:=oR_ok (Post.bind q);simp only [Dl.appO,if_true,hj,Option.bind_some,eg] at e;split at e
      · rename_i hlen;cases e;show rAppend (.ref b) [v] H1 fun _ H3=>D.nx σ H3;refine rd_app (g1 _ _ hb) (by rw [rl.len];exact limLine' hlen) ?_;have hfr:∀c∈B,c∉a::(B1++(b::Bl++B2)):=fun c hc z=>I.ne (j:=i) (by rw [hAi];exact z) (hB c hc);have hba:a≠b:=fun z=>na (by rw [z];simp);have hk:∀c o,c∉A i->H1 c=some o->upd H1 b (.lst (zs++[v])) c=some o:=fun c o hc h=>by rw [upd_ne (fun z=>hc (by rw [hAi,z];simp))];exact h
        have ext1:Ext (fun c=>c=b) H1 (upd H1 b (.lst (zs++[v]))):=fun c o h=>by by_cases e:c=b;subst e;rw [g1 _ _ hb] at h;cases h;exact .inr ⟨rfl,.lst⟩;rw [upd_ne e];exact .inl h
        have ext:Ext (fun c=>c=b) H (upd H1 b (.lst (zs++[v]))):=fun c o h=>ext1 c o (g1 c o h);have nb1:=AQ.mp nB';have nb2:=AQ.mp nb1.2.1;have nb3:=Ag.mp nb2.1;have rl2:=(rl.same g1).ext ext1 fun c hc z=>nb3.1 (by rw [<- z];exact hc);have rv2:=r1.ext ext1 fun c hc z=>hfr c hc (by rw [z];simp);have r5:=up (fun c=>c=b) _ (.lst (ys0++[d])) (b::(Bl++B)) ext (fun c hc z=>by
          rw [z] at hc;rcases Ae.mp hc with z | z;exact nb1.2.2 b z b (by simp) rfl
          · exact nb2.2.2 b (by simp) b z rfl) ⟨b,zs++[v],Bl++B,rfl,upd_same,rl2.app (RpA.one rv2),rfl⟩
        have ndn:(B1++((b::(Bl++B))++B2)).Nodup:=nodup_swap nB' (Ag.mpr ⟨fun z=>(Ae.mp z).elim nb3.1 fun z=>hfr b z (by simp),AQ.mpr ⟨nb3.2,nd,fun c hc c' hc' e=>hfr c' hc' (by rw [<- e];simp [hc])⟩⟩) fun c hc=>by simp only [Au,Ae] at hc;rcases hc with z | z | z;subst z;exact ⟨fun w=>nb1.2.2 c w c (by simp) rfl,fun w=>nb2.2.2 c (by simp) c w rfl⟩;exact ⟨fun w=>nb1.2.2 c w c (by simp [z]) rfl,fun w=>nb2.2.2 c (by simp [z]) c w rfl⟩;exact ⟨fun w=>hfr c z (by simp [w]),fun w=>hfr c z (by simp [w])⟩
        refine q' σ _ _ rfl ((I.mono g1).deepTo hi (Ad.mp e0).1 hs hk ⟨a,dx,xs,_,rfl,by rw [upd_ne hba];exact g1 _ _ h1,by rw [BG];exact hl,r5,rfl⟩ (Ag.mpr ⟨fun z=>?_,ndn⟩) fun c hc=>?_);simp only [Au,Ae] at z na;rcases z with z | (z | z | z) | z;exact na (.inl z);exact hba z;exact na (.inr (.inl (.inr z)));exact hfr a z (.head _);exact na (.inr (.inr z));rw [hAi];simp only [Au,Ae] at hc ⊢;rcases hc with z | z | (z | z | z) | z;exact .inl (.inl z);exact .inl (.inr (.inl z));exact .inl (.inr (.inr (.inl (.inl z))));exact .inl (.inr (.inr (.inl (.inr z))));exact .inr ⟨I.same.free (hB c z),fun j w=>I.ne w (hB c z)⟩;exact .inl (.inr (.inr (.inr z)))
      cases e
    exact p.elim
  exact p.elim
def MBOk (K:AC)(C:String->Addr)(E:XK)(Γ Δ:List Nat)(t:TS)(G:FM):Prop:=∀(H0 Hb H:Hp) (σ:St) (ρ:DEnv) (A:Nat->List Addr) (D:Ends) (Q:VK),EnvOk K C H0 Hb H Γ Δ σ ρ A->D.rt=Q->(D.nx=fun _ H'=>Q .non H')->
 Post (G ρ) (fun p=>∀v H' σ' A' B,σ'[0]?=σ[0]?->EnvOk K C H0 Hb H' [0] [0] σ' p.2 A'->Rp K C H' p.1 v B->B.Nodup->(∀a∈B,Hb a=none/\∀j,a∉A' j)->Q v H') (fun c x=>∀H',Same H0 H'->EC C E c x H')->t D σ H
theorem mb_cons {t:TS}{g:FS}{G:FM}(h:SOkP K C E Γ Δ Γ1 Δ1 t g)(hr:MBOk K C E Γ1 Δ1 u G):MBOk K C E Γ Δ (tSeq t u) (Dl.mbCons g G):=fun H0 Hb H σ ρ A D Q I e1 e2 p =>
  h H0 Hb H σ ρ A _ I (Post.imp (Post.bind p) (fun fl q=>by
    cases fl with
    | nx ρ'=>exact fun σ' H' A' hσ I'=>hr H0 Hb H' σ' ρ' A' D Q I' e1 e2 (Post.imp q (fun p q v H2 σ2 A2 B h2=>q v H2 σ2 A2 B (h2.trans hσ)) fun _ _ q=>q)
    | _=>exact q.elim) fun c x q=>q)
theorem mb_ret (he:EOk K C E Γ Δ 2 [] te fe)(h1:∀i∈[0],i∈Γ:=by decide)(h2:∀i∈[0],i∈Δ:=by decide):MBOk K C E Γ Δ (tRet te) (Dl.mbRet fe):=fun H0 Hb H σ ρ A D Q I e1 e2 p=>by subst e1;refine he H0 Hb H σ ρ A _ I (Post.imp (Post.bind p) (fun d q v H1 g1 r=>?_) fun c x q H' g'=>q H' (Same.from0 I g'));obtain ⟨B,r1,r2,_,r4⟩:=r;have hn:∀a∈B,H a=none:=fun a ha=>(r2 a ha).elim id fun z=>z.none.elim;exact q v H1 σ A B rfl ((I.mono g1).weak h1 h2) r1 (r4 rfl) fun a ha=>⟨I.same.free (hn a ha),fun j z=>I.ne z (hn a ha)⟩
theorem mb_end {t:TS}{g:FS}(h:SOkP K C E Γ Δ Γ1 Δ1 t g)(h1:∀i∈[0],i∈Γ1:=by decide)(h2:∀i∈[0],i∈Δ1:=by decide):MBOk K C E Γ Δ t (Dl.mbEnd g):=fun H0 Hb H σ ρ A D Q I e1 e2 p =>
  h H0 Hb H σ ρ A _ I (Post.imp (Post.bind p) (fun fl q=>by
    cases fl with
    | nx ρ'=>exact fun σ' H' A' hσ I'=>by rw [e2];exact q .non H' σ' A' [] hσ (I'.weak h1 h2) ⟨rfl,rfl⟩ Bw (fun _ h=>nomatch h)
    | _=>exact q.elim) fun c x q=>q)
theorem key_env (r:RpA K C H ds vs B):∃A:Nat->List Addr,(∀(i:Nat) d,ds[i]?=some d->∃v,vs[i]?=some v/\Rp K C H d v (A i))/\(∀i,ds.length<=i->A i=[])/\∀i,∀a∈A i,a∈B:=by
 induction ds generalizing vs B with
 | nil=>exact ⟨fun _=>[],fun i d h=>by simp at h,fun _ _=>rfl,fun _ _ h=>nomatch h⟩
 | cons d ds ih =>
  obtain ⟨x,l,B1,B2,e1,e2,e3,e4⟩:=r;obtain ⟨A,h1,h2,h3⟩:=ih e3;subst e1 e4;refine ⟨fun i=>match i with | 0=>B1 | i+1=>A i,fun i d' h=>?_,fun i h=>?_,fun i a ha=>?_⟩;cases i with
  | zero=>simp at h;subst h;exact ⟨x,rfl,e2⟩
  | succ i=>simp at h;obtain ⟨v,q1,q2⟩:=h1 i d' h;exact ⟨v,by simpa using q1,q2⟩
  cases i with
  | zero=>simp at h
  | succ i=>exact h2 i (by simpa using h)
  cases i with
  | zero=>exact Am _ ha
  | succ i=>exact Aj _ (h3 i a ha)
theorem start_envM (r0:Rp K C H d0 v0 A0)(nd:A0.Nodup)(r:RpA K C H ds vs B)(hd:∀a∈B,a∉A0) :
  ∃A,EnvOk K C (fun b=>if b∈A0 then none else H b) (fun b=>if b∈A0 then none else H b) H [0] [0] ((v0::vs).map some++Aa (N - (v0::vs).length) none) ((d0::ds).map some++Aa (N - (d0::ds).length) none) A/\A 0=A0:=by
 obtain ⟨A,h1,h2,h3⟩:=key_env r;have hl:=r.len;have hne:∀j,j≠0->∀a∈A0,a∉(match j with | 0=>A0 | i+1=>A i):=fun j hj a ha h=>by
  cases j with
  | zero=>exact hj rfl
  | succ j=>exact hd a (h3 j a h) ha
 have h0:∀a∈A0,(if a∈A0 then none else H a)=none:=fun a ha=>if_pos ha;refine ⟨fun i=>match i with | 0=>A0 | i+1=>A i,⟨Same.refl _,fun b o h=>?_,by simp [hl],fun i d h=>?_,fun i h=>?_,fun i hi a ha=>?_,fun i hi a l e=>?_,fun i hi=>?_⟩,rfl⟩;have h:(if b∈A0 then none else H b)=some o:=h;split at h;cases h;exact h;cases i with
 | zero=>simp at h;subst h;exact ⟨v0,by simp,r0⟩
 | succ i =>by_cases hi:i<ds.length;rw [AE (by simpa using hi),Bg,BV] at h;obtain ⟨d',hd',e⟩:=AF.mp h;cases e;obtain ⟨v,q1,q2⟩:=h1 i d hd';refine ⟨v,?_,q2⟩;rw [AE (by simp [hl,hi]),Bg,BV,q1];rfl;rw [Bk (by simpa using hi)] at h;have:=BB h;rw [C4] at this;exact absurd this.2 (by intro z;cases z)
 cases i with
 | zero=>exact absurd (by simp) (h d0)
 | succ i =>by_cases hi:i<ds.length;refine absurd ?_ (h ds[i]);rw [AE (by simpa using hi),Bg,BV,AA hi];rfl;exact h2 i (by omega)
 rw [As.mp hi] at ha;exact h0 a ha;obtain rfl:=As.mp hi;have e:A0=a::l:=e;subst e;exact ⟨h0 a (.head _),(Ag.mp nd).1,fun j hj=>hne j hj a (.head _)⟩;obtain rfl:=As.mp hi;exact ⟨nd,hne,h0⟩
theorem run_postM {t:TS}{G:FM}{E':XK}(h:MBOk K C E [0] [0] t G)(r0:Rp K C H d0 v0 A0)(nd:A0.Nodup)(r:RpA K C H ds vs B)(hd:∀a∈B,a∉A0)
    (p:Post (Dl.runM N G (d0::ds)) (fun p=>∀v H' A1 Br,(∀b o,b∉A0->H b=some o->H' b=some o)->Rp K C H' p.2 v0 A1->A1.Nodup->(∀a∈A1,a∈A0\/H a=none)->Rp K C H' p.1 v Br->Br.Nodup->(∀a∈Br,(a∈A0\/H a=none)/\a∉A1)->Q v H')
      (fun c x=>∀H',(∀b o,b∉A0->H b=some o->H' b=some o)->EC C E c x H')) :
    t {nx:=fun _ H'=>Q .non H',rt:=Q} ((v0::vs).map some++Aa (N - (v0::vs).length) none) H:=by
  obtain ⟨A,I,hA⟩:=start_envM (N:=N) r0 nd r hd;have bk:∀{H'},Same (fun b=>if b∈A0 then none else H b) H'->∀b o,b∉A0->H b=some o->H' b=some o:=fun g b o hb h=>g b o ((if_neg hb).trans h);have fr:∀{a},(if a∈A0 then none else H a)=none->a∈A0\/H a=none:=fun {a} h=>by split at h;exact .inl (by assumption);exact .inr h
  refine h _ _ H _ _ A _ Q I rfl rfl (Post.imp (Post.bind p) (fun q pq v H' σ' A' B' hσ I' rr ndr hB=>?_) fun c x q H' g=>q H' (bk g));split at pq;rename_i d e;obtain ⟨w,hw,rw'⟩:=I'.rep 0 d e;have hw2:some (some w)=some (some v0):=by rw [<- hw,hσ];simp
  cases hw2;obtain ⟨q1,q2,q3⟩:=I'.deep 0 (by simp);refine pq v H' (A' 0) B' (bk I'.same) rw' q1 (fun a ha=>fr (q3 a ha)) rr ndr fun a ha=>⟨fr (hB a ha).1,(hB a ha).2 0⟩;exact pq.elim
end
structure JM (X:Cx)(C:String->Addr)(E:XK)(Γ Δ:List Nat)(e:Expr)(t:TE)(f:FM):Prop where
 q:QE X e t
 o:MOk X.K C E Γ Δ t f
structure JMT (X:Cx)(C:String->Addr)(E:XK)(Γ Δ:List Nat)(e:Expr)(t:TT)(f:FMT):Prop where
 q:QT X e t
 o:MTOk X.K C E Γ Δ t f
structure JMW (X:Cx)(C:String->Addr)(E:XK)(Γ Δ:List Nat)(e:Expr)(t:TT)(f:FMT):Prop where
 q:QW X e t
 o:MTOk X.K C E Γ Δ t f
structure JP (X:Cx)(C:String->Addr)(E:XK)(Γ Δ Γ' Δ':List Nat)(s:Stmt)(t:TS)(f:FS):Prop where
 q:QS X s t
 o:SOkP X.K C E Γ Δ Γ' Δ' t f
structure JMB (X:Cx)(C:String->Addr)(E:XK)(Γ Δ:List Nat)(s:List Stmt)(t:TS)(f:FM):Prop where
 q:QSs X s t
 o:MBOk X.K C E Γ Δ t f
structure MDef (P:Ao)(w:AK)(K:AC)(mg:Str->Option Value)(base:AR)(CX:CXT)(k:Nat)(C:Addr)(x:Str)(ps:List Str)(sp:Sp):Prop where
 ex:∃f fd,Meth K C x f/\Binds K fd ps []/\FnOk P w K mg base CX k f fd ps sp
structure MkDef (P:Ao)(w:AK)(K:AC)(mg:Str->Option Value)(base:AR)(CX:CXT)(k:Nat)(C:Addr)(ps:List Str)(sp:Sp):Prop where
 ex:∃f fd,Mk K C f/\Binds K fd ps []/\FnOk P w K mg base CX k f fd ps sp
section
variable {S:List (Nat×Bool)}{a:Expr}{rest:List Expr}{fa:FA}{f:Str}{k:Nat}{s:Stmt}{tm:TE}{g:FS}
theorem ce_fld (hc:Cls K (C c))(hn:NoAttr K (C c) f)(he:JE X C E Γ Δ m S e te fe)(hb:AS e f X.env (Ar e X.env)=Ar e X.env:=by rfl)(hK:X.K=K:=by rfl):JE X C E Γ Δ 0 S (.Attribute e f pos) (tFld K te f) (Dl.f1 (Dl.gFld c f) fe):=by subst hK;exact ⟨⟨pe_fld he.q.out hb⟩,eok_fld hc hn he.o⟩
theorem ce_meth (hc:Cls K (C c))(M:MDef X.prog X.w K X.mg X.base CX k (C c) md ps (spD K C (n+1) mr F))(hr:Room k X.A)(hx:Passes CX X E)(ho:JE X C E Γ Δ m1 S1 o te fe)(ha:JA X C E Γ Δ m2 S2 (e::es) n t fa)
    (hst:Ab (e::es) X.env=(false,Ar e X.env)::Ab es X.env:=by rfl) (hpl:(AG pos (Ab es X.env)).any (·.1)=false:=by rfl)
    (ht:Ar (.Call (.Attribute o md apos) (e::es) [] pos) X.env=(do
      let ov <- Ar o X.env
      B5 apos.atName
      let (f,first) <- BA [ov] (BQ ov md pl)
      CD pos f first (AG pos (Ab (e::es) X.env)) (BC pos (AU [] X.env))):=by rfl) (hK:X.K=K:=by rfl) :
    JE X C E Γ Δ mr [] (.Call (.Attribute o md apos) (e::es) [] pos) (tMeth (C c) md (spD K C (n+1) mr F) [] E te t) (Dl.fMeth c md F fe fa):=by
  subst hK;obtain ⟨f,fd,hm,hb,F'⟩:=M.ex;exact ⟨⟨pe_meth ho.q.out hc hm F' hr hb .nil hx ha.q.out hst hpl ht⟩,eok_meth ho.o ha.o ha.n⟩
theorem ce_meth0 (hc:Cls K (C c))(M:MDef X.prog X.w K X.mg X.base CX k (C c) md ps (spD K C 1 mr F))(hr:Room k X.A)(hx:Passes CX X E)(ho:JE X C E Γ Δ m1 S1 o te fe)
    (ht:Ar (.Call (.Attribute o md apos) [] [] pos) X.env=(do
      let ov <- Ar o X.env
      B5 apos.atName
      let (f,first) <- BA [ov] (BQ ov md pl)
      CD pos f first (AG pos (Ab [] X.env)) (BC pos (AU [] X.env))):=by rfl) (hK:X.K=K:=by rfl) :
    JE X C E Γ Δ mr [] (.Call (.Attribute o md apos) [] [] pos) (tMeth (C c) md (spD K C 1 mr F) [] E te tNil) (Dl.fMeth c md F fe Dl.aNil):=by
  subst hK;obtain ⟨f,fd,hm,hb,F'⟩:=M.ex;exact ⟨⟨pe_meth0 ho.q.out hc hm F' hr hb .nil hx ht⟩,eok_meth ho.o aok_nil len_nil⟩
theorem ce_make (M:MkDef X.prog X.w K X.mg X.base CX k (C c) ps (spM K C n G))(hr:Room (k+1) X.A)(hg:Gl X x)(hm:X.mg x=some (.ref (C c)))(hx:Passes CX X E)(ha:JA X C E Γ Δ m S (e::es) n t fa)
  (hdb:(x==("__debug__":Str))=false:=by decide) (he:Ab (e::es) X.env=(false,Ar e X.env)::Ab es X.env:=by rfl) (hpl:(AG pos (Ab es X.env)).any (·.1)=false:=by rfl) (hK:X.K=K:=by rfl) :
  JE X C E Γ Δ 2 [] (.Call (.Name x p) (e::es) [] pos) (tMake (C c) (spM K C n G) [] E t) (Dl.fMake c G fa):=by
 subst hK;obtain ⟨f,fd,hm',hb,F'⟩:=M.ex;exact ⟨⟨pe_make hm' F' hr hg hm hb .nil hx ha.q.out hdb he hpl⟩,eok_make ha.o ha.n⟩
theorem cm_meth (i:Nat)(hc:Cls K (C c))(M:MDef X.prog X.w K X.mg X.base CX k (C c) md ps (spM K C n G))(hr:Room k X.A)(hx:Passes CX X E)(ha:JA X C E Γ Δ m2 S2 (e::es) n t fa)(hi:i∈Δ:=by decide)(hS:∀p∈S2,p.1≠i:=by decide)
    (hN:X.N[i]?=some x:=by rfl) (hv:autoParam (Vis X.env.scope x) aT3._auto_1) (hd:(x==("__debug__":Str))=false:=by decide) (hcd:(x==("__classdict__":Str))=false:=by decide)
    (hst:Ab (e::es) X.env=(false,Ar e X.env)::Ab es X.env:=by rfl) (hpl:(AG pos (Ab es X.env)).any (·.1)=false:=by rfl)
    (ht:Ar (.Call (.Attribute (.Name x p) md apos) (e::es) [] pos) X.env=(do
      let ov <- Ar (.Name x p) X.env
      B5 apos.atName
      let (f,first) <- BA [ov] (BQ ov md pl)
      CD pos f first (AG pos (Ab (e::es) X.env)) (BC pos (AU [] X.env))):=by rfl) (hK:X.K=K:=by rfl) :
    JM X C E Γ Δ (.Call (.Attribute (.Name x p) md apos) (e::es) [] pos) (tMeth (C c) md (spM K C n G) [] E (tVar i) t) (Dl.mMeth i c md G fa):=by
  subst hK;obtain ⟨f,fd,hm,hb,F'⟩:=M.ex;exact ⟨⟨pe_meth (pv i hN hv hd hcd) hc hm F' hr hb .nil hx ha.q.out hst hpl ht⟩,mok_meth hi ha.o ha.n hS⟩
theorem jb_cons {v:TS}(Γ1 Δ1:List Nat)(h:JP X C E Γ Δ Γ1 Δ1 s u g)(hr:JMB X C E Γ1 Δ1 ss v fm):JMB X C E Γ Δ (s::ss) (tSeq u v) (Dl.mbCons g fm):=⟨qss_cons h.q hr.q,mb_cons h.o hr.o⟩
theorem jb_ret (he:JE X C E Γ Δ 2 [] e te fe)(h1:∀i∈[0],i∈Γ:=by decide)(h2:∀i∈[0],i∈Δ:=by decide):JMB X C E Γ Δ [.Return (some e) pos] (tRet te) (Dl.mbRet fe):=⟨qss_one (qs_ret he.q),mb_ret he.o h1 h2⟩
theorem jb_end (h:JP X C E Γ Δ Γ1 Δ1 s u g)(h1:∀i∈[0],i∈Γ1:=by decide)(h2:∀i∈[0],i∈Δ1:=by decide):JMB X C E Γ Δ [s] u (Dl.mbEnd g):=⟨qss_one h.q,mb_end h.o h1 h2⟩
theorem jp_fld (hc:Cls K (C c))(hn:NoAttr K (C c) f)(he:JE X C E Γ Δ 2 [] e te fe)(hi:i∈Δ:=by decide)(hN:X.N[i]?=some x:=by rfl)(hv:autoParam (Vis X.env.scope x) aT3._auto_1)(hd:(x==("__debug__":Str))=false:=by decide)(hcd:(x==("__classdict__":Str))=false:=by decide)
  (hs:A8 e (some (.Attribute (.Name x p) f p2)) pos.line X.env=pure false:=by rfl) (hK:X.K=K:=by rfl):JP X C E Γ Δ Γ Δ (.Assign [.Attribute (.Name x p) f p2] e pos) (sFld K (tVar i) te f) (Dl.sFld i c f fe):=by
 subst hK;exact ⟨⟨ps_fld (pv i hN hv hd hcd) he.q.out hs⟩,sokp_fld hc hn hi he.o⟩
theorem jp_fldApp (hc:Cls K (C c))(hn:NoAttr K (C c) f)(he:JE X C E Γ Δ 2 [] e te fe)(hse:Ab [e] X.env=(false,Ar e X.env)::Ab [] X.env)(hi:i∈Δ:=by decide)(hN:X.N[i]?=some x:=by rfl)(hv:autoParam (Vis X.env.scope x) aT3._auto_1)(hd:(x==("__debug__":Str))=false:=by decide)(hcd:(x==("__classdict__":Str))=false:=by decide)
  (hb:AS (.Name x p) f X.env (Ar (.Name x p) X.env)=Ar (.Name x p) X.env:=by rfl) (hbase:AS (.Attribute (.Name x p) f ap) "append" X.env (Ar (.Attribute (.Name x p) f ap) X.env)=Ar (.Attribute (.Name x p) f ap) X.env:=by rfl)
  (hfew:((AG cpos (Ab [e] X.env)).all (fun x=>!x.1)&&(BC cpos (AU [] X.env)).all (fun x=>x.1.isSome)&&decide (([e]:List Expr).length+([]:List BO).length+(if ([]:List BO).isEmpty then 0 else 1)<30))=true:=by rfl)
  (hline:(apos.endLine==cpos.line)=true:=by rfl) (hplain:(AG cpos (Ab ([]:List Expr) X.env)).any (·.1)=false:=by rfl) (hsw:A8 (.Call (.Attribute (.Attribute (.Name x p) f ap) "append" apos) [e] [] cpos) none pos.line X.env=pure false:=by rfl) (hK:X.K=K:=by rfl) :
  JP X C E Γ Δ Γ Δ (.Expr (.Call (.Attribute (.Attribute (.Name x p) f ap) "append" apos) [e] [] cpos) pos) (tDrop (tBM K "list" rAppend (tFld K (tVar i) f) (tCons te tNil))) (Dl.sFldApp i c f fe):=by
 subst hK;exact ⟨qs_expr (qe_bm PySem.F.plainAttrs_list PySem.F.slot_list_append PySem.F.type_list_append mt_append ⟨pe_fld (pv i hN hv hd hcd) hb⟩ (qa_cons he.q qa_nil hse) hbase hfew hline hse hplain) hsw,sokp_fldApp hc hn hi he.o⟩
theorem jp_set (hN:X.N.Nodup)(hi:X.N[i]?=some x)(hx:Loc X.env.scope x)(he:JE X C E Γ Δ 2 [] e te fe)(h0:i≠0:=by decide)(hs:A8 e (some (.Name x p')) pos.line X.env=pure false:=by rfl)(hf:autoParam (X.fn x=true\/X.env.scope.names.lookup x=some .local) aT0._auto_1)
  (h1:∀j∈Γ',j=i\/j∈Γ:=by decide) (h2:∀j∈Δ',j=i\/j∈Δ:=by decide):JP X C E Γ Δ Γ' Δ' (.Assign [.Name x p'] e pos) (tAsg te (gName i)) (Dl.sSet i fe):=⟨qs_set hN hi hx he.q hs hf,sokp_set2 he.o h0 h1 h2⟩
theorem cs_setM (hN:X.N.Nodup)(hi:X.N[i]?=some x)(hx:Loc X.env.scope x)(he:JM X C E Γ Δ e tm fm)(hs:A8 e (some (.Name x p')) pos.line X.env=pure false:=by rfl)(hf:autoParam (X.fn x=true\/X.env.scope.names.lookup x=some .local) aT0._auto_1)
  (h1:∀j∈Γ',j=i\/j∈Γ:=by decide) (h2:∀j∈Δ',j=i\/j∈Δ:=by decide):JS X C E mr Γl Δl Γ Δ Γ' Δ' (.Assign [.Name x p'] e pos) (tAsg tm (gName i)) (Dl.sSetM i fm):=⟨qs_set hN hi hx he.q hs hf,sok_setM he.o h1 h2⟩
theorem jp_ifN {fA:FT}(hc:JT X C E Γ Δ cx tA fA):JP X C E Γ Δ Γ Δ (.If cx [.Raise ex none rp] [] pos) (tIfS tA tNever tNext) (Dl.sIf fA Dl.sNever Dl.sNx):=⟨qs_if hc.q (qss_one (cs_never (X:=X) (C:=C) (E:=E) (mr:=2) (Γl:=[]) (Δl:=[]) (Γ:=Γ) (Δ:=Δ) (Γ':=Γ) (Δ':=Δ)).q) qss_nil,sokp_ifN hc.o⟩
end
theorem Fun.okM {P:Ao}{base:AR}{st:Stmt}{f:Addr}{N:List Str}{k:Nat}{G:FM}(F:Fun K x qual st f fd)(S:FnScope N ps (defScope st))(hn:ps.length=n+1)
    (hbody:∀(cdv:Value) (A:AI) (outer:List Env) (s:Ac) (H:Hp) (E:XK),Room k (A.deeper (Cv qual (defScope st) s.heap.objs.size f cdv))->
      ∃t,JMB (cxOf CX0 P w K mg base N qual (defScope st) f cdv A outer s H E).nox C E0 [0] [0] (defBody st) t G):FnOk P w K mg base CX0 (k+1) f fd ps (spM K C n fun ds=>(Dl.runM N.length G ds).calm):=
  F.okQ S (fun vs H Q E h=>by
    obtain ⟨d0,ds,v0,vs',A0,B,rfl,h1,_,_,h2,_⟩:=h;rw [A7,h2.len,h1,hn]) fun cdv A outer s H vs Q E hr h=>by
    obtain ⟨d0,ds,v0,vs',A0,B,rfl,h1,r0,nd,r,hd,p⟩:=h;obtain ⟨t,ht⟩:=hbody cdv A outer s H E hr;exact ⟨t,ht.q,run_postM (K:=K) (E':=E) ht.o r0 nd r hd (Post.imp (calm_of p) (fun _ q=>q) fun _ _ z=>z.elim)⟩
section
variable {S:List (Nat×Bool)}
variable {a:Expr}{k:Nat}
end
theorem allN0 (h:P []):∀us:List Value,us.length=0->P us
 | [],_=>h
theorem allN1 (h:∀a0,P [a0])(us:List Value)(hl:us.length=1):P us:=by
 cases us with
 | nil=>exact absurd hl (by decide)
 | cons a us=>exact allN0 (P:=fun z=>P (a::z)) (h a) us (Cq hl)
theorem allN2 (h:∀a0 a1,P [a0,a1])(us:List Value)(hl:us.length=2):P us:=by
 cases us with
 | nil=>exact absurd hl (by decide)
 | cons a us=>exact allN1 (P:=fun z=>P (a::z)) (h a) us (Cq hl)
theorem allN3 (h:∀a0 a1 a2,P [a0,a1,a2])(us:List Value)(hl:us.length=3):P us:=by
 cases us with
 | nil=>exact absurd hl (by decide)
 | cons a us=>exact allN2 (P:=fun z=>P (a::z)) (h a) us (Cq hl)
theorem allN4 (h:∀a0 a1 a2 a3,P [a0,a1,a2,a3])(us:List Value)(hl:us.length=4):P us:=by
 cases us with
 | nil=>exact absurd hl (by decide)
 | cons a us=>exact allN3 (P:=fun z=>P (a::z)) (h a) us (Cq hl)
theorem walkX_of {K:Params->AC}{t:Nat}{r:PySem.W.RowW}{d:DefRec}{run:Value->List Value->Sem Value}
  (e:∀P,as=(K P).map (·.1)) (W:PySem.W.WalkO q loose XP (PySem.W.InK K) r d kwd run):PySem.W.WalkX q loose XP (PySem.W.X.obsZ as) (PySem.W.X.valZ K n t) r d kwd run:=
 fun w s₀ s₁ mg mb G y a o pm cd doc dV kV ho hd hcd hD hmg hg args vals as' L hpre hlay hrd hwl hlo =>
  W w s₀ s₁ mg mb G (PySem.W.InK.keeps w _ _ (PySem.W.X.z_facts e y).2.1 (PySem.W.Laid.keeps L)) a o pm cd doc dV kV ho hd hcd hD hmg hg args vals as' hpre hlay hrd hwl hlo
section
variable {k:Nat}{p3:Pos}
end
def excInI (K:AC)(C:Addr)(bmB:List Value)(newId:String)(fI:Addr):Bool:=match K.lookup C with
  | some ⟨.type "type",_,.cls cd,sl⟩=>(match cd.mro,sl.toList with
    | .ref C'::bm,[_,_,_,_,some (.builtin n),_]=>C'==C&&n==newId&&!cd.hasDel&&cd.hasDict&&PySem.W.tailIn K bmB bm&&PySem.W.nsOkIn K cd.ns&&Ca K cd.ns "__init__"==some (some (.ref fI))
    | _,_=>false)
  | _=>false
section
variable {A:AI}{E:Value->Ac->Prop}{g:Array CS}{d:F0}{t:Nat}
variable {q:Str}{C N:Addr}{bs:List Value}{B:String}
end
end L2
namespace L2
open PySem PySem.Spec PyProof.Rows
open PySem.W (Looks)
open Builtin Builtin.ObjectAttr
variable {prog:Ao}{w:AK}{A:AI}{E:Value->Ac->Prop}{h:AR}{g:Array CS}{d:F0}{t:Nat}{os:Fv}{sn:List Str}{sub:List Value}{ab:Bool}{col:Option Bool}{dd:Option Addr}
section
variable {nm q:Str}{C N x:Addr}{bs bm bmB:List Value}{k0 k1 k2 k3 k5:Option Value}{B newId sa owner:String}
 {name:Str} {v:Value} {fs:Array Value} {sl:Array (Option Value)}
end
end L2
namespace L2
open PySem PySem.Spec PyProof.Rows
open PySem.W (Looks)
variable {prog P:Ao}{w:AK}{A:AI}{E:XK}{h:AR}{g:Array CS}{d:F0}{t m mr m1 m2 m3 n:Nat}{os:Fv}{C:String->Addr}{hdct ab:Bool}{sn:List Str}{sub:List Value}{col:Option Bool}{dd:Option Addr}{o e b a c:Expr}{vs:Array Value}{mA mg:Str->Option Value}{v:Value}{name x y:Str}{X:Cx}{pins:List (Addr×Obj)}{H:Hp}{s:Ac}{es:List Expr}{ta te tb:TE}{pos pos' apos np cpos p p2:Pos}{B:List Addr}{K:AC}{Γ Δ Γ' Δ' Γl Δl Γk Δk Γ1 Δ1:List Nat}{fe fa fb:FE}{S1 S2 S3:List (Nat×Bool)}{ret suite:List Stmt}{hs:List Cz}{zs:List Clz}{ds:List (List (String×Bool)×Option Nat×FS)}{b₀:Stmt}{ks:List (Int ⊕ Str)}{xs:List V}
section
variable {E:Value->Ac->Prop}
variable {nm q:Str}{C N x:Addr}{bs bm bmB:List Value}{k0 k1 k2 k3 k5:Option Value}{B newId initId:String}
end
section
variable {E:Value->Ac->Prop}{a C dx:Addr}{o:Obj}
end
open Dl (D R FE FT FA FO FS FI FB Fl)
structure ErrF (K:AC)(C:Addr)(nm:Str)(fI:Addr):Prop where
 exc:excInI K C bmV "ValueError.__new__" fI=true
 sa:Ax K (.ref C) "__setattr__"=some (some (.builtin "object.__setattr__"))
 nf:Ax K (.ref C) nm=some none
 hd:CM K C=true
def exA (e C:Addr)(dx:Option Addr):HO:=.ext fun h=>∃t sl,h.get? e=some {cls:=.ref C,dict:=dx,data:=.fields #[.ref t,.none,.none,.none,.bool false,.none],slots:=sl}
section
variable {σ:St}
end
structure BaseI (K:AC)(B:Addr):Prop where
 sp:E9 K (.ref B) "__getattribute__"=some (some (.builtin "type.__getattribute__"))
 rd:PySem.W.readsIn K B (.type "type")=true
 fc:PySem.W.findCls K (.ref B) (.type "type") "__init__"=some (.val (.builtin "ValueError.__init__"))
section
variable {value:Expr}{t:TA}{tv:TE}{b f:Str}{B:Addr}
end
def spInit (K:AC)(nm:Str):Sp:=fun vs H Q _=>∃e C i fI,vs=[.ref e,.int i]/\H e=some (exA e C none)/\ErrF K C nm fI/\i.natAbs.log2<1920/\∀d,H d=none->Q .non (upd (upd H d (.xd [(nm,.int i)])) e (exA e C (some d)))
section
variable {base:AR}
structure IDef (P:Ao)(w:AK)(K:AC)(mg:Str->Option Value)(base:AR)(C:Addr)(nm:Str):Prop where
 ex:∃fI fd ps,ErrF K C nm fI/\C3 K (.ref fI)=some (.type "function")/\ps.length=2/\Binds K fd ps []/\FnOk P w K mg base CX0 1 fI fd ps (spInit K nm)
variable {S:List (Nat×Bool)}
variable {S:List (Nat×Bool)}
variable {iter:Expr}{u:TS}{g:FS}{ip:Pos}{k:Nat}
end
structure Clz where
 c:Value
 i:Option Nat
 th:TS
inductive PClz (X:Cx):List Cz->List Clz->Prop
 | nil:PClz X [] []
 | named {c n:Str} {np hpos:Pos} {C:Addr} {b₀:Stmt} {suite:List Stmt} {i:Nat} {th:TS} {hs:List Cz} {zs:List Clz} (hm:X.mg c=some (.ref C)) (hg:Gl X c) (hdb:(c==("__debug__":Str))=false) (hi:X.N[i]?=some n) (hl:X.env.scope.names.lookup n=some .local)
   (hh:∀e:Addr,PSs (X.hand e) (b₀::suite) th) (hr:PClz X hs zs):PClz X (.ExceptHandler (some (.Name c np)) (some n) (b₀::suite) hpos::hs) (⟨.ref C,some i,th⟩::zs)
 | plain {c:Str} {np hpos:Pos} {C:Addr} {b₀:Stmt} {suite:List Stmt} {th:TS} {hs:List Cz} {zs:List Clz} (hm:X.mg c=some (.ref C)) (hg:Gl X c) (hdb:(c==("__debug__":Str))=false)
   (hh:∀e:Addr,PSs (X.hand e) (b₀::suite) th) (hr:PClz X hs zs):PClz X (.ExceptHandler (some (.Name c np)) none (b₀::suite) hpos::hs) (⟨.ref C,none,th⟩::zs)
inductive OClz (K:AC)(C:String->Addr)(N mr:Nat)(Γl Δl Γ1 Δ1:List Nat):List Clz->List (List (String×Bool)×Option Nat×FS)->Prop
 | nil:OClz K C N mr Γl Δl Γ1 Δ1 [] []
 | named {c:Addr} {i:Nat} {th:TS} {fh:FS} {tb:List (String×Bool)} {Γ2 Δ2:List Nat} {Eh:XK} {zs:List Clz} {ds:List (List (String×Bool)×Option Nat×FS)} (ht:∀p∈tb,Ee K (.ref (C p.1)) (.ref c)=some p.2) (hi:i<N) (hh:SOk K C Eh mr [] [] [] [] Γ2 Δ2 th fh)
   (hr:OClz K C N mr Γl Δl Γ1 Δ1 zs ds):OClz K C N mr Γl Δl Γ1 Δ1 (⟨.ref c,some i,th⟩::zs) ((tb,some i,fh)::ds)
 | plain {c:Addr} {th:TS} {fh:FS} {tb:List (String×Bool)} {Eh:XK} {zs:List Clz} {ds:List (List (String×Bool)×Option Nat×FS)} (ht:∀p∈tb,Ee K (.ref (C p.1)) (.ref c)=some p.2) (hh:SOk K C Eh mr Γl Δl [] [] Γ1 Δ1 th fh)
   (hr:OClz K C N mr Γl Δl Γ1 Δ1 zs ds):OClz K C N mr Γl Δl Γ1 Δ1 (⟨.ref c,none,th⟩::zs) ((tb,none,fh)::ds)
inductive JClz (X:Cx)(C:String->Addr)(mr:Nat)(Γl Δl Γ1 Δ1:List Nat):List Cz->List Clz->List (List (String×Bool)×Option Nat×FS)->Prop
 | mk {hs:List Cz} {zs:List Clz} {ds:List (List (String×Bool)×Option Nat×FS)} (p:PClz X hs zs) (o:OClz X.K C X.N.length mr Γl Δl Γ1 Δ1 zs ds):JClz X C mr Γl Δl Γ1 Δ1 hs zs ds
section
variable {hpos:Pos}{th:TS}{fh:FS}
variable {S:List (Nat×Bool)}
theorem keyD_kV {x:D}{k:Int ⊕ Str}{v:V}(e:Dl.keyD x=some k)(r:Rp K C H x v B):v=kV k:=by
 cases x with
 | int i=>cases e;exact r.1
 | str z=>cases e;exact r.1
 | _=>cases e
theorem any_zip {k:Int ⊕ Str}:∀{ks:List (Int ⊕ Str)} {xs:List V},ks.length=xs.length->((ks.zip xs).any fun kv=>decide (kv.1=k))=Dl.dHas ks k
 | [],_,_=>rfl
 | j::ks,[],h=>by cases h
 | j::ks,x::xs,h=>by have:=any_zip (k:=k) (ks:=ks) (xs:=xs) (by simpa using h);unfold Dl.dHas at *;rw [BK,D7,D7,this]
theorem val_zip {k:Int ⊕ Str}(h:ks.length=xs.length):(valV (ks.zip xs) k).isSome=Dl.dHas ks k:=by rw [<- valV_any,any_zip h]
theorem eok_dnew:EOk K C E Γ Δ 2 [] tDNewK (Dl.fC (.dct [] [])):=fun H0 Hb H σ ρ A Q I p q hp=>by
 refine p _ _ (sameNew hp _) ⟨[q],⟨q,[],[],rfl,upd_same,rfl,RpA.nil,rfl⟩,fun a ha=>?_,fun z=>by omega,fun _=>Ag.mpr ⟨(fun z=>nomatch z),Bw⟩⟩;have:a=q:=by simpa using ha
 subst this;exact .inl hp
theorem putK_zip {k:Int ⊕ Str}{v:V}:∀{ks:List (Int ⊕ Str)} {xs:List V},ks.length=xs.length->(ks.zip xs).map (fun kv=>if kv.1=k then (kv.1,v) else kv)=ks.zip (Cy (fun j x=>if j=k then v else x) ks xs)
 | [],_,_=>rfl
 | j::ks,[],h=>by cases h
 | j::ks,x::xs,h=>by have:=putK_zip (k:=k) (v:=v) (ks:=ks) (xs:=xs) (by simpa using h);rw [BK,Bt,this,List.zipWith_cons_cons,BK];congr 1;by_cases e:j=k;simp [e];simp [e]
theorem RpA.repl {k:Int ⊕ Str}{d:D}{v:V}(r:Rp K C H d v []):∀{ks:List (Int ⊕ Str)} {ds:List D} {xs:List V},RpA K C H ds xs []->Dl.flatA ds=true->RpA K C H (Cy (fun j x=>if j=k then d else x) ks ds) (Cy (fun j x=>if j=k then v else x) ks xs) []
 | [],ds,xs,_,_=>by cases ds<;>cases xs<;>exact RpA.nil
 | j::ks,[],xs,q,_=>by rw [q.1];exact RpA.nil
 | j::ks,x::ds,xs,q,h=>by obtain ⟨y,l,B,B',e1,e2,e3,e4⟩:=q;simp only [Dl.flatA,Aq] at h;subst e1;have z:=e2.flat h.1;subst z;refine ⟨_,_,[],[],rfl,?_,RpA.repl r (e3.flat' h.2) h.2,rfl⟩;show Rp K C H (if j=k then d else x) (if j=k then v else y) [];by_cases e:j=k;rw [if_pos e,if_pos e];exact r;rw [if_neg e,if_neg e];exact e2
theorem RpA.snoc0 {d:D}{v:V}(r:Rp K C H d v []):∀{ds:List D} {xs:List V},RpA K C H ds xs []->RpA K C H (ds++[d]) (xs++[v]) []
 | [],xs,q=>by rw [q.1];exact ⟨v,[],[],[],rfl,r,RpA.nil,rfl⟩
 | x::ds,xs,q=>by obtain ⟨y,l,B,B',e1,e2,e3,e4⟩:=q;obtain ⟨rfl,rfl⟩:=List.append_eq_nil_iff.mp e4.symm;subst e1;exact ⟨y,_,[],[],rfl,e2,RpA.snoc0 r e3,rfl⟩
variable {tg:Expr}
theorem ce_dnew:JE X C E Γ Δ 2 [] (.Dict [] [] pos) tDNewK (Dl.fC (.dct [] [])):=⟨⟨pe_dnewK⟩,eok_dnew⟩
abbrev TX:=Str->St->Hp->VK->Prop
def PX (X:Cx)(es:List Expr)(t:TX):Prop:=
 ∀(out:Str) (pins:List (Addr×Obj)) (s:Ac) (σ:St) (H:Hp) (Q:VK),Inv X pins σ H s->out.length+2000*es.length<=Ah->t out σ H Q->
  An (Ai X.prog X.w) X.A (joinParts out (BW es X.env)) (EP X pins σ Q) X.xe s
end
theorem str_ext {a b:Str}(h:a.cps.toList=b.cps.toList):a=b:=by cases a;cases b;congr 1;exact Array.toList_inj.mp h
section
variable {S:List (Nat×Bool)}
theorem one_of {c:Nat}(h:y.cps.toList=[c]):y=⟨#[c]⟩:=str_ext (by rw [h])
def XOk (K:AC)(C:String->Addr)(E:XK)(Γ Δ:List Nat)(t:TX)(f:FA):Prop:=∀(H0 Hb H:Hp) (σ:St) (ρ:Dl.Env) (A:Nat->List Addr) (Q:VK) (out:Str),BZ out=true->EnvOk K C H0 Hb H Γ Δ σ ρ A->
 Post ((f ρ).bind fun xs=>Dl.oR (Dl.catO out xs)) (fun d=>∀v H',Same H H'->Res K C 2 [] H A d v H'->Q v H') (fun c x=>∀H',Same H H'->EC C E c x H')->t out σ H Q
end
structure JX (X:Cx)(C:String->Addr)(E:XK)(Γ Δ:List Nat)(es:List Expr)(t:TX)(f:FA):Prop where
 q:PX X es t
 o:XOk X.K C E Γ Δ t f
section
variable {S:List (Nat×Bool)}{tx:TX}{f:FA}
variable {tc:TE}{fc:FE}
end
end L2
namespace L2
open PySem PyProof.Rows
variable {prog:Ao}{w:AK}{A:AI}{E:Value->Ac->Prop}{s:Ac}{κ:DF}{P:AO->Prop}{r:AO->AO->Bool}{lat:AO->AO->Prop}{st:EI}{x d0:AO}{α:Type}{lo nrem:Nat}{a0 Z:List AO}{Rs:List (List AO)}
structure Ask (prog:Ao)(w:AK)(A:AI)(s:Ac)(κ:DF)(P:AO->Prop)(r:AO->AO->Bool)(lat:AO->AO->Prop:=fun _ _=>True):Prop where
 run:∀{x y:AO} {Q:Bool->Ac->Prop} {E:Value->Ac->Prop},P x->P y->lat x y->Q (r x y) s->An (Ai prog w) A (keyLt' κ x.1 y.1) Q E s
 tr:∀{x y z:AO},P x->P y->P z->r y x=false->r z y=false->r z x=false
 as:∀{x y:AO},P x->P y->r x y=true->r y x=false
section
def Up (r:AO->AO->Bool)(l:List AO):Prop:=l.Pairwise fun x y=>r y x=false
structure MI (r:AO->AO->Bool)(a b out:List AO)(ia ib:Nat):Prop where
 pm:out.Perm (a.take ia++b.take ib)
 so:Up r out
 le:∀x∈out,∀y,(y∈a.drop ia\/y∈b.drop ib)->r y x=false
variable {a b out:List AO}{ia ib:Nat}
structure MJ (r:AO->AO->Bool)(a b out:List AO)(na nb:Nat):Prop where
 pm:out.Perm (a.drop na++b.drop nb)
 so:Up r out
 le:∀x∈out,∀y,(y∈a.take na\/y∈b.take nb)->r x y=false
end
structure SG (st st':EI):Prop where
 k:Cc st'=Cc st
 a:Fe st'=Fe st
 p:Ed st'=Ed st
 f:FL st'=FL st
structure SC (κ:DF)(lo:Nat)(st st':EI):Prop where
 k:Cc st'=κ
 f:FL st'=none
 p:Ed st'=Ed st
 m:(Fe st').Perm (Fe st)
 o:∀i,i<lo->(Fe st')[i]?=(Fe st)[i]?
def Eqv (r:AO->AO->Bool)(x y:AO):Prop:=r x y=false/\r y x=false
abbrev Pn:=Nat×Nat×Nat
def Pend:Nat->List (List AO)->List Pn->Prop
 | _,[],[]=>True
 | off,R::Rs,p::ps=>p.1=off/\p.2.1=R.length/\Pend (off+R.length) Rs ps
 | _,_,_=>False
structure RI (κ:DF)(r:AO->AO->Bool)(a0:List AO)(st:EI)(Rs:List (List AO))(Z:List AO):Prop where
 k:Cc st=κ
 f:FL st=none
 m:(Fe st).toList.Perm a0
 l:(Fe st).toList=Rs.flatten++Z
 p:Pend 0 Rs (Ed st).toList
 u:∀R∈Rs,Up r R/\1<=R.length
end L2
namespace L2
open PySem PySem.SeqAt PySem.MeetsSeq PySem.MeetsSeq3
open AutoSeq1 (wpAny_loadPart')
end L2
namespace L2
open PySem PySem.SeqAt PyProof.Rows
open Dl (Pc sLt pcLt ctLt)
variable {A:AI}{s:Ac}{prog:Ao}{w:AK}{E:Value->Ac->Prop}
open Dl (Pr kLt prLt)
end L2
namespace L2
open PySem PySem.Spec PyProof.Rows
open Dl (D R FE FT FA FO FS FI FB Fl Pc ctLt)
variable {K:AC}{C:String->Addr}{E:XK}{Γ Δ Γl Δl Γ' Δ' js Γk Δk Γ1 Δ1:List Nat}{m m1 m2 m3 mr n mb i j:Nat}{S1 S2 S3 Sb:List (Nat×Bool)}{H H':Hp}{X:Cx}{a c f P:Addr}{b e kx tg body elt iter:Expr}{o:Obj}{ta te tk tm:TE}{tb:V->Hp->VK->Prop}{tc:TT}{fa:FA}{fb fc fe fk:FE}{p p1 p2 pos apos cpos lpos np pos' p3:Pos}{x qual y:Str}{es ifs:List Expr}{t:TA}{prog:Ao}{w:AK}{A:AI}{s:Ac}{pins:List (Addr×Obj)}{σ:St}{params:DO}{sc:Scope}{cl:List (Str×Addr)}{xs:List V}{Q:VK}{N ps N2:List Str}{mg:Str->Option Value}{st:Stmt}{fd:BD}{g:FS}{ts:List (Addr×Pos×Str)}{T:List Addr}{h:AR}{v:Option Value}{oc:Value}{od an:Option Addr}{osl:Array (Option Value)}{ss:List Stmt}{CX:CXT}{fm:FM}{wi:TI}{ρ:DEnv}
section
variable {S:List (Nat×Bool)}
variable {a c o:Expr}{tb tc:TE}{fa:FE}
end
structure RoomH (k:Nat)(A:AI):Prop where
 dp:A.depth+3*k+5<DB
 un:A.units+16*k+200<Bf
structure FnOkH (P:Ao)(w:AK)(K:AC)(mg:Str->Option Value)(base:AR)(k:Nat)(f:Addr)(fd:BD)(ps:List Str)(sp:Sp):Prop where
 len:∀vs H Q E,sp vs H Q E->vs.length=ps.length
 run:∀(A:AI) (outer:List Env) (s:Ac) (H:Hp) (args:Args) (us:List Value) (vs:List V) (Q:VK) (E:XK),RoomH k A->Env0 P w K mg base A outer s H->DN s fd args (ps.zip us)->Vals vs us->sp vs H Q E->
  Cp (Ai P w) A (.call (.ref f) args) (CR CX0 outer P w H s Q E) s
structure DefH (P:Ao)(w:AK)(K:AC)(mg:Str->Option Value)(base:AR)(k:Nat)(x:Str)(ps:List Str)(sp:Sp):Prop where
 ex:∃f fd,mg x=some (.ref f)/\CI K (.ref f)=true/\Binds K fd ps []/\FnOkH P w K mg base k f fd ps sp
section
variable {k:Nat}{S:List (Nat×Bool)}
variable {a c o:Expr}{tb tc:TE}{fa:FE}
end
section
variable {K:Type}[DecidableEq K]{knd:HeapKind prog w K}{E:Value->Ac->Prop}
end
section
variable {S:List (Nat×Bool)}
variable {a c:Expr}{f:FA}
end
structure LamSc (X:Cx)(N:List Str)(p:Str)(sc:Scope)(cl:List (Str×Addr)):Prop where
 kind:sc.kind=.function
 co:sc.isCoroutine=false
 gen:sc.isGenerator=false
 nocell:∀x∈sc.names,x.2≠.cell
 par:sc.names.lookup p=some .local
 nd:N.Nodup
 hd:N.head?=some p
 tl:∀x∈N.tail,sc.names.lookup x=some .free
 fr:∀x,sc.names.lookup x=some .free->∃c,cl.lookup x=some c
 cls:∀x c,cl.lookup x=some c->X.env.cells.lookup x=some c
def BMod (base:AR)(mg:Str->Option Value):Prop:=∃bm ob,mg "__builtins__"=some (.ref bm)/\bm≠DY/\base.get? bm=some ob/\ob.cls=.type "module"/\ob.dict=some DY/\ob.data=.plain
section
variable {E:Value->Ac->Prop}
variable {I S:Addr}{R:DG->Ac->Prop}{Q:V->Hp->Prop}
end
structure LamOk (X:Cx)(N:List Str)(p qual:Str)(params:DO)(body:Expr)(sc:Scope)(cl:List (Str×Addr))(js:List Nat)(P c:Addr)(lpos:Pos):Prop where
 bm:BMod X.base X.mg
 tab:X.H₀ P=some (.tbl lpos qual)
 code:X.env.code=.ref c
 hd:PySem.W.CodeHd X.base c P
 clo:Gg sc X.env=pure cl
 qu:X.env.qual++"<lambda>"=qual
 df:defaultsOf params X.env=([],[])
 lsc:LamSc X N p sc cl
 jsx:∀(i:Nat) (x:Str),N.tail[i]?=some x->∃j:Nat,js[i]?=some j/\X.N[j]?=some x/\Vis X.env.scope x/\X.env.kindOf x≠some .local
 len:js.length+1=N.length
 bind:∀(u pm ctv:Value) (c:Addr),G7 (PySem.W.kla_fn "<lambda>" qual params body sc cl pm (.ref c) ctv) ⟨[u],[]⟩=pure [(p,u)]
 dep:X.A.in1.depth<DB
 calm:X.calm=true
section
variable {p:Str}
variable {kp:Pos}{tb:TE}
variable {S:List (Nat×Bool)}
end
section
variable {S:List (Nat×Bool)}{p:Str}{kp:Pos}{tb:TE}
end
structure FunL (K:AC)(x qual:Str)(st:Stmt)(f:Addr)(fd:BD)(c:Addr):Prop where
 ex:∃(oc:Value) (od:Option Addr) (kV doc pm:Value) (an:Option Addr) (ct:Value) (osl:Array (Option Value)),
  fd=Fs x qual (defArgs st) (defBody st) (defScope st) .none kV doc pm an (.ref c) ct/\K.lookup f=some ⟨oc,od,.func fd,osl⟩/\DX K (.ref c) qual=true
 kp:CI K (.ref f)=true
section
variable {P:Ao}{base:AR}{k:Nat}
variable {S:List (Nat×Bool)}
end
def dropT (T:List Addr)(K:AC):AC:=K.filter fun p=>!T.contains p.1
theorem dropT_out {T:List Addr}{a:Addr}(h:T.contains a=true):∀K:AC,(dropT T K).lookup a=none
 | []=>rfl
 | (b,o)::K=>by unfold dropT;rw [FG];split;rename_i hb;rw [AN];split;rename_i e;have e:=eq_of_beq e;subst e;have hb:(!T.contains a)=true:=hb;rw [h] at hb;cases hb;exact dropT_out h K;exact dropT_out h K
theorem dropT_get {T:List Addr}{a:Addr}(h:T.contains a=false):∀K:AC,(dropT T K).lookup a=K.lookup a
 | []=>rfl
 | (b,o)::K=>by unfold dropT;rw [FG,AN];split;rw [AN];split;rfl;exact dropT_get h K;rename_i hb;have hb:¬(!T.contains b)=true:=hb;split;rename_i e;have e:=eq_of_beq e;subst e;rw [h] at hb;exact absurd rfl hb;exact dropT_get h K
theorem dropT_in (x:K.In h):(dropT T K).In h:=fun a o e=>by
 cases q:T.contains a with
 | true=>rw [dropT_out q] at e;cases e
 | false=>rw [dropT_get q] at e;exact x a o e
section
variable {n:Str}
theorem dropT_ns (e:Ca K a n=some v)(h:T.contains a=false:=by decide):Ca (dropT T K) a n=some v:=by unfold Ca at e ⊢;rw [dropT_get h];exact e
theorem dropT_code (e:DX K (.ref c) qual=true)(h:T.contains c=false:=by decide):DX (dropT T K) (.ref c) qual=true:=by unfold DX at e ⊢;simp only [dropT_get h];exact e
theorem dropT_hd (e:FN K c P=true)(h:T.contains c=false:=by decide):FN (dropT T K) c P=true:=by unfold FN at e ⊢;rw [dropT_get h];exact e
theorem dropT_keep (l:K.lookup f=some ⟨oc,od,.func fd,osl⟩)(h:T.contains f=false:=by decide):CI (dropT T K) (.ref f)=true:=by unfold CI;simp only [dropT_get h,l]
theorem fun_mkT {kV doc pm ct:Value}(l:K.lookup f=some ⟨oc,od,.func (Fs x qual (defArgs st) (defBody st) (defScope st) .none kV doc pm an (.ref c) ct),osl⟩)
  (cd:DX K (.ref c) qual=true) (hf:T.contains f=false:=by decide) (hc:T.contains c=false:=by decide):FunL (dropT T K) x qual st f (Fs x qual (defArgs st) (defBody st) (defScope st) .none kV doc pm an (.ref c) ct) c:=
 ⟨⟨oc,od,kV,doc,pm,an,ct,osl,rfl,by rw [dropT_get hf];exact l,dropT_code cd hc⟩,dropT_keep l hf⟩
theorem dropT_look (l:K.lookup a=some o)(h:T.contains a=false:=by decide):(dropT T K).lookup a=some o:=by rw [dropT_get h];exact l
variable {H2:Hp}
variable {pa pb pc pd:Pos}
variable {P:Ao}{h':AR}{o:HO}
theorem ObjOk.stayF (x:ObjOk P w H h a o)(ho:∀b,H b=some (.own a)->H' b=some (.own a))(ht:∀b xs,H b=some (.tup xs)->H' b=some (.tup xs))(hf:∀b o,H b=some (.frz o (.own 0))->H' b=some (.frz o (.own 0))):ObjOk P w H' h a o:=by
 induction o with
 | dT kvs =>obtain ⟨z,y,xs,r,ob,es,ep,e,c⟩:=x;exact ⟨z,y,xs,Paired.mapP r fun p q z=>⟨z.1,ht _ _ z.2.1,z.2.2⟩,ob,es,ep,e,c⟩
 | ins C dx fs =>obtain ⟨d,r⟩:=x;exact ⟨ho _ d,r⟩
 | frz ob u ih=>obtain ⟨e,q⟩:=x;exact ⟨e,ih q⟩
 | tbl pos qual =>obtain ⟨ps,e,tr,hc⟩:=x;refine ⟨ps,e,tr,fun v hv=>?_⟩;obtain ⟨c,o,vs,t,e1,e2,e3⟩:=hc v hv;exact ⟨c,o,vs,t,e1,hf _ _ e2,e3⟩
 | _=>exact x
end
section
variable {u u':HO}
theorem Inv.fz (I:Inv X pins σ H s)(e:H a=some u)(mu:Mut (H a))(hu:∀b o v,u≠.own b/\u≠.frz o v)(ho:s.heap.get? a=some o):Inv X pins σ (upd H a (.frz o u)) s/\∀o u,X.H₀ a≠some (.frz o u):=by
 refine ⟨?_,fun o' u' q=>?_⟩;have new:ObjOk X.prog X.w (upd H a (.frz o u)) s.heap a (.frz o u):=by refine ⟨ho,(I.hok a u e).stayF (fun c q=>?_) (fun c xs q=>?_) fun c ob q=>?_⟩;rw [upd_ne fun z=>by subst z;rw [e] at q;cases q;exact (hu _ o (.own 0)).1 rfl];exact q;rw [upd_ne fun z=>by subst z;rw [q] at mu;exact mu];exact q;rw [upd_ne fun z=>by subst z;rw [q] at mu;exact mu];exact q
 have z:=I.write (x:=a) (e:=a) (t':=s.toks) (h':=s.heap) mu (.inl rfl) (fun b q _ z=>z) ⟨o,ho⟩ new;exact z;have z:=I.base.frzs a o' u' q;rw [e] at z;cases z;exact (hu 0 o' u').2 rfl
theorem keyIs_rel {k:Key}{v:Value}(h:keyIs k v=true):RelV (kV k) v:=by rcases keyIs_shape h with ⟨i,t,rfl,rfl⟩ | ⟨x,t,rfl,rfl⟩;exact ⟨t,rfl⟩;exact ⟨t,rfl⟩
end
theorem KV.get {κ:Type}:∀{kvs:List (κ×V)} {vs:List (κ×Value)} {i:Nat} {p:κ×V},KV kvs vs->kvs[i]?=some p->∃u,vs[i]?=some (p.1,u)
 | _,_,_,_,.nil,e=>by simp at e
 | _,_,0,_,.cons (b:=q) r _,e=>by simp at e;subst e;exact ⟨q.2,by rw [r.1];rfl⟩
 | _,_,i+1,p,.cons _ t,e=>by obtain ⟨u,h⟩:=KV.get (i:=i) (p:=p) t (by simpa using e);exact ⟨u,by simpa using h⟩
section
variable {S:List (Nat×Bool)}
theorem val_dAt {k:Int ⊕ Str}:∀{ks:List (Int ⊕ Str)} {ds:List D} {xs:List V},RpA K C H ds xs []->Dl.flatA ds=true->match Dl.dAt ks ds k with
  | some d=>∃v,valV (ks.zip xs) k=some v/\Rp K C H d v []/\Dl.flat d=true
  | none=>valV (ks.zip xs) k=none
 | [],ds,xs,_,_=>by cases ds<;>rfl
 | j::ks,[],xs,q,_=>by rw [q.1];rfl
 | j::ks,x::ds,xs,q,h=>by obtain ⟨y,l,B,B',e1,e2,e3,e4⟩:=q;simp only [Dl.flatA,Aq] at h;subst e1;have z:=e2.flat h.1;subst z;rw [Dl.dAt];by_cases e:j=k;rw [if_pos e];exact ⟨y,valV_pos e,e2,h.1⟩;rw [if_neg e,BK,valV_neg e];exact val_dAt (e3.flat' h.2) h.2
variable {a c o:Expr}{tb tc:TE}{fa:FE}
variable {pos2:Pos}{e1 e2:Expr}{t1 t2:TE}{f1 f2:FE}{v:TS}{h:FS}
end
open Dl (FM)
section
variable {S:List (Nat×Bool)}
def MOkF (K:AC)(C:String->Addr)(E:XK)(Γ Δ:List Nat)(i:Nat)(t:TE)(f:FM):Prop:=∀(H0 Hb H:Hp) (σ:St) (ρ:DEnv) (A:Nat->List Addr) (Q:VK),EnvOk K C H0 Hb H Γ Δ σ ρ A->
 Post (f ρ) (fun p=>∀v H' A' B,EnvOk K C H0 Hb H' Γ Δ σ p.2 A'->(∀b o,b∉A i->H b=some o->H' b=some o)->(∀j,j≠i->p.2[j]?=ρ[j]?/\A' j=A j)->Rp K C H' p.1 v B->B.Nodup->(∀a∈B,Hb a=none/\∀j,a∉A' j)->Q v H') (fun c x=>∀H',Same H0 H'->EC C E c x H')->t σ H Q
variable {p4 p5 mpos mapos:Pos}{c:String}{md kx:Str}{k:Nat}
structure JMF (X:Cx)(C:String->Addr)(E:XK)(Γ Δ:List Nat)(j:Nat)(e:Expr)(t:TE)(f:FM):Prop where
 q:QE X e t
 o:MOkF X.K C E Γ Δ j t f
end
@[reducible] def Cx.blkC (X:Cx)(N2:List Str)(y:Str)(sc:Scope)(cl:List (Str×Addr))(C:Addr)(s0:Ac)(H0:Hp)(fp:List Addr):Cx:=
 {X with N:=N2++[y],s₀:=s0,H₀:=H0,env:=ED sc cl C X.env,outer:=X.stack,ex:=fp,fn:=fun z=>z==y,pn:=[],xe:=fun _ _=>False}
structure BlkC (sc esc:Scope)(y:Str)(N N2:List Str):Prop where
 kind:sc.kind=.function
 cell:∀n acc,Fb n sc.names acc=(y,n)::acc
 one:∀z∈sc.names,z.2=.cell->z.1=y
 nfree:∀z∈sc.names,z.2=.free->z.1≠y
 loc:∀z∈sc.names,z.2=.local->sc.names.lookup z.1=some .local
 free:∀z∈sc.names,z.2=.free->esc.names.lookup z.1=some .cell\/esc.names.lookup z.1=some .free
 out:∀z∈N2,sc.names.lookup z≠some .local/\z≠y
 nd:N.Nodup
 len:N2.length=N.length
 ren:∀p∈N.zip N2,p.2=p.1\/sc.names.lookup p.2=none
section
variable {g:TG}
variable {S:List (Nat×Bool)}
variable {gg:TG}{fi:FI}{fc:FT}{fg:FB}
end
open Dl (FMT)
section
variable {S:List (Nat×Bool)}
theorem sokp_dropM (h:MOk K C E Γ Δ te fm):SOkP K C E Γ Δ Γ Δ (tDrop te) (Dl.sDropM fm):=fun H0 Hb H σ ρ A D I p =>
 h H0 Hb H σ ρ A _ I (Post.imp (Post.bind p) (fun q pq v H1 A1 B I1 r nd hB=>pq σ H1 A1 rfl I1) fun c x q=>q)
end
section
variable {k:Nat}{S:List (Nat×Bool)}{a:Expr}{q3:Pos}
theorem jp_dropM (he:JM X C E Γ Δ e tm fm)(hs:A8 e none pos.line X.env=pure false:=by rfl):JP X C E Γ Δ Γ Δ (.Expr e pos) (tDrop tm) (Dl.sDropM fm):=⟨qs_expr he.q hs,sokp_dropM he.o⟩
theorem css_never :JSs X C E mr Γl Δl Γ Δ Γ' Δ' ss tNever Dl.sNever:=⟨⟨fun _ _ _ _ _ _ h=>h.elim⟩,sok_never⟩
end
section
variable {S:List (Nat×Bool)}
theorem EnvOk.away {H0 Hb:Hp}{A:Nat->List Addr}{W:List Addr}(I:EnvOk K C H0 Hb H Γ Δ σ ρ A)(hk:∀b o,b∉W->H b=some o->H' b=some o)(hb:∀a∈W,Hb a=Be)(hA:∀k,∀a∈A k,a∉W)(hm:∀a∈W,∀o,H a=some o->IsM o):EnvOk K C H0 Hb H' Γ Δ σ ρ A:=by
 have ext:Ext (fun c=>c∈W) H H':=fun c o h=>by by_cases e:c∈W;exact .inr ⟨e,hm c e o h⟩;exact .inl (hk c o e h)
 refine ⟨I.s0,fun c o h=>?_,I.len,fun i d h=>?_,I.nil,I.loc,I.top,I.deep⟩;exact hk c o (fun z=>by rw [hb c z] at h;cases h) (I.same c o h);obtain ⟨v,e,r⟩:=I.rep i d h;exact ⟨v,e,r.ext ext fun a ha z=>hA i a ha z⟩
variable {k:Nat}{ff:FA}{z:Str}
variable {a:Expr}
end
section
variable {S:List (Nat×Bool)}
def SOkT (K:AC)(C:String->Addr)(E:XK)(t:TS)(f:FS):Prop:=∀(H0 Hb H:Hp) (σ:St) (ρ:DEnv) (A:Nat->List Addr) (D:Ends),EnvOk K C H0 Hb H [] [] σ ρ A->
  Post (f ρ) (fun fl=>match fl with
    | .ret d=>∀v H' Br,Same H H'->Rp K C H' d v Br->(∀a∈Br,(∃j,a∈A j)\/H a=none)->D.rt v H'
    | _=>False) (fun c x=>∀H',Same H H'->EC C E c x H')->t D σ H
end
structure JTs (X:Cx)(C:String->Addr)(E:XK)(ss:List Stmt)(t:TS)(f:FS):Prop where
 q:QSs X ss t
 o:SOkT X.K C E t f
 n:∀ρ ρ',f ρ≠.ok (.nx ρ')
section
variable {k:Nat}{S:List (Nat×Bool)}{f:FA}{u:TS}
end
open Dl (Pr kLt prLt)
def rDNot:R2:=fun x y H Q=>∃a o,y=.ref a/\DGet H a x o/\Q (.bl (!o.isSome)) H
theorem op_dnot (hu:X.A.units+64<Bf):OpR X (BH .NotIn) rDNot:=by intro pins s σ H x y v u Q I rx ry h;obtain ⟨a,o,rfl,g,q⟩:=h;cases (show u=AB a from ry);exact d_notIn (by omega) I g rx fun s3 I3=>⟨.bl (!o.isSome),H,I3,rfl,q⟩
section
variable {E:Value->Ac->Prop}
end
open Dl (D R FE FT FA FO FS FI FB FM FMT Fl) in
section
variable {c:Expr}{tA:TT}{fA:Dl.FT}{ip rp:Pos}
end
end L2
namespace L2
open PySem
def UpP (a:Array Nat):Prop:=∀(i j x y:Nat),i<j->a[i]?=some x->a[j]?=some y->x<y
structure TabU (t:SetTable):Prop where
 no:t.dummies=#[]
 up:UpP t.place
end L2
namespace L2
open PySem PySem.Spec PyProof.Rows
open Dl (addKs addAll)
variable {prog:Ao}{w:AK}{A:AI}{E:Value->Ac->Prop}{s:Ac}{a:Addr}{ks:List Int}{es:Array (Int×Value)}{t:SetTable}{X:Cx}{pins:List (Addr×Obj)}{e:Expr}{te:TE}{p:Pos}{K:AC}{C:String->Addr}{Γ Δ:List Nat}{m1 m:Nat}{S1:List (Nat×Bool)}
section
variable {it:Addr}{ep i:Nat}
end
open Dl (D R FE FT FA FO FS FI FB Fl)
section
variable {σ:St}{H:Hp}{p' pos pos':Pos}
variable {E:XK}
variable {S:List (Nat×Bool)}{fe:FE}{p2 apos cpos:Pos}
end
end L2
namespace L2
open PySem PyProof.Rows
variable {prog:Ao}{w:AK}{A:AI}{E:Value->Ac->Prop}{s:Ac}{κ:DF}{P:AO->Prop}{r:AO->AO->Bool}{st:EI}{ps:AO->Int}{d0:AO}{a0 Z:List AO}{Rs:List (List AO)}
def SB (r:AO->AO->Bool)(ps:AO->Int)(x y:AO):Prop:=r y x=false/\(r x y=false->ps x<ps y)
def Tl (ps:AO->Int)(g:Nat->AO)(n m:Nat):Prop:=∀i j,i<j->n<=j->j<m->ps (g i)<ps (g j)
section
variable {lo nrem:Nat}
structure DnL (r:AO->AO->Bool)(ps:AO->Int)(g:Nat->AO)(x q m:Nat):Prop where
 fall:∀i j,i<j->j<x->i<x - (q+1)->SB r ps (g j) (g i)
 like:∀i j,x - (q+1)<=i->i<x->x - (q+1)<=j->j<x->Eqv r (g i) (g j)
 tail:Tl ps g (x - (q+1)) m
 q1:q+1<=x
structure Od (ps:AO->Int)(Rs:List (List AO))(Z:List AO):Prop where
 runs:Rs.Pairwise fun A B=>∀x∈A,∀y∈B,ps x<ps y
 rest:∀R∈Rs,∀x∈R,∀y∈Z,ps x<ps y
 tail:Z.Pairwise fun x y=>ps x<ps y
end
end L2
namespace L2
open PySem PySem.Spec PyProof.Rows
variable {prog:Ao}{w:AK}{A:AI}{E:Value->Ac->Prop}{s:Ac}{a c:Addr}{vs:List Value}{kz cs:List Int}{keys:Array Value}{P:PySem.Fin->Ac->Prop}{X:Cx}{pins:List (Addr×Obj)}{σ:St}{H:Hp}{tb:V->Hp->VK->Prop}{QQ:List Int->Hp->Prop}{N:List Str}{p lpos np pos kp2 cp apos cpos:Pos}{qual:Str}{params:DO}{body e iter tg:Expr}{sc:Scope}{cl:List (Str×Addr)}{js Γ Δ Γ' Δ' Γl Δl Γ1 Δ1:List Nat}{te:TE}{K:AC}{C:String->Addr}{m mb mr n:Nat}{Sb:List (Nat×Bool)}{fe:FE}{s1:Stmt}{ifs:List Expr}
def kp (x:AO):Int×Int:=(numOf x.1,numOf x.2)
section
variable {kS:Addr}{e e1:Nat}
variable {f:Addr}
variable {p:Str}{P:Addr}{kp:Pos}{tb:TE}{k:Nat}
end
open Dl (D R FE FT FA FO FS FI FB Fl)
section
variable {E:XK}{m1 m2:Nat}{S:List (Nat×Bool)}
variable {p:Str}{P:Addr}{kp:Pos}{tb:TE}{fb:FE}{k:Nat}
def AllN (H0:Hp)(A:Nat->List Addr):Prop:=∀j,∀a∈A j,H0 a=none
def PostU (K:AC)(C:String->Addr)(E:XK)(Γl Δl Γ' Δ':List Nat)(H0 Hb:Hp)(D:Ends)(r:R Fl):Prop:=Post r (fun fl=>match fl with
    | .nx ρ'=>∀σ' H' A',EnvOk K C H0 Hb H' Γ' Δ' σ' ρ' A'->AllN H0 A'->D.nx σ' H'
    | .ret d=>∀v H' B,Same Hb H'->Rp K C H' d v B->(∀a∈B,H0 a=none)->D.rt v H'
    | .brk ρ'=>∀σ' H' A',EnvOk K C H0 Hb H' Γl Δl σ' ρ' A'->AllN H0 A'->D.bk σ' H'
    | .cnt ρ'=>∀σ' H' A',EnvOk K C H0 Hb H' Γl Δl σ' ρ' A'->AllN H0 A'->D.ct σ' H')
  (fun c x=>∀H',Same Hb H'->EC C E c x H')
def SOkU (K:AC)(C:String->Addr)(E:XK)(Γl Δl Γ Δ Γ' Δ':List Nat)(t:TS)(f:FS):Prop:=∀(H0 Hb H:Hp) (σ:St) (ρ:DEnv) (A:Nat->List Addr) (D:Ends),EnvOk K C H0 Hb H Γ Δ σ ρ A->AllN H0 A->PostU K C E Γl Δl Γ' Δ' H0 Hb D (f ρ)->t D σ H
end
structure JU (X:Cx)(C:String->Addr)(E:XK)(Γl Δl Γ Δ Γ' Δ':List Nat)(s:Stmt)(t:TS)(f:FS):Prop where
 q:QS X s t
 o:SOkU X.K C E Γl Δl Γ Δ Γ' Δ' t f
structure JUs (X:Cx)(C:String->Addr)(E:XK)(Γl Δl Γ Δ Γ' Δ':List Nat)(ss:List Stmt)(t:TS)(f:FS):Prop where
 q:QSs X ss t
 o:SOkU X.K C E Γl Δl Γ Δ Γ' Δ' t f
section
variable {E:XK}{k:Nat}{S:List (Nat×Bool)}{c:Expr}{ss body other:List Stmt}{u v:TS}{g h:FS}{pos':Pos}
variable {elt:Expr}{wi:TI}{tc:TT}{gg:TG}{fi:FI}{fc:FT}{fg:FB}
end
section
variable {E:XK}{S:List (Nat×Bool)}{p1 p2 p3:Pos}{x y z:Str}{i j l k:Nat}
end
end L2
namespace L2
open PySem PyProof.Rows
variable {prog:Ao}{w:AK}{A:AI}{E:Value->Ac->Prop}{s:Ac}{κ:DF}{P:PySem.Fin->Ac->Prop}{r:AO->AO->Bool}{st:EI}{ps:AO->Int}{vs:List Value}{kz cs:List Int}{keys:Array Value}
section
variable {P:AO->Prop}
variable {a kS:Addr}{e e1:Nat}
end
end L2
namespace L2
open PySem PySem.Spec PyProof.Rows
variable {X:Cx}{pins:List (Addr×Obj)}{σ:St}{H:Hp}{s:Ac}{tb:V->Hp->VK->Prop}{A:AI}{E:Value->Ac->Prop}{P:PySem.Fin->Ac->Prop}{vs:List Value}{cs:List Int}{QQ:List Int->Hp->Prop}{N:List Str}{p qual:Str}{params:DO}{body e:Expr}{sc:Scope}{cl:List (Str×Addr)}{js Γ Δ:List Nat}{c:Addr}{lpos np pos kp2 cp:Pos}{te:TE}{K:AC}{C:String->Addr}{m mb:Nat}{Sb:List (Nat×Bool)}
section
variable {a f:Addr}
variable {P:Addr}{kp:Pos}{tb:TE}{k:Nat}
end
open Dl (D R FE FT FA FO FS FI FB Fl)
section
variable {E:XK}{Γ' Δ':List Nat}{m1 m2:Nat}{S:List (Nat×Bool)}
variable {P:Addr}{kp:Pos}{tb:TE}{fe fb:FE}{k:Nat}
end
end L2
namespace L2
open PySem PySem.SeqAt PyProof.Rows
open Dl (sLt Pr kLt prLt)
variable {prog:Ao}{w:AK}{A:AI}{E:Value->Ac->Prop}{s:Ac}
end L2
namespace L2
open PySem PySem.Spec PyProof.Rows
open Dl (D R FE FT FA FO FS FI FB FM FMT Fl Pr kLt prLt)
variable {X:Cx}{K:AC}{C:String->Addr}{H:Hp}{prog:Ao}{w:AK}{A:AI}{E:Value->Ac->Prop}{s:Ac}{tg l e b:Expr}{apos cpos tpos p p2 pos np:Pos}{elts es:List Expr}{x1 m mr m1 m2 n:Nat}{Γ Δ Γ' Δ' Γl Δl Γ1 Δ1 Γk Δk:List Nat}{a I:Addr}{o:Obj}{u:HO}{te ta tb:TE}{fe fa fb:FE}{ds:List D}{xs:List V}{x y:Str}{S1 S2:List (Nat×Bool)}{CX:CXT}{ps:List Str}{s1:Stmt}{ss body:List Stmt}{fp wr:List Addr}{P:Nat->Value->Prop}
section
variable {tl:TE}
structure M0 (X:Cx)(o:Expr)(md:Str)(apos cpos:Pos):Prop where
 base:AS o md X.env (Ar o X.env)=Ar o X.env
 few:((AG cpos (Ab ([]:List Expr) X.env)).all (fun x=>!x.1)&&(BC cpos (AU [] X.env)).all (fun x=>x.1.isSome)&&decide (([]:List Expr).length+([]:List BO).length+(if ([]:List BO).isEmpty then 0 else 1)<30))=true
 line:(apos.endLine==cpos.line)=true
 trees:AG cpos (Ab ([]:List Expr) X.env)=[]
variable {E:XK}{S:List (Nat×Bool)}
theorem frz_agree {Hc:Hp}(h:Agree [] H Hc)(e:H a=some (.frz o u)):Hc a=some (.frz o u):=h.2 a _ e fun z=>by cases z
variable {E:XK}{S:List (Nat×Bool)}
end
inductive LorT:HO->Prop where
 | lst {xs:List V}:LorT (.lst xs)
 | dtt {kvs:List (List Key×V)}:LorT (.dT kvs)
theorem LorT.isM (h:LorT u):IsM u:=by cases h;exact .lst;exact .dtt
def tFz (te:TE):TE:=fun σ H Q=>te σ H fun v H1=>∃a u,v=.ref a/\H1 a=some u/\LorT u/\∀o,Q v (upd H1 a (.frz o u))
theorem pe_fz (h:PE X e te):PE X e (tFz te):=by
 intro pins s σ H Q I hq;refine thn (h pins s σ H _ I hq) fun v s1 hz=>?_;obtain ⟨x,H1,I1,r1,a,u,rfl,hu,lt,q⟩:=hz;obtain ⟨o,ho⟩:∃o,s1.heap.get? a=some o:=by
  have z:=I1.hok a u hu;cases lt with
  | lst=>obtain ⟨_,its,n,_,e⟩:=z;exact ⟨_,e⟩
  | dtt=>obtain ⟨_,_,_,_,o,_,_,e,_⟩:=z;exact ⟨o,e⟩
 exact ⟨.ref a,_,(I1.fz hu (by rw [hu];cases lt<;>trivial) (fun _ _ _=>by cases lt<;>exact ⟨(fun z=>nomatch z),(fun z=>nomatch z)⟩) ho).1,r1,q o⟩
section
variable {E:XK}{S:List (Nat×Bool)}
theorem ext_fz (hu:H a=some u)(lt:LorT u):Ext (fun c=>c=a) H (upd H a (.frz o u)):=fun b ob hb=>by by_cases e:b=a;subst e;rw [hu] at hb;cases hb;exact .inr ⟨rfl,lt.isM⟩;rw [upd_ne e];exact .inl hb
theorem RpA.fz (hu:H a=some u)(lt:LorT u)(r:RpA K C H ds xs []):RpA K C (upd H a (.frz o u)) ds xs []:=r.ext (ext_fz hu lt) fun _ z=>nomatch z
theorem same_fz {H1:Hp}(hn:H a=none)(g:Same H H1):Same H (upd H1 a (.frz o u)):=fun b ob hb=>by rw [upd_ne fun z=>by subst z;rw [hn] at hb;cases hb];exact g b ob hb
theorem eok_fzl (h:EOk K C E Γ Δ 2 [] te fe):EOk K C E Γ Δ 2 [] (tFz te) (Dl.f1 Dl.gFzL fe):=fun H0 Hb H σ ρ A Q I p =>
  h H0 Hb H σ ρ A _ I (p.bind.imp (fun d q v H1 g r=>by
    obtain ⟨z,e,q⟩:=oR_ok q;obtain ⟨B,r1,r2,_⟩:=r;cases d with
    | lst ds =>
      have e:(if Dl.flatA ds=true then some (D.flst ds) else none)=some z:=e;split at e;rename_i hf;cases e;obtain ⟨a,xs,B',rfl,h1,h2,rfl⟩:=r1;have eB:=h2.flat hf;subst eB;have hn:H a=none:=(r2 a (.head _)).elim id fun z=>by obtain ⟨_,w,_⟩:=z;cases w
      exact ⟨a,_,rfl,h1,.lst,fun o=>q _ _ (same_fz hn g) (Res.flat ⟨a,o,xs,rfl,upd_same,RpA.fz h1 .lst h2,rfl⟩)⟩;cases e
    | _=>cases e) fun c x q H' g'=>q H' g')
variable {pos':Pos}{i j:Nat}
theorem ce_fzl (h:JE X C E Γ Δ 2 [] e te fe):JE X C E Γ Δ 2 [] e (tFz te) (Dl.f1 Dl.gFzL fe):=⟨⟨pe_fz h.q.out⟩,eok_fzl h.o⟩
variable {a:Expr}
end
section
variable {E:XK}{S:List (Nat×Bool)}
def BOk0 (K:AC)(C:String->Addr)(Γ Δ:List Nat)(g:TG)(b:FB):Prop:=∀(H0 Hb H:Hp) (σ:St) (ρ:DEnv) (A:Nat->List Addr) (d:D) (v:V) (B:List Addr) (Rr:St->Hp->Prop),EnvOk K C H0 Hb H Γ Δ σ ρ A->Rp K C H d v B->(∀a∈B,Hb a≠none)->
 Post (b d ρ) (fun ρ'=>∀σ' A',σ'[0]?=σ[0]?->EnvOk K C H0 Hb H Γ Δ σ' ρ' A'->Rr σ' H) (fun _ _=>False)->g v σ H Rr
def BsOk0 (K:AC)(C:String->Addr)(Γ Δ:List Nat)(g:TGs)(b:List D->DEnv->R DEnv):Prop:=∀(H0 Hb H:Hp) (σ:St) (ρ:DEnv) (A:Nat->List Addr) (d:List D) (v:List V) (B:List Addr) (Rr:St->Hp->Prop),EnvOk K C H0 Hb H Γ Δ σ ρ A->RpA K C H d v B->(∀a∈B,Hb a≠none)->
 Post (b d ρ) (fun ρ'=>∀σ' A',σ'[0]?=σ[0]?->EnvOk K C H0 Hb H Γ Δ σ' ρ' A'->Rr σ' H) (fun _ _=>False)->g v σ H Rr
end
structure JPs (X:Cx)(C:String->Addr)(E:XK)(Γ Δ Γ' Δ':List Nat)(s:List Stmt)(t:TS)(f:FS):Prop where
 q:QSs X s t
 o:SOkP X.K C E Γ Δ Γ' Δ' t f
structure JG0 (X:Cx)(C:String->Addr)(Γ Δ:List Nat)(e:Expr)(t:TG)(b:FB):Prop where
 q:QG X e t
 o:BOk0 X.K C Γ Δ t b
structure JGs0 (X:Cx)(C:String->Addr)(Γ Δ:List Nat)(es:List Expr)(n:Nat)(t:TGs)(f:List D->DEnv->R DEnv):Prop where
 q:QGs X es t
 o:BsOk0 X.K C Γ Δ t f
 n:∀ds ρ ρ',f ds ρ=.ok ρ'->ds.length=n
section
variable {E:XK}{k:Nat}{S:List (Nat×Bool)}{a c iter:Expr}{t:TA}{fa:FA}{tm:TE}{fm:FM}{p1 q3:Pos}{u v:TS}{g h:FS}
end
section
variable {a:Expr}
variable {E:XK}{S:List (Nat×Bool)}
end
section
variable {E:XK}{S:List (Nat×Bool)}{a:Expr}
variable {R:DG->Ac->Prop}{St:Nat->AR->Prop}
variable {td:TE}{kp:Pos}
end
end L2
namespace L2
open PySem PySem.SeqAt PyProof.Rows
open Dl (ilt ilLt)
variable {A:AI}{s:Ac}{prog:Ao}{w:AK}{E:Value->Ac->Prop}
end L2
namespace L2
open PySem PySem.Spec PyProof.Rows
open Dl (D R FE FT FA FO FS FI FB Fl ilLt)
variable {X:Cx}{K:AC}{C:String->Addr}{E:XK}{Γ Δ Γ' Δ':List Nat}{m m1 m2 ep x1:Nat}{S1 S2 S3:List (Nat×Bool)}{H:Hp}{e a b tg:Expr}{te ta tb:TE}{fe fa fb:FE}{pos p tpos:Pos}{prog:Ao}{w:AK}{A:AI}{od:Obj}{es:Array GQ}{s:Ac}{elts:List Expr}
section
variable {Γl Δl:List Nat}{m3 mr:Nat}{S:List (Nat×Bool)}
variable {a it:Addr}
variable {E:Value->Ac->Prop}
end
end L2
namespace L2
open PySem PyProof.Rows
variable {prog:Ao}{w:AK}{A:AI}{E:Value->Ac->Prop}{s:Ac}{κ:DF}{P:AO->Prop}{r:AO->AO->Bool}{st:EI}
end L2
namespace L2
open PySem PySem.SeqAt PyProof.Rows
open Dl (ilt ilLt)
variable {prog:Ao}{w:AK}{A:AI}{E:Value->Ac->Prop}{s:Ac}
end L2
namespace L2
open PySem PySem.Spec PyProof.Rows
open Dl (D R FE FT FA FO FS FI FB Fl ilLt)
variable {X:Cx}{K:AC}{C:String->Addr}{E:XK}{Γ Δ:List Nat}{m m1 m2:Nat}{S1 S2 S3:List (Nat×Bool)}{e:Expr}{T:List Addr}{c:Addr}
section
variable {Γl Δl:List Nat}{m3 mr:Nat}{S:List (Nat×Bool)}{H:Hp}
end
section
variable {Γ' Δ':List Nat}{S:List (Nat×Bool)}{te:TE}{fe:FE}{pos p:Pos}
end
end L2
namespace L2
open PySem PySem.SeqAt PyProof.Rows
open Dl (ilt ilLt)
variable {prog:Ao}{w:AK}{A:AI}{E:Value->Ac->Prop}{s:Ac}
end L2
namespace L2
open PySem PySem.Spec PyProof.Rows
open Dl (D R FE FT FA FO FS FI FB Fl ilLt)
variable {X:Cx}{K:AC}{C:String->Addr}{H:Hp}{E:XK}{Γ Δ Γl Δl Γ' Δ' Γ1 Δ1:List Nat}{m m1 m2 mr n m3 m4:Nat}{S1 S2 S3 S4:List (Nat×Bool)}{e tg iter:Expr}{te:TE}{fe:FE}{pos p p2 apos cpos:Pos}{P:Ao}{w:AK}{mg:Str->Option Value}{x:Str}{st:Stmt}{fd:BD}{N ps:List Str}{ts:List (Addr×Pos×Str)}{es:List Expr}{t:TA}{CX:CXT}{f:DEnv->R (D×D)}
section
variable {S:List (Nat×Bool)}
variable {base:AR}{qual:Str}{f c:Addr}{k:Nat}{g:FS}
end
section
variable {k:Nat}{S:List (Nat×Bool)}
end
open Dl (FM)
section
variable {w:Nat}{S:List (Nat×Bool)}
@[reducible] def tSn (t:TA)(i:Nat):TA:=fun σ H Q=>t σ H fun vs H1=>∃v,σ[i]?=some (some v)/\Q (vs++[v]) H1
def MS (K:AC)(C:String->Addr)(w:Nat)(t:TE)(f:DEnv->R (D×D)):Prop:=∀(H0 Hb H:Hp) (σ:St) (ρ:DEnv) (A:Nat->List Addr) (Q:VK),EnvOk K C H0 Hb H [w] [w] σ ρ A->
 Post (f ρ) (fun p=>∀v0 v H' A1 B,σ[w]?=some (some v0)->(∀b o,b∉A w->H b=some o->H' b=some o)->Rp K C H' p.2 v0 A1->A1.Nodup->(∀a∈A1,a∈A w\/H a=none)->Rp K C H' p.1 v B->B.Nodup->(∀a∈B,(a∈A w\/H a=none)/\a∉A1)->Q v H') (fun _ _=>False)->t σ H Q
end
structure JMS (X:Cx)(C:String->Addr)(w:Nat)(e:Expr)(t:TE)(f:DEnv->R (D×D)):Prop where
 q:QE X e t
 o:MS X.K C w t f
section
variable {k w:Nat}{S:List (Nat×Bool)}{a b c elt:Expr}{fa:FA}{p1:Pos}{y:Str}{wi:TI}{fi:FI}
end
section
variable {Γk Δk:List Nat}{m5:Nat}{S S5:List (Nat×Bool)}{a b c st o:Expr}{rest:List Expr}{ta tb tc ts:TE}{fa fb fc fs:FE}{pos':Pos}
end
end L2
namespace PySem
open Sem (wp)
variable {prog:Ao}{w:AK}{A:AI}{E:Value->Ac->Prop}{h:AR}{g:Array CS}{d:F0}{t:Nat}{os:Fv}{a:Addr}{xs:Array Value}{sl:Array (Option Value)}
section
variable {k:Nat}
end
end PySem
namespace PyProof.Rows
open PySem PySem.Spec
namespace F
end F
section
variable {prog:Ao}{w:AK}{A:AI}{R:DG->Ac->Prop}{I:Addr}{fp wr:List Addr}{G:Array CS->Array CS->Prop}{n:Nat}{P:Nat->Value->Prop}{St:Nat->Ac->Prop}{K:Type}[DecidableEq K]{knd:PySem.KeyKind prog w K}
end
section
variable {prog:Ao}{w:AK}{A:AI}{E:Value->Ac->Prop}{s:Ac}{K:Type}[DecidableEq K]{knd:PySem.KeyKind prog w K}
end
end PyProof.Rows
namespace L2
open PySem PySem.Spec PyProof.Rows
open Dl (D R FE FT FA FO FS FI FB Fl)
variable {X:Cx}{K:AC}{C:String->Addr}{E:XK}{Γ Δ Γ' Δ' Γ1 Δ1 Γl Δl Γk Δk:List Nat}{m m1 m2 m3 mr n i j:Nat}{S1 S2 S3:List (Nat×Bool)}{H H0 Hb:Hp}{a dx:Addr}{b e tg iter elt l kk:Expr}{c c2:String}{o:Obj}{es ifs:List Expr}{ta tb te tk tm:TE}{fb fe fk:FE}{pos p p2 apos cpos tp ap:Pos}{M:Model}{A:Nat->List Addr}{s s3:Ac}{env:Env}{P:Ao}{w:AK}{pins:List (Addr×Obj)}{σ:St}{fp B:List Addr}{N2 xs N ps ns ps2:List Str}{sc:Scope}{cl:List (Str×Addr)}{g:D->D->Option D}{wi:TI}{tc:TT}{f md md2 x:Str}{v:V}{h:AR}{Q:Value×List Value->Ac->Prop}{pl pl2:Sem Bool}{CX:CXT}{fd:BD}{dvs ys:List V}{ds:List D}{t:TA}{F:List D->R D}{fa:FA}{kvs:List (Key×V)}{κ:Type}{ks:List (Int ⊕ Str)}{d:D}{ρ:DEnv}{G G2:List D->R (D×D)}{rd:V->V->Hp->VK->Prop}{ss:List Stmt}{fm:FM}{z:Int}
section
variable {S:List (Nat×Bool)}
variable {a c st o:Expr}{rest:List Expr}{tc ts:TE}{fa fc fs:FE}{pos' cp kp:Pos}{k:Nat}
variable {A:AI}{E:Value->Ac->Prop}
variable {R:DG->Ac->Prop}{H3:Hp}
variable {g:TG}
end
section
variable {c:Expr}{esc:Scope}{g:TG}
variable {S:List (Nat×Bool)}
variable {Q:VK}
variable {gg:TG}{fi:FI}{fc:FT}{fg:FB}{tj:TJ}{f:FA}
end
open Dl (FM FMT)
section
variable {A:AI}{E:Value->Ac->Prop}{C:Addr}{fs:List (Str×V)}
theorem ins_getF (hok:HOk P w H h)(e:H a=some (.frz o (.ins C dx fs))):∃mA,ObjM h a dx C mA/\(∀f,RelO (fs.lookup f) (mA f))/\PySem.Within mA (fs.map (·.1))/\fs.length<=1000/\H dx=some (.own a):=by obtain ⟨_,d,z,ne,ob,mA,n,r,q⟩:=(show ObjOk P w H h a (.frz o (.ins C dx fs)) from hok a _ e);exact ⟨mA,⟨ob,n,ne⟩,r,q,z,d⟩
theorem getattr_okF {b:Bool}{Q:Value->Ac->Prop}(I:Inv X pins σ H s)(e:H a=some (.frz o (.ins C dx fs)))(c:Cls X.K C)(n:NoAttr X.K C f)(l:fs.lookup f=some v)
  (h:∀u s',Inv X pins σ H s'->RelV v u->Q u s'):An (Ai X.prog X.w) A (Gs (.ref a) f b) Q E s:=by
 obtain ⟨mA,O,r,_,_,_⟩:=ins_getF I.hok e;obtain ⟨u,hu,ru⟩:=RelO.some_of (v:=v) (o:=mA f) (by rw [<- l];exact r f);exact get_map I.kIn O (c.get f) c.hd n hu (handed_of ru) (h u _ (I.tok _) ru)
theorem getmeth_okF {m:Str}{g:Addr}(I:Inv X pins σ H s)(e:H a=some (.frz o (.ins C dx fs)))(c:Cls X.K C)(k:Meth X.K C m g)(l:fs.lookup m=none)
  (h:Q (.ref g,[.ref a]) s):An (Ai X.prog X.w) A (BQ (.ref a) m pl) Q E s:=by
 obtain ⟨mA,O,r,_,_,_⟩:=ins_getF I.hok e;have hn:mA m=none:=RelO.none_of (by rw [<- l];exact r m);exact get_meth I.kIn O (c.get m) k.at_ k.fn hn h
end
def tFldF (K:AC)(ta:TE)(f:Str):TE:=fun σ H Q=>ta σ H fun x H1=>∃a o C dx fs v,x=.ref a/\H1 a=some (.frz o (.ins C dx fs))/\Cls K C/\NoAttr K C f/\fs.lookup f=some v/\Q v H1
def tMethF (C:Addr)(m:Str)(sp:Sp)(dvs:List V)(E:XK)(ta:TE)(t:TA):TE:=fun σ H Q=>ta σ H fun x H1=>∃a o dx fs,x=.ref a/\H1 a=some (.frz o (.ins C dx fs))/\fs.lookup m=none/\t σ H1 fun vs H2=>sp (x::(vs++dvs)) H2 Q E
section
variable {k:Nat}{f C:Addr}{sp:Sp}{ds:List Value}{m fl:Str}{o:Expr}
theorem pe_fldF (he:PE X e ta)(hb:AS e fl X.env (Ar e X.env)=Ar e X.env):PE X (.Attribute e fl pos) (tFldF X.K ta fl):=by intro pins s σ H Q I h;refine attr_of hb (thn (he pins s σ H _ I h) fun u s1 hz9=>?_);obtain ⟨x,H1,I1,rx,a,ob,C,dx,fs,v,ex,ea,c,n,l,q⟩:=hz9;subst ex;obtain rfl:u=AB a:=rx;exact getattr_okF I1 ea c n l fun u' s2 I2 ru=>⟨v,H1,I2,ru,q⟩
theorem pe_meth0F (he:PE X o ta)(c:Cls X.K C)(hm:Meth X.K C m f)(F:FnOk X.prog X.w X.K X.mg X.base CX k f fd ps sp)(hr:Room k X.A)(hb:Binds X.K fd ps ds)(hd:Vals dvs ds)(hx:Passes CX X E)
    (ht:Ar (.Call (.Attribute o m apos) [] [] pos) X.env=(do
      let ov <- Ar o X.env
      B5 apos.atName
      let (f,first) <- BA [ov] (BQ ov m pl)
      CD pos f first (AG pos (Ab [] X.env)) (BC pos (AU [] X.env))):=by rfl) :
    PE X (.Call (.Attribute o m apos) [] [] pos) (tMethF C m sp dvs E ta tNil):=by
  intro pins s σ H Q I h;refine DR (pl:=pl) (thn (he pins s σ H _ I h) fun u s1 hz9=>?_) ht;obtain ⟨x,H1,I1,rx,a,ob,dx,fs,ex,ea,l,q⟩:=hz9;subst ex;obtain rfl:u=AB a:=rx;refine getmeth_okF I1 ea c hm l ?_;exact En (first:=[.ref a]) I1.kIn hm.kp (run_fn (us:=[.ref a]) (vs:=[.ref a]) F hr hb hd hx I1 (.cons rfl .nil) q)
end
section
variable {S:List (Nat×Bool)}
theorem eok_fldF (hc:Cls K (C c))(hn:NoAttr K (C c) f)(he:EOk K C E Γ Δ m S te fe):EOk K C E Γ Δ 2 [] (tFldF K te f) (Dl.f1 (Dl.gFldF c f) fe):=fun H0 Hb H σ ρ A Q I p =>
  he H0 Hb H σ ρ A _ I (p.bind.imp (fun d q v H1 g1 r=>by
    obtain ⟨z,e,q'⟩:=oR_ok q;cases d with
    | fobj c' ns ds =>simp only [Dl.gFldF] at e;split at e;rename_i hcc;subst hcc;obtain ⟨B,r,_⟩:=r;obtain ⟨a,o,dx,xs,rfl,h1,hl,r3,rfl⟩:=r;obtain ⟨j,hj,e⟩:=Bm.mp e;obtain ⟨u,Bu,q1,q2,q3⟩:=r3.get e;have eB:Bu=[]:=DU.mpr fun b hb=>nomatch (q3 b hb);subst eB;refine ⟨a,o,C c',dx,_,u,rfl,h1,hc,hn,?_,q' _ _ g1 (Res.flat q2)⟩;rw [lookup_fIx f (by rw [r3.len,hl]),hj];exact q1;cases e
    | _=>cases e) fun c x q H' g'=>q H' g')
theorem eok_methF (he:EOk K C E Γ Δ m1 S1 te fe)(ha:AOk K C E Γ Δ m2 S2 t fa)(hn:∀ρ ds,fa ρ=.ok ds->ds.length=n) :
    EOk K C E Γ Δ mr [] (tMethF (C c) md (spD K C (n+1) mr F) [] E te t) (Dl.fMethF c md F fe fa):=fun H0 Hb H σ ρ A Q I p =>
  he H0 Hb H σ ρ A _ I (p.bind.imp (fun d q v H1 g1 r=>by
    cases d with
    | fobj c' ns ds =>
      simp only at q;split at q;rename_i hcc;obtain ⟨hcc,hmd⟩:=hcc;subst hcc;obtain ⟨B,r,_⟩:=r;obtain ⟨a,o,dx,xs,rfl,h1,hl,r3,eB⟩:=id r;refine ⟨a,o,dx,_,rfl,h1,by rw [lookup_fIx md (by rw [r3.len,hl]),hmd];rfl,?_⟩;refine ha H0 Hb H1 σ ρ A _ (I.mono g1) ?_;cases e:fa ρ with
      | bad=>rw [e] at q;exact q
      | err c x=>rw [e] at q;exact fun H' g'=>q H' (g1.trans g')
      | ok ys =>rw [e] at q;intro vs H2 g2 r2;obtain ⟨B2,r2,_⟩:=r2;rw [BN];refine ⟨.fobj c' ns ds::ys,_,by rw [A7,hn ρ ys e],⟨_,_,_,_,rfl,r.same g2,r2,rfl⟩,Post.imp q (fun d q v H' g3 r=>?_) fun c x q H' g'=>q H' (g1.trans (g2.trans g'))⟩;exact q v H' (g1.trans (g2.trans g3)) ((r.later (g1.trans g2) (Same.refl _)).reA)
      exact q.elim
    | _=>exact q.elim) fun c x q H' g'=>q H' g')
theorem DGet.kf {k:Key}(e:H a=some (.frz o (.dK kvs))):DGet H a (kV k) (valV kvs k):=.inl ⟨kvs,k,.inr ⟨o,e⟩,rfl,rfl⟩
theorem gok_notK:GOk K C rDNot Dl.gNotK:=by intro H x y d vx vy Bx By Q rx ry e q;unfold Dl.gNotK at e;split at e;rename_i ks ds;obtain ⟨k,hk,e⟩:=AF.mp e;cases e;obtain ⟨a,o,ys,rfl,h1,h2,h3,_⟩:=ry;have hv:=keyD_kV hk rx;subst hv;refine ⟨a,_,rfl,DGet.kf h1,?_⟩;rw [val_zip (by rw [h2,h3.len])];exact Out.flat q rpB;cases e
theorem eok_atK {td ty:TE}{fd fy:FE}(hd:EOk K C E Γ Δ m1 S1 td fd)(hy:EOk K C E Γ Δ m2 S2 ty fy):EOk K C E Γ Δ 2 [] (tDGet td ty) (Dl.f2 Dl.gAtK fd fy):=
  fun H0 Hb H σ ρ A Q I p=>hd H0 Hb H σ ρ A _ I (p.bind.imp (fun d q vd H1 g1 r1=>hy H0 Hb H1 σ ρ A _ (I.mono g1) (q.bind.imp (fun y q vy H2 g2 r2=>by
    obtain ⟨z,e,q2⟩:=oR_ok q;obtain ⟨Bd,r1,_⟩:=r1;obtain ⟨By,r2,_⟩:=r2;cases d with
    | fdk ks ds =>have e:(if Dl.flatA ds=true then (Dl.keyD y).bind fun k=>Dl.dAt ks ds k else none)=some z:=e;split at e;rename_i hf;obtain ⟨k,hk,e⟩:=Bm.mp e;obtain ⟨a,o,ys,rfl,h1,h2,h3,_⟩:=r1;have hvk:=keyD_kV hk r2;subst hvk;have hv:=val_dAt (ks:=ks) (k:=k) (h3.same g2) hf;rw [e] at hv;obtain ⟨v,v1,v2,_⟩:=hv;refine ⟨a,v,rfl,?_,q2 v H2 (g1.trans g2) (Res.flat v2)⟩;rw [<- v1];exact DGet.kf (g2 _ _ h1);cases e
    | _=>cases e) fun c x q H' g'=>q H' (g1.trans g'))) fun c x q H' g'=>q H' g')
end
def rLenK:List V->Hp->VK->Prop:=fun xs H Q=>∃a o kvs,xs=[.ref a]/\H a=some (.frz o (.dK kvs))/\Q (.int kvs.length) H
def rListK:List V->Hp->VK->Prop:=fun xs H Q=>∃(a:Addr) (o:Obj) (kvs:List (Key×V)),xs=[.ref a]/\H a=some (.frz o (.dK kvs))/\kvs.length<=1000000/\∀r,H r=none->Q (.ref r) (upd H r (.lst (kvs.map fun kv=>kV kv.1)))
def rDictK:List V->Hp->VK->Prop:=fun xs H Q=>∃(a:Addr) (o:Obj) (kvs:List (Key×V)),xs=[.ref a]/\H a=some (.frz o (.dK kvs))/\∀r,H r=none->Q (.ref r) (upd H r (.dK kvs))
theorem paired_at {α β:Type}{F:α->β->Prop}:∀{l₁:List α} {l₂:List β},l₁.length=l₂.length->(∀(i:Nat) (a:α) (b:β),l₁[i]?=some a->l₂[i]?=some b->F a b)->Paired F l₁ l₂
 | [],[],_,_=>.nil
 | a::l,b::m,h,f=>.cons (f 0 a b rfl rfl) (paired_at (Cq h) fun i x y h1 h2=>f (i+1) x y (by simpa using h1) (by simpa using h2))
 | [],_::_,h,_=>nomatch h
 | _::_,[],h,_=>nomatch h
theorem KV.len {kvs:List (κ×V)}{vs:List (κ×Value)}(h:KV kvs vs):kvs.length=vs.length:=Paired.length h
theorem call_lenK:CallR X (.builtin "len") rLenK:=by intro pins s σ H xs us Q I r h;obtain ⟨a,o,kvs,rfl,hq,q⟩:=h;obtain ⟨u,rfl,rx⟩:=vals1 r;cases rx;have hn:=line63;obtain ⟨hl,hs,vs,r',hm⟩:=dk_rd I.hok (.inr ⟨o,hq⟩);have e:=r'.len;exact call_len_dict hs hm (by omega) ⟨.int kvs.length,H,I.tok _,⟨s.toks+1,by rw [e]⟩,q⟩
theorem call_listK (hc:X.calm=true):CallR X (.type "list") rListK:=by
 intro pins s σ H xs us Q I r h;obtain ⟨a,o,kvs,rfl,hq,hlim,q⟩:=h;obtain ⟨u,rfl,rx⟩:=vals1 r;cases rx;obtain ⟨hl,hs,vs,r',hm⟩:=dk_rd I.hok (.inr ⟨o,hq⟩);obtain ⟨ep,hm⟩:=hm.dictAt;have e:=r'.len;refine PySem.W.kdl_call (PySem.W.kdl_dict (knd:=mixKind X.prog X.w) (kvs:=vs) (ep:=ep) hs) (I.ok.hd hc) hm (by rw [<- e];exact hl) fun h' tk acc' c' hk hg hit=>?_;obtain ⟨hsz,hv⟩:=hit;refine ⟨.ref s.heap.objs.size,_,I.laid (t':=tk) (o:=.lst (kvs.map fun kv=>kV kv.1)) hk (AM _) ⟨?_,acc'.toList,c',?_,?_⟩,rfl,q _ I.fresh⟩;rw [Ap];exact hl;refine paired_at (by rw [Ap,e,<- hsz];exact Do.symm) fun i x u hx hu=>?_;rw [Array.getElem?_toList] at hu;obtain ⟨k,y,hk1,hk2⟩:=hv i u hu;rw [Bg] at hx;obtain ⟨kv,hkv,rfl⟩:=AF.mp hx;obtain ⟨u',hu'⟩:=KV.get r' hkv;rw [hk1] at hu';have:k=kv.1:=by injection hu' with z;exact (Prod.mk.inj z).1
 rw [<- this];exact keyIs_rel hk2;simpa using hg
theorem call_dictK:CallR X (.type "dict") rDictK:=by intro pins s σ H xs us Q I r h;obtain ⟨a,o,kvs,rfl,hq,q⟩:=h;obtain ⟨u,rfl,rx⟩:=vals1 r;cases rx;obtain ⟨hl,hs,vs,r',hm⟩:=dk_rd I.hok (.inr ⟨o,hq⟩);have e:=r'.len;refine kt_call_dict hs hm (by rw [<- e];exact hl) fun h' hd sb=>?_;have hk:∀b u,s.heap.get? b=some u->h'.get? b=some u:=fun b u hb=>(sb.2 b (Bh (AT hb))).trans (Al _ hb);refine ⟨.ref s.heap.objs.size,_,I.laid (t':=s.toks) (o:=.dK kvs) hk (AM _) ⟨hl,?_,vs,r',hd⟩,rfl,q _ I.fresh⟩;exact beq_eq_false_iff_ne.mpr (Ne.symm (Bh I.big))
def ItDv (a:Addr)(o:Obj)(kvs:List (Key×V)):It:=
 ⟨fun i H=>H a=some (.frz o (.dK kvs))/\i<kvs.length,fun i H x H'=>H'=H/\∃kv,kvs[i]?=some kv/\x=kv.2,fun i H=>H a=some (.frz o (.dK kvs))/\kvs.length<=i⟩
theorem KV.getV {κ:Type}:∀{kvs:List (κ×V)} {vs:List (κ×Value)} {i:Nat} {p:κ×V},KV kvs vs->kvs[i]?=some p->∃u,vs[i]?=some (p.1,u)/\RelV p.2 u
 | _,_,_,_,.nil,e=>by simp at e
 | _,_,0,_,.cons (b:=q) r _,e=>by simp at e;subst e;exact ⟨q.2,by rw [r.1];rfl,r.2⟩
 | _,_,i+1,p,.cons _ t,e=>by obtain ⟨u,h,h2⟩:=KV.getV (i:=i) (p:=p) t (by simpa using e);exact ⟨u,by simpa using h,h2⟩
theorem turn_vals (a it:Addr)(o:Obj)(kvs:List (Key×V))(vs:List (Key×Value))(es:Array GQ)(ep:Nat)(r:KV kvs vs)(h1:o.ExactDict)(h2:o.data=.dict es ep)(h3:KeysOf (mixKind P w) es)(h4:Pairs (mixKind P w) es.toList vs)(h5:(vs.map (·.1)).Nodup) :
  Turn P w K tg (ItDv a o kvs) [it] it (fun i h=>h.IsValIter it a i vs.length ep) where
 mem:=by simp
 obj:=fun i h st b hb=>by
  have e:b=it:=by simpa using hb
  subst e;obtain ⟨o,e,c,d⟩:=st;exact ⟨o,e,fun v z=>by rw [d] at z;cases z⟩
 keep:=fun i h h' st k=>st.at fun o e=>k it (by simp) o e
 item:=by intro X hP hw hK hc i pins s σ H E I hf st hg;subst hP hw hK;obtain ⟨f0,f1,f2,f3,f4,f5⟩:=hf it (by simp);obtain ⟨hfz,hi⟩:=hg;have ho:=(I.hok a _ hfz).1;have hk:kvs[i]?=some kvs[i]:=AA hi;obtain ⟨u,hu,ru⟩:=KV.getV r hk;refine wpAny_pyNext_values_item (knd:=mixKind X.prog X.w) st ⟨o,es,ho,h1,h2,h3,h4,h5⟩ hu fun h' st' sb=>?_;have I1:Inv X pins σ H {s with heap:=h'}:=I.turned (t':=s.toks) (fun b o hb e=>(sb.2 b hb).trans e) f0 f1 f3 f4 f5;obtain ⟨o',e,c,d⟩:=id st';exact ⟨u,rfl,go_of (s:={s with heap:=h'}) e c d (by decide) ⟨kvs[i].2,H,I1,ru,⟨rfl,_,hk,rfl⟩,st',fun b hb=>(hf b hb).1⟩⟩
 done:=by intro X hP hw hK hc i pins s σ H E I hf st hg;subst hP hw hK;obtain ⟨f0,f1,f2,f3,f4,f5⟩:=hf it (by simp);obtain ⟨hfz,hi⟩:=hg;have ho:=(I.hok a _ hfz).1;have hl:kvs.length=vs.length:=Paired.length r;exact wpAny_pyNext_values_end (knd:=mixKind X.prog X.w) (I.ok.hd hc) st ⟨o,es,ho,h1,h2,h3,h4,h5⟩ (by simp;omega) fun h' eb=>⟨rfl,I.turned (t':=s.toks) (fun b o hb e=>eb b o hb e) f0 f1 f3 f4 f5⟩
 self:=fun _ _ _ _ _ st h=>wpAny_pyIter_valiter st h
section
variable {tl:TE}
def iVals (tl:TE):TI:=fun σ H R=>tl σ H fun x H1=>∃a o kvs,x=.ref a/\H1 a=some (.frz o (.dK kvs))/\R (ItDv a o kvs) H1
theorem pi_vals (hl:PE X l tl)(m:M0 X l "values" apos cpos):PI X tg (.Call (.Attribute l "values" apos) [] [] cpos) (iVals tl):=by intro pins s σ H R I h;refine wpAny_Call_method m.base m.few m.line PySem.F.plainAttrs_dict PySem.F.slot_dict_values PySem.F.type_dict_values (thn (hl pins s σ H _ I h) fun u s1 hz9=>?_);obtain ⟨x,H1,I1,rx,a,o,kvs,ex,hq,q⟩:=hz9;subst ex;obtain rfl:u=AB a:=rx;obtain ⟨ho,_⟩:=I1.hok a _ hq;obtain ⟨hlen,hd,vs,r',hm⟩:=dk_rd I1.hok (.inr ⟨o,hq⟩);obtain ⟨o',es,ep,ho',h1,h2,h3,h4,h5⟩:=id hm;rw [ho] at ho';cases ho';obtain ⟨t1,t2,_⟩:=isD_at I1 (.inl ⟨kvs,.inr ⟨o,hq⟩⟩);refine ⟨t1,t2,?_⟩;rw [m.trees];refine Es rfl (PySem.evalArgs_none ?_);refine call_meetsIn PySem.F.slot_dict_values t1 PySem.F.entry_dict_values (PySem.F.args_dict_values_1 _) (meets_dict_values (mixKind X.prog X.w) a hd) ⟨⟨vs,hm⟩,?_⟩;have hv:(s1.heap.push {cls:=.type "dict_values",data:=.fields #[.ref a]}).IsValuesView s1.heap.objs.size a:=⟨_,A5 _ rfl,rfl,rfl⟩;have I2:Inv X pins σ H1 {s1 with heap:=s1.heap.push {cls:=.type "dict_values",data:=.fields #[.ref a]}}:=I1.kept (t':=s1.toks) fun b o e=>Al _ e;refine wpAny_pyIter_values (s:={s1 with heap:=s1.heap.push {cls:=.type "dict_values",data:=.fields #[.ref a]}}) (knd:=mixKind X.prog X.w) (kvs:=vs) (ep:=ep) hv ⟨o,es,Al _ ho,h1,h2,h3,h4,h5⟩ ?_;refine ⟨_,[_],_,_,_,rfl,I2.kept (t':=s1.toks) fun b o e=>Al _ e,turn_vals a _ o kvs vs es ep r' h1 h2 h3 h4 h5,⟨_,A5 _ rfl,rfl,rfl⟩,fun b hb=>?_,q⟩;have e:=As.mp hb;subst e;exact I2.fpOk (AM _) (I2.hok.fresh (AM _))
variable {S:List (Nat×Bool)}
theorem eok_lenK (he:EOk K C E Γ Δ m S te fe):EOk K C E Γ Δ 2 [] (tCB rLenK (tCons te tNil)) (Dl.f1 Dl.gLenK fe):=fun H0 Hb H σ ρ A Q I p =>
  he H0 Hb H σ ρ A _ I (Post.imp (Post.bind p) (fun d q v H1 g1 r=>by
    obtain ⟨z,e,q⟩:=oR_ok q;obtain ⟨B,r,_⟩:=r;show rLenK [v] H1 Q;cases d with
    | fdk ks ds =>
      cases (show some (D.int ks.length)=some z from e);obtain ⟨a,o,ys,rfl,h1,h2,h3,_⟩:=r;refine ⟨a,o,_,rfl,h1,?_⟩;have hz:(ks.zip ys).length=ks.length:=by rw [CP,h3.len,h2,GI]
      rw [hz];exact q _ _ g1 (Res.flat rpI)
    | _=>cases e) fun c x q H' g'=>q H' g')
theorem keys_kV:∀{ks:List Key} {ys:List V},ks.length=ys.length->((ks.zip ys).map fun kv=>kV kv.1)=ks.map kV
 | [],[],_=>rfl
 | k::ks,y::ys,h=>by rw [BK,Bt,Bt,keys_kV (Cq h)]
 | [],_::_,h=>nomatch h
 | _::_,[],h=>nomatch h
theorem ky_rpA:∀{ks:List Key},ks.all Dl.kOk=true->RpA K C H (ks.map Dl.kyD) (ks.map kV) []
 | [],_=>RpA.nil
 | k::ks,h=>by
  rw [List.all_cons,Aq] at h;refine ⟨_,_,[],[],rfl,?_,ky_rpA h.2,rfl⟩;cases k with
  | inl i=>exact ⟨rfl,rfl⟩
  | inr x=>exact ⟨rfl,h.1,rfl⟩
theorem gak_listK:GAk K C rListK Dl.gListK:=by
 intro H xs d vs Bx Q r e q
 match xs,e with
 | [x],e =>
  obtain ⟨v,l,B1,B2,rfl,r1,r2,_⟩:=r;obtain ⟨rfl,_⟩:=r2;cases x with
  | fdk ks ds =>
   have e:(if ks.length<=Dl.lim/\ks.all Dl.kOk=true then some (D.lst (ks.map Dl.kyD)) else none)=some d:=e;split at e;rename_i hh;cases e;obtain ⟨a,o,ys,rfl,e1,e2,e3,_⟩:=r1;have hl:ks.length=ys.length:=by rw [e2,e3.len]
   have hz:(ks.zip ys).length=ks.length:=by rw [CP];omega
   refine ⟨a,o,_,rfl,e1,by rw [hz];exact hh.1,fun p hp=>?_⟩;rw [keys_kV hl];exact Out.lst q (ky_rpA hh.2) hp;cases e
  | _=>cases e
 | [],e=>cases e
 | x::_::_,e=>cases x<;>cases e
theorem gak_dictK:GAk K C rDictK Dl.gDictK:=by
 intro H xs d vs Bx Q r e q
 match xs,e with
 | [x],e =>
  obtain ⟨v,l,B1,B2,rfl,r1,r2,_⟩:=r;obtain ⟨rfl,_⟩:=r2;cases x with
  | fdk ks ds =>
   have e:(if ks.length<=Dl.lim/\Dl.flatA ds=true then some (D.dct ks ds) else none)=some d:=e;split at e;rename_i hh;cases e;obtain ⟨a,o,ys,rfl,e1,e2,e3,_⟩:=r1;refine ⟨a,o,_,rfl,e1,fun p hp=>?_⟩;have g2:=sameNew hp (.dK (ks.zip ys));exact q _ _ [p] g2 ⟨p,ys,[],rfl,upd_same,e2,e3.same g2,rfl⟩ (Ag.mpr ⟨(fun z=>nomatch z),Bw⟩) fun c hc=>by rw [As.mp hc];exact hp
   cases e
  | _=>cases e
 | [],e=>cases e
 | x::_::_,e=>cases x<;>cases e
theorem goes_vals {ks:List Key}{Hc:Hp}(h1:Hc a=some (.frz o (.dK (ks.zip ys))))(h2:ks.length=ds.length)(r:RpA K C Hc ds ys []):Goes K C (ItDv a o (ks.zip ys)) ds Hc:=fun H2 g=>by
 have hl:=r.len;have hz:(ks.zip ys).length=ds.length:=by rw [CP];omega
 refine ⟨fun i hi=>⟨g _ _ h1,by omega⟩,fun i hi=>⟨g _ _ h1,by omega⟩,fun i x H3 hi y=>?_⟩;obtain ⟨rfl,kv,e1,rfl⟩:=y;have hiy:i<ys.length:=by omega
 have hik:i<ks.length:=by omega
 have:(ks.zip ys)[i]?=some (ks[i],ys[i]):=by rw [Ef];exact ⟨AA hik,AA hiy⟩
 rw [this] at e1;obtain ⟨d,Bd,q1,q2,q3⟩:=r.get' (AA hiy);have eB:Bd=[]:=DU.mpr fun b hb=>nomatch (q3 b hb);subst eB;refine ⟨Same.refl _,d,[],q1,?_,fun _ z=>nomatch z⟩;rw [<- AH e1];exact q2.same g
theorem iok_vals {t:TE}{f:FE}(h:EOk K C E Γ Δ m S t f):IOk K C E Γ Δ [] (iVals t) (Dl.jVals f):=fun H0 Hb H σ ρ A Rr I p=>h H0 Hb H σ ρ A _ I (p.bind.imp (fun d q v H' g r=>by
  obtain ⟨B,r,r',_⟩:=r;cases d with
  | fdk ks ds =>obtain ⟨a,o,ys,rfl,e1,e2,e3,e4⟩:=r;simp only at q;split at q;rename_i hl;exact ⟨a,o,_,rfl,e1,q _ H' [] g (fun _ z=>nomatch z) (by rw [<- e2];exact hl.1) fun Hc h1=>goes_vals (frz_agree h1 e1) e2 (e3.agree h1 fun _ z=>nomatch z)⟩;exact q.elim
  | _=>exact q.elim) fun c x q H' g'=>q H' g')
end
def tFzO (te:TE):TE:=fun σ H Q=>te σ H fun v H1=>∃a b c dx fs kvs,v=.ref a/\H1 a=some (.ins c dx fs)/\H1 b=some (.dK kvs)/\∀oa ob,Q v (upd (upd H1 b (.frz ob (.dK kvs))) a (.frz oa (.ins c dx fs)))
theorem Inv.fzO {b c:Addr}{fs:List (Str×V)}(I:Inv X pins σ H s)(ha:H a=some (.ins c dx fs))(hb:H b=some (.dK kvs)):∃oa ob,Inv X pins σ (upd (upd H b (.frz ob (.dK kvs))) a (.frz oa (.ins c dx fs))) s:=by
 have hab:a≠b:=fun z=>by rw [z,hb] at ha;cases ha
 obtain ⟨ob,hob⟩:∃o,s.heap.get? b=some o:=(I.hok b _ hb).ob;obtain ⟨oa,hoa⟩:∃o,s.heap.get? a=some o:=(I.hok a _ ha).ob;have I1:=(I.fz hb (by rw [hb];trivial) (fun _ _ _=>⟨(fun z=>nomatch z),(fun z=>nomatch z)⟩) hob).1;have ha1:(upd H b (.frz ob (.dK kvs))) a=some (.ins c dx fs):=by rw [upd_ne hab];exact ha
 exact ⟨oa,ob,(I1.fz ha1 (by rw [ha1];trivial) (fun _ _ _=>⟨(fun z=>nomatch z),(fun z=>nomatch z)⟩) hoa).1⟩
theorem pe_fzO (h:PE X e te):PE X e (tFzO te):=by intro pins s σ H Q I hq;refine thn (h pins s σ H _ I hq) fun v s1 hz=>?_;obtain ⟨x,H1,I1,r1,a,b,c,dx,fs,kvs,rfl,ha,hb,q⟩:=hz;obtain ⟨oa,ob,I2⟩:=I1.fzO ha hb;exact ⟨.ref a,_,I2,r1,q oa ob⟩
section
variable {S:List (Nat×Bool)}
theorem fzO_rp {xs:List D}(r:Rp K C H (.obj c (f::ns) (.dct ks xs::ds)) v B)(hx:Dl.flatA xs=true)(hd:Dl.flatA ds=true) :
  ∃a b dx fs kvs,v=.ref a/\B=[a,b]/\H a=some (.ins (C c) dx fs)/\H b=some (.dK kvs)/\∀oa ob,Rp K C (upd (upd H b (.frz ob (.dK kvs))) a (.frz oa (.ins (C c) dx fs))) (.fobj c (f::ns) (.fdk ks xs::ds)) (.ref a) []:=by
 obtain ⟨a,dx,vs,B',rfl,h1,hl,r2,rfl⟩:=r;obtain ⟨y,l,B1,B2,rfl,r3,r4,rfl⟩:=r2;obtain ⟨b,ys,B3,rfl,h3,h4,r5,rfl⟩:=r3;have e3:=r5.flat hx;have e2:=r4.flat hd;subst e3 e2;have hab:a≠b:=fun z=>by rw [z,h3] at h1;cases h1
 refine ⟨a,b,dx,_,_,rfl,rfl,h1,h3,fun oa ob=>?_⟩;have ext:Ext (fun z=>z=a\/z=b) H (upd (upd H b (.frz ob (.dK (ks.zip ys)))) a (.frz oa (.ins (C c) dx ((f::ns).zip (.ref b::l))))):=fun z o hz=>by by_cases ea:z=a;subst ea;rw [h1] at hz;cases hz;exact .inr ⟨.inl rfl,.ins⟩;by_cases eb:z=b;subst eb;rw [h3] at hz;cases hz;exact .inr ⟨.inr rfl,.dct⟩;rw [upd_ne ea,upd_ne eb];exact .inl hz
 have q4:=r4.ext ext fun z hz=>by cases hz
 have q5:=r5.ext ext fun z hz=>by cases hz
 refine ⟨a,oa,dx,.ref b::l,rfl,upd_same,hl,⟨.ref b,l,[],[],rfl,⟨b,ob,ys,rfl,?_,h4,q5,rfl⟩,q4,rfl⟩,rfl⟩;rw [upd_ne (Ne.symm hab)];exact upd_same
theorem same_fzO {H1:Hp}{b:Addr}{u w:HO}(ha:H a=none)(hb:H b=none)(g:Same H H1):Same H (upd (upd H1 b u) a w):=fun z o hz=>by rw [upd_ne (ne_of_none hz ha),upd_ne (ne_of_none hz hb)];exact g z o hz
theorem gFzO_of {z:D}(e:Dl.gFzO d=some z):∃c f ns ks xs ds,d=.obj c (f::ns) (.dct ks xs::ds)/\Dl.flatA xs=true/\Dl.flatA ds=true/\z=.fobj c (f::ns) (.fdk ks xs::ds):=by unfold Dl.gFzO at e;split at e;split at e;rename_i h;cases e;exact ⟨_,_,_,_,_,_,rfl,h.1,h.2,rfl⟩;cases e;cases e
theorem eok_fzO (h:EOk K C E Γ Δ 2 [] te fe):EOk K C E Γ Δ 2 [] (tFzO te) (Dl.f1 Dl.gFzO fe):=fun H0 Hb H σ ρ A Q I p =>
  h H0 Hb H σ ρ A _ I (p.bind.imp (fun d q v H1 g r=>by
    obtain ⟨z,e,q⟩:=oR_ok q;obtain ⟨B,r1,r2,_⟩:=r;obtain ⟨c,f,ns,ks,xs,ds,rfl,hx,hd,rfl⟩:=gFzO_of e;obtain ⟨a,b,dx,fs,kvs,rfl,rfl,h1,h2,k⟩:=fzO_rp r1 hx hd;have hn:∀y∈[a,b],H y=none:=fun y hy=>(r2 y hy).elim id fun z=>z.none.elim;exact ⟨a,b,C c,dx,fs,kvs,rfl,h1,h2,fun oa ob=>q _ _ (same_fzO (hn a (.head _)) (hn b (.tail _ (.head _))) g) (Res.flat (k oa ob))⟩) fun c x q H' g'=>q H' g')
end
section
variable {k:Nat}{S:List (Nat×Bool)}{o a:Expr}{fa':FE}
theorem ce_fldF (hc:Cls K (C c))(hn:NoAttr K (C c) f)(he:JE X C E Γ Δ m S e te fe)(hb:AS e f X.env (Ar e X.env)=Ar e X.env:=by rfl)(hK:X.K=K:=by rfl):JE X C E Γ Δ 2 [] (.Attribute e f pos) (tFldF K te f) (Dl.f1 (Dl.gFldF c f) fe):=by subst hK;exact ⟨⟨pe_fldF he.q.out hb⟩,eok_fldF hc hn he.o⟩
theorem ce_meth0F (hc:Cls K (C c))(M:MDef X.prog X.w K X.mg X.base CX k (C c) md ps (spD K C 1 mr F))(hr:Room k X.A)(hx:Passes CX X E)(ho:JE X C E Γ Δ m1 S1 o te fe)
    (ht:Ar (.Call (.Attribute o md apos) [] [] pos) X.env=(do
      let ov <- Ar o X.env
      B5 apos.atName
      let (f,first) <- BA [ov] (BQ ov md pl)
      CD pos f first (AG pos (Ab [] X.env)) (BC pos (AU [] X.env))):=by rfl) (hK:X.K=K:=by rfl) :
    JE X C E Γ Δ mr [] (.Call (.Attribute o md apos) [] [] pos) (tMethF (C c) md (spD K C 1 mr F) [] E te tNil) (Dl.fMethF c md F fe Dl.aNil):=by
  subst hK;obtain ⟨f,fd,hm,hb,F'⟩:=M.ex;exact ⟨⟨pe_meth0F ho.q.out hc hm F' hr hb .nil hx ht⟩,eok_methF (n:=0) ho.o aok_nil len_nil⟩
theorem ce_atK (ha:JE X C E Γ Δ m1 S1 a ta fa')(hb:JE X C E Γ Δ m2 S2 b tb fb)(hu:X.A.units+64<Bf)(hs:NoSl b:=by intro _ _;rfl):JE X C E Γ Δ 2 [] (.Subscript a b pos) (tDGet ta tb) (Dl.f2 Dl.gAtK fa' fb):=⟨⟨pe_dget (by omega) ha.q.out hb.q.out hs⟩,eok_atK ha.o hb.o⟩
theorem ce_lenK (hg:Gl X "len")(hm:X.mg "len"=none)(he:JE X C E Γ Δ m S e te fe)(hse:Ab [e] X.env=(false,Ar e X.env)::Ab [] X.env)(hpl:(AG pos (Ab ([]:List Expr) X.env)).any (·.1)=false:=by rfl) :
  JE X C E Γ Δ 2 [] (.Call (.Name "len" p) [e] [] pos) (tCB rLenK (tCons te tNil)) (Dl.f1 Dl.gLenK fe):=
 ⟨qe_callB call_lenK hg hm PySem.boot_len (qa_cons he.q qa_nil hse) (by decide) (by decide) hse hpl,eok_lenK he.o⟩
theorem ce_fzO (he:JE X C E Γ Δ 2 [] e te fe):JE X C E Γ Δ 2 [] e (tFzO te) (Dl.f1 Dl.gFzO fe):=⟨⟨pe_fzO he.q.out⟩,eok_fzO he.o⟩
theorem ci_vals (h:JE X C E Γ Δ m S e te fe)(hbase:AS e "values" X.env (Ar e X.env)=Ar e X.env:=by rfl)
  (hfew:((AG cpos (Ab ([]:List Expr) X.env)).all (fun x=>!x.1)&&(BC cpos (AU [] X.env)).all (fun x=>x.1.isSome)&&decide (([]:List Expr).length+([]:List BO).length+(if ([]:List BO).isEmpty then 0 else 1)<30))=true:=by rfl)
  (hline:(apos.endLine==cpos.line)=true:=by rfl) (htr:AG cpos (Ab ([]:List Expr) X.env)=[]:=by rfl):JI X C E Γ Δ [] tg (.Call (.Attribute e "values" apos) [] [] cpos) (iVals te) (Dl.jVals fe):=⟨⟨pi_vals h.q.out ⟨hbase,hfew,hline,htr⟩⟩,iok_vals h.o⟩
end
section
variable {S:List (Nat×Bool)}
theorem sok_ofP {t:TS}{f:FS}(h:SOkP K C E Γ Δ Γ' Δ' t f)(hf:∀ρ fl,f ρ=.ok fl->∃ρ',fl=.nx ρ'):SOk K C E mr Γl Δl Γ Δ Γ' Δ' t f:=fun H0 Hb H σ ρ A D I p=>by
 refine h H0 Hb H σ ρ A D I ?_;cases e:f ρ with
 | bad=>rw [e] at p;exact p
 | err c x=>rw [e] at p;exact p
 | ok fl =>obtain ⟨ρ',rfl⟩:=hf ρ fl e;rw [e] at p;exact fun σ' H' A' _ I'=>p σ' H' A' I'
theorem EnvOk.subTo {dj:D}(I:EnvOk K C H0 Hb H Γ Δ σ ρ A)(hi:i∈Δ)(e0:ρ[i]?=some (some (.obj c ns ds)))(hj:ds[j]?=some dj) :
    ∃a dx xs w Bj,σ[i]?=some (some (.ref a))/\H a=some (.ins (C c) dx (ns.zip xs))/\ns.length=xs.length/\xs[j]?=some w/\Rp K C H dj w Bj/\Bj.Nodup/\(∀x∈Bj,x∈A i)/\a∉Bj/\
      ∀H' dj' B',(∀b o,b∉Bj->H b=some o->H' b=some o)->Rp K C H' dj' w B'->B'.Nodup->(∀x∈B',x∈Bj\/H x=Be)->∃A',EnvOk K C H0 Hb H' Γ Δ σ (ρ.set i (some (.obj c ns (ds.set j dj')))) A'/\(∀k,k≠i->A' k=A k)/\∀x,x∈A' i->(x∈A i/\x∉Bj)\/x∈B':=by
  obtain ⟨v0,hs,r0⟩:=I.rep i _ e0;obtain ⟨a,dx,xs,B',rfl,h1,hl,r3,hAi⟩:=r0;obtain ⟨d1,d2,d3⟩:=I.deep i hi;rw [hAi] at d1;obtain ⟨na,nB'⟩:=Ag.mp d1;obtain ⟨B1,Bj,B2,w,rfl,hw,rj,up⟩:=r3.one_of hj;have nb1:=AQ.mp nB';have nb2:=AQ.mp nb1.2.1;have hin:∀x∈Bj,x∈A i:=fun x hx=>by rw [hAi];exact .tail _ (Aj _ (Am _ hx))
  refine ⟨a,dx,xs,w,Bj,hs,h1,by rw [r3.len,hl],hw,rj,nb2.1,hin,fun z=>na (Aj _ (Am _ z)),fun H' dj' Bn hk rn nd hB=>?_⟩;have ext:Ext (fun x=>x∈Bj) H H':=fun b o hb=>by by_cases e:b∈Bj;obtain ⟨o',ho,hm⟩:=rj.isl b e;rw [ho] at hb;cases hb;exact .inr ⟨e,hm⟩;exact .inl (hk b o e hb)
  have r5:=up (fun x=>x∈Bj) H' dj' Bn ext (fun x hx z=>by
    rcases Ae.mp hx with y | y;exact nb1.2.2 x y x (Am _ z) rfl
    · exact nb2.2.2 x z x y rfl) rn
  have haj:a∉Bj:=fun z=>na (Aj _ (Am _ z));have hnew:∀x∈Bn,x∉Bj->∀k,x∉A k:=fun x hx hn k hk=>by rcases hB x hx with y | y;exact hn y;exact I.ne hk y
  have hout:∀x∈Bn,x∉B1/\x∉B2/\x≠a:=fun x hx=>by rcases hB x hx with y | y;exact ⟨fun z=>nb1.2.2 x z x (Am _ y) rfl,fun z=>nb2.2.2 x y x z rfl,fun z=>haj (by rw [<- z];exact y)⟩;refine ⟨fun z=>I.ne (j:=i) (by rw [hAi];exact .tail _ (Am _ z)) y,fun z=>I.ne (j:=i) (by rw [hAi];exact .tail _ (Aj _ (Aj _ z))) y,fun z=>I.ne (j:=i) (by rw [hAi,z];exact .head _) y⟩
  have I2:=I.deepTo hi (Ad.mp e0).1 hs (fun x o hx h=>hk x o (fun z=>hx (hin x z)) h) (d':=.obj c ns (ds.set j dj')) (A':=a::(B1++(Bn++B2))) ⟨a,dx,xs,_,rfl,hk a _ haj h1,by rw [BG];exact hl,r5,rfl⟩
    (Ag.mpr ⟨fun z=>by
      rcases Ae.mp z with y | y;exact na (Am _ y)
      · rcases Ae.mp y with y | y;exact (hout a y).2.2 rfl
        · exact na (Aj _ (Aj _ y)),nodup_swap nB' nd fun x hx=>⟨(hout x hx).1,(hout x hx).2.1⟩⟩) fun x hx=>by
    rw [hAi];simp only [Au,Ae] at hx ⊢;rcases hx with z | z | z | z;exact .inl (.inl z);exact .inl (.inr (.inl z));rcases hB x z with y | y;exact .inl (.inr (.inr (.inl y)));exact .inr ⟨I.same.free y,fun k hk'=>I.ne hk' y⟩;exact .inl (.inr (.inr (.inr z)))
  refine ⟨_,I2,fun k hk'=>if_neg hk',fun x hx=>?_⟩;rw [if_pos rfl] at hx;rw [hAi];simp only [Au,Ae] at hx ⊢;rcases hx with z | z | z | z;exact .inl ⟨.inl z,by rw [z];exact haj⟩;exact .inl ⟨.inr (.inl z),fun y=>nb1.2.2 x z x (Am _ y) rfl⟩;exact .inr z;exact .inl ⟨.inr (.inr (.inr z)),fun y=>nb2.2.2 x y x z rfl⟩
theorem mok_methFld (hc:Cls K (C c))(hnf:NoAttr K (C c) f)(hi:i∈Δ)(ha:AOk K C E Γ Δ m [] t fa)(hn:∀ρ ds,fa ρ=.ok ds->ds.length=n) :
  MOk K C E Γ Δ (tMeth (C c2) md (spM K C n G) [] E (tFld K (tVar i) f) t) (Dl.mMethFld i c f c2 md G fa):=fun H0 Hb H σ ρ A Q I p=>by
 unfold Dl.mMethFld at p;split at p;rename_i c' ns ds e0;split at p;rename_i hcc;subst hcc;split at p;rename_i j hj;split at p;rename_i c2' ns2 ds2 hdj;split at p;rename_i h2;obtain ⟨rfl,hmd⟩:=h2;obtain ⟨a,dx,xs,w,Bj,hs,h1,hl,hw,rj,ndj,hin,_,k⟩:=I.subTo hi e0 hdj;obtain ⟨b,dx2,xs2,B2,rfl,hb,hl2,r2,eBj⟩:=id rj;refine ⟨.ref a,hs,a,C c',dx,_,.ref b,rfl,h1,hc,hnf,by rw [lookup_fIx f hl,hj];exact hw,b,dx2,_,rfl,hb,by rw [lookup_fIx md (by rw [r2.len,hl2]),hmd];rfl,?_⟩;refine ha H0 Hb H σ ρ A _ I ?_;cases e:fa ρ with
 | bad=>rw [e] at p;exact p
 | err c x=>rw [e] at p;exact fun H' g'=>p H' (Same.from0 I g')
 | ok ys =>
  rw [e] at p;intro vs H1 g1 ra;obtain ⟨Ba,ra,rB,_⟩:=ra;rw [BN];have hBa:∀x∈Ba,H x=none:=fun x hx=>(rB x hx).elim id fun z=>z.none.elim;have I1:=I.mono g1;obtain ⟨a',dx',xs',w',Bj',hs',h1',hl',hw',rj',ndj',hin',_,k'⟩:=I1.subTo hi e0 hdj;rw [hs] at hs';cases hs';have h1'':=g1 _ _ h1;rw [h1''] at h1';have ex:xs'=xs:=by injection h1' with z;injection z with _ _ z;have q1:(ns.zip xs).map (·.2)=(ns.zip xs').map (·.2):=congrArg _ z;rw [CC (by omega),CC (by omega)] at q1;exact q1.symm
  subst ex;rw [hw] at hw';cases hw';refine ⟨.obj c2' ns2 ds2,ys,.ref b,vs,Bj',Ba,rfl,hn ρ ys e,rj',ndj',ra,fun x hx hz=>I.ne (hin' x hz) (hBa x hx),Post.imp (Post.bind (r:=G (.obj c2' ns2 ds2::ys)) p) (fun q pq v H' A1 Br hk r1 nd1 hA1 rr ndr hBr=>?_) fun c x q H' hk=>?_⟩;obtain ⟨A',I',hA',hAi⟩:=k' H' q.2 A1 hk r1 nd1 hA1;refine pq v H' A' Br I' rr ndr fun x hx=>⟨(hBr x hx).1.elim (fun z=>(I1.deep i hi).2.2 x (hin' x z)) fun z=>I1.same.free z,fun jj=>?_⟩;by_cases ei:jj=i;subst ei;intro hx';rcases hAi x hx' with ⟨z1,z2⟩ | z;rcases (hBr x hx).1 with y | y;exact z2 y;exact I1.ne z1 y;exact (hBr x hx).2 z;rw [hA' jj ei];exact fun hj'=>(hBr x hx).1.elim (fun z=>(I1.deep i hi).2.1 jj ei x (hin' x z) hj') fun z=>I1.ne hj' z;refine q H' fun b o h=>hk b o (fun z=>?_) (I1.same b o (I.s0 b o h));rw [I.s0.free ((I1.deep i hi).2.2 b (hin' b z))] at h;cases h
 exact p.elim;exact p.elim;exact p.elim;exact p.elim;exact p.elim
end
def tFzA (t:TA):TA:=fun σ H Q=>t σ H fun vs H1=>∃a b c dx fs kvs l,vs=V.ref a::l/\H1 a=some (.ins c dx fs)/\H1 b=some (.dK kvs)/\∀oa ob,Q vs (upd (upd H1 b (.frz ob (.dK kvs))) a (.frz oa (.ins c dx fs)))
theorem pa_fzA (h:PA X es t):PA X es (tFzA t):=fun pos pins s σ H Q I hq =>
 thn (h pos pins s σ H _ I hq) fun us s1 hz=>by obtain ⟨vs,H1,I1,rv,a,b,c,dx,fs,kvs,l,rfl,ha,hb,q⟩:=hz;obtain ⟨oa,ob,I2⟩:=I1.fzO ha hb;exact ⟨_,_,I2,rv,q oa ob⟩
section
variable {S:List (Nat×Bool)}
theorem EnvOk.fldTo {xs:List V}(I:EnvOk K C H0 Hb H Γ Δ σ ρ A)(hi:i∈Δ)(e0:ρ[i]?=some (some (.obj c ns ds)))(hs:σ[i]?=some (some (.ref a)))(h1:H a=some (.ins (C c) dx (ns.zip xs)))(hx:ns.length=xs.length)(hj:Dl.fIx f ns=some j)(rv:Rp K C H d v []) :
  ∃A',EnvOk K C H0 Hb (upd H a (.ins (C c) dx (putF f v (ns.zip xs)))) Γ Δ σ (ρ.set i (some (.obj c ns (ds.set j d)))) A':=by
 obtain ⟨v0,hs0,r0⟩:=I.rep i _ e0;rw [hs] at hs0;cases hs0;obtain ⟨a',dx',xs',B',e1,h1',hl,r3,hAi⟩:=r0;cases e1;rw [h1] at h1';have ed:dx'=dx/\xs'=xs:=by injection h1' with z;injection z with _ z1 z2;have q1:(ns.zip xs).map (·.2)=(ns.zip xs').map (·.2):=congrArg _ z2;have hl':=r3.len;rw [CC (by omega),CC (by omega)] at q1;exact ⟨z1.symm,q1.symm⟩
 obtain ⟨rfl,rfl⟩:=ed;obtain ⟨d1,d2,d3⟩:=I.deep i hi;rw [hAi] at d1;obtain ⟨na,nB'⟩:=Ag.mp d1;have ext:Ext (fun b=>b=a) H (upd H a (.ins (C c) dx' (putF f v (ns.zip xs')))):=fun b o h=>by by_cases e:b=a;subst e;rw [h1] at h;cases h;exact .inr ⟨rfl,.ins⟩;rw [upd_ne e];exact .inl h
 have rv':=rv.ext ext fun z hz=>by cases hz
 have rx:=r3.ext ext fun b hb z=>na (by rw [<- z];exact hb);have hjl:j<ds.length:=by rw [<- hl];exact fIx_lt hj
 obtain ⟨B1,Bj,B2,rfl,r5⟩:=rx.setV hjl rv';have hk:∀b o,b∉A i->H b=some o->upd H a (.ins (C c) dx' (putF f v (ns.zip xs'))) b=some o:=fun b o hb h=>by rw [upd_ne (fun z=>hb (by rw [hAi,z];exact .head _))];exact h
 refine ⟨_,I.deepTo hi (Ad.mp e0).1 hs hk ⟨a,dx',xs'.set j v,B1++([]++B2),rfl,by rw [upd_same,putF_some f v hx hj],by rw [BG];exact hl,r5,rfl⟩ (Ag.mpr ⟨fun z=>?_,nodup_swap nB' Bw fun _ hb=>nomatch hb⟩) fun b hb=>?_⟩;simp only [Ae,D2] at z na;rcases z with z | z;exact na (.inl z);exact na (.inr (.inr z));rw [hAi];simp only [Au,Ae,D2] at hb ⊢;rcases hb with z | z | z;exact .inl (.inl z);exact .inl (.inr (.inl z));exact .inl (.inr (.inr (.inr z)))
theorem putO_j {o':D}(hj:Dl.fIx f ns=some j)(e:Dl.putO c f d (.obj c ns ds)=some o'):o'=.obj c ns (ds.set j d)/\ns.length<100:=by obtain ⟨ns',ds',e1,h2,e2⟩:=putO_obj e;cases e1;rw [hj] at e2;cases e2;exact ⟨rfl,h2⟩
theorem sokp_fldAug (hg:∀k d z,g (.int k) d=some (.int z)->∃j,d=.int j/\∀(H:Hp) (Q:VK),Q (.int z) H->rd (.int k) (.int j) H Q)(hc:Cls K (C c))(hn:NoAttr K (C c) f)(hi:i∈Δ)(he:EOk K C E Γ Δ m S te fe) :
  SOkP K C E Γ Δ Γ Δ (sFldAug K (tVar i) te rd f) (Dl.sFldAug i c f g fe):=fun H0 Hb H σ ρ A D I p=>by
 unfold Dl.sFldAug at p;split at p;rename_i o e0;split at p;rename_i k eg;obtain ⟨ns,ds,j,rfl,hj,eg⟩:=gFld_obj eg;obtain ⟨v0,hs,r0⟩:=I.rep i _ e0;obtain ⟨a,dx,xs,B',rfl,h1,hl,r3,hAi⟩:=r0;have hx:ns.length=xs.length:=by rw [r3.len,hl]
 obtain ⟨u,Bu,q1,q2,_⟩:=r3.get eg;obtain ⟨rfl,_⟩:=q2;refine ⟨_,hs,a,C c,dx,_,.int k,rfl,h1,hc,hn,by rw [lookup_fIx f hx,hj];exact q1,he H0 Hb H σ ρ A _ I (Post.imp (Post.bind p) (fun d q v H1 g1 r=>?_) fun c x q H' g'=>q H' (Same.from0 I g'))⟩;split at q;rename_i z ez;obtain ⟨o',e,q'⟩:=oR_ok (Post.bind q);obtain ⟨rfl,hlen⟩:=putO_j hj e;obtain ⟨jj,rfl,hrd⟩:=hg k d z ez;obtain ⟨B,r1,_⟩:=r;obtain ⟨rfl,_⟩:=r1;refine hrd H1 _ ⟨dx,_,g1 _ _ h1,by rw [CP];omega,?_⟩;obtain ⟨A',I'⟩:=(I.mono g1).fldTo hi e0 hs (g1 _ _ h1) hx hj (d:=.int z) (v:=.int z) ⟨rfl,rfl⟩;exact q' σ _ _ rfl I';exact q.elim;exact p.elim;exact p.elim
theorem sokp_fldPut (hc:Cls K (C c))(hn:NoAttr K (C c) f)(hi:i∈Δ)(he:EOk K C E Γ Δ m1 S1 te fe)(hk:EOk K C E Γ Δ m2 S2 tk fk) :
  SOkP K C E Γ Δ Γ Δ (sDPut (tFld K (tVar i) f) tk te) (Dl.sFldPut i c f fk fe):=fun H0 Hb H σ ρ A D I p=>by
 refine he H0 Hb H σ ρ A _ I (Post.imp (Post.bind p) (fun d q v H1 g1 r=>?_) fun c x q H' g'=>q H' (Same.from0 I g'));have I1:=I.mono g1;split at q;rename_i c' ns ds e0;split at q;rename_i hcc;subst hcc;split at q;rename_i j hj;split at q;rename_i ks xs hdj;obtain ⟨a,dx,ys,w,Bj,hs,h1,hl,hw,rj,ndj,hin,_,up⟩:=I1.subTo hi e0 hdj;obtain ⟨b,zs,B2,rfl,hb,hlk,r2,eBj⟩:=id rj;refine ⟨.ref a,hs,a,C c',dx,_,.ref b,rfl,h1,hc,hn,by rw [lookup_fIx f hl,hj];exact hw,hk H0 Hb H1 σ ρ A _ I1 (Post.imp (Post.bind q) (fun z q y H2 g2 rz=>?_) fun c x q H' g'=>q H' (Same.from0 I1 g'))⟩;obtain ⟨Bz,rz,_⟩:=rz;obtain ⟨B,rd,_⟩:=r;split at q;rename_i kk hkk;split at q;rename_i hf;have hv:=keyD_kV hkk rz;subst hv;have zB:=rd.flat hf.1;subst zB;have hx:ks.length=zs.length:=by rw [hlk,r2.len]
 have r2f:=r2.flat' hf.2.1;have eB2:=r2.flat hf.2.1;subst eB2;subst eBj;have I2:=I1.mono g2;obtain ⟨a',dx',ys',w',Bj',hs',h1',hl',hw',rj',ndj',hin',_,up'⟩:=I2.subTo hi e0 hdj;rw [hs] at hs';cases hs';have h1'':=g2 _ _ h1;rw [h1''] at h1';have ex:ys'=ys:=by injection h1' with z;injection z with _ _ z;have q1:(ns.zip ys).map (·.2)=(ns.zip ys').map (·.2):=congrArg _ z;rw [CC (by omega),CC (by omega)] at q1;exact q1.symm
 subst ex;rw [hw] at hw';cases hw';obtain ⟨b',zs',B3,eb,hb',_,r3,eB⟩:=rj';cases eb;rw [g2 _ _ hb] at hb';have eB3:=r3.flat hf.2.1;subst eB3;subst eB;have rd2:=rd.same g2;have r2':=r2.same g2;refine ⟨b,_,rfl,DPut.k (g2 _ _ hb) (Nat.lt_of_le_of_lt (by rw [CP];exact Nat.min_le_left _ _) (limLine' hf.2.2)),?_⟩;have keep:∀(o':HO) (x:Addr) (ob:HO),x∉[b]->H2 x=some ob->upd H2 b o' x=some ob:=fun o' x ob hxb h=>by rw [upd_ne fun z=>hxb (by rw [z];exact .head _)];exact h
 have ext:∀o',Ext (fun x=>x=b) H2 (upd H2 b o'):=fun o' x ob h=>by by_cases e:x=b;subst e;rw [g2 _ _ hb] at h;cases h;exact .inr ⟨rfl,.dct⟩;rw [upd_ne e];exact .inl h
 unfold Dl.dPut at q;unfold putK;rw [any_zip hx];split at q;rename_i hh;rw [if_pos hh,putK_zip hx];obtain ⟨A',I',_⟩:=up' (upd H2 b (.dK (ks.zip (Cy (fun j x=>if j=kk then v else x) ks zs)))) (.dct ks (Cy (fun j x=>if j=kk then d else x) ks xs)) [b] (keep _) ⟨b,_,[],rfl,upd_same,by rw [List.length_zipWith,hlk,GI],RpA.ext (ext _) (fun _ z=>nomatch z) (RpA.repl rd2 r2' hf.2.1),rfl⟩ (Ag.mpr ⟨(fun z=>nomatch z),Bw⟩) fun x hx=>.inl hx;exact q σ _ A' rfl I';rename_i hh;rw [if_neg hh,show ks.zip zs++[(kk,v)]=(ks++[kk]).zip (zs++[v]) by rw [List.zip_append hx];rfl];obtain ⟨A',I',_⟩:=up' (upd H2 b (.dK ((ks++[kk]).zip (zs++[v])))) (.dct (ks++[kk]) (xs++[d])) [b] (keep _) ⟨b,_,[],rfl,upd_same,by simp [hlk],RpA.ext (ext _) (fun _ z=>nomatch z) (RpA.snoc0 rd2 r2'),rfl⟩ (Ag.mpr ⟨(fun z=>nomatch z),Bw⟩) fun x hx=>.inl hx;exact q σ _ A' rfl I';exact q.elim;exact q.elim;exact q.elim;exact q.elim;exact q.elim;exact q.elim
theorem mb_enter (hΓ:0∈Γ)(h0:0∈Δ)(hi:i∈Δ)(hne:i≠0)(ha:AOk K C E Γ Δ m S t fa)(hn:∀ρ ds,fa ρ=.ok ds->ds.length=n)(hS:∀p∈S,p.1≠i) :
    MBOk K C E Γ Δ (tRet (tMeth (C c) md (spM K C 2 G) [] E (tVar 0) (tFzA (tCons (tVar i) (tCons (tMeth (C c2) md2 (spM K C n G2) [] E (tVar i) t) tNil))))) (Dl.mEnter i c md G c2 md2 G2 fa):=fun H0 Hb H σ ρ A D Q I e1 e2 p=>by
  subst e1;unfold Dl.mEnter at p;split at p
  · rename_i c' ns ds c2' ns2 ds2 r0' ri';split at p
    · rename_i hcc;obtain ⟨rfl,hmd,rfl,hmd2⟩:=hcc;obtain ⟨v0,hs0,r0⟩:=I.rep 0 _ r0';obtain ⟨a0,dx0,xs0,B0,rfl,h10,hl0,r30,hA0⟩:=id r0;obtain ⟨vi,hsi,ri⟩:=I.rep i _ ri';obtain ⟨ai,dxi,xsi,Bi,rfl,h1i,hli,r3i,hAi⟩:=id ri;obtain ⟨di1,di2,di3⟩:=I.deep i hi;obtain ⟨d01,d02,d03⟩:=I.deep 0 h0;refine ⟨_,hs0,a0,dx0,_,rfl,h10,by rw [lookup_fIx md (by rw [r30.len,hl0]),hmd];rfl,_,hsi,_,hsi,ai,dxi,_,rfl,h1i,by rw [lookup_fIx md2 (by rw [r3i.len,hli]),hmd2];rfl,?_⟩;refine ha H0 Hb H σ ρ A _ I ?_;cases e:fa ρ with
      | bad=>rw [e] at p;exact p
      | err c x=>rw [e] at p;exact fun H' g'=>p H' (Same.from0 I g')
      | ok ys =>
        rw [e] at p;intro vs H1 g1 ra;obtain ⟨Ba,ra,rB,_⟩:=ra;rw [BN];have I1:=I.mono g1;have err:∀(c:String) (x:Option Int),(∀H',Same H0 H'->EC C E c x H')->∀(W:List Addr) (H2 H':Hp),(∀a∈W,Hb a=Be)->Same H0 H2->(∀b o,b∉W->H2 b=some o->H' b=some o)->EC C E c x H':=fun c x q W H2 H' hW g hk=>q H' fun b o h=>hk b o (fun z=>by rw [I.s0.free (hW b z)] at h;cases h) (g b o h);refine ⟨.obj c2' ns2 ds2,ys,.ref ai,vs,A i,Ba,rfl,hn ρ ys e,ri.same g1,di1,ra,fun b hb hz=>(rB b hb).elim (fun z=>I.ne hz z) (I.deep_out hi hS hz),Post.imp (Post.bind (r:=G2 (.obj c2' ns2 ds2::ys)) p) (fun q pq v H' A1 Br hk r1 nd1 hA1 rr ndr hBr=>?_) fun c x q H' hk=>err c x q _ _ _ di3 (Same.from0 I g1) hk⟩;split at pq
        · rename_i z ez;split at pq
          · rename_i hfl;obtain ⟨cc,ff,nn,ks,xs,es,eq2,hx,hd,rfl⟩:=gFzO_of ez;rw [eq2] at r1;obtain ⟨a',b,dx,fs,kvs,ea,rfl,h1a,h1b,kf⟩:=fzO_rp r1 hx hd;cases ea;have eBr:=rr.flat hfl;subst eBr;refine ⟨ai,b,C cc,dx,fs,kvs,[v],rfl,h1a,h1b,fun oa ob=>?_⟩;obtain ⟨H2,hH2⟩:∃H2,H2=upd (upd H' b (.frz ob (.dK kvs))) ai (.frz oa (.ins (C cc) dx fs)):=⟨_,rfl⟩;have kf':=kf oa ob;rw [<- hH2] at kf' ⊢;have hbW:∀x∈[ai,b],x∈A i\/H1 x=none:=fun x hx=>hA1 x hx;have k2:∀x o,x∉A i++[ai,b]->H1 x=some o->H2 x=some o:=fun x o hx h=>by rw [hH2,upd_ne fun z=>hx (by rw [z];simp),upd_ne fun z=>hx (by rw [z];simp)];exact hk x o (fun z=>hx (Am _ z)) h
            have hWb:∀x∈A i++[ai,b],Hb x=none:=fun x hx=>(Ae.mp hx).elim (di3 x) fun y=>(hbW x y).elim (di3 x) fun z=>I1.same.free z;have Id:=(I1.weak (Γ':=[0]) (Δ':=[0]) (fun x hx=>by rw [As.mp hx];exact hΓ) (fun x hx=>by rw [As.mp hx];exact h0)).dead (j:=i) (σ':=σ) rfl (fun _ _=>rfl) (fun z=>hne (As.mp z)) (fun z=>hne (As.mp z));have I2:=Id.away (H':=H2) (W:=A i++[ai,b]) k2 hWb (fun k x hxk hxw=>by
              by_cases ek:k=i;rw [if_pos ek] at hxk;cases hxk
              · rw [if_neg ek] at hxk;rcases Ae.mp hxw with y | y;exact di2 k ek x y hxk
                · rcases hbW x y with y | y;exact di2 k ek x y hxk
                  · exact I1.ne hxk y) (fun x hx o h=>by
              rcases Ae.mp hx with y | y;obtain ⟨o',ho,hm⟩:=I1.is y;rw [ho] at h;cases h;exact hm
              · rcases hbW x y with y | y;obtain ⟨o',ho,hm⟩:=I1.is y;rw [ho] at h;cases h;exact hm
                · rw [y] at h;cases h)
            have e0:(ρ.set i Be)[0]?=some (some (.obj c' ns ds)):=by rw [Bc hne];exact r0'
            obtain ⟨w0,hw0,rw0⟩:=I2.rep 0 _ e0;rw [hs0] at hw0;cases hw0;have eA:(if 0=i then ([]:List Addr) else A 0)=A 0:=if_neg fun z=>hne z.symm;rw [show (if (0:Nat)=i then ([]:List Addr) else A 0)=A 0 from eA] at rw0;have rv2:Rp K C H2 q.1 v []:=rr.ext (W:=fun x=>x∈[ai,b]) (fun x o h=>by
              by_cases hx:x∈[ai,b];refine .inr ⟨hx,?_⟩;simp only [Au,DT,or_false] at hx;rcases hx with rfl | rfl;rw [h1a] at h;cases h;exact .ins;rw [h1b] at h;cases h;exact .dct
              · left;rw [hH2,upd_ne fun z=>hx (by rw [z];simp),upd_ne fun z=>hx (by rw [z];simp)];exact h) fun x hx=>by cases hx
            refine ⟨.obj c' ns ds,[.fobj cc (ff::nn) (.fdk ks xs::es),q.1],.ref a0,[.ref ai,v],A 0,[],rfl,rfl,rw0,d01,⟨_,_,[],[],rfl,kf',⟨_,_,[],[],rfl,rv2,RpA.nil,rfl⟩,rfl⟩,(fun x hz=>by cases hz),Post.imp (Post.bind pq) (fun r pr v2 H3 A3 Br3 hk3 r3 nd3 hA3 rr3 ndr3 hBr3=>?_) fun c x q H' hk=>err c x q _ _ _ d03 (I2.s0.trans I2.same) hk⟩;have I3:=I2.deepTo (i:=0) (As.mpr rfl) (by rw [BG];exact (Ad.mp r0').1) hs0 (d':=r.2) (A':=A3) (fun x o hx h=>hk3 x o (fun z=>hx (by rw [eA];exact z)) h) r3 nd3 fun x hx=>(hA3 x hx).imp (fun z=>by rw [eA];exact z) fun z=>⟨I2.same.free z,fun j hj=>I2.ne hj z⟩;refine pr v2 H3 σ _ Br3 rfl I3 rr3 ndr3 fun x hx=>⟨(hBr3 x hx).1.elim (fun z=>d03 x z) fun z=>I2.same.free z,fun j=>?_⟩;by_cases ej:j=0;rw [if_pos ej];exact (hBr3 x hx).2;rw [if_neg ej];intro hxj;rcases (hBr3 x hx).1 with z | z;by_cases eji:j=i;rw [if_pos eji] at hxj;cases hxj;rw [if_neg eji] at hxj;exact d02 j ej x z hxj;exact I2.ne (j:=j) hxj z
          exact pq.elim
        exact pq.elim
    exact p.elim
  exact p.elim
variable {a o:Expr}{rest:List Expr}{p3 p4 apos2 cpos2:Pos}{y:Str}{CX2:CXT}{k k2:Nat}{s:Stmt}{u:TS}{g:FS}
theorem nx_fld {fl:Fl}(h:Dl.sFld i c f fe ρ=.ok fl):∃ρ',fl=.nx ρ':=by
 unfold Dl.sFld at h;cases e:fe ρ with
 | ok d =>
  rw [e] at h;simp only [Dl.bind_ok] at h;split at h;rename_i o _;cases e2:Dl.putO c f d o with
  | none=>rw [e2] at h;cases h
  | some o'=>rw [e2] at h;cases h;exact ⟨_,rfl⟩
  cases h
 | err c x=>rw [e] at h;cases h
 | bad=>rw [e] at h;cases h
theorem aug_addF {k:Int}(h:Dl.gAddI (.int k) d=some (.int z)):∃j,d=.int j/\∀(H:Hp) (Q:VK),Q (.int z) H->rAdd (.int k) (.int j) H Q:=by
 cases d with
 | int j=>cases h;exact ⟨j,rfl,fun H Q q=>⟨k,j,rfl,rfl,q⟩⟩
 | _=>cases h
theorem cs_fld (hc:Cls K (C c))(hn:NoAttr K (C c) f)(he:JE X C E Γ Δ 2 [] e te fe)(hi:i∈Δ:=by decide)(hN:X.N[i]?=some x:=by rfl)(hv:autoParam (Vis X.env.scope x) aT3._auto_1)(hd:(x==("__debug__":Str))=false:=by decide)(hcd:(x==("__classdict__":Str))=false:=by decide)
  (hs:A8 e (some (.Attribute (.Name x p) f p2)) pos.line X.env=pure false:=by rfl) (hK:X.K=K:=by rfl):JS X C E mr Γl Δl Γ Δ Γ Δ (.Assign [.Attribute (.Name x p) f p2] e pos) (sFld K (tVar i) te f) (Dl.sFld i c f fe):=by
 subst hK;exact ⟨⟨ps_fld (pv i hN hv hd hcd) he.q.out hs⟩,sok_ofP (sokp_fld hc hn hi he.o) fun ρ fl=>nx_fld⟩
theorem jp_fldAugA (hc:Cls K (C c))(hn:NoAttr K (C c) f)(he:JE X C E Γ Δ m S e te fe)(hi:i∈Δ:=by decide)(hN:X.N[i]?=some x:=by rfl)(hv:autoParam (Vis X.env.scope x) aT3._auto_1)(hd:(x==("__debug__":Str))=false:=by decide)(hcd:(x==("__classdict__":Str))=false:=by decide)(hK:X.K=K:=by rfl) :
  JP X C E Γ Δ Γ Δ (.AugAssign (.Attribute (.Name x p) f tp) .Add e pos) (sFldAug K (tVar i) te rAdd f) (Dl.sFldAug i c f Dl.gAddI fe):=by
 subst hK;exact ⟨⟨ps_fldaug (pv i hN hv hd hcd) he.q.out in_add⟩,sokp_fldAug (fun _ _ _=>aug_addF) hc hn hi he.o⟩
theorem jp_fldPut (hc:Cls K (C c))(hn:NoAttr K (C c) f)(he:JE X C E Γ Δ m1 S1 e te fe)(hkk:JE X C E Γ Δ m2 S2 kk tk fk)(hu:X.A.units+64<Bf)(hi:i∈Δ:=by decide)(hN:X.N[i]?=some x:=by rfl)(hv:autoParam (Vis X.env.scope x) aT3._auto_1)(hd:(x==("__debug__":Str))=false:=by decide)(hcd:(x==("__classdict__":Str))=false:=by decide)
  (hb:AS (.Name x p) f X.env (Ar (.Name x p) X.env)=Ar (.Name x p) X.env:=by rfl) (hs:A8 e (some (.Subscript (.Attribute (.Name x p) f ap) kk p2)) pos.line X.env=pure false:=by rfl) (hK:X.K=K:=by rfl) :
  JP X C E Γ Δ Γ Δ (.Assign [.Subscript (.Attribute (.Name x p) f ap) kk p2] e pos) (sDPut (tFld K (tVar i) f) tk te) (Dl.sFldPut i c f fk fe):=by
 subst hK;exact ⟨⟨ps_dput (by omega) (pe_fld (pv i hN hv hd hcd) hb) hkk.q.out he.q.out hs⟩,sokp_fldPut hc hn hi he.o hkk.o⟩
theorem cm_methFld (i:Nat)(hc1:Cls K (C c))(hn1:NoAttr K (C c) f)(hc:Cls K (C c2))(M:MDef X.prog X.w K X.mg X.base CX k (C c2) md ps (spM K C n G))(hr:Room k X.A)(hx:Passes CX X E)(ha:JA X C E Γ Δ m2 [] (e::es) n t fa)(hi:i∈Δ:=by decide)
    (hN:X.N[i]?=some x:=by rfl) (hv:autoParam (Vis X.env.scope x) aT3._auto_1) (hd:(x==("__debug__":Str))=false:=by decide) (hcd:(x==("__classdict__":Str))=false:=by decide)
    (hb:AS (.Name x p) f X.env (Ar (.Name x p) X.env)=Ar (.Name x p) X.env:=by rfl)
    (hst:Ab (e::es) X.env=(false,Ar e X.env)::Ab es X.env:=by rfl) (hpl:(AG pos (Ab es X.env)).any (·.1)=false:=by rfl)
    (ht:Ar (.Call (.Attribute (.Attribute (.Name x p) f ap) md apos) (e::es) [] pos) X.env=(do
      let ov <- Ar (.Attribute (.Name x p) f ap) X.env
      B5 apos.atName
      let (f,first) <- BA [ov] (BQ ov md pl)
      CD pos f first (AG pos (Ab (e::es) X.env)) (BC pos (AU [] X.env))):=by rfl) (hK:X.K=K:=by rfl) :
    JM X C E Γ Δ (.Call (.Attribute (.Attribute (.Name x p) f ap) md apos) (e::es) [] pos) (tMeth (C c2) md (spM K C n G) [] E (tFld K (tVar i) f) t) (Dl.mMethFld i c f c2 md G fa):=by
  subst hK;obtain ⟨f',fd,hm,hb',F'⟩:=M.ex;exact ⟨⟨pe_meth (pe_fld (pv i hN hv hd hcd) hb) hc hm F' hr hb' .nil hx ha.q.out hst hpl ht⟩,mok_methFld hc1 hn1 hi ha.o ha.n⟩
theorem jb_enter (i:Nat)(hc:Cls K (C c))(M:MDef X.prog X.w K X.mg X.base CX k (C c) md ps (spM K C 2 G))(hr:Room k X.A)(hx:Passes CX X E)(hc2:Cls K (C c2))(M2:MDef X.prog X.w K X.mg X.base CX2 k2 (C c2) md2 ps2 (spM K C n G2))(hr2:Room k2 X.A)(hx2:Passes CX2 X E)
    (ha:JA X C E Γ Δ m2 S2 (e::es) n t fa) (hi:i∈Δ:=by decide) (hne:i≠0:=by decide) (hS:∀p∈S2,p.1≠i:=by decide) (h1:0∈Γ:=by decide) (h2:0∈Δ:=by decide)
    (hN:X.N[0]?=some x:=by rfl) (hv:autoParam (Vis X.env.scope x) aT3._auto_1) (hd:(x==("__debug__":Str))=false:=by decide) (hcd:(x==("__classdict__":Str))=false:=by decide)
    (hN':X.N[i]?=some y:=by rfl) (hv':autoParam (Vis X.env.scope y) aT3._auto_1) (hd':(y==("__debug__":Str))=false:=by decide) (hcd':(y==("__classdict__":Str))=false:=by decide)
    (hst:Ab (e::es) X.env=(false,Ar e X.env)::Ab es X.env:=by rfl) (hpl:(AG cpos2 (Ab es X.env)).any (·.1)=false:=by rfl)
    (ht:Ar (.Call (.Attribute (.Name y p2) md2 apos2) (e::es) [] cpos2) X.env=(do
      let ov <- Ar (.Name y p2) X.env
      B5 apos2.atName
      let (f,first) <- BA [ov] (BQ ov md2 pl2)
      CD cpos2 f first (AG cpos2 (Ab (e::es) X.env)) (BC cpos2 (AU [] X.env))):=by rfl)
    (hst0:Ab [.Name y p3,.Call (.Attribute (.Name y p2) md2 apos2) (e::es) [] cpos2] X.env=(false,Ar (.Name y p3) X.env)::Ab [.Call (.Attribute (.Name y p2) md2 apos2) (e::es) [] cpos2] X.env:=by rfl)
    (hst1:Ab [.Call (.Attribute (.Name y p2) md2 apos2) (e::es) [] cpos2] X.env=(false,Ar (.Call (.Attribute (.Name y p2) md2 apos2) (e::es) [] cpos2) X.env)::Ab [] X.env:=by rfl)
    (hpl0:(AG pos (Ab [.Call (.Attribute (.Name y p2) md2 apos2) (e::es) [] cpos2] X.env)).any (·.1)=false:=by rfl)
    (ht0:Ar (.Call (.Attribute (.Name x p) md apos) [.Name y p3,.Call (.Attribute (.Name y p2) md2 apos2) (e::es) [] cpos2] [] pos) X.env=(do
      let ov <- Ar (.Name x p) X.env
      B5 apos.atName
      let (f,first) <- BA [ov] (BQ ov md pl)
      CD pos f first (AG pos (Ab [.Name y p3,.Call (.Attribute (.Name y p2) md2 apos2) (e::es) [] cpos2] X.env)) (BC pos (AU [] X.env))):=by rfl) (hK:X.K=K:=by rfl) :
    JMB X C E Γ Δ [.Return (some (.Call (.Attribute (.Name x p) md apos) [.Name y p3,.Call (.Attribute (.Name y p2) md2 apos2) (e::es) [] cpos2] [] pos)) p4] (tRet (tMeth (C c) md (spM K C 2 G) [] E (tVar 0) (tFzA (tCons (tVar i) (tCons (tMeth (C c2) md2 (spM K C n G2) [] E (tVar i) t) tNil))))) (Dl.mEnter i c md G c2 md2 G2 fa):=by
  subst hK;obtain ⟨f',fd,hm,hb,F'⟩:=M.ex;obtain ⟨f2,fd2,hm2,hb2,F2⟩:=M2.ex;have q2:QE X (.Call (.Attribute (.Name y p2) md2 apos2) (e::es) [] cpos2) (tMeth (C c2) md2 (spM X.K C n G2) [] E (tVar i) t):=⟨pe_meth (pv i hN' hv' hd' hcd') hc2 hm2 F2 hr2 hb2 .nil hx2 ha.q.out hst hpl ht⟩;have qa:QA X [.Name y p3,.Call (.Attribute (.Name y p2) md2 apos2) (e::es) [] cpos2] (tCons (tVar i) (tCons (tMeth (C c2) md2 (spM X.K C n G2) [] E (tVar i) t) tNil)):=qa_cons (qv i hN' hv' hd' hcd') (qa_cons q2 qa_nil hst1) hst0;exact ⟨qss_one (qs_ret ⟨pe_meth (pv 0 hN hv hd hcd) hc hm F' hr hb .nil hx (pa_fzA qa.out) hst0 hpl0 ht0⟩),mb_enter h1 h2 hi hne ha.o ha.n hS⟩
end
theorem shapedF {A:List Addr}(h:Dl.dep (Dl.thw d)<=20)(r:Rp K C H d v A):Dn K H v (toPy (Dl.thw d))/\B4 (toPy (Dl.thw d))=true:=by
 cases d with
 | flst ds =>obtain ⟨a,o,xs,e1,e2,e3,e4⟩:=r;simp only [Dl.thw,Dl.dep] at h ⊢;obtain ⟨q1,q2,q3⟩:=RpA.dn (n:=20) (by omega) (by decide) e3;rw [e1];refine ⟨.lst (.inl (.inr ⟨o,e2⟩)) q1,?_⟩;unfold B4;simp [toPy,C7,Dy,q2,q3];omega
 | _=>exact shaped_of h r
theorem gok_neF:GOk K C (rNeA K) Dl.gNeF:=by intro H x y d vx vy Bx By Q rx ry e q;unfold Dl.gNeF Dl.gNe at e;split at e;rename_i h;cases e;obtain ⟨a1,a2⟩:=shapedF h.1 rx;obtain ⟨b1,b2⟩:=shapedF h.2 ry;refine .inr ⟨_,_,a1,b1,a2,b2,?_⟩;rw [eqv_py (by omega) (by omega)];exact Out.flat q rpB;cases e
section
variable {k:Nat}
theorem ce_make0 (M:MkDef X.prog X.w K X.mg X.base CX k (C c) ps (spM K C 0 G))(hr:Room (k+1) X.A)(hg:Gl X x)(hm:X.mg x=some (.ref (C c)))(hx:Passes CX X E)(hdb:(x==("__debug__":Str))=false:=by decide)(hK:X.K=K:=by rfl) :
  JE X C E Γ Δ 2 [] (.Call (.Name x p) [] [] pos) (tMake (C c) (spM K C 0 G) [] E tNil) (Dl.fMake c G Dl.aNil):=by
 subst hK;obtain ⟨f,fd,hm',hb,F'⟩:=M.ex;exact ⟨⟨pe_make0 hm' F' hr hg hm hb .nil hx hdb⟩,eok_make (ca_nil (X:=X)).o (ca_nil (X:=X) (C:=C) (E:=E) (Γ:=Γ) (Δ:=Δ)).n⟩
variable {S:List (Nat×Bool)}
variable {p':Pos}
end
end L2
namespace L2
end L2
namespace Dl
open PySem
variable {i j lo m v fl:Int}{α:Type}{xs ds ys T:List D}{x d z:D}{ns:List Str}{b:FB}{s:FS}{P:Int->Prop}{Rr:R Fl->Prop}{ρ:Env}{n N:Nat}{c:FT}{e a:FE}{r:R Fl}{g:List D->Option D}{F:List D->R D}{it:FI}{p:Prop}{args:FA}{G:List D->R (D×D)}{ms os ws l:List Int}{nm:Str}
def l__law_cell_4:FS:=
 (sSet 2 (f2 gMod (f2 gAdd (f2 gAdd (f2 gMul (fV 2) (fC (.int 48271))) (f2 gMod (fV 3) (fC (.int 1000003)))) (fC (.int 1))) (fC (.int 2147483647))))
def q__law_cell:FS:=
  (sSeq (sIf (cE (f2 gLt (fV 1) (fA gLen (aCons (fV 0) aNil)))) (sRet (f1 gFlat (f2 gIx (fV 0) (fV 1)))) sNx)
    (sSeq (sSet 2 (fC (.int 5)))
    (sSeq (sFor (jList (fSl gSl (fV 0) oNone (oSome (fC (.int 63))))) (bName 3) l__law_cell_4)
    (sRet (f2 gMod (f2 gAdd (fV 2) (f2 gMul (fC (.int 7919)) (fV 1))) (fC (.int 1000003)))))))
def F__law_cell (ds:List D):R D:=(run 4 q__law_cell ds).calm
def q__law_mix:FS:=
  (sSeq (sSet 2 (f2 gMod (f2 gPow (f2 gAdd (f2 gAdd (f2 gMod (fV 0) (fC (.int 2147483629))) (f2 gMul (fC (.int 1013)) (fV 1))) (fC (.int 7919))) (fC (.int 3))) (fC (.int 2147483647))))
    (sSeq (sSet 3 (f2 gMod (f2 gAdd (f2 gAdd (f2 gMul (fV 2) (fC (.int 40699))) (f2 gMul (f2 gMul (fC (.int 3793)) (fV 1)) (fV 1))) (fC (.int 11))) (fC (.int 2147483399))))
    (sRet (f2 gDiv (fV 3) (fC (.int 101))))))
def F__law_mix (ds:List D):R D:=(run 4 q__law_mix ds).calm
def q__law_is_whole:FS:=
 (sRet (fAnd (f1 (gIsI "int") (fV 0)) (f1 gNot (f1 (gIsI "bool") (fV 0)))))
def F__law_is_whole (ds:List D):R D:=(run 1 q__law_is_whole ds).calm
def l__law_row_4:FS:=
  (sIf (cE (f2 gLt (fV 3) (f2 gPow (fC (.int 10)) (fC (.int 18))))) (sApp 5 (f2 gMod (fCall F__law_mix (aCons (fV 3) (aCons (fV 6) aNil))) (f2 gIx (fV 2) (fV 6)))) (sIf (cE (f2 gGt (fV 4) (fC (.int 0)))) (sSeq (sApp 5 (f2 gMod (fV 4) (f2 gIx (fV 2) (fV 6))))
    (sSet 4 (f2 gDiv (fV 4) (f2 gIx (fV 2) (fV 6))))) (sSeq (sSet 7 (fCall F__law_cell (aCons (fV 0) (aCons (f2 gMod (f2 gAdd (f2 gAdd (fV 1) (fC (.int 1))) (fV 6)) (fC (.int 63))) aNil))))
    (sApp 5 (f2 gMod (fCall F__law_mix (aCons (fV 7) (aCons (fV 6) aNil))) (f2 gIx (fV 2) (fV 6)))))))
def q__law_row:FS:=
  (sSeq (sSet 3 (fCall F__law_cell (aCons (fV 0) (aCons (fV 1) aNil))))
    (sSeq (sSet 4 (f1 gFlat (fV 3)))
    (sSeq (sSet 5 (fA gLst aNil))
    (sSeq (sFor (jRng1 (aCons (fA gLen (aCons (fV 2) aNil)) aNil)) (bName 6) l__law_row_4)
    (sRet (fV 5))))))
def F__law_row (ds:List D):R D:=(run 8 q__law_row ds).calm
def l__law_table_7:FS:=
  (sSeq (sSet 9 (f2 gAdd (f2 gMul (fC (.int 3)) (fV 8)) (fC (.int 6))))
    (sSeq (sSet 10 (f1 gFlat (f2 gIx (fA gLst (aCons (fC (.int 1)) (aCons (fC (.int 2)) (aCons (fC (.int 3)) (aCons (fC (.int 4)) (aCons (fC (.int 5)) (aCons (fC (.int 6)) (aCons (fC (.int 2)) (aCons (fC (.int 3)) (aCons (fC (.int 11)) (aCons (fC (.int 40)) (aCons (f2 gIx (fA gLst (aCons (fC (.int 150)) (aCons (fC (.int 200)) aNil))) (f2 gMod (fV 8) (fC (.int 2)))) aNil)))))))))))) (f2 gIx (fV 4) (fV 9)))))
    (sSeq (sSet 11 (f2 gAdd (fC (.int 1)) (f2 gIx (fV 4) (f2 gAdd (fV 9) (fC (.int 1))))))
    (sSeq (sIf (cE (f2 gEq (f2 gIx (fV 4) (fC (.int 3))) (fC (.int 1)))) (sSet 11 (f2 gAdd (f2 gMul (fC (.int 3)) (fV 10)) (f2 gMod (f2 gIx (fV 4) (f2 gAdd (fV 9) (fC (.int 1)))) (fC (.int 4))))) sNx)
    (sSeq (sIf (cE (f2 gEq (f2 gIx (fV 4) (fC (.int 3))) (fC (.int 2)))) (sSet 11 (f2 gAdd (fC (.int 1)) (f2 gMod (f2 gIx (fV 4) (f2 gAdd (fV 9) (fC (.int 1)))) (fC (.int 3))))) sNx)
    (sSeq (sIf (cE (f2 gEq (f2 gIx (fV 4) (fC (.int 3))) (fC (.int 3)))) (sSet 11 (f1 gFlat (fV 10))) sNx)
    (sSeq (sSet 12 (fA gMin (aCons (f2 gMul (f2 gIx (fA gLst (aCons (fC (.int 0)) (aCons (fC (.int 0)) (aCons (fC (.int 1)) (aCons (fC (.int 2)) (aCons (fC (.int 3)) (aCons (fC (.int 12)) aNil))))))) (f2 gIx (fV 4) (f2 gAdd (fV 9) (fC (.int 2))))) (fV 5)) (aCons (f2 gSub (f2 gPow (fC (.int 10)) (fC (.int 18))) (fC (.int 1))) aNil))))
    (sSeq (sSet 13 (f1 gFlat (f2 gIx (fV 3) (f2 gMod (f2 gAdd (f2 gIx (fV 4) (fC (.int 4))) (f2 gMul (f2 gAdd (f2 gMul (fC (.int 2)) (f2 gIx (fV 4) (fC (.int 5)))) (fC (.int 1))) (fV 8))) (fC (.int 16))))))
    (sApp 7 (fA gTup (aCons (f1 gFlat (fV 13)) (aCons (f1 gFlat (fV 10)) (aCons (fA gMin (aCons (f2 gMul (fV 11) (fV 6)) (aCons (f2 gPow (fC (.int 10)) (fC (.int 18))) aNil))) (aCons (f1 gFlat (fV 12)) aNil))))))))))))))
def q__law_table:FS:=
  (sSeq (sSet 3 (fA gLst (aCons (fC (.str ("a":Str))) (aCons (fC (.str ("ab":Str))) (aCons (fC (.str ("abc":Str))) (aCons (fC (.str ("b":Str))) (aCons (fC (.str ("ba":Str))) (aCons (fC (.str ("z":Str))) (aCons (fC (.str ("zzzzzzzz":Str))) (aCons (fC (.str ("roll":Str))) (aCons (fC (.str ("cut":Str))) (aCons (fC (.str ("by":Str))) aNil))))))))))))
    (sSeq (sSet 3 (f2 gAdd (fV 3) (fA gLst (aCons (fC (.str ("aab":Str))) (aCons (fC (.str ("zz":Str))) (aCons (fC (.str ("kind":Str))) (aCons (fC (.str ("qsvw":Str))) (aCons (fC (.str ("fghjmp":Str))) (aCons (fC (.str ("x":Str))) aNil)))))))))
    (sSeq (sSet 4 (fCall F__law_row (aCons (fV 0) (aCons (fV 1) (aCons (f2 gAdd (fA gLst (aCons (f2 gAdd (fV 2) (fC (.int 1))) (aCons (fC (.int 4)) (aCons (fC (.int 4)) (aCons (fC (.int 4)) (aCons (fC (.int 16)) (aCons (fC (.int 4)) aNil))))))) (f2 gMul (fA gLst (aCons (fC (.int 11)) (aCons (fC (.int 40)) (aCons (fC (.int 6)) aNil)))) (fV 2))) aNil)))))
    (sSeq (sSet 5 (f1 gFlat (f2 gIx (fA gLst (aCons (fC (.int 1)) (aCons (fC (.int 1)) (aCons (fC (.int 7)) (aCons (f2 gPow (fC (.int 10)) (fC (.int 17))) aNil))))) (f2 gIx (fV 4) (fC (.int 1))))))
    (sSeq (sSet 6 (f1 gFlat (f2 gIx (fA gLst (aCons (fC (.int 1)) (aCons (fC (.int 1)) (aCons (f2 gPow (fC (.int 10)) (fC (.int 6))) (aCons (f2 gMul (fC (.int 25)) (f2 gPow (fC (.int 10)) (fC (.int 15)))) aNil))))) (f2 gIx (fV 4) (fC (.int 2))))))
    (sSeq (sSet 7 (fA gLst aNil))
    (sSeq (sFor (jRng1 (aCons (f2 gIx (fV 4) (fC (.int 0))) aNil)) (bName 8) l__law_table_7)
    (sRet (fV 7)))))))))
def F__law_table (ds:List D):R D:=(run 14 q__law_table ds).calm
def q__law_flaw:FS:=
 (sRet (f1 gFlat (f2 gIx (fA gLst (aCons (fC (.int 1)) (aCons (fC (.int 1)) (aCons (fC (.int 7)) (aCons (f2 gPow (fC (.int 10)) (fC (.int 17))) aNil))))) (f2 gIx (fCall F__law_row (aCons (fV 0) (aCons (fV 1) (aCons (fA gLst (aCons (f2 gAdd (fV 2) (fC (.int 1))) (aCons (fC (.int 4)) aNil))) aNil)))) (fC (.int 1))))))
def F__law_flaw (ds:List D):R D:=(run 3 q__law_flaw ds).calm
def l__law_roll_6:FS:=
  (sSeq (sSet 8 (f2 gAdd (f2 gMul (fC (.int 2)) (fV 7)) (fC (.int 3))))
    (sSeq (sSet 9 (fC (.int 0)))
    (sSeq (sIf (cE (f2 gLt (f2 gIx (fV 4) (fV 8)) (f2 gIx (fA gLst (aCons (fC (.int 0)) (aCons (fC (.int 1)) (aCons (fC (.int 3)) (aCons (fC (.int 6)) aNil))))) (f2 gIx (fV 4) (fC (.int 1)))))) (sSet 9 (f1 gFlat (f2 gIx (fA gLst (aCons (fV 3) (aCons (fV 3) (aCons (f2 gMul (fC (.int 2)) (fV 3)) (aCons (f2 gMul (fC (.int 3)) (fV 3)) (aCons (fV 5) aNil)))))) (f2 gIx (fV 4) (f2 gAdd (fV 8) (fC (.int 1))))))) sNx)
    (sApp 6 (f1 gFlat (fV 9))))))
def q__law_roll:FS:=
  (sSeq (sSet 4 (fCall F__law_row (aCons (fV 0) (aCons (fV 1) (aCons (f2 gAdd (fA gLst (aCons (f2 gAdd (fV 2) (fC (.int 1))) (aCons (fC (.int 4)) (aCons (fC (.int 3)) aNil)))) (f2 gMul (fA gLst (aCons (fC (.int 8)) (aCons (fC (.int 5)) aNil))) (fV 2))) aNil)))))
    (sSeq (sSet 5 (f2 gMul (fC (.int 9)) (fV 3)))
    (sSeq (sIf (cE (f2 gEq (f2 gIx (fV 4) (fC (.int 2))) (fC (.int 0)))) (sSet 5 (f2 gPow (fC (.int 10)) (fC (.int 18)))) sNx)
    (sSeq (sSet 6 (fA gLst aNil))
    (sSeq (sFor (jRng1 (aCons (f2 gIx (fV 4) (fC (.int 0))) aNil)) (bName 7) l__law_roll_6)
    (sRet (fV 6)))))))
def F__law_roll (ds:List D):R D:=(run 10 q__law_roll ds).calm
@[simp] theorem ev_fC (d:D)(ρ:Env):fC d ρ=.ok d:=(rfl)
@[simp] theorem ev_f1 (g:D->Option D)(a:FE)(ρ:Env):f1 g a ρ=(a ρ).bind fun x=>oR (g x):=(rfl)
@[simp] theorem ev_f2 (g:D->D->Option D)(a b:FE)(ρ:Env):f2 g a b ρ=(a ρ).bind fun x=>(b ρ).bind fun y=>oR (g x y):=(rfl)
@[simp] theorem ev_aNil (ρ:Env):aNil ρ=.ok []:=(rfl)
@[simp] theorem ev_aCons (a:FE)(r:FA)(ρ:Env):aCons a r ρ=(a ρ).bind fun x=>(r ρ).bind fun xs=>.ok (x::xs):=(rfl)
@[simp] theorem ev_fA (g:List D->Option D)(a:FA)(ρ:Env):fA g a ρ=(a ρ).bind fun xs=>oR (g xs):=(rfl)
@[simp] theorem ev_fCall (F:List D->R D)(a:FA)(ρ:Env):fCall F a ρ=(a ρ).bind F:=(rfl)
@[simp] theorem ev_fV0 (d:D)(ρ:Env):fV 0 (some d::ρ)=.ok d:=(rfl)
@[simp] theorem ev_cE (a:FE)(ρ:Env):cE a ρ=(a ρ).bind fun d=>match d with | .bl b=>.ok b | _=>.bad:=(rfl)
@[simp] theorem ev_cNot (a:FT)(ρ:Env):cNot a ρ=(a ρ).bind fun b=>.ok (!b):=(rfl)
@[simp] theorem ev_cAnd (a b:FT)(ρ:Env):cAnd a b ρ=(a ρ).bind fun x=>if x then b ρ else .ok false:=(rfl)
@[simp] theorem ev_cOr (a b:FT)(ρ:Env):cOr a b ρ=(a ρ).bind fun x=>if x then .ok true else b ρ:=(rfl)
@[simp] theorem ev_cYes (ρ:Env):cYes ρ=.ok true:=(rfl)
@[simp] theorem ev_fAnd (a b:FE)(ρ:Env):fAnd a b ρ=(a ρ).bind fun x=>match x with | .bl true=>b ρ | .bl false=>.ok (.bl false) | _=>.bad:=(rfl)
@[simp] theorem ev_fOr (a b:FE)(ρ:Env):fOr a b ρ=(a ρ).bind fun x=>match x with | .bl true=>.ok (.bl true) | .bl false=>b ρ | _=>.bad:=(rfl)
@[simp] theorem ev_fIf (c:FT)(a b:FE)(ρ:Env):fIf c a b ρ=(c ρ).bind fun x=>if x then a ρ else b ρ:=(rfl)
@[simp] theorem ev_fChain (g g':D->D->Option D)(a b c:FE)(ρ:Env):fChain g g' a b c ρ=(a ρ).bind fun x=>(b ρ).bind fun y=>(oR (g x y)).bind fun z=>match z with | .bl true=>(c ρ).bind fun w=>oR (g' y w) | .bl false=>.ok (.bl false) | _=>.bad:=(rfl)
@[simp] theorem ev_fSl (g:D->Option Int->Option Int->Option D)(a:FE)(l h:FO)(ρ:Env):fSl g a l h ρ=(a ρ).bind fun x=>(l ρ).bind fun lo=>(h ρ).bind fun hi=>oR (g x lo hi):=(rfl)
@[simp] theorem ev_oNone (ρ:Env):oNone ρ=.ok none:=(rfl)
@[simp] theorem ev_oSome (a:FE)(ρ:Env):oSome a ρ=(a ρ).bind fun d=>match d with | .int i=>.ok (some i) | _=>.bad:=(rfl)
@[simp] theorem ev_jList (a:FE)(ρ:Env):jList a ρ=(a ρ).bind fun d=>match d with | .lst xs=>if xs.length<=lim then .ok xs else .bad | .scr ns=>if ns.length<=lim then .ok (ns.map D.int) else .bad | .flst xs=>if xs.length<=lim then .ok xs else .bad | _=>.bad:=(rfl)
@[simp] theorem ev_jTup (a:FE)(ρ:Env):jTup a ρ=(a ρ).bind fun d=>match d with | .tup xs=>if xs.length<=lim then .ok xs else .bad | _=>.bad:=(rfl)
@[simp] theorem ev_jRng1 (a:FA)(ρ:Env):jRng1 a ρ=(a ρ).bind fun ds=>match ds with | [.int j]=>if -1000000000<=j/\j<=1000000 then .ok (rngL 0 j.toNat) else .bad | _=>.bad:=(rfl)
def rngOf2 (ds:List D):R (List D):=match ds with
 | [.int i,.int j]=>if -1000000000<=i/\i<=1000000000/\-1000000000<=j/\j<=1000000000/\(j - i).toNat<=lim then .ok (rngL i (j - i).toNat) else .bad
 | _=>.bad
@[simp] theorem ev_jRng2 (a:FA)(ρ:Env):jRng2 a ρ=(a ρ).bind rngOf2:=(rfl)
@[simp] theorem ev_fComp (n k:Nat)(it:FI)(b:FB)(c:FT)(e:FE)(ρ:Env):fComp n k it b c e ρ=if ρ.length=n then (it ρ).bind fun xs=>(compN k b c e ρ xs).calm.bind fun ys=>.ok (.lst ys) else .bad:=(rfl)
@[simp] theorem ev_sNx (ρ:Env):sNx ρ=.ok (.nx ρ):=(rfl)
@[simp] theorem ev_sNever (ρ:Env):sNever ρ=.bad:=(rfl)
@[simp] theorem ev_sSeq (a b:FS)(ρ:Env):sSeq a b ρ=(a ρ).bind fun fl=>match fl with | .nx ρ'=>b ρ' | fl=>.ok fl:=(rfl)
@[simp] theorem ev_sSet (i:Nat)(e:FE)(ρ:Env):sSet i e ρ=(e ρ).bind fun d=>.ok (.nx (ρ.set i (some d))):=(rfl)
@[simp] theorem ev_sRet (e:FE)(ρ:Env):sRet e ρ=(e ρ).bind fun d=>.ok (.ret d):=(rfl)
@[simp] theorem ev_sIf (c:FT)(a b:FS)(ρ:Env):sIf c a b ρ=(c ρ).bind fun x=>if x then a ρ else b ρ:=(rfl)
@[simp] theorem ev_sApp (i:Nat)(e:FE)(ρ:Env):sApp i e ρ=(fV i ρ).bind fun v=>match v with | .lst xs=>(e ρ).bind fun d=>if xs.length<lim then .ok (.nx (ρ.set i (some (.lst (xs++[d]))))) else .bad | _=>.bad:=by unfold sApp fV;split;rename_i xs e;simp [e];rename_i h;split;rename_i d e;cases d<;>simp;rename_i xs;exact absurd e (h xs);rfl
@[simp] theorem ev_sRaise (c:String)(f:FA)(ρ:Env):sRaise c f ρ=(f ρ).bind fun _=>.err c none:=(rfl)
theorem ev_sTry (cs:List String)(N i:Nat)(b h:FS)(ρ:Env):sTry cs N i b h ρ=match b ρ with
 | .err c x=>if cs.contains c then (h ((Aa N none).set i (some (.exc c x)))).calm.bind fun fl=>match fl with
   | .nx _=>.ok (.nx (Aa N none))
   | .brk _=>.ok (.brk (Aa N none))
   | .cnt _=>.ok (.cnt (Aa N none))
   | .ret d=>.ok (.ret d)
  else .bad
 | r=>r:=(rfl)
@[simp] theorem ev_sFor (it:FI)(b:FB)(s:FS)(ρ:Env):sFor it b s ρ=(it ρ).bind fun xs=>forD b s xs ρ:=(rfl)
@[simp] theorem ev_sWhile (n:Nat)(c:FT)(s:FS)(ρ:Env):sWhile n c s ρ=whileD c s n ρ:=(rfl)
@[simp] theorem ev_sAsg (e:FE)(b:FB)(ρ:Env):sAsg e b ρ=(e ρ).bind fun d=>(b d ρ).calm.bind fun ρ'=>.ok (.nx ρ'):=(rfl)
@[simp] theorem ev_bName (i:Nat)(d:D)(ρ:Env):bName i d ρ=.ok (ρ.set i (some d)):=(rfl)
@[simp] theorem ev_bNil (ρ:Env):bNil [] ρ=.ok ρ:=(rfl)
@[simp] theorem ev_bCons (b:FB)(r:List D->Env->R Env)(d:D)(ds:List D)(ρ:Env):bCons b r (d::ds) ρ=(b d ρ).bind fun ρ'=>r ds ρ':=(rfl)
@[simp] theorem ev_bTup (r:List D->Env->R Env)(ds:List D)(ρ:Env):bTup r (.tup ds) ρ=r ds ρ:=(rfl)
@[simp] theorem ev_run (N:Nat)(b:FS)(ds:List D):run N b ds=(b (ds.map some++Aa (N - ds.length) none)).bind fun fl=>match fl with | .nx _=>.ok .non | .ret d=>.ok d | _=>.bad:=(rfl)
@[simp] theorem forD_nil (b:FB)(s:FS)(ρ:Env):forD b s [] ρ=.ok (.nx ρ):=(rfl)
theorem forD_cons (b:FB)(s:FS)(x:D)(xs:List D)(ρ:Env):forD b s (x::xs) ρ=(b x ρ).calm.bind fun ρ1=>(s ρ1).bind fun fl=>match fl with | .nx ρ2=>forD b s xs ρ2 | .cnt ρ2=>forD b s xs ρ2 | .brk ρ2=>.ok (.nx ρ2) | .ret d=>.ok (.ret d):=rfl
@[simp] theorem add_ii (i j:Int):gAdd (.int i) (.int j)=some (.int (i+j)):=rfl
@[simp] theorem addI_ii (i j:Int):gAddI (.int i) (.int j)=some (.int (i+j)):=rfl
@[simp] theorem sub_ii (i j:Int):gSub (.int i) (.int j)=some (.int (i - j)):=rfl
@[simp] theorem lt_ii (i j:Int):gLt (.int i) (.int j)=some (.bl (decide (i<j))):=rfl
@[simp] theorem gt_ii (i j:Int):gGt (.int i) (.int j)=some (.bl (decide (j<i))):=rfl
@[simp] theorem ge_ii (i j:Int):gGe (.int i) (.int j)=some (.bl (decide (j<=i))):=rfl
@[simp] theorem neg_i (i:Int):gNeg (.int i)=some (.int (-i)):=rfl
@[simp] theorem not_b (b:Bool):gNot (.bl b)=some (.bl (!b)):=rfl
@[simp] theorem eq_ii (i j:Int):gEq (.int i) (.int j)=some (.bl (decide (i=j))):=show some (D.bl (i==j))=_ from congrArg (fun b=>some (D.bl b)) (by by_cases h:i=j<;>simp [h])
@[simp] theorem eq_bb (i j:Bool):gEq (.bl i) (.bl j)=some (.bl (i==j)):=rfl
@[simp] theorem ne_bb (i j:Bool):gNe (.bl i) (.bl j)=some (.bl (!(i==j))):=rfl
theorem mul_ii (h:(-(2 ^ 64)<i/\i<2 ^ 64)\/(-(2 ^ 64)<j/\j<2 ^ 64)):gMul (.int i) (.int j)=some (.int (i*j)):=by
 have:(short i||short j)=true:=by simp [short];exact h
 simp [gMul,this]
theorem mod_ii (h:0<j):gMod (.int i) (.int j)=some (.int (i % j)):=by simp [gMod,h]
theorem div_ii (h:0<j)(h2:j<2 ^ 200):gDiv (.int i) (.int j)=some (.int (i / j)):=by simp only [gDiv];rw [if_pos ⟨h,h2⟩]
theorem pow_ii (h:0<=j)(h2:j<=1000000)(h3:i.natAbs<2 ^ 64):gPow (.int i) (.int j)=some (.int (i ^ j.toNat)):=by simp only [gPow];rw [if_pos ⟨h,h2,h3⟩]
@[simp] theorem pow10_6:gPow (.int 10) (.int 6)=some (.int 1000000):=by rw [pow_ii (by omega) (by omega) (by decide)];rfl
@[simp] theorem pow10_15:gPow (.int 10) (.int 15)=some (.int 1000000000000000):=by rw [pow_ii (by omega) (by omega) (by decide)];rfl
@[simp] theorem pow10_17:gPow (.int 10) (.int 17)=some (.int 100000000000000000):=by rw [pow_ii (by omega) (by omega) (by decide)];rfl
@[simp] theorem pow10_18:gPow (.int 10) (.int 18)=some (.int 1000000000000000000):=by rw [pow_ii (by omega) (by omega) (by decide)];rfl
@[simp] theorem flat_i (i:Int):flat (.int i)=true:=rfl
@[simp] theorem flat_b (i:Bool):flat (.bl i)=true:=rfl
@[simp] theorem flat_s (i:Str):flat (.str i)=true:=rfl
@[simp] theorem flat_n:flat .non=true:=rfl
@[simp] theorem flat_t (xs:List D):flat (.tup xs)=flatA xs:=rfl
@[simp] theorem flatA_n:flatA []=true:=rfl
@[simp] theorem flatA_c (x:D)(xs:List D):flatA (x::xs)=(flat x&&flatA xs):=rfl
theorem flatA_map {α:Type}{f:α->D}(h:∀a,flat (f a)=true):∀xs:List α,flatA (xs.map f)=true
 | []=>rfl
 | x::xs=>by simp [h x,flatA_map h xs]
@[simp] theorem flatA_ints (ns:List Int):flatA (ns.map D.int)=true:=flatA_map (fun _=>rfl) ns
@[simp] theorem gFlat_i (i:Int):gFlat (.int i)=some (.int i):=rfl
@[simp] theorem gFlat_b (i:Bool):gFlat (.bl i)=some (.bl i):=rfl
@[simp] theorem gFlat_s (i:Str):gFlat (.str i)=some (.str i):=rfl
@[simp] theorem gFlat_n:gFlat .non=some .non:=rfl
@[simp] theorem ints_map (ns:List Int):intsOf (ns.map D.int)=some ns:=by
 induction ns with
 | nil=>rfl
 | cons n ns ih=>simp [intsOf,ih]
@[simp] theorem len_l (xs:List D):gLen [.lst xs]=some (.int xs.length):=(rfl)
@[simp] theorem len_t (xs:List D):gLen [.tup xs]=some (.int xs.length):=(rfl)
@[simp] theorem len_scr (xs:List Int):gLen [.scr xs]=some (.int xs.length):=(rfl)
@[simp] theorem sum_ints (ns:List Int):gSum [.lst (ns.map D.int)]=some (.int ns.sum):=by simp [gSum]
@[simp] theorem min_ii (i j:Int):gMin [.int i,.int j]=some (.int (min i j)):=by simp only [gMin];congr 2;by_cases h:j<i;rw [if_pos h];omega;rw [if_neg h];omega
@[simp] theorem isI_i (c:String)(i:Int):gIsI c (.int i)=some (.bl (c=="int")):=rfl
@[simp] theorem isI_b (c:String)(i:Bool):gIsI c (.bl i)=some (.bl (c=="bool"||c=="int")):=rfl
@[simp] theorem isI_l (c:String)(i:List D):gIsI c (.lst i)=some (.bl (c=="list")):=rfl
@[simp] theorem isI_t (c:String)(i:List D):gIsI c (.tup i)=some (.bl (c=="tuple")):=rfl
@[simp] theorem isI_s (c:String)(i:Str):gIsI c (.str i)=some (.bl (c=="str")):=rfl
@[simp] theorem isI_n (c:String):gIsI c .non=some (.bl false):=rfl
theorem atD_nat {xs:List α}{k:Nat}{x:α}(e:i=(k:Int))(h:xs[k]?=some x):atD xs i=some x:=by subst e;have hk:=(Ad.mp h).1;unfold atD ixD;rw [if_pos (by omega),if_pos (by omega)];simpa using h
theorem ix_l {k:Nat}(e:i=(k:Int))(h:xs[k]?=some x):gIx (.lst xs) (.int i)=some x:=atD_nat e h
@[simp] theorem ixL_l (xs:List D)(y:D):gIxL (.lst xs) y=gIx (.lst xs) y:=(rfl)
@[simp] theorem listV_l (xs:List D):gListV [.lst xs]=some (.lst xs):=(rfl)
theorem ix_ints {ns:List Int}{k:Nat}(e:i=(k:Int))(h:k<ns.length):gIx (.lst (ns.map D.int)) (.int i)=some (.int (ns.getD k 0)):=ix_l e (by simp [h,B7])
theorem cut_to {xs:List α}{b:Int}(h0:0<=b):cut xs none (some b)=xs.take b.toNat:=by unfold cut sixD;simp only [];rw [if_neg (by omega),List.drop_zero,Nat.sub_zero];by_cases h:b.toNat<=xs.length;rw [Gb h];rw [FU (by omega),Cf (AM _),Cf (by omega)]
@[simp] theorem sl_scr (ns:List Int)(lo hi:Option Int):gSl (.scr ns) lo hi=some (.lst ((cut ns lo hi).map D.int)):=(rfl)
@[simp] theorem gLst_0:gLst []=some (.lst []):=rfl
@[simp] theorem gLst_1 (a:D):gLst [a]=some (.lst [a]):=rfl
@[simp] theorem gLst_2 (a b:D):gLst [a,b]=some (.lst [a,b]):=rfl
@[simp] theorem gLst_3 (a b c:D):gLst [a,b,c]=some (.lst [a,b,c]):=rfl
@[simp] theorem gLst_4 (a0 a1 a2 a3:D):gLst [a0,a1,a2,a3]=some (.lst [a0,a1,a2,a3]):=rfl
@[simp] theorem gLst_5 (a0 a1 a2 a3 a4:D):gLst [a0,a1,a2,a3,a4]=some (.lst [a0,a1,a2,a3,a4]):=rfl
@[simp] theorem gLst_6 (a0 a1 a2 a3 a4 a5:D):gLst [a0,a1,a2,a3,a4,a5]=some (.lst [a0,a1,a2,a3,a4,a5]):=rfl
@[simp] theorem gLst_10 (a0 a1 a2 a3 a4 a5 a6 a7 a8 a9:D):gLst [a0,a1,a2,a3,a4,a5,a6,a7,a8,a9]=some (.lst [a0,a1,a2,a3,a4,a5,a6,a7,a8,a9]):=rfl
@[simp] theorem gLst_11 (a0 a1 a2 a3 a4 a5 a6 a7 a8 a9 a10:D):gLst [a0,a1,a2,a3,a4,a5,a6,a7,a8,a9,a10]=some (.lst [a0,a1,a2,a3,a4,a5,a6,a7,a8,a9,a10]):=rfl
@[simp] theorem gTup_2 (a b:D):gTup [a,b]=some (.tup [a,b]):=rfl
@[simp] theorem gTup_3 (a b c:D):gTup [a,b,c]=some (.tup [a,b,c]):=rfl
@[simp] theorem gTup_4 (a b c d:D):gTup [a,b,c,d]=some (.tup [a,b,c,d]):=rfl
@[simp] theorem calm_bind_ok {β:Type}(a:α)(f:α->R β):((R.ok a).calm).bind f=f a:=(rfl)
theorem forD_inv {P:Nat->Env->Prop}(h0:P 0 ρ)
  (hs:∀i x ρ,xs[i]?=some x->P i ρ->∃ρ1,b x ρ=.ok ρ1/\((∃ρ2,(s ρ1=.ok (.nx ρ2)\/s ρ1=.ok (.cnt ρ2))/\P (i+1) ρ2)\/(∃d,s ρ1=.ok (.ret d)/\Rr (.ok (.ret d)))\/∃ρ2,s ρ1=.ok (.brk ρ2)/\Rr (.ok (.nx ρ2))))
  (hd:∀ρ,P xs.length ρ->Rr (.ok (.nx ρ))):Rr (forD b s xs ρ):=by
 have key:∀n i ρ,n+i=xs.length->P i ρ->Rr (forD b s (xs.drop i) ρ):=by
  intro n
  induction n with
  | zero =>
   intro i ρ hn p;rw [Ex (by omega)];have e:i=xs.length:=by omega
   subst e;exact hd ρ p
  | succ n ih =>
   intro i ρ hn p;have hi:i<xs.length:=by omega
   rw [BF hi,forD_cons];obtain ⟨ρ1,e1,h⟩:=hs i xs[i] ρ (AA hi) p;rw [e1,calm_bind_ok];rcases h with ⟨ρ2,e2 | e2,p2⟩ | ⟨d,e2,p2⟩ | ⟨ρ2,e2,p2⟩;rw [e2];exact ih (i+1) ρ2 (by omega) p2;rw [e2];exact ih (i+1) ρ2 (by omega) p2;rw [e2];exact p2;rw [e2];exact p2
 have:=key xs.length 0 ρ (by omega) h0;simpa using this
theorem rngL_get {i:Nat}(h:i<n):(rngL lo n)[i]?=some (.int (lo+i)):=by simp [rngL,h]
theorem rngL_at {i:Nat}(h:(rngL lo n)[i]?=some x):i<n/\x=.int (lo+i):=by
 have hi:=(Ad.mp h).1;have hn:i<n:=by simpa [rngL] using hi
 rw [rngL_get hn] at h;exact ⟨hn,(AH h).symm⟩
@[simp] theorem rngL_length (lo:Int)(n:Nat):(rngL lo n).length=n:=by simp [rngL]
theorem comp_eq {k:Nat}{enc:α->D}{ρ1:α->Env}{p:α->Bool}{v:α->D}{xs:List α}(h:∀x∈xs,b (enc x) (ρ++Aa k none)=.ok (ρ1 x)/\c (ρ1 x)=.ok (p x)/\(p x=true->e (ρ1 x)=.ok (v x))):compN k b c e ρ (xs.map enc)=.ok ((xs.filter p).map v):=by
 induction xs with
 | nil=>rfl
 | cons x xs ih =>
  obtain ⟨h0,h1,h2⟩:=h x (.head _);have ih:=ih fun y hy=>h y (.tail _ hy);rw [Bt];unfold compN;rw [h0,calm_bind_ok,h1];cases hp:p x with
  | false=>simp [ih,hp]
  | true=>simp [ih,hp,h2 hp]
theorem comp1 {enc:α->D}{p:α->Bool}{v:α->D}{xs:List α}(hn:ρ.length=n)(h:∀x∈xs,c (ρ++[some (enc x)])=.ok (p x)/\(p x=true->e (ρ++[some (enc x)])=.ok (v x))):compN 1 (bName n) c e ρ (xs.map enc)=.ok ((xs.filter p).map v):=
  comp_eq (ρ1:=fun x=>ρ++[some (enc x)]) fun x hx=>⟨by
    show R.ok ((ρ++[none]).set n (some (enc x)))=_;rw [<- hn,C8 _ _ (AM _),EJ];rfl,h x hx⟩
theorem comp1' {enc:α->D}{v:α->D}{xs:List α}(hn:ρ.length=n)(h:∀x∈xs,e (ρ++[some (enc x)])=.ok (v x)):compN 1 (bName n) cYes e ρ (xs.map enc)=.ok (xs.map v):=by have:=comp1 (p:=fun _=>true) (c:=cYes) hn (xs:=xs) (enc:=enc) (e:=e) (v:=v) fun x hx=>⟨rfl,fun _=>h x hx⟩;rw [this,List.filter_eq_self.mpr fun _ _=>rfl]
theorem r_set {i:Nat}(h:e ρ=.ok d):sSet i e ρ=.ok (.nx (ρ.set i (some d))):=by rw [ev_sSet,h];rfl
theorem r_seq {a b:FS}{ρ':Env}(h:a ρ=.ok (.nx ρ'))(h2:b ρ'=r):sSeq a b ρ=r:=by rw [ev_sSeq,h];exact h2
theorem r_f1 {g:D->Option D}(ha:a ρ=.ok x)(h:g x=some z):f1 g a ρ=.ok z:=by rw [ev_f1,ha];show oR (g x)=_;rw [h];rfl
theorem r_f2 {g:D->D->Option D}{b:FE}{y:D}(ha:a ρ=.ok x)(hb:b ρ=.ok y)(h:g x y=some z):f2 g a b ρ=.ok z:=by rw [ev_f2,ha,hb];show oR (g x y)=_;rw [h];rfl
theorem r_fA {a:FA}(ha:a ρ=.ok xs)(h:g xs=some z):fA g a ρ=.ok z:=by rw [ev_fA,ha];show oR (g xs)=_;rw [h];rfl
theorem r_cons {r:FA}(ha:a ρ=.ok x)(hr:r ρ=.ok xs):aCons a r ρ=.ok (x::xs):=by rw [ev_aCons,ha,hr];rfl
theorem r_call {a:FA}(ha:a ρ=.ok xs)(h:F xs=.ok d):fCall F a ρ=.ok d:=by rw [ev_fCall,ha];exact h
theorem r_cE {b:Bool}(h:a ρ=.ok (.bl b)):cE a ρ=.ok b:=by rw [ev_cE,h];rfl
theorem r_ifT {a b:FS}(hc:c ρ=.ok true)(h:a ρ=r):sIf c a b ρ=r:=by rw [ev_sIf,hc];exact h
theorem r_ifF {a b:FS}(hc:c ρ=.ok false)(h:b ρ=r):sIf c a b ρ=r:=by rw [ev_sIf,hc];exact h
theorem r_app {i:Nat}(hv:fV i ρ=.ok (.lst xs))(h:e ρ=.ok d)(hl:xs.length<lim):sApp i e ρ=.ok (.nx (ρ.set i (some (.lst (xs++[d]))))):=by rw [ev_sApp,hv,h];exact if_pos hl
theorem r_ret (h:e ρ=.ok d):sRet e ρ=.ok (.ret d):=by rw [ev_sRet,h];rfl
theorem r_rng {a:FA}(h:a ρ=.ok [.int j])(h1:-1000000000<=j/\j<=1000000):jRng1 a ρ=.ok (rngL 0 j.toNat):=by rw [ev_jRng1,h];exact if_pos h1
theorem r_for (h:it ρ=.ok xs)(h2:forD b s xs ρ=r):sFor it b s ρ=r:=by rw [ev_sFor,h];exact h2
theorem r_run {q:FS}(h:q (ds.map some++Aa (N - ds.length) none)=.ok (.ret d)):(run N q ds).calm=.ok d:=by unfold run;rw [h];rfl
theorem mulS {a b:Int}(h0:0<=a)(h1:a<=1000000):gMul (.int a) (.int b)=some (.int (a*b)):=mul_ii (.inl ⟨by omega,by omega⟩)
theorem r_seqR {a b:FS}(h:a ρ=.ok (.ret d)):sSeq a b ρ=.ok (.ret d):=by rw [ev_sSeq,h];rfl
theorem mulR {a b:Int}(h0:0<=b)(h1:b<=1000000):gMul (.int a) (.int b)=some (.int (a*b)):=mul_ii (.inr ⟨by omega,by omega⟩)
theorem r_jList (h:a ρ=.ok (.lst xs))(hl:xs.length<=lim):jList a ρ=.ok xs:=by rw [ev_jList,h];exact if_pos hl
theorem r_fAndT {b:FE}{r:R D}(h:a ρ=.ok (.bl true))(h2:b ρ=r):fAnd a b ρ=r:=by rw [ev_fAnd,h];exact h2
theorem bl_t [Decidable p](h:p):some (D.bl (decide p))=some (D.bl true):=congrArg (fun b=>some (D.bl b)) (decide_eq_true h)
theorem bl_f [Decidable p](h:¬p):some (D.bl (decide p))=some (D.bl false):=congrArg (fun b=>some (D.bl b)) (decide_eq_false h)
theorem r_cNot {a:FT}{b:Bool}(h:a ρ=.ok b):cNot a ρ=.ok (!b):=by rw [ev_cNot,h];rfl
theorem r_cOrF {a b:FT}{r:R Bool}(h:a ρ=.ok false)(h2:b ρ=r):cOr a b ρ=r:=by rw [ev_cOr,h];exact h2
theorem r_meth {c:String}{m:Str}{r:R D}(ha:a ρ=.ok (.obj c ns xs))(hm:fIx m ns=none)(hs:args ρ=.ok ys)(h:F (.obj c ns xs::ys)=r):fMeth c m F a args ρ=r:=by unfold fMeth;rw [ha];show (if c=c/\fIx m ns=none then (args ρ).bind fun ys=>F (.obj c ns xs::ys) else .bad)=r;rw [if_pos ⟨rfl,hm⟩,hs];exact h
theorem r_make {c:String}(ha:args ρ=.ok ys)(h:G (.obj c [] []::ys)=.ok (.non,d)):fMake c G args ρ=.ok d:=by unfold fMake;rw [ha];show (G (.obj c [] []::ys)).bind _=_;rw [h];rfl
theorem r_comp {k:Nat}(hn:ρ.length=n)(h:it ρ=.ok xs)(h1:compN k b c e ρ xs=.ok ys):fComp n k it b c e ρ=.ok (.lst ys):=by rw [ev_fComp,if_pos hn,h];show (compN k b c e ρ xs).calm.bind _=_;rw [h1];rfl
theorem r_mMeth {i:Nat}{c:String}{m:Str}{o':D}(hi:ρ[i]?=some (some (.obj c ns xs)))(hm:fIx m ns=none)(ha:args ρ=.ok ys)(h:G (.obj c ns xs::ys)=.ok (d,o')):mMeth i c m G args ρ=.ok (d,ρ.set i (some o')):=by unfold mMeth;rw [hi];show (if c=c/\fIx m ns=none then (args ρ).bind fun ys=>(G (.obj c ns xs::ys)).bind fun p=>.ok (p.1,ρ.set i (some p.2)) else .bad)=_;rw [if_pos ⟨rfl,hm⟩,ha];show (G (.obj c ns xs::ys)).bind _=_;rw [h];rfl
set_option genInjectivity true in
structure Kd where
 name:Str
 w:Int
 wo:Int
 al:Int
def kD (k:Kd):D:=.tup [.str k.name,.int k.w,.int k.wo,.int k.al]
def iD (ns:List Int):D:=.lst (ns.map D.int)
def tD (ks:List Kd):D:=.lst (ks.map kD)
@[simp] theorem flat_kD (k:Kd):flat (kD k)=true:=rfl
@[simp] theorem gFlat_kD (k:Kd):gFlat (kD k)=some (kD k):=rfl
@[simp] theorem flatA_kD (ks:List Kd):flatA (ks.map kD)=true:=flatA_map (fun _=>rfl) ks
def pre (ns:List Int)(i:Nat):Int:=(ns.take i).sum
def good (ns:List Int)(k:Kd)(p:Int):Bool:=decide (0<=p/\p+k.w<=ns.length/\pre ns (p+k.w).toNat - pre ns p.toNat<=k.al)
theorem cell_ok (ns:List Int)(hn:ns.length<=63)(h0:0<=i)(h1:i<1000000):∃n:Int,F__law_cell [.scr ns,.int i]=.ok (.int n):=by
 have c:(cE (f2 gLt (fV 1) (fA gLen (aCons (fV 0) aNil)))) [some (.scr ns),some (.int i),none,none]=.ok (decide (i<ns.length)):=r_cE (r_f2 rfl (r_fA (r_cons rfl rfl) rfl) rfl);by_cases h:i<ns.length;have hi:i.toNat<ns.length:=(CA h0).mpr h;have e:gIx (.scr ns) (.int i)=some (.int (ns.getD i.toNat 0)):=congrArg (Option.map D.int) (atD_nat (k:=i.toNat) (Cb h0).symm (by simp [B7,hi]));exact ⟨_,r_run (r_seqR (r_ifT (c.trans (congrArg Dl.R.ok (decide_eq_true h))) (r_ret (r_f1 (r_f2 rfl rfl e) rfl))))⟩;have key:∃seed:Int,∃o,forD (bName 3) l__law_cell_4 ((ns.take 63).map D.int) [some (.scr ns),some (.int i),some (.int 5),none]=.ok (.nx [some (.scr ns),some (.int i),some (.int seed),o]):=by refine forD_inv (P:=fun _ ρ=>∃seed:Int,∃o,ρ=[some (.scr ns),some (.int i),some (.int seed),o]) (Rr:=fun r=>∃seed:Int,∃o,r=.ok (.nx [some (.scr ns),some (.int i),some (.int seed),o])) ⟨5,none,rfl⟩ ?_ ?_;rintro j x ρ hx ⟨seed,o,rfl⟩;rw [Bg] at hx;obtain ⟨y,hy,rfl⟩:=AF.mp hx;exact ⟨_,rfl,.inl ⟨_,.inl (r_set (r_f2 (r_f2 (r_f2 (r_f2 rfl rfl (mulR (by decide) (by decide))) (r_f2 rfl rfl (mod_ii (by decide))) rfl) rfl rfl) rfl (mod_ii (by decide)))),_,_,rfl⟩⟩;rintro ρ ⟨seed,o,rfl⟩;exact ⟨seed,o,rfl⟩
 obtain ⟨seed,o,e⟩:=key;have hc:cut ns none (some 63)=ns.take 63:=cut_to (by decide);have hl:(jList (fSl gSl (fV 0) oNone (oSome (fC (.int 63))))) [some (.scr ns),some (.int i),some (.int 5),none]=.ok ((ns.take 63).map D.int):=by
  have hm:min 63 ns.length<=lim:=by show _<=1000000;omega
  simp [-Gj,hc,hm]
 exact ⟨_,r_run (r_seq (r_ifF (c.trans (congrArg Dl.R.ok (decide_eq_false h))) rfl) (r_seq (r_set rfl) (r_seq (r_for hl e) (r_ret (r_f2 (r_f2 rfl (r_f2 rfl rfl (mulS (by decide) (by decide))) rfl) rfl (mod_ii (by decide)))))))⟩
theorem mix_ok (c:Int){k:Int}(h0:0<=k)(h1:k<1000000):∃n:Int,F__law_mix [.int c,.int k]=.ok (.int n):=by have n0:0<=c % 2147483629+1013*k+7919:=Ei (Ei (BU _ (by decide)) (Dh (by decide) h0)) (by decide);have n1:c % 2147483629+1013*k+7919<2147483629+1013*1000000+7919:=Int.add_lt_add_right (Int.add_lt_add_of_lt_of_le (BR _ (by decide)) (Bo (CF h1) (by decide))) _;have b:(c % 2147483629+1013*k+7919).natAbs<2 ^ 64:=EN.mp (by rw [Int.natAbs_of_nonneg n0];exact GP n1 (by decide));have e1:=pow_ii (i:=c % 2147483629+1013*k+7919) (j:=3) (by decide) (by decide) b;exact ⟨_,r_run (r_seq (r_set (r_f2 (r_f2 (r_f2 (r_f2 (r_f2 rfl rfl (mod_ii (by decide))) (r_f2 rfl rfl (mulS (by decide) (by decide))) rfl) rfl rfl) rfl e1) rfl (mod_ii (by decide)))) (r_seq (r_set (r_f2 (r_f2 (r_f2 (r_f2 rfl rfl (mulR (by decide) (by decide))) (r_f2 (r_f2 rfl rfl (mulS (by decide) (by decide))) rfl (mulR h0 (CF h1))) rfl) rfl rfl) rfl (mod_ii (by decide)))) (r_ret (r_f2 rfl rfl (div_ii (by decide) (by decide))))))⟩
structure Row (ms os:List Int):Prop where
 len:os.length=ms.length
 at_:∀k,k<ms.length->0<=os.getD k 0/\os.getD k 0<ms.getD k 0
theorem Row.nil (ms:List Int):Row (ms.take 0) []:=⟨by simp,fun k hk=>by simp at hk⟩
theorem Row.all (h:Row (ms.take ms.length) os):Row ms os:=by rw [FD] at h;exact h
theorem Row.push {k:Nat}(h:Row (ms.take k) os)(hk:k<ms.length)(h0:0<=v)(h1:v<ms.getD k 0):Row (ms.take (k+1)) (os++[v]):=by
 have hl:=h.len;rw [BI] at hl;have hm:min k ms.length=k:=by omega
 have hm':min (k+1) ms.length=k+1:=by omega
 refine ⟨by rw [Az,BI,hm',EM];omega,fun j hj=>?_⟩;rw [BI,hm'] at hj;by_cases e:j=k;subst e;have e1:(os++[v]).getD j 0=v:=by
  have:os.length=j:=by omega
  simp [B7,<- this]
 have e2:(ms.take (j+1)).getD j 0=ms.getD j 0:=by simp [B7,Fg]
 rw [e1,e2];exact ⟨h0,h1⟩;have hj':j<k:=by omega
 have q:=h.at_ j (by rw [BI];omega);have e1:(os++[v]).getD j 0=os.getD j 0:=by
  have:j<os.length:=by omega
  simp [B7,AE this]
 have e2:(ms.take (k+1)).getD j 0=(ms.take k).getD j 0:=by
  have h1:j<k+1:=by omega
  simp [B7,Fg,hj',h1]
 rw [e1,e2];exact q
theorem getD_all {i:Nat}(h:∀w∈ws,P w)(hi:i<ws.length):P (ws.getD i 0):=by
 have e:ws.getD i 0=ws[i]:=by simp [B7,hi]
 rw [e];exact h _ (DE hi)
theorem row_okL (ns:List Int)(hn:ns.length<=63)(h0:0<=i)(h1:i<1000)(ms:List Int)(hm:ms.length<=2000)(hms:∀m∈ms,0<m/\m<2 ^ 200):∃os,F__law_row [.scr ns,.int i,iD ms]=.ok (iD os)/\Row ms os:=by
 obtain ⟨c,hc⟩:=cell_ok ns hn h0 (show i<1000000 by omega);have key:=forD_inv (b:=bName 6) (s:=l__law_row_4) (xs:=rngL 0 ms.length) (ρ:=[some (.scr ns),some (.int i),some (iD ms),some (.int c),some (.int c),some (.lst []),none,none])
  (P:=fun k ρ=>∃(l:Int) (os:List Int) (o6 o7:Option D),Row (ms.take k) os/\ρ=[some (.scr ns),some (.int i),some (iD ms),some (.int c),some (.int l),some (iD os),o6,o7])
  (Rr:=fun r=>∃(l:Int) (os:List Int) (o6 o7:Option D),Row ms os/\r=.ok (.nx [some (.scr ns),some (.int i),some (iD ms),some (.int c),some (.int l),some (iD os),o6,o7]))
  ⟨c,[],none,none,Row.nil ms,rfl⟩ ?_ ?_
 obtain ⟨l,os,o6,o7,hr,e⟩:=key;refine ⟨os,?_,hr⟩;have b1:-1000000000<=(ms.length:Int)/\(ms.length:Int)<=1000000:=by omega
 have gl:gLen [iD ms]=some (.int ms.length):=by simp [iD]
 exact r_run (r_seq (r_set (r_call (r_cons rfl (r_cons rfl rfl)) hc)) (r_seq (r_set (r_f1 rfl rfl)) (r_seq (r_set rfl) (r_seq (r_for (r_rng (r_cons (r_fA (r_cons rfl rfl) gl) rfl) b1) e) (r_ret rfl)))));rintro k x ρ hx ⟨l,os,o6,o7,hr,rfl⟩;obtain ⟨hk,rfl⟩:=rngL_at hx;rw [DA];have hol:os.length=k:=by have:=hr.len;rw [BI] at this;omega
 have hlim:(os.map D.int).length<lim:=by rw [Ap];show _<1000000;omega
 have c1:∀o5:Option D,(cE (f2 gLt (fV 3) (f2 gPow (fC (.int 10)) (fC (.int 18))))) [some (.scr ns),some (.int i),some (iD ms),some (.int c),some (.int l),o5,some (.int k),o7]=.ok (decide (c<1000000000000000000)):=fun _=>r_cE (r_f2 rfl (r_f2 rfl rfl pow10_18) rfl);have ap:∀v:Int,iD (os++[v])=.lst (os.map D.int++[.int v]):=fun v=>congrArg D.lst BM;have hmk:=getD_all hms hk;have ix:=ix_ints (ns:=ms) (i:=(k:Int)) (k:=k) rfl hk;have md:∀z:Int,gMod (.int z) (.int (ms.getD k 0))=some (.int (z % ms.getD k 0)):=fun z=>mod_ii hmk.1;have nn:∀z:Int,0<=z % ms.getD k 0/\z % ms.getD k 0<ms.getD k 0:=fun z=>⟨BU _ (GO hmk.1),BR _ hmk.1⟩;have k0:0<=(k:Int)/\(k:Int)<1000000:=by omega
 obtain ⟨x1,hx1⟩:=mix_ok c k0.1 k0.2;obtain ⟨c2,hc2⟩:=cell_ok ns hn (i:=(i+1+k) % 63) (BU _ (by decide)) (GP (BR _ (by decide)) (by decide));obtain ⟨x2,hx2⟩:=mix_ok c2 k0.1 k0.2;refine ⟨_,rfl,.inl ?_⟩;by_cases a1:c<1000000000000000000;refine ⟨[some (.scr ns),some (.int i),some (iD ms),some (.int c),some (.int l),some (iD (os++[x1 % ms.getD k 0])),some (.int k),o7],.inl ?_,l,_,_,o7,hr.push hk (nn x1).1 (nn x1).2,rfl⟩;rw [ap];exact r_ifT ((c1 _).trans (congrArg Dl.R.ok (decide_eq_true a1))) (r_app rfl (r_f2 (r_call (r_cons rfl (r_cons rfl rfl)) hx1) (r_f2 rfl rfl ix) (md x1)) hlim);by_cases a2:0<l;refine ⟨[some (.scr ns),some (.int i),some (iD ms),some (.int c),some (.int (l / ms.getD k 0)),some (iD (os++[l % ms.getD k 0])),some (.int k),o7],.inl ?_,_,_,_,o7,hr.push hk (nn l).1 (nn l).2,rfl⟩;rw [ap];exact r_ifF ((c1 _).trans (congrArg Dl.R.ok (decide_eq_false a1))) (r_ifT (r_cE (r_f2 rfl rfl (congrArg (fun b=>some (D.bl b)) (decide_eq_true a2)))) (r_seq (r_app rfl (r_f2 rfl (r_f2 rfl rfl ix) (md l)) hlim) (r_set (r_f2 rfl (r_f2 rfl rfl ix) (div_ii hmk.1 hmk.2)))));refine ⟨[some (.scr ns),some (.int i),some (iD ms),some (.int c),some (.int l),some (iD (os++[x2 % ms.getD k 0])),some (.int k),some (.int c2)],.inl ?_,l,_,_,_,hr.push hk (nn x2).1 (nn x2).2,rfl⟩;rw [ap];exact r_ifF ((c1 _).trans (congrArg Dl.R.ok (decide_eq_false a1))) (r_ifF (r_cE (r_f2 rfl rfl (congrArg (fun b=>some (D.bl b)) (decide_eq_false a2)))) (r_seq (r_set (r_call (r_cons rfl (r_cons (r_f2 (r_f2 (r_f2 rfl rfl rfl) rfl rfl) rfl (mod_ii (by decide))) rfl)) hc2)) (r_app rfl (r_f2 (r_call (r_cons rfl (r_cons rfl rfl)) hx2) (r_f2 rfl rfl ix) (md x2)) hlim)));rintro ρ ⟨l,os,o6,o7,hr,rfl⟩;rw [rngL_length] at hr;exact ⟨l,os,o6,o7,hr.all,rfl⟩
theorem row_ok (ns:List Int)(hn:ns.length<=63)(h0:0<=i)(h1:i<1000)(ms:List Int)(hm:ms.length<=1000)(hms:∀m∈ms,0<m/\m<2 ^ 200):∃os,F__law_row [.scr ns,.int i,iD ms]=.ok (iD os)/\Row ms os:=row_okL ns hn h0 h1 ms (A9 hm (by decide)) hms
theorem ix_lit (ws:List Int)(h0:0<=i)(h1:i<ws.length):gIx (.lst (ws.map D.int)) (.int i)=some (.int (ws.getD i.toNat 0)):=ix_ints (by omega) (by omega)
theorem rep_len (l:List Int):∀n:Nat,(Aa n l).flatten.length=n*l.length
 | 0=>by simp
 | n+1=>by rw [A4,Bp,Az,rep_len l n,GH,EL]
theorem rep_map (l:List Int)(n:Nat):(Aa n (l.map D.int)).flatten=(Aa n l).flatten.map D.int:=by rw [List.map_flatten,List.map_replicate]
theorem mul_rep (h0:0<=m)(h1:m<=200)(hl:ws.length<=1000):gMul (.lst (ws.map D.int)) (.int m)=some (iD (Aa m.toNat ws).flatten):=by
  simp only [gMul];rw [if_pos ⟨by omega,by
    rw [Ap];show ws.length*m.toNat<=1000000;have:ws.length*m.toNat<=1000*200:=Nat.mul_le_mul hl (by omega);omega,by omega,flatA_ints ws⟩,rep_map]
  rfl
theorem add_ints {xs ys:List Int}(h:xs.length+ys.length<=1000000):gAdd (iD xs) (iD ys)=some (iD (xs++ys)):=by show (if (xs.map D.int).length+(ys.map D.int).length<=lim/\flatA (xs.map D.int)/\flatA (ys.map D.int) then some (D.lst (xs.map D.int++ys.map D.int)) else none)=_;rw [if_pos ⟨by rw [Ap,Ap];exact h,flatA_ints _,flatA_ints _⟩,<- BM];rfl
theorem rep2_get (x y:Int):∀(n k:Nat),k<n->(Aa n [x,y]).flatten.getD (2*k) 0=x/\(Aa n [x,y]).flatten.getD (2*k+1) 0=y
 | 0,k,h=>by omega
 | n+1,0,_=>by simp [A4,Bp,B7]
 | n+1,k+1,h=>by
  have q:=rep2_get x y n k (by omega);have e1:2*(k+1)=2*k+2:=by omega
  rw [A4,Bp,e1];exact q
theorem rep3_get (x y z:Int):∀(n k:Nat),k<n->(Aa n [x,y,z]).flatten.getD (3*k) 0=x/\(Aa n [x,y,z]).flatten.getD (3*k+1) 0=y/\(Aa n [x,y,z]).flatten.getD (3*k+2) 0=z
 | 0,k,h=>by omega
 | n+1,0,_=>by simp [A4,Bp,B7]
 | n+1,k+1,h=>by
  have q:=rep3_get x y z n k (by omega);have e1:3*(k+1)=3*k+3:=by omega
  rw [A4,Bp,e1];exact q
theorem mem_rep {z:Int}(h:z∈(Aa n l).flatten):z∈l:=by
 obtain ⟨l',hl,hz⟩:=List.mem_flatten.mp h
 rwa [(List.mem_replicate.mp hl).2] at hz
def poolL:List Str:=["a","ab","abc","b","ba","z","zzzzzzzz","roll","cut","by","aab","zz","kind","qsvw","fghjmp","x"]
theorem pool_inj:∀j:Nat,j<16->∀k:Nat,k<16->poolL.getD j ""=poolL.getD k ""->j=k:=by decide +kernel
def nameAt (s4 s5:Int)(k:Nat):Str:=poolL.getD ((s4+(2*s5+1)*(k:Int)) % 16).toNat ""
theorem step_inj:∀t:Nat,t<4->∀j:Nat,j<8->∀k:Nat,k<8->((2*(t:Int)+1)*j - (2*(t:Int)+1)*k) % 16=0->j=k:=by decide +kernel
theorem nameAt_inj {s4 s5:Int}(h0:0<=s5)(h1:s5<4){j k:Nat}(hj:j<8)(hk:k<8)(e:nameAt s4 s5 j=nameAt s4 s5 k):j=k:=by have lt:∀x:Int,(x % 16).toNat<16:=fun x=>(CA (BU x (by decide))).mpr (BR x (by decide));have q:=congrArg Int.ofNat (pool_inj _ (lt _) _ (lt _) e);have q1:(s4+(2*s5+1)*(j:Int)) % 16=(s4+(2*s5+1)*(k:Int)) % 16:=(Cb (BU _ (by decide))).symm.trans (q.trans (Cb (BU _ (by decide))));have q2:=Int.emod_eq_emod_iff_emod_sub_eq_zero.mp q1;rw [Int.add_sub_add_left] at q2;obtain ⟨t,rfl⟩:=Ey h0;exact step_inj t (EN.mp h1) j hj k hk q2
theorem nameAt_mem (s4 s5:Int)(k:Nat):nameAt s4 s5 k∈poolL:=by
 unfold nameAt;have h:((s4+(2*s5+1)*(k:Int)) % 16).toNat<poolL.length:=by show _<16;omega
 have e:poolL.getD ((s4+(2*s5+1)*(k:Int)) % 16).toNat ""=poolL[((s4+(2*s5+1)*(k:Int)) % 16).toNat]:=by simp [B7,h]
 rw [e];exact DE h
structure KindOk (k:Kd):Prop where
 nm:k.name∈poolL
 w1:1<=k.w
 w2:k.w<=200
 o1:1<=k.wo
 o2:k.wo<=1000000000000000000
 a1:0<=k.al
 a2:k.al<1000000000000000000
structure TabOk (ks:List Kd):Prop where
 ok:∀k∈ks,KindOk k
 nd:(ks.map (·.name)).Nodup
theorem pool_ix (h0:0<=i)(h1:i<16):gIx (.lst (poolL.map D.str)) (.int i)=some (.str (poolL.getD i.toNat "")):=ix_l (k:=i.toNat) (by omega) (by
  have h:i.toNat<poolL.length:=by show _<16;omega
  simp [B7,h])
theorem max_lit (h:∀m∈ms,0<m/\m<=1000000):∀m∈ms,0<m/\m<2 ^ 200:=fun m hm=>⟨(h m hm).1,Fz (h m hm).2 (by decide)⟩
theorem four {x:Int}(h:0<=x/\x<4):x=0\/x=1\/x=2\/x=3:=by
 obtain ⟨n,rfl⟩:=Ey h.1
 match n,EN.mp h.2 with
 | 0,_=>exact .inl rfl
 | 1,_=>exact .inr (.inl rfl)
 | 2,_=>exact .inr (.inr (.inl rfl))
 | 3,_=>exact .inr (.inr (.inr rfl))
theorem mod_bd {x:Int}(hm:0<m):0<=x % m/\x % m<m:=⟨BU _ (GO hm),BR _ hm⟩
theorem tab_turn {d0 d1 d2 o9 o10 o11 o12 o13:Option D}{O:D}{gn bw wd am x3 x4 x5 x6 x7 x8:Int}{k:Nat}
    (j0:gIx O (.int (3*(k:Int)+6))=some (.int x6)) (j1:gIx O (.int (3*(k:Int)+6+1))=some (.int x7)) (j2:gIx O (.int (3*(k:Int)+6+2))=some (.int x8))
    (j3:gIx O (.int 3)=some (.int x3)) (j4:gIx O (.int 4)=some (.int x4)) (j5:gIx O (.int 5)=some (.int x5))
    (ib:gIx (.lst [.int 150,.int 200]) (.int ((k:Int) % 2))=some (.int bw))
    (iw:gIx (.lst [.int 1,.int 2,.int 3,.int 4,.int 5,.int 6,.int 2,.int 3,.int 11,.int 40,.int bw]) (.int x6)=some (.int wd))
    (ia:gIx (.lst [.int 0,.int 0,.int 1,.int 2,.int 3,.int 12]) (.int x8)=some (.int am))
    (iN:gIx (.lst (poolL.map D.str)) (.int ((x4+(2*x5+1)*(k:Int)) % 16))=some (.str nm))
    (w1:1<=wd/\wd<=200) (c7:0<=x7/\x7<40) (c3:0<=x3/\x3<4) (c5:0<=x5/\x5<4) (m1:0<=am/\am<=12) (sl:T.length<lim) :
    ∃wo:Int,(1<=wo/\wo<=1000)/\l__law_table_7 [d0,d1,d2,some (.lst (poolL.map D.str)),some O,some (.int fl),some (.int gn),some (.lst T),some (.int k),o9,o10,o11,o12,o13] =
      .ok (.nx [d0,d1,d2,some (.lst (poolL.map D.str)),some O,some (.int fl),some (.int gn),some (.lst (T++[.tup [.str nm,.int wd,.int (min (wo*gn) 1000000000000000000),.int (min (am*fl) 999999999999999999)]])),some (.int k),some (.int (3*(k:Int)+6)),some (.int wd),some (.int wo),some (.int (min (am*fl) 999999999999999999)),some (.str nm)]):=by
  obtain ⟨wo,hb,mid⟩:∃wo:Int,(1<=wo/\wo<=1000)/\∀Q:FS,(sSeq (sIf (cE (f2 gEq (f2 gIx (fV 4) (fC (.int 3))) (fC (.int 1)))) (sSet 11 (f2 gAdd (f2 gMul (fC (.int 3)) (fV 10)) (f2 gMod (f2 gIx (fV 4) (f2 gAdd (fV 9) (fC (.int 1)))) (fC (.int 4))))) sNx)
    (sSeq (sIf (cE (f2 gEq (f2 gIx (fV 4) (fC (.int 3))) (fC (.int 2)))) (sSet 11 (f2 gAdd (fC (.int 1)) (f2 gMod (f2 gIx (fV 4) (f2 gAdd (fV 9) (fC (.int 1)))) (fC (.int 3))))) sNx)
    (sSeq (sIf (cE (f2 gEq (f2 gIx (fV 4) (fC (.int 3))) (fC (.int 3)))) (sSet 11 (f1 gFlat (fV 10))) sNx) Q))) [d0,d1,d2,some (.lst (poolL.map D.str)),some O,some (.int fl),some (.int gn),some (.lst T),some (.int k),some (.int (3*(k:Int)+6)),some (.int wd),some (.int (1+x7)),o12,o13] =
      Q [d0,d1,d2,some (.lst (poolL.map D.str)),some O,some (.int fl),some (.int gn),some (.lst T),some (.int k),some (.int (3*(k:Int)+6)),some (.int wd),some (.int wo),o12,o13]:=by
    rcases four c3 with rfl | rfl | rfl | rfl;exact ⟨1+x7,⟨Eg c7.1,Ay (Fj (CF c7.2) 1) (by decide)⟩,fun Q=>r_seq (r_ifF (r_cE (r_f2 (r_f2 rfl rfl j3) rfl rfl)) rfl) (r_seq (r_ifF (r_cE (r_f2 (r_f2 rfl rfl j3) rfl rfl)) rfl) (r_seq (r_ifF (r_cE (r_f2 (r_f2 rfl rfl j3) rfl rfl)) rfl) rfl))⟩;exact ⟨3*wd+x7 % 4,⟨Ay (show (1:Int)<=3*1+0 by decide) (Gm (Bo w1.1 (by decide)) (mod_bd (by decide)).1),Ay (Gm (Bo w1.2 (by decide)) (CF (mod_bd (by decide)).2)) (by decide)⟩,fun Q=>r_seq (r_ifT (r_cE (r_f2 (r_f2 rfl rfl j3) rfl rfl)) (r_set (r_f2 (r_f2 rfl rfl (mulS (by decide) (by decide))) (r_f2 (r_f2 rfl (r_f2 rfl rfl rfl) j1) rfl (mod_ii (by decide))) rfl))) (r_seq (r_ifF (r_cE (r_f2 (r_f2 rfl rfl j3) rfl rfl)) rfl) (r_seq (r_ifF (r_cE (r_f2 (r_f2 rfl rfl j3) rfl rfl)) rfl) rfl))⟩;exact ⟨1+x7 % 3,⟨Eg (mod_bd (by decide)).1,Ay (Fj (CF (mod_bd (by decide)).2) 1) (by decide)⟩,fun Q=>r_seq (r_ifF (r_cE (r_f2 (r_f2 rfl rfl j3) rfl rfl)) rfl) (r_seq (r_ifT (r_cE (r_f2 (r_f2 rfl rfl j3) rfl rfl)) (r_set (r_f2 rfl (r_f2 (r_f2 rfl (r_f2 rfl rfl rfl) j1) rfl (mod_ii (by decide))) rfl))) (r_seq (r_ifF (r_cE (r_f2 (r_f2 rfl rfl j3) rfl rfl)) rfl) rfl))⟩;exact ⟨wd,⟨w1.1,Ay w1.2 (by decide)⟩,fun Q=>r_seq (r_ifF (r_cE (r_f2 (r_f2 rfl rfl j3) rfl rfl)) rfl) (r_seq (r_ifF (r_cE (r_f2 (r_f2 rfl rfl j3) rfl rfl)) rfl) (r_seq (r_ifT (r_cE (r_f2 (r_f2 rfl rfl j3) rfl rfl)) (r_set (r_f1 rfl rfl))) rfl))⟩
  exact ⟨wo,hb,r_seq (r_set (r_f2 (r_f2 rfl rfl (mulS (by decide) (by decide))) rfl rfl)) (r_seq (r_set (r_f1 (r_f2 (r_fA (r_cons rfl (r_cons rfl (r_cons rfl (r_cons rfl (r_cons rfl (r_cons rfl (r_cons rfl (r_cons rfl (r_cons rfl (r_cons rfl (r_cons (r_f2 rfl (r_f2 rfl rfl (mod_ii (by decide))) ib) rfl))))))))))) rfl) (r_f2 rfl rfl j0) iw) rfl)) (r_seq (r_set (r_f2 rfl (r_f2 rfl (r_f2 rfl rfl rfl) j1) rfl)) ((mid _).trans
    (r_seq (r_set (r_fA (r_cons (r_f2 (r_f2 rfl (r_f2 rfl (r_f2 rfl rfl rfl) j2) ia) rfl (mulS m1.1 (Ay m1.2 (by decide)))) (r_cons (r_f2 (r_f2 rfl rfl pow10_18) rfl (show gSub (.int 1000000000000000000) (.int 1)=some (.int 999999999999999999) from rfl)) rfl)) (min_ii _ _)))
    (r_seq (r_set (r_f1 (r_f2 rfl (r_f2 (r_f2 (r_f2 rfl rfl j4) (r_f2 (r_f2 (r_f2 rfl (r_f2 rfl rfl j5) (mulS (by decide) (by decide))) rfl rfl) rfl (mulS (Ei (Dh (by decide) c5.1) (by decide)) (Ay (E8 (Bo (CF c5.2) (by decide)) 1) (by decide)))) rfl) rfl (mod_ii (by decide))) iN) rfl))
    (r_app rfl (r_fA (r_cons (r_f1 rfl rfl) (r_cons (r_f1 rfl rfl) (r_cons (r_fA (r_cons (r_f2 rfl rfl (mulS (Ay (by decide) hb.1) (Ay hb.2 (by decide)))) (r_cons (r_f2 rfl rfl pow10_18) rfl)) (min_ii _ _)) (r_cons (r_f1 rfl rfl) rfl)))) rfl) sl))))))⟩
theorem under {x:Int}{k:Nat}(h:k<x.toNat)(hx:x<m+1):k<m.toNat:=by omega
theorem lits_and {b:Int}(h:∀z∈l,P z)(hb:P b):∀z∈l++[b],P z:=C0.mpr ⟨h,fun _ hz=>As.mp hz▸hb⟩
theorem tri_lt {k j m:Nat}(h:k<m)(hj:j<3):3*k+(j+6)<6+m*3:=by omega
theorem table_ok (ns:List Int)(hn:ns.length<=63)(h0:0<=i)(h1:i<1000)(m0:0<=m)(m1:m<=8):∃ks,F__law_table [.scr ns,.int i,.int m]=.ok (tD ks)/\(ks.length:Int)<=m/\TabOk ks:=by
  have m8:m.toNat<=8:=GN.mpr m1;have m24:6+m.toNat*3<=30:=Nat.add_le_add_left (Nat.mul_le_mul_right 3 m8) 6;have ms_eq:gAdd (iD [m+1,4,4,4,16,4]) (iD (Aa m.toNat [11,40,6]).flatten)=some (iD ([m+1,4,4,4,16,4]++(Aa m.toNat [11,40,6]).flatten)):=add_ints (by
    rw [rep_len];exact A9 m24 (by decide))
  have mr:=mul_rep (ws:=[11,40,6]) m0 (Ay m1 (by decide)) (by decide);have hml:([m+1,4,4,4,16,4]++(Aa m.toNat [(11:Int),40,6]).flatten).length=6+m.toNat*3:=by rw [Az,rep_len];rfl
  obtain ⟨os,hos,R⟩:=row_ok ns hn h0 h1 ([m+1,4,4,4,16,4]++(Aa m.toNat [11,40,6]).flatten) (by rw [hml];exact A9 m24 (by decide)) (max_lit (C0.mpr ⟨AX.mpr ⟨⟨Int.lt_add_one_of_le m0,Ay (E8 m1 1) (by decide)⟩,by decide⟩,fun z hz=>(by decide:∀z∈[(11:Int),40,6],0<z/\z<=1000000) z (mem_rep hz)⟩));have hol:os.length=6+m.toNat*3:=by rw [R.len,hml]
  have hlt:∀{j:Nat},j<6->j<([m+1,4,4,4,16,4]++(Aa m.toNat [(11:Int),40,6]).flatten).length:=fun h=>by rw [hml];exact Ak h (CY _ _)
  have hlo:∀{j:Nat},j<6->j<os.length:=fun h=>by rw [hol];exact Ak h (CY _ _)
  have tri:∀k j:Nat,k<m.toNat->j<3->3*k+(j+6)<6+m.toNat*3:=fun _ _ h hj=>tri_lt h hj;have a0:0<=os.getD 0 0/\os.getD 0 0<m+1:=R.at_ 0 (hlt (by decide));have a1:0<=os.getD 1 0/\os.getD 1 0<4:=R.at_ 1 (hlt (by decide));have a2:0<=os.getD 2 0/\os.getD 2 0<4:=R.at_ 2 (hlt (by decide));have a3:0<=os.getD 3 0/\os.getD 3 0<4:=R.at_ 3 (hlt (by decide));have a4:0<=os.getD 4 0/\os.getD 4 0<16:=R.at_ 4 (hlt (by decide));have a5:0<=os.getD 5 0/\os.getD 5 0<4:=R.at_ 5 (hlt (by decide));have b3:∀k:Nat,k<m.toNat->(0<=os.getD (3*k+6) 0/\os.getD (3*k+6) 0<11)/\(0<=os.getD (3*k+7) 0/\os.getD (3*k+7) 0<40)/\(0<=os.getD (3*k+8) 0/\os.getD (3*k+8) 0<6):=fun k hk=>by obtain ⟨g1,g2,g3⟩:=rep3_get 11 40 6 m.toNat k hk;have e:∀j:Nat,([m+1,4,4,4,16,4]++(Aa m.toNat [(11:Int),40,6]).flatten).getD (j+6) 0=(Aa m.toNat [(11:Int),40,6]).flatten.getD j 0:=fun j=>rfl;have r1:=R.at_ (3*k+6) (by rw [hml];exact tri k 0 hk (by decide));have r2:=R.at_ (3*k+7) (by rw [hml];exact tri k 1 hk (by decide));have r3:=R.at_ (3*k+8) (by rw [hml];exact tri k 2 hk (by decide));rw [e (3*k),g1] at r1;rw [show 3*k+7=(3*k+1)+6 from rfl,e (3*k+1),g2] at r2;rw [show 3*k+8=(3*k+2)+6 from rfl,e (3*k+2),g3] at r3;exact ⟨r1,r2,r3⟩
  have ix:∀k:Nat,k<os.length->∀j:Int,j=(k:Int)->gIx (.lst (os.map D.int)) (.int j)=some (.int (os.getD k 0)):=fun k hk j e=>ix_ints e hk;obtain ⟨fl,hfl⟩:∃fl,fl=([1,1,7,100000000000000000]:List Int).getD (os.getD 1 0).toNat 0:=⟨_,rfl⟩;obtain ⟨gn,hgn⟩:∃gn,gn=([1,1,1000000,25000000000000000]:List Int).getD (os.getD 2 0).toNat 0:=⟨_,rfl⟩;have fl1:1<=fl/\fl<=100000000000000000:=by rw [hfl];exact getD_all (P:=fun z=>1<=z/\z<=100000000000000000) (by decide) (show _<4 from (CA a1.1).mpr a1.2)
  have gn1:1<=gn/\gn<=25000000000000000:=by rw [hgn];exact getD_all (P:=fun z=>1<=z/\z<=25000000000000000) (by decide) (show _<4 from (CA a2.1).mpr a2.2)
  have i1:gIx (.lst [.int 1,.int 1,.int 7,.int 100000000000000000]) (.int (os.getD 1 0))=some (.int fl):=by rw [hfl];exact ix_lit [1,1,7,100000000000000000] a1.1 a1.2
  have i2:gIx (.lst [.int 1,.int 1,.int 1000000,.int 25000000000000000]) (.int (os.getD 2 0))=some (.int gn):=by rw [hgn];exact ix_lit [1,1,1000000,25000000000000000] a2.1 a2.2
  have key:=forD_inv (b:=bName 8) (s:=l__law_table_7) (xs:=rngL 0 (os.getD 0 0).toNat) (ρ:=[some (.scr ns),some (.int i),some (.int m),some (.lst (poolL.map D.str)),some (iD os),some (.int fl),some (.int gn),some (.lst []),none,none,none,none,none,none])
    (P:=fun k ρ=>∃(ks:List Kd) (o8 o9 o10 o11 o12 o13:Option D),ks.length=k/\(∀x∈ks,KindOk x)/\ks.map (·.name)=(AW k).map (nameAt (os.getD 4 0) (os.getD 5 0))/\ρ=[some (.scr ns),some (.int i),some (.int m),some (.lst (poolL.map D.str)),some (iD os),some (.int fl),some (.int gn),some (tD ks),o8,o9,o10,o11,o12,o13])
    (Rr:=fun r=>∃(ks:List Kd) (o8 o9 o10 o11 o12 o13:Option D),ks.length=(os.getD 0 0).toNat/\(∀x∈ks,KindOk x)/\ks.map (·.name)=(AW ks.length).map (nameAt (os.getD 4 0) (os.getD 5 0))/\r=.ok (.nx [some (.scr ns),some (.int i),some (.int m),some (.lst (poolL.map D.str)),some (iD os),some (.int fl),some (.int gn),some (tD ks),o8,o9,o10,o11,o12,o13]))
    ⟨[],none,none,none,none,none,none,rfl,(fun _ h=>nomatch h),rfl,rfl⟩ ?_ ?_
  · obtain ⟨ks,o8,o9,o10,o11,o12,o13,kl,kok,knm,e⟩:=key;have k8:ks.length<=8:=by rw [kl];exact GN.mpr (Ay (DJ.mp a0.2) m1)
    refine ⟨ks,?_,by rw [kl,Cb a0.1];exact DJ.mp a0.2,kok,?_⟩
    · have b1:-1000000000<=os.getD 0 0/\os.getD 0 0<=1000000:=⟨Ay (by decide) a0.1,Ay (DJ.mp a0.2) (Ay m1 (by decide))⟩;have hp:gAdd (.lst [.str ("a":Str),.str ("ab":Str),.str ("abc":Str),.str ("b":Str),.str ("ba":Str),.str ("z":Str),.str ("zzzzzzzz":Str),.str ("roll":Str),.str ("cut":Str),.str ("by":Str)]) (.lst [.str ("aab":Str),.str ("zz":Str),.str ("kind":Str),.str ("qsvw":Str),.str ("fghjmp":Str),.str ("x":Str)])=some (.lst (poolL.map D.str)):=rfl;have mr':gMul (.lst [.int 11,.int 40,.int 6]) (.int m)=_:=mr;have ms':gAdd (.lst [.int (m+1),.int 4,.int 4,.int 4,.int 16,.int 4]) (iD (Aa m.toNat [11,40,6]).flatten)=_:=ms_eq;generalize iD ([m+1,4,4,4,16,4]++(Aa m.toNat [11,40,6]).flatten)=Mv at hos ms';generalize iD (Aa m.toNat [11,40,6]).flatten=Mw at mr' ms';exact r_run (r_seq (r_set rfl) (r_seq (r_set (r_f2 rfl rfl hp)) (r_seq (r_set (r_call (r_cons rfl (r_cons rfl (r_cons (r_f2 (r_fA (r_cons (r_f2 rfl rfl rfl) rfl) rfl) (r_f2 rfl rfl mr') ms') rfl))) hos))
        (r_seq (r_set (r_f1 (r_f2 (r_fA (r_cons rfl (r_cons rfl (r_cons rfl (r_cons (r_f2 rfl rfl pow10_17) rfl)))) rfl) (r_f2 rfl rfl (ix 1 (hlo (by decide)) 1 rfl)) i1) rfl))
        (r_seq (r_set (r_f1 (r_f2 (r_fA (r_cons rfl (r_cons rfl (r_cons (r_f2 rfl rfl (show gPow (.int 10) (.int 6)=some (.int 1000000) by simp)) (r_cons (r_f2 rfl (r_f2 rfl rfl pow10_15) (show gMul (.int 25) (.int 1000000000000000)=some (.int 25000000000000000) from mulS (by decide) (by decide))) rfl)))) rfl) (r_f2 rfl rfl (ix 2 (hlo (by decide)) 2 rfl)) i2) rfl))
        (r_seq (r_set rfl) (r_seq (r_for (r_rng (r_cons (r_f2 rfl rfl (ix 0 (hlo (by decide)) 0 rfl)) rfl) b1) e) (r_ret rfl))))))))
    rw [knm,Ea,Fx];refine GM ?_ (Ea.mp List.nodup_range);intro i j hi hj hij e;have hi:=CG.mp hi;have hj:=CG.mp hj;exact hij (nameAt_inj a5.1 a5.2 (Ak hi (A9 k8 (by decide))) (Ak hj (A9 k8 (by decide))) e)
  rintro k x ρ hx ⟨ks,o8,o9,o10,o11,o12,o13,kl,kok,knm,rfl⟩;obtain ⟨hk,rfl⟩:=rngL_at hx;rw [DA];have hkm:k<m.toNat:=under hk a0.2;obtain ⟨c1,c2,c3⟩:=b3 k hkm;have j0:=ix (3*k+6) (by rw [hol];exact tri k 0 hkm (by decide)) (3*k+6) rfl;have j1:=ix (3*k+7) (by rw [hol];exact tri k 1 hkm (by decide)) (3*k+6+1) (Er _ 6 1);have j2:=ix (3*k+8) (by rw [hol];exact tri k 2 hkm (by decide)) (3*k+6+2) (Er _ 6 2);have j3:=ix 3 (hlo (by decide)) 3 rfl;have j4:=ix 4 (hlo (by decide)) 4 rfl;have j5:=ix 5 (hlo (by decide)) 5 rfl;obtain ⟨bw,hbw⟩:∃bw,bw=([150,200]:List Int).getD ((k:Int) % 2).toNat 0:=⟨_,rfl⟩;have k2:0<=(k:Int) % 2/\(k:Int) % 2<2:=⟨BU _ (by decide),BR _ (by decide)⟩;have bw1:1<=bw/\bw<=200:=by rw [hbw];exact getD_all (P:=fun z=>1<=z/\z<=200) (by decide) (show _<2 from (CA k2.1).mpr k2.2)
  have ib:gIx (.lst [.int 150,.int 200]) (.int ((k:Int) % 2))=some (.int bw):=by rw [hbw];exact ix_lit [150,200] k2.1 k2.2
  obtain ⟨wd,hwd⟩:∃wd,wd=([1,2,3,4,5,6,2,3,11,40,bw]:List Int).getD (os.getD (3*k+6) 0).toNat 0:=⟨_,rfl⟩;have wd1:1<=wd/\wd<=200:=by rw [hwd];exact getD_all (P:=fun z=>1<=z/\z<=200) (lits_and (l:=[1,2,3,4,5,6,2,3,11,40]) (by decide) bw1) (show _<11 from (CA c1.1).mpr c1.2)
  have iw:gIx (.lst [.int 1,.int 2,.int 3,.int 4,.int 5,.int 6,.int 2,.int 3,.int 11,.int 40,.int bw]) (.int (os.getD (3*k+6) 0))=some (.int wd):=by rw [hwd];exact ix_lit [1,2,3,4,5,6,2,3,11,40,bw] c1.1 c1.2
  obtain ⟨am,ham⟩:∃am,am=([0,0,1,2,3,12]:List Int).getD (os.getD (3*k+8) 0).toNat 0:=⟨_,rfl⟩;have am1:0<=am/\am<=12:=by rw [ham];exact getD_all (P:=fun z=>0<=z/\z<=12) (by decide) (show _<6 from (CA c3.1).mpr c3.2)
  have ia:gIx (.lst [.int 0,.int 0,.int 1,.int 2,.int 3,.int 12]) (.int (os.getD (3*k+8) 0))=some (.int am):=by rw [ham];exact ix_lit [0,0,1,2,3,12] c3.1 c3.2
  have iN:=pool_ix (i:=(os.getD 4 0+(2*os.getD 5 0+1)*(k:Int)) % 16) (BU _ (by decide)) (BR _ (by decide));have sl:(ks.map kD).length<lim:=by rw [Ap,kl];exact Ak hkm (A9 m8 (by decide))
  obtain ⟨wo,wo1,turn⟩:=tab_turn (d0:=some (.scr ns)) (d1:=some (.int i)) (d2:=some (.int m)) (o9:=o9) (o10:=o10) (o11:=o11) (o12:=o12) (o13:=o13) (fl:=fl) (gn:=gn) j0 j1 j2 j3 j4 j5 ib iw ia iN wd1 c2 a3 a5 am1 sl;have pr:0<=am*fl:=Dh am1.1 (Ay (by decide) fl1.1);have wg:1<=wo*gn:=Gk wo1.1 gn1.1 (by decide) (Ay (by decide) wo1.1);have kd:KindOk ⟨nameAt (os.getD 4 0) (os.getD 5 0) k,wd,min (wo*gn) 1000000000000000000,min (am*fl) 999999999999999999⟩:=⟨nameAt_mem _ _ _,wd1.1,wd1.2,Hd.mpr ⟨wg,by decide⟩,FZ _ _,Hd.mpr ⟨pr,by decide⟩,Fz (FZ _ _) (by decide)⟩;refine ⟨_,rfl,.inl ⟨[some (.scr ns),some (.int i),some (.int m),some (.lst (poolL.map D.str)),some (iD os),some (.int fl),some (.int gn),some (tD (ks++[⟨nameAt (os.getD 4 0) (os.getD 5 0) k,wd,min (wo*gn) 1000000000000000000,min (am*fl) 999999999999999999⟩])),some (.int k),some (.int (3*k+6)),some (.int wd),some (.int wo),some (.int (min (am*fl) 999999999999999999)),some (.str (nameAt (os.getD 4 0) (os.getD 5 0) k))],.inl ?_,_,_,_,_,_,_,_,?_,?_,?_,rfl⟩⟩;rw [show tD (ks++[⟨nameAt (os.getD 4 0) (os.getD 5 0) k,wd,min (wo*gn) 1000000000000000000,min (am*fl) 999999999999999999⟩])=.lst (ks.map kD++[.tup [.str (nameAt (os.getD 4 0) (os.getD 5 0) k),.int wd,.int (min (wo*gn) 1000000000000000000),.int (min (am*fl) 999999999999999999)]]) from congrArg D.lst BM];exact turn;rw [Az,kl];rfl;intro x hx;rcases Ae.mp hx with h | h;exact kok x h;rw [As.mp h];exact kd;rw [BM,knm,FW,BM];rfl;rintro ρ ⟨ks,o8,o9,o10,o11,o12,o13,kl,kok,knm,rfl⟩;rw [rngL_length] at kl;exact ⟨ks,o8,o9,o10,o11,o12,o13,kl,kok,by rw [kl];rw [rngL_length] at knm;exact knm,rfl⟩
theorem flaw_ok (ns:List Int)(hn:ns.length<=63)(h0:0<=i)(h1:i<1000)(m0:0<=m)(m1:m<=1000):∃fl:Int,F__law_flaw [.scr ns,.int i,.int m]=.ok (.int fl)/\1<=fl/\fl<=100000000000000000:=by
 obtain ⟨os,hos,R⟩:=row_ok ns hn h0 h1 [m+1,4] (by decide:2<=1000) (max_lit (AX.mpr ⟨⟨by omega,by omega⟩,by decide⟩));have hol:os.length=2:=R.len;have a1:0<=os.getD 1 0/\os.getD 1 0<4:=R.at_ 1 (by decide:1<2);obtain ⟨fl,hfl⟩:∃fl,fl=([1,1,7,100000000000000000]:List Int).getD (os.getD 1 0).toNat 0:=⟨_,rfl⟩;have fl1:1<=fl/\fl<=100000000000000000:=by rw [hfl];exact getD_all (P:=fun z=>1<=z/\z<=100000000000000000) (by decide) (show _<4 from (CA a1.1).mpr a1.2)
 have i1:gIx (.lst [.int 1,.int 1,.int 7,.int 100000000000000000]) (.int (os.getD 1 0))=some (.int fl):=by rw [hfl];exact ix_lit [1,1,7,100000000000000000] a1.1 a1.2
 have i0:=ix_ints (ns:=os) (i:=1) (k:=1) rfl (by rw [hol];decide);exact ⟨fl,r_run (r_ret (r_f1 (r_f2 (r_fA (r_cons rfl (r_cons rfl (r_cons rfl (r_cons (r_f2 rfl rfl pow10_17) rfl)))) rfl) (r_f2 (r_call (r_cons rfl (r_cons rfl (r_cons (r_fA (r_cons (r_f2 rfl rfl rfl) rfl) rfl) rfl))) hos) rfl i0) i1) rfl)),fl1⟩
theorem roll_ok (ns:List Int)(hn:ns.length<=63)(h0:0<=i)(h1:i<1000)(m0:0<=m)(m1:m<=200)(f0:1<=fl)(f1:fl<=100000000000000000):∃ws,F__law_roll [.scr ns,.int i,.int m,.int fl]=.ok (iD ws)/\(ws.length:Int)<=m/\∀w∈ws,0<=w/\w<=1000000000000000000:=by
  have ms_eq:gAdd (iD [m+1,4,3]) (iD (Aa m.toNat [8,5]).flatten)=some (iD ([m+1,4,3]++(Aa m.toNat [8,5]).flatten)):=add_ints (by
    rw [rep_len];show 3+m.toNat*2<=1000000;omega)
  have mr:=mul_rep (ws:=[8,5]) m0 (show m<=200 by omega) (by decide);have hml:([m+1,4,3]++(Aa m.toNat [(8:Int),5]).flatten).length=3+m.toNat*2:=by rw [Az,rep_len];rfl
  obtain ⟨os,hos,R⟩:=row_ok ns hn h0 h1 ([m+1,4,3]++(Aa m.toNat [8,5]).flatten) (by omega) (max_lit (C0.mpr ⟨AX.mpr ⟨⟨by omega,by omega⟩,by decide⟩,fun z hz=>(by decide:∀z∈[(8:Int),5],0<z/\z<=1000000) z (mem_rep hz)⟩));have hol:os.length=3+m.toNat*2:=by rw [R.len,hml]
  have hlt:∀{j:Nat},j<3->j<([m+1,4,3]++(Aa m.toNat [(8:Int),5]).flatten).length:=fun h=>by rw [hml];exact Ak h (CY _ _)
  have hlo:∀{j:Nat},j<3->j<os.length:=fun h=>by rw [hol];exact Ak h (CY _ _)
  have tri:∀k j:Nat,k<m.toNat->j<2->2*k+(j+3)<3+m.toNat*2:=fun k j h hj=>by omega
  have a0:0<=os.getD 0 0/\os.getD 0 0<m+1:=R.at_ 0 (hlt (by decide));have a1:0<=os.getD 1 0/\os.getD 1 0<4:=R.at_ 1 (hlt (by decide));have a2:0<=os.getD 2 0/\os.getD 2 0<3:=R.at_ 2 (hlt (by decide));have b2:∀k:Nat,k<m.toNat->(0<=os.getD (2*k+3) 0/\os.getD (2*k+3) 0<8)/\(0<=os.getD (2*k+4) 0/\os.getD (2*k+4) 0<5):=fun k hk=>by obtain ⟨g1,g2⟩:=rep2_get 8 5 m.toNat k hk;have e:∀j:Nat,([m+1,4,3]++(Aa m.toNat [(8:Int),5]).flatten).getD (j+3) 0=(Aa m.toNat [(8:Int),5]).flatten.getD j 0:=fun j=>rfl;have r1:=R.at_ (2*k+3) (by rw [hml];exact tri k 0 hk (by decide));have r2:=R.at_ (2*k+4) (by rw [hml];exact tri k 1 hk (by decide));rw [e (2*k),g1] at r1;rw [show 2*k+4=(2*k+1)+3 from rfl,e (2*k+1),g2] at r2;exact ⟨r1,r2⟩
  have ix:∀k:Nat,k<os.length->∀j:Int,j=(k:Int)->gIx (.lst (os.map D.int)) (.int j)=some (.int (os.getD k 0)):=fun k hk j e=>ix_ints e hk;obtain ⟨gr,hgr,gr1⟩:∃gr:Int,gr=(if os.getD 2 0=0 then 1000000000000000000 else 9*fl)/\0<=gr/\gr<=1000000000000000000:=by refine ⟨_,rfl,?_⟩;split;exact ⟨by decide,by decide⟩;exact ⟨Dh (by decide) (Ay (by decide) f0),Ay (Bo f1 (by decide)) (by decide)⟩
  obtain ⟨th,hth⟩:∃th,th=([0,1,3,6]:List Int).getD (os.getD 1 0).toNat 0:=⟨_,rfl⟩;have ith:gIx (.lst [.int 0,.int 1,.int 3,.int 6]) (.int (os.getD 1 0))=some (.int th):=by rw [hth];exact ix_lit [0,1,3,6] a1.1 a1.2
  have key:=forD_inv (b:=bName 7) (s:=l__law_roll_6) (xs:=rngL 0 (os.getD 0 0).toNat) (ρ:=[some (.scr ns),some (.int i),some (.int m),some (.int fl),some (iD os),some (.int gr),some (.lst []),none,none,none])
    (P:=fun k ρ=>∃(ws:List Int) (o7 o8 o9:Option D),ws.length=k/\(∀x∈ws,0<=x/\x<=1000000000000000000)/\ρ=[some (.scr ns),some (.int i),some (.int m),some (.int fl),some (iD os),some (.int gr),some (iD ws),o7,o8,o9])
    (Rr:=fun r=>∃(ws:List Int) (o7 o8 o9:Option D),ws.length=(os.getD 0 0).toNat/\(∀x∈ws,0<=x/\x<=1000000000000000000)/\r=.ok (.nx [some (.scr ns),some (.int i),some (.int m),some (.int fl),some (iD os),some (.int gr),some (iD ws),o7,o8,o9]))
    ⟨[],none,none,none,rfl,(fun _ h=>nomatch h),rfl⟩ ?_ ?_
  obtain ⟨ws,o7,o8,o9,wl,wok,e⟩:=key;refine ⟨ws,?_,by omega,wok⟩;have b1:-1000000000<=os.getD 0 0/\os.getD 0 0<=1000000:=by omega
  have mr':gMul (.lst [.int 8,.int 5]) (.int m)=_:=mr;have ms':gAdd (.lst [.int (m+1),.int 4,.int 3]) (iD (Aa m.toNat [8,5]).flatten)=_:=ms_eq;generalize iD ([m+1,4,3]++(Aa m.toNat [8,5]).flatten)=Mv at hos ms';generalize iD (Aa m.toNat [8,5]).flatten=Mw at mr' ms';have t1:gMul (.int 9) (.int fl)=some (.int (9*fl)):=mulS (by decide) (by decide);have body:∀Q r,Q [some (.scr ns),some (.int i),some (.int m),some (.int fl),some (iD os),some (.int gr),none,none,none,none]=r->(sSeq (sSet 5 (f2 gMul (fC (.int 9)) (fV 3))) (sSeq (sIf (cE (f2 gEq (f2 gIx (fV 4) (fC (.int 2))) (fC (.int 0)))) (sSet 5 (f2 gPow (fC (.int 10)) (fC (.int 18)))) sNx) Q)) [some (.scr ns),some (.int i),some (.int m),some (.int fl),some (iD os),none,none,none,none,none]=r:=fun Q r h=>by have c:∀z:Option D,(cE (f2 gEq (f2 gIx (fV 4) (fC (.int 2))) (fC (.int 0)))) [some (.scr ns),some (.int i),some (.int m),some (.int fl),some (iD os),z,none,none,none,none]=.ok (os.getD 2 0==0):=fun z=>r_cE (r_f2 (r_f2 rfl rfl (ix 2 (hlo (by decide)) 2 rfl)) rfl rfl);by_cases d:os.getD 2 0=0;rw [if_pos d] at hgr;exact r_seq (r_set (r_f2 rfl rfl t1)) (r_seq (r_ifT ((c _).trans (by rw [d];rfl)) (r_set (r_f2 rfl rfl pow10_18))) (by rw [hgr] at h;exact h));rw [if_neg d] at hgr;exact r_seq (r_set (r_f2 rfl rfl t1)) (r_seq (r_ifF ((c _).trans (congrArg Dl.R.ok (beq_false_of_ne d))) rfl) (by rw [hgr] at h;exact h))
  exact r_run (r_seq (r_set (r_call (r_cons rfl (r_cons rfl (r_cons (r_f2 (r_fA (r_cons (r_f2 rfl rfl rfl) rfl) rfl) (r_f2 rfl rfl mr') ms') rfl))) hos)) (body _ _ (r_seq (r_set rfl) (r_seq (r_for (r_rng (r_cons (r_f2 rfl rfl (ix 0 (hlo (by decide)) 0 rfl)) rfl) b1) e) (r_ret rfl)))));rintro k x ρ hx ⟨ws,o7,o8,o9,wl,wok,rfl⟩;obtain ⟨hk,rfl⟩:=rngL_at hx;rw [DA];have hkm:k<m.toNat:=under hk a0.2;obtain ⟨c1,c2⟩:=b2 k hkm;have j0:=ix (2*k+3) (by rw [hol];exact tri k 0 hkm (by decide)) (2*k+3) rfl;have j1:=ix (2*k+4) (by rw [hol];exact tri k 1 hkm (by decide)) (2*k+3+1) (Er _ 3 1);have jj:=ix 1 (hlo (by decide)) 1 rfl;have sl:ws.length<lim:=by show _<1000000;omega
  obtain ⟨wt,hwt⟩:∃wt,wt=([fl,fl,2*fl,3*fl,gr]:List Int).getD (os.getD (2*k+4) 0).toNat 0:=⟨_,rfl⟩;have wt1:0<=wt/\wt<=1000000000000000000:=by rw [hwt];have g:∀n:Int,1<=n->n<=3->0<=n*fl/\n*fl<=1000000000000000000:=fun n n0 n1=>⟨Dh (Ay (by decide) n0) (Ay (by decide) f0),Ay (Gk n1 f1 (Ay (by decide) f0) (by decide)) (by decide)⟩;have g1:0<=fl/\fl<=1000000000000000000:=⟨Ay (by decide) f0,Ay f1 (by decide)⟩;exact getD_all (P:=fun z=>0<=z/\z<=1000000000000000000) (AX.mpr ⟨g1,AX.mpr ⟨g1,AX.mpr ⟨g 2 (by decide) (by decide),AX.mpr ⟨g 3 (by decide) (by decide),AX.mpr ⟨gr1,fun _ h=>nomatch h⟩⟩⟩⟩⟩) (show _<5 from (CA c2.1).mpr c2.2)
  have iw:gIx (.lst [.int fl,.int fl,.int (2*fl),.int (3*fl),.int gr]) (.int (os.getD (2*k+4) 0))=some (.int wt):=by rw [hwt];exact ix_lit [fl,fl,2*fl,3*fl,gr] c2.1 c2.2
  have t1:gMul (.int 2) (.int fl)=some (.int (2*fl)):=mulS (by decide) (by decide);have t2:gMul (.int 3) (.int fl)=some (.int (3*fl)):=mulS (by decide) (by decide);have t3:gMul (.int 2) (.int (k:Int))=some (.int (2*k)):=mulS (by decide) (by decide);have c:(cE (f2 gLt (f2 gIx (fV 4) (fV 8)) (f2 gIx (fA gLst (aCons (fC (.int 0)) (aCons (fC (.int 1)) (aCons (fC (.int 3)) (aCons (fC (.int 6)) aNil))))) (f2 gIx (fV 4) (fC (.int 1)))))) [some (.scr ns),some (.int i),some (.int m),some (.int fl),some (iD os),some (.int gr),some (iD ws),some (.int k),some (.int (2*k+3)),some (.int 0)]=.ok (decide (os.getD (2*k+3) 0<th)):=r_cE (r_f2 (r_f2 rfl rfl j0) (r_f2 rfl (r_f2 rfl rfl jj) ith) (by simp));have sl':(ws.map D.int).length<lim:=by rw [Ap];exact sl
  have all:∀z:Int,0<=z/\z<=1000000000000000000->∀x∈ws++[z],0<=x/\x<=1000000000000000000:=fun z hz x hx=>by rcases Ae.mp hx with h | h;exact wok x h;rw [As.mp h];exact hz
  refine ⟨_,rfl,.inl ?_⟩;by_cases d:os.getD (2*k+3) 0<th;refine ⟨[some (.scr ns),some (.int i),some (.int m),some (.int fl),some (iD os),some (.int gr),some (iD (ws++[wt])),some (.int k),some (.int (2*k+3)),some (.int wt)],.inl ?_,_,_,_,_,by rw [Az,wl];rfl,all wt wt1,rfl⟩;rw [show iD (ws++[wt])=.lst (ws.map D.int++[.int wt]) from congrArg D.lst BM];exact r_seq (r_set (r_f2 (r_f2 rfl rfl t3) rfl rfl)) (r_seq (r_set rfl) (r_seq (r_ifT (c.trans (congrArg Dl.R.ok (decide_eq_true d))) (r_set (r_f1 (r_f2 (r_fA (r_cons rfl (r_cons rfl (r_cons (r_f2 rfl rfl t1) (r_cons (r_f2 rfl rfl t2) rfl)))) rfl) (r_f2 rfl (r_f2 rfl rfl rfl) j1) iw) rfl))) (r_app rfl (r_f1 rfl rfl) sl')));refine ⟨[some (.scr ns),some (.int i),some (.int m),some (.int fl),some (iD os),some (.int gr),some (iD (ws++[0])),some (.int k),some (.int (2*k+3)),some (.int 0)],.inl ?_,_,_,_,_,by rw [Az,wl];rfl,all 0 ⟨by decide,by decide⟩,rfl⟩;rw [show iD (ws++[0])=.lst (ws.map D.int++[.int 0]) from congrArg D.lst BM];exact r_seq (r_set (r_f2 (r_f2 rfl rfl t3) rfl rfl)) (r_seq (r_set rfl) (r_seq (r_ifF (c.trans (congrArg Dl.R.ok (decide_eq_false d))) rfl) (r_app rfl (r_f1 rfl rfl) sl')));rintro ρ ⟨ws,o7,o8,o9,wl,wok,rfl⟩;rw [rngL_length] at wl;exact ⟨ws,o7,o8,o9,wl,wok,rfl⟩
end Dl
namespace Dl
def S:Nat->(Nat->Int)->Int
 | 0,_=>0
 | n+1,f=>S n f+f n
def pth (e:Nat->Nat->Int)(a:Nat):Nat->List Int
 | 0=>[1]
 | d+1=>pth e a d++[S (d+1) fun i=>e (a+i) (a+d+1)*(pth e a d).getD i 0]
def W (e:Nat->Nat->Int)(a d:Nat):Int:=(pth e a d).getD d 0
end Dl
namespace Dl
open PySem
variable {d o o' z:D}{ns ns2:List Str}{ks:List (Int ⊕ Str)}{α:Type}{b:FB}{s:FS}{Q:Fl->Prop}{P:Nat->Env->Prop}{xs ds ys ds2:List D}{ρ ρ':Env}{lo:Int}{n N i j:Nat}{p:R (D×Env)}{e:FE}{c c2:String}{f m m2:Str}{a:FM}{F:List D->R D}{args:FA}{r:R Fl}{G G2:List D->R (D×D)}{q:Int ⊕ Str}{g:D->D->Option D}{x:Option Int}
def cntStep (ns:List Int)(ks:List Kd)(cs:List Int):Int:=cs.getD (cs.length - 1) 0+((ks.filter fun k=>good ns k ((cs.length:Int) - k.w)).map fun k=>cs.getD ((cs.length:Int) - k.w).toNat 0).sum
def cnts (ns:List Int)(ks:List Kd):Nat->List Int
 | 0=>[1]
 | j+1=>cnts ns ks j++[cntStep ns ks (cnts ns ks j)]
def cnt (ns:List Int)(ks:List Kd)(j:Nat):Int:=(cnts ns ks j).getD j 0
abbrev Cut:=List (Int×Str)×Int
def addK (ns:List Int)(rows:List (List Cut))(e:Nat)(k:Kd):List Cut:=if good ns k ((e:Int) - k.w)=true then (rows.getD ((e:Int) - k.w).toNat []).map fun c=>(c.1++[((e:Int) - k.w,k.name)],c.2+k.wo) else []
def rowOf (ns:List Int)(ks:List Kd)(rows:List (List Cut)):List Cut:=rows.getD (rows.length - 1) []++(ks.map (addK ns rows rows.length)).flatten
def rowsA (ns:List Int)(ks:List Kd):Nat->List (List Cut)
 | 0=>[[([],0)]]
 | j+1=>rowsA ns ks j++[rowOf ns ks (rowsA ns ks j)]
mutual
theorem eqv_self:∀d:D,dep d<=20->eqv d d=true
 | .non,_=>rfl
 | .bl b,_=>beq_self_eq_true b
 | .int b,_=>beq_self_eq_true b
 | .str b,_=>beq_self_eq_true b
 | .lst xs,h=>eqvA_self xs (FC h)
 | .tup xs,h=>eqvA_self xs (FC h)
 | .scr _,h=>absurd h (by decide:¬100<=20)
 | .rng _ _,h=>absurd h (by decide:¬100<=20)
 | .exc _ _,h=>absurd h (by decide:¬100<=20)
 | .obj _ _ _,h=>absurd h (by decide:¬100<=20)
 | .dct _ _,h=>absurd h (by decide:¬100<=20)
 | .dtt _ _,h=>absurd h (by decide:¬100<=20)
 | .flst _,h=>absurd h (by decide:¬100<=20)
 | .fdt _ _,h=>absurd h (by decide:¬100<=20)
 | .fobj _ _ _,h=>absurd h (by decide:¬100<=20)
 | .fdk _ _,h=>absurd h (by decide:¬100<=20)
theorem eqvA_self:∀xs:List D,depA xs<=20->eqvA xs xs=true
 | [],_=>rfl
 | x::xs,h=>by have a:dep x<=20/\depA xs<=20:=Nat.max_le.mp h;show (eqv x x&&eqvA xs xs)=true;rw [eqv_self x a.1,eqvA_self xs a.2];rfl
end
theorem gEq_self (h:dep d<=20):gEq d d=some (.bl true):=by unfold gEq;rw [if_pos ⟨h,h⟩,eqv_self d h]
theorem depA_map {α:Type}{f:α->D}{n:Nat}(h:∀a,dep (f a)<=n):∀xs:List α,depA (xs.map f)<=n
 | []=>Dg _
 | x::xs=>by rw [Bt,depA];have:=h x;have:=depA_map h xs;omega
theorem dep_iD (ns:List Int):dep (iD ns)<=1:=by rw [iD,dep];have:=depA_map (f:=D.int) (n:=0) (fun _=>by simp [dep]) ns;omega
theorem dep_kD (k:Kd):dep (kD k)<=1:=by simp [kD,dep,depA]
theorem dep_tD (ks:List Kd):dep (tD ks)<=2:=by rw [tD,dep];have:=depA_map (f:=kD) dep_kD ks;omega
def hStep (ns:List Int)(ks:List Kd)(ts:List Int):Int:=maxL (ts.getD (ts.length - 1) 0::(ks.filter fun k=>good ns k ((ts.length:Int) - k.w)).map fun k=>ts.getD ((ts.length:Int) - k.w).toNat 0+k.wo)
def hts (ns:List Int)(ks:List Kd):Nat->List Int
 | 0=>[0]
 | j+1=>hts ns ks j++[hStep ns ks (hts ns ks j)]
def ht (ns:List Int)(ks:List Kd)(j:Nat):Int:=(hts ns ks j).getD j 0
theorem eq_str (a b:Str):gEq (.str a) (.str b)=some (.bl (a==b)):=rfl
theorem eq_int (a b:Int):gEq (.int a) (.int b)=some (.bl (a==b)):=rfl
theorem ne_int (a b:Int):gNe (.int a) (.int b)=some (.bl (!(a==b))):=rfl
inductive Way (ns:List Int)(ks:List Kd):Nat->Nat->Int->Prop where
 | nil (a:Nat):Way ns ks a a 0
 | skip {a b:Nat} {w:Int}:Way ns ks a b w->b+1<=ns.length->Way ns ks a (b+1) w
 | piece {a b:Nat} {w:Int} {k:Kd}:Way ns ks a b w->k∈ks->good ns k (b:Int)=true->Way ns ks a (b+k.w.toNat) (w+k.wo)
section
variable {ns:List Int}{ks:List Kd}
end
def V {α:Type}:R α->(α->Prop)->Prop
 | .ok a,Q=>Q a
 | .err _ _,_=>False
 | .bad,_=>False
@[simp] theorem V_ok (a:α)(Q:α->Prop):V (.ok a) Q=Q a:=(rfl)
theorem V_bind {β:Type}(r:R α)(f:α->R β)(Q:β->Prop):V (r.bind f) Q=V r fun a=>V (f a) Q:=by cases r<;>rfl
theorem V.imp {r:R α}{Q Q':α->Prop}(h:V r Q)(g:∀a,Q a->Q' a):V r Q':=by
 cases r with
 | ok a=>exact g a h
 | err _ _=>exact h
 | bad=>exact h
def turn (b:FB)(s:FS)(x:D)(ρ:Env):R Fl:=(b x ρ).calm.bind s
def Tn (P:Env->Prop)(Q:Fl->Prop):Fl->Prop
 | .nx ρ=>P ρ
 | .cnt ρ=>P ρ
 | .brk ρ=>Q (.nx ρ)
 | .ret d=>Q (.ret d)
@[simp] theorem Tn_nx (P:Env->Prop)(Q:Fl->Prop)(ρ:Env):Tn P Q (.nx ρ)=P ρ:=(rfl)
@[simp] theorem Tn_cnt (P:Env->Prop)(Q:Fl->Prop)(ρ:Env):Tn P Q (.cnt ρ)=P ρ:=(rfl)
@[simp] theorem Tn_brk (P:Env->Prop)(Q:Fl->Prop)(ρ:Env):Tn P Q (.brk ρ)=Q (.nx ρ):=(rfl)
@[simp] theorem Tn_ret (P:Env->Prop)(Q:Fl->Prop)(d:D):Tn P Q (.ret d)=Q (.ret d):=(rfl)
theorem V_for {b:FB}{s:FS}{Q:Fl->Prop}{P:List D->Env->Prop}(hs:∀x r ρ,P (x::r) ρ->V (turn b s x ρ) (Tn (P r) Q))(hd:∀ρ,P [] ρ->Q (.nx ρ)):∀{xs:List D} {ρ:Env},P xs ρ->V (forD b s xs ρ) Q
 | [],ρ,h=>hd ρ h
 | x::xs,ρ,h=>by
  have t:=hs x xs ρ h;unfold turn at t;rw [V_bind] at t;rw [forD_cons,V_bind];refine t.imp fun ρ1 q=>?_;rw [V_bind];refine q.imp fun fl q=>?_;cases fl with
  | nx ρ2=>exact V_for hs hd q
  | cnt ρ2=>exact V_for hs hd q
  | brk ρ2=>exact q
  | ret d=>exact q
theorem V_forI (h0:P 0 ρ)(hs:∀i x ρ,xs[i]?=some x->P i ρ->V (turn b s x ρ) (Tn (P (i+1)) Q))(hd:∀ρ,P xs.length ρ->Q (.nx ρ)):V (forD b s xs ρ) Q:=by
 refine V_for (P:=fun r ρ=>∃i,r=xs.drop i/\i<=xs.length/\P i ρ) (fun x r ρ p=>?_) (fun ρ p=>?_) ⟨0,rfl,Dg _,h0⟩;obtain ⟨i,e,hi,p⟩:=p;have hl:i<xs.length:=by rcases Nat.lt_or_ge i xs.length with q | q;exact q;rw [Ex q] at e;cases e
 rw [BF hl,Hn] at e;obtain ⟨rfl,rfl⟩:=e;refine (hs i _ ρ (AA hl) p).imp fun fl q=>?_;cases fl with
 | nx ρ2=>exact ⟨i+1,rfl,hl,q⟩
 | cnt ρ2=>exact ⟨i+1,rfl,hl,q⟩
 | brk ρ2=>exact q
 | ret d=>exact q
 obtain ⟨i,e,hi,p⟩:=p;have:i=xs.length:=by have:=congrArg GK e;rw [FF,FY] at this;omega
 subst this;exact hd ρ p
theorem V_rng (h0:P 0 ρ)(hs:∀i ρ,i<n->P i ρ->V (turn b s (.int (lo+i)) ρ) (Tn (P (i+1)) Q))(hd:∀ρ,P n ρ->Q (.nx ρ)):V (forD b s (rngL lo n) ρ) Q:=
  V_forI h0 (fun i x ρ hx p=>by
    obtain ⟨hi,rfl⟩:=rngL_at hx;exact hs i ρ hi p) (fun ρ p=>hd ρ (by rw [rngL_length] at p;exact p))
theorem V_rng0 (h0:P 0 ρ)(hs:∀(i:Nat) ρ,i<n->P i ρ->V (turn b s (.int (i:Int)) ρ) (Tn (P (i+1)) Q))(hd:∀ρ,P n ρ->Q (.nx ρ)):V (forD b s (rngL 0 n) ρ) Q:=V_rng h0 (fun i ρ hi p=>by rw [DA];exact hs i ρ hi p) hd
@[simp] theorem turn_name (i:Nat)(s:FS)(x:D)(ρ:Env):turn (bName i) s x ρ=s (ρ.set i (some x)):=(rfl)
@[simp] theorem ev_fJoin (a b:FE)(ρ:Env):fJoin a b ρ=(a ρ).bind fun x=>match x with | .str s=>(b ρ).bind fun y=>oR (gJoin (.str s) y) | _=>.bad:=(rfl)
@[simp] theorem calm_bad :(R.bad:R α).calm=.bad:=(rfl)
@[simp] theorem gLst_7 (a0 a1 a2 a3 a4 a5 a6:D):gLst [a0,a1,a2,a3,a4,a5,a6]=some (.lst [a0,a1,a2,a3,a4,a5,a6]):=rfl
@[simp] theorem gLst_8 (a0 a1 a2 a3 a4 a5 a6 a7:D):gLst [a0,a1,a2,a3,a4,a5,a6,a7]=some (.lst [a0,a1,a2,a3,a4,a5,a6,a7]):=rfl
@[simp] theorem gLst_9 (a0 a1 a2 a3 a4 a5 a6 a7 a8:D):gLst [a0,a1,a2,a3,a4,a5,a6,a7,a8]=some (.lst [a0,a1,a2,a3,a4,a5,a6,a7,a8]):=rfl
theorem add_str {x y:Str}{m:Nat}(h:plain n x=true)(g:plain m y=true)(e:n+m<=1000):gAdd (.str x) (.str y)=some (.str (x++y)):=by unfold gAdd;simp only [];unfold plain at h g;rw [Aq] at h g;have:=of_decide_eq_true h.1;have:=of_decide_eq_true g.1;rw [if_pos (by show _<=1000000;omega)]
theorem neX (h:dep d<=20):gNe d d=some (.bl false):=by
 have hs:=gEq_self h;simp only [gEq] at hs;rw [if_pos ⟨h,h⟩] at hs;have:eqv d d=true:=by simpa using hs
 simp only [gNe];rw [if_pos ⟨h,h⟩,this];rfl
theorem depI (ws:List Int):dep (iD ws)<=20:=by have:=dep_iD ws;omega
def q_Deeds_init:FM:=
  (mbCons (sFld 0 "Deeds" ("done":Str) (fA gLst aNil))
    (mbEnd (sFld 0 "Deeds" ("undone":Str) (fA gLst aNil))))
def F_Deeds_init (ds:List D):R (D×D):=(runM 1 q_Deeds_init ds).calm
def q_Deeds_add:FM:=
  (mbCons (sFldApp 0 "Deeds" ("done":Str) (f1 gFlat (fV 1)))
    (mbEnd (sFld 0 "Deeds" ("undone":Str) (fA gLst aNil))))
def F_Deeds_add (ds:List D):R (D×D):=(runM 2 q_Deeds_add ds).calm
def q_Shelf_init:FM:=
  (mbCons (sFld 0 "Shelf" ("stands":Str) (fC (.dct [] [])))
    (mbCons (sFld 0 "Shelf" ("given":Str) (fC (.int 0)))
    (mbCons (sFld 0 "Shelf" ("laid":Str) (fC (.int 0)))
    (mbCons (sFld 0 "Shelf" ("cut":Str) (fC (.int 0)))
    (mbCons (sFld 0 "Shelf" ("scrapped":Str) (fC (.int 0)))
    (mbEnd (sFld 0 "Shelf" ("earned":Str) (fC (.int 0)))))))))
def F_Shelf_init (ds:List D):R (D×D):=(runM 1 q_Shelf_init ds).calm
def q_Shelf_put:FM:=
  (mbCons (sSet 2 (f1 gFlat (f1 (gFld "Shelf" ("given":Str)) (fV 0))))
    (mbCons (sFldPut 0 "Shelf" ("stands":Str) (fV 2) (f1 gFzL (fA gList (aCons (fV 1) aNil))))
    (mbCons (sFldAug 0 "Shelf" ("given":Str) gAddI (fC (.int 1)))
    (mbRet (f1 gFlat (fV 2))))))
def F_Shelf_put (ds:List D):R (D×D):=(runM 3 q_Shelf_put ds).calm
def q_Shelf_standing:FS:=
 (sRet (fA gSum (aCons (fComp 1 1 (jVals (f1 (gFldF "Shelf" ("stands":Str)) (fV 0))) (bName 1) cYes (fA gLen (aCons (fV 1) aNil))) aNil)))
def F_Shelf_standing (ds:List D):R D:=(run 1 q_Shelf_standing ds).calm
def q_anew__0:FS:=
  (sSeq (sIf (cE (f1 (gIsI "list") (fV 0))) sNever sNx)
    (sSeq (sIf (cE (f1 (gIsI "tuple") (fV 0))) sNever sNx)
    (sRet (f1 gFlat (fV 0)))))
def F_anew__0 (ds:List D):R D:=(run 1 q_anew__0 ds).calm
def q_lay__R:FS:=
  (sSeq (sIf (cE (f2 gGe (f1 gLenK (f1 (gFldF "Shelf" ("stands":Str)) (f1 (gFld "Stock" ("shelf":Str)) (fV 0)))) (fC (.int 40)))) (sRaise "Full" (aCons (f1 gFv (fC (.int 40))) aNil)) sNx)
    sNever)
def F_lay__R (ds:List D):R D:=run 3 q_lay__R ds
def q_Stock_numbers:FS:=
 (sRet (fA gSort (aCons (fA gListK (aCons (f1 (gFldF "Shelf" ("stands":Str)) (f1 (gFld "Stock" ("shelf":Str)) (fV 0))) aNil)) aNil)))
def F_Stock_numbers (ds:List D):R D:=(run 1 q_Stock_numbers ds).calm
def q_Stock_roll:FS:=
  (sSeq (sIf (cE (f2 gNotK (fV 1) (f1 (gFldF "Shelf" ("stands":Str)) (f1 (gFld "Stock" ("shelf":Str)) (fV 0))))) (sRaise "NoRoll" (aCons (f1 gFv (fV 1)) aNil)) sNx)
    (sRet (fA gList (aCons (f2 gAtK (f1 (gFldF "Shelf" ("stands":Str)) (f1 (gFld "Stock" ("shelf":Str)) (fV 0))) (fV 1)) aNil))))
def F_Stock_roll (ds:List D):R D:=run 2 q_Stock_roll ds
def q_roll__N:FS:=
  (sSeq (sIf (cE (f2 gNotK (fV 1) (f1 (gFldF "Shelf" ("stands":Str)) (f1 (gFld "Stock" ("shelf":Str)) (fV 0))))) sNever sNx)
    (sRet (fA gList (aCons (f2 gAtK (f1 (gFldF "Shelf" ("stands":Str)) (f1 (gFld "Stock" ("shelf":Str)) (fV 0))) (fV 1)) aNil))))
def F_roll__N (ds:List D):R D:=(run 2 q_roll__N ds).calm
def q_Stock_total:FS:=
 (sRet (f1 (gFldF "Shelf" ("earned":Str)) (f1 (gFld "Stock" ("shelf":Str)) (fV 0))))
def F_Stock_total (ds:List D):R D:=(run 1 q_Stock_total ds).calm
def q_Stock_enter:FM:=
  (mbCons (sDropM (mMethFld 0 "Stock" ("deeds":Str) "Deeds" ("add":Str) F_Deeds_add (aCons (fA gTup (aCons (f1 gFlat (f1 (gFld "Stock" ("shelf":Str)) (fV 0))) (aCons (f1 gFlat (fV 1)) (aCons (f1 gFlat (fV 2)) aNil)))) aNil)))
    (mbCons (sFld 0 "Stock" ("shelf":Str) (f1 gFlat (fV 1)))
    (mbRet (fCall F_anew__0 (aCons (fV 2) aNil)))))
def F_Stock_enter (ds:List D):R (D×D):=(runM 3 q_Stock_enter ds).calm
def q_Stock_sums:FS:=
  (sSeq (sSet 1 (f1 gFlat (f1 (gFld "Stock" ("shelf":Str)) (fV 0))))
    (sRet (fA gTup (aCons (f1 (gFldF "Shelf" ("laid":Str)) (fV 1)) (aCons (f1 (gFldF "Shelf" ("cut":Str)) (fV 1)) (aCons (f1 (gFldF "Shelf" ("scrapped":Str)) (fV 1)) (aCons (fMethF "Shelf" ("standing":Str) F_Shelf_standing (fV 1) aNil) aNil)))))))
def F_Stock_sums (ds:List D):R D:=(run 2 q_Stock_sums ds).calm
def q__law_full:FS:=
  (sSeq (sTry ["Full","NoRoll"] 2 1 (sDrop (fMeth "Stock" ("lay":Str) F_lay__R (fV 0) (aCons (fA gLst (aCons (fC (.int 0)) aNil)) aNil))) (sRet (fAnd (f1 (gIsT [("Full",true),("NoRoll",false)]) (fV 1)) (f1 gNot (f1 (gIsT [("Full",false),("NoRoll",false)]) (fV 1))))))
    (sRet (fC (.bl false))))
def F__law_full (ds:List D):R D:=(run 2 q__law_full ds).calm
def q__law_none:FS:=
  (sSeq (sTry ["Full","NoRoll"] 3 2 (sDrop (fMeth "Stock" ("roll":Str) F_Stock_roll (fV 0) (aCons (fV 1) aNil))) (sRet (fAnd (f1 (gIsT [("Full",false),("NoRoll",true)]) (fV 2)) (f1 gNot (f1 (gIsT [("Full",false),("NoRoll",false)]) (fV 2))))))
    (sRet (fC (.bl false))))
def F__law_none (ds:List D):R D:=(run 3 q__law_none ds).calm
def q_Shelf_another:FS:=
  (sSeq (sSet 1 (fMake "Shelf" F_Shelf_init aNil))
    (sSeq (sFld 1 "Shelf" ("stands":Str) (fA gDictK (aCons (f1 (gFldF "Shelf" ("stands":Str)) (fV 0)) aNil)))
    (sSeq (sFld 1 "Shelf" ("given":Str) (f1 (gFldF "Shelf" ("given":Str)) (fV 0)))
    (sSeq (sFld 1 "Shelf" ("laid":Str) (f1 (gFldF "Shelf" ("laid":Str)) (fV 0)))
    (sSeq (sFld 1 "Shelf" ("cut":Str) (f1 (gFldF "Shelf" ("cut":Str)) (fV 0)))
    (sSeq (sFld 1 "Shelf" ("scrapped":Str) (f1 (gFldF "Shelf" ("scrapped":Str)) (fV 0)))
    (sSeq (sFld 1 "Shelf" ("earned":Str) (f1 (gFldF "Shelf" ("earned":Str)) (fV 0)))
    (sRet (fV 1)))))))))
def F_Shelf_another (ds:List D):R D:=(run 2 q_Shelf_another ds).calm
def q_Stock_init:FM:=
  (mbCons (sFld 0 "Stock" ("kinds":Str) (fA gList (aCons (fV 1) aNil)))
    (mbCons (sFld 0 "Stock" ("least":Str) (f1 gFlat (fV 2)))
    (mbCons (sFld 0 "Stock" ("shelf":Str) (f1 gFzO (fMake "Shelf" F_Shelf_init aNil)))
    (mbEnd (sFld 0 "Stock" ("deeds":Str) (fMake "Deeds" F_Deeds_init aNil))))))
def F_Stock_init (ds:List D):R (D×D):=(runM 3 q_Stock_init ds).calm
def l__law_stands_7:FS:=
  (sSeq (sSet 5 (fMeth "Stock" ("roll":Str) F_roll__N (fV 0) (aCons (fV 4) aNil)))
    (sSeq (sIf (cOr (cNot (cE (f1 (gIsI "list") (fV 5)))) (cE (f2 gNeF (fV 5) (f2 gIx (fV 1) (fV 4))))) (sRet (fC (.bl false))) sNx)
    (sApp 5 (fC (.int 5)))))
def q__law_stands:FS:=
  (sSeq (sSet 2 (fA gSum (aCons (fComp 6 1 (jList (fV 1)) (bName 6) cYes (fA gLen (aCons (fV 6) aNil))) aNil)))
    (sSeq (sSet 3 (fMeth "Stock" ("numbers":Str) F_Stock_numbers (fV 0) aNil))
    (sSeq (sIf (cOr (cE (f2 gNe (fV 3) (fA gList (aCons (fA gRange (aCons (fA gLen (aCons (fV 1) aNil)) aNil)) aNil)))) (cE (f2 gNe (fMeth "Stock" ("total":Str) F_Stock_total (fV 0) aNil) (fC (.int 0))))) (sRet (fC (.bl false))) sNx)
    (sSeq (sIf (cE (f2 gNe (fMeth "Stock" ("sums":Str) F_Stock_sums (fV 0) aNil) (fA gTup (aCons (fV 2) (aCons (fC (.int 0)) (aCons (fC (.int 0)) (aCons (fV 2) aNil))))))) (sRet (fC (.bl false))) sNx)
    (sSeq (sFor (jRng1 (aCons (fA gLen (aCons (fV 1) aNil)) aNil)) (bName 4) l__law_stands_7)
    (sSeq (sApp 3 (fC (.int 5)))
    (sRet (fAnd (fCall F__law_none (aCons (fV 0) (aCons (fA gLen (aCons (fV 1) aNil)) aNil))) (fCall F__law_none (aCons (fV 0) (aCons (f1 gNeg (fC (.int 1))) aNil)))))))))))
def F__law_stands (ds:List D):R D:=(run 6 q__law_stands ds).calm
def q_Stock_lay:FM:=
  (mbCons (sIf (cE (f2 gGe (f1 gLenK (f1 (gFldF "Shelf" ("stands":Str)) (f1 (gFld "Stock" ("shelf":Str)) (fV 0)))) (fC (.int 40)))) sNever sNx)
    (mbCons (sSet 2 (fMethF "Shelf" ("another":Str) F_Shelf_another (f1 (gFld "Stock" ("shelf":Str)) (fV 0)) aNil))
    (mbCons (sFldAug 2 "Shelf" ("laid":Str) gAddI (fA gLen (aCons (fV 1) aNil)))
    (mEnter 2 "Stock" ("enter":Str) F_Stock_enter "Shelf" ("put":Str) F_Shelf_put (aCons (fV 1) aNil)))))
def F_Stock_lay (ds:List D):R (D×D):=(runM 3 q_Stock_lay ds).calm
def l_law_14:FS:=
  (sIf (cE (f2 gEq (fA gLen (aCons (fV 7) aNil)) (fC (.int 40)))) (sIf (cNot (cE (fCall F__law_full (aCons (fV 5) aNil)))) (sRet (fC (.bl false))) sNx) (sSeq (sSet 9 (fA gList (aCons (fV 8) aNil)))
    (sSeq (sSetM 10 (mMeth 5 "Stock" ("lay":Str) F_Stock_lay (aCons (fV 9) aNil)))
    (sSeq (sIf (cOr (cNot (cE (fCall F__law_is_whole (aCons (fV 10) aNil)))) (cOr (cE (f2 gNe (fV 10) (fA gLen (aCons (fV 7) aNil)))) (cE (f2 gNeF (fV 9) (fV 8))))) (sRet (fC (.bl false))) sNx)
    (sSeq (sApp 9 (fC (.int 9)))
    (sSeq (sPut 9 (fC (.int 0)) (f2 gAdd (f2 gIx (fV 9) (fC (.int 0))) (fC (.int 1))))
    (sApp 7 (f1 gFlat (fV 8)))))))))
def q_law:FS:=
  (sSeq (sSet 1 (fCall F__law_row (aCons (fV 0) (aCons (fC (.int 30)) (aCons (fA gLst (aCons (fC (.int 13)) (aCons (fC (.int 4)) (aCons (fC (.int 4)) (aCons (fC (.int 4)) aNil))))) aNil)))))
    (sSeq (sSet 2 (fCall F__law_flaw (aCons (fV 0) (aCons (fC (.int 0)) (aCons (fC (.int 4)) aNil)))))
    (sSeq (sSet 3 (fCall F__law_table (aCons (fV 0) (aCons (fC (.int 0)) (aCons (fC (.int 4)) aNil)))))
    (sSeq (sSet 4 (fA gList (aCons (fV 3) aNil)))
    (sSeq (sSet 5 (fMake "Stock" F_Stock_init (aCons (fV 3) (aCons (f2 gIx (fA gLst (aCons (fC (.int 1)) (aCons (fC (.int 2)) (aCons (fC (.int 3)) (aCons (fC (.int 6)) aNil))))) (f2 gIx (fV 1) (fC (.int 3)))) aNil))))
    (sSeq (sIf (cOr (cE (f2 gNe (fV 3) (fV 4))) (cNot (cE (fCall F__law_none (aCons (fV 5) (aCons (f2 gPow (fC (.int 10)) (fC (.int 59))) aNil)))))) (sRet (fC (.bl false))) sNx)
    (sSeq (sApp 3 (fA gTup (aCons (fC (.str ("other":Str))) (aCons (fC (.int 1)) (aCons (fC (.int 1)) (aCons (fC (.int 0)) aNil))))))
    (sSeq (sPut 3 (fC (.int 0)) (fA gTup (aCons (fC (.str ("more":Str))) (aCons (fC (.int 1)) (aCons (fC (.int 9)) (aCons (fC (.int 0)) aNil))))))
    (sSeq (sSet 6 (fComp 11 1 (jRng1 (aCons (f2 gIx (fV 1) (fC (.int 0))) aNil)) (bName 11) cYes (f1 gFzL (fCall F__law_roll (aCons (fV 0) (aCons (f2 gAdd (fC (.int 1)) (fV 11)) (aCons (fC (.int 20)) (aCons (fV 2) aNil))))))))
    (sSeq (sIf (cE (f2 gEq (f2 gIx (fV 1) (fC (.int 1))) (fC (.int 0)))) (sSet 6 (f2 gAdd (fComp 11 1 (jRng1 (aCons (f2 gAdd (fC (.int 38)) (f2 gIx (fV 1) (fC (.int 2)))) aNil)) (bName 11) cYes (f1 gFzL (fA gLst (aCons (f1 gFlat (fV 11)) aNil)))) (fV 6))) sNx)
    (sSeq (sSet 7 (fA gLst aNil))
    (sSeq (sFor (jList (fV 6)) (bName 8) l_law_14)
    (sRet (fAnd (fCall F__law_stands (aCons (fV 5) (aCons (fV 7) aNil))) (fCall F__law_stands (aCons (fV 5) (aCons (fV 7) aNil)))))))))))))))))
def F_law (ds:List D):R D:=(run 11 q_law ds).calm
def nSh:List Str:=["stands","given","laid","cut","scrapped","earned"]
def nSt:List Str:=["kinds","least","shelf","deeds"]
def nDe:List Str:=["done","undone"]
def kyL (n:Nat):List (Int ⊕ Str):=(AW n).map fun (i:Nat)=>.inl (i:Int)
def rlD (r:List Int):D:=.flst (r.map D.int)
def flD (L:List (List Int)):List D:=L.map rlD
def cel (L:List (List Int)):Int:=(L.map fun r=>(r.length:Int)).sum
def shF (L:List (List Int)):D:=.fobj "Shelf" nSh [.fdk (kyL L.length) (flD L),.int (L.length:Int),.int (cel L),.int 0,.int 0,.int 0]
def shO (L:List (List Int))(l:Int):D:=.obj "Shelf" nSh [.dct (kyL L.length) (flD L),.int (L.length:Int),.int l,.int 0,.int 0,.int 0]
def deO (hs:List D):D:=.obj "Deeds" nDe [.lst hs,.lst []]
def stO (kd:List D)(le:Int)(hs:List D)(L:List (List Int)):D:=.obj "Stock" nSt [.lst kd,.int le,shF L,deO hs]
theorem kyL_len (n:Nat):(kyL n).length=n:=by simp [kyL]
theorem kyL_succ (n:Nat):kyL (n+1)=kyL n++[.inl (n:Int)]:=by simp [kyL,FW]
theorem kyL_ok (n:Nat):(kyL n).all kOk=true:=by simp [kyL,kOk]
theorem flD_flat (L:List (List Int)):flatA (flD L)=true:=by
 induction L with
 | nil=>rfl
 | cons r L ih=>exact (Aq _ _).mpr ⟨rfl,ih⟩
theorem ints_flat (r:List Int):flatA (r.map D.int)=true:=by
 induction r with
 | nil=>rfl
 | cons x r ih=>exact (Aq _ _).mpr ⟨rfl,ih⟩
theorem cel_app (L:List (List Int))(r:List Int):cel (L++[r])=cel L+r.length:=by simp [cel]
theorem flD_app (L:List (List Int))(r:List Int):flD (L++[r])=flD L++[rlD r]:=by simp [flD]
theorem ky_has (n:Nat)(i:Int):dHas (kyL n) (.inl i)=decide (0<=i/\i<n):=by unfold dHas kyL;rw [Ct];simp only [List.any_eq_true,Gy,CG,decide_eq_true_eq];constructor;rintro ⟨_,⟨k,hk,rfl⟩,e⟩;cases e;omega;intro h;exact ⟨.inl i,⟨i.toNat,by omega,by rw [Cb h.1]⟩,rfl⟩
theorem at_app (ks:List (Int ⊕ Str))(xs:List D)(k:Int ⊕ Str)(ks2:List (Int ⊕ Str))(xs2:List D)(hl:ks.length=xs.length)(h:k∉ks):dAt (ks++ks2) (xs++xs2) k=dAt ks2 xs2 k:=by
 induction ks generalizing xs with
 | nil =>
  cases xs with
  | nil=>rfl
  | cons x xs=>cases hl
 | cons j ks ih =>
  cases xs with
  | nil=>cases hl
  | cons x xs =>show (if j=k then some x else dAt (ks++ks2) (xs++xs2) k)=_;rw [if_neg fun z=>h (by rw [z];exact .head _)];exact ih xs (by simpa using hl) fun z=>h (.tail _ z)
theorem ky_at (L:List (List Int))(k:Nat)(h:k<L.length):dAt (kyL L.length) (flD L) (.inl (k:Int))=some (rlD L[k]):=by
 have e1:kyL L.length=kyL k++((.inl (k:Int))::((List.range' (k+1) (L.length - (k+1))).map fun (i:Nat)=>.inl (i:Int))):=by unfold kyL;rw [EW,EW,show L.length=k+(1+(L.length - (k+1))) by omega,<- List.range'_append_1,BM,EL 1,List.range'_succ];simp;congr 2;omega
 have e2:flD L=flD (L.take k)++(rlD L[k]::flD (L.drop (k+1))):=by have e:=congrArg flD (List.take_append_drop k L).symm;rw [BF h] at e;exact e.trans BM
 rw [e1,e2,at_app _ _ _ _ _ (by simp [kyL,flD];omega) (by simp [kyL];omega)];exact if_pos rfl
theorem r_mbS {r:FM}(h:s ρ=.ok (.nx ρ'))(h2:r ρ'=p):mbCons s r ρ=p:=by unfold mbCons;rw [h];exact h2
theorem r_mbRetS (h:e ρ=.ok d):mbRet e ρ=.ok (d,ρ):=by unfold mbRet;rw [h];rfl
theorem r_mbEndS (h:s ρ=.ok (.nx ρ')):mbEnd s ρ=.ok (.non,ρ'):=r_mbS h rfl
theorem r_runMS {G:FM}(h:G (ds.map some++Aa (N - ds.length) none)=.ok (d,ρ))(h0:ρ[0]?=some (some o)):(runM N G ds).calm=.ok (d,o):=by unfold runM;rw [h];show (match ρ[0]? with | some (some d1)=>R.ok (d,d1) | _=>.bad).calm=_;rw [h0];rfl
theorem r_fldS (he:e ρ=.ok d)(ho:ρ[i]?=some (some o))(hp:putO c f d o=some o'):sFld i c f e ρ=.ok (.nx (ρ.set i (some o'))):=by simp [sFld,he,ho,hp]
theorem r_fldAppS (ho:ρ[i]?=some (some o))(hg:gFld c f o=some (.lst ys))(he:e ρ=.ok d)(ha:appO c f d o=some o'):sFldApp i c f e ρ=.ok (.nx (ρ.set i (some o'))):=by simp [sFldApp,ho,hg,he,ha]
theorem r_dropMS (h:a ρ=.ok (d,ρ')):sDropM a ρ=.ok (.nx ρ'):=by unfold sDropM;rw [h];rfl
theorem r_setMS (h:a ρ=.ok (d,ρ')):sSetM i a ρ=.ok (.nx (ρ'.set i (some d))):=by unfold sSetM;rw [h];rfl
theorem r_methF {a:FE}{r:R D}(ha:a ρ=.ok (.fobj c ns xs))(hm:fIx m ns=none)(hs:args ρ=.ok ys)(h:F (.fobj c ns xs::ys)=r):fMethF c m F a args ρ=r:=by unfold fMethF;rw [ha];show (if c=c/\fIx m ns=none then (args ρ).bind fun ys=>F (.fobj c ns xs::ys) else .bad)=_;rw [if_pos ⟨rfl,hm⟩,hs];exact h
theorem shelf_new:F_Shelf_init [.obj "Shelf" [] []]=.ok (.non,shO [] 0):=by rfl
theorem deeds_new:F_Deeds_init [.obj "Deeds" [] []]=.ok (.non,deO []):=by rfl
theorem dadd_ok (hs:List D)(d:D)(hf:flat d=true)(hl:hs.length<lim):F_Deeds_add [deO hs,d]=.ok (.non,deO (hs++[d])):=by refine r_runMS (r_mbS (r_fldAppS (o:=deO hs) (d:=d) (o':=deO (hs++[d])) rfl rfl (r_f1 rfl (if_pos hf)) ?_) (r_mbEndS (r_fldS (d:=.lst []) (o:=deO (hs++[d])) (o':=deO (hs++[d])) rfl rfl ?_))) rfl;show (match some (D.lst hs) with | some (.lst ys)=>if ys.length<lim then some (D.obj "Deeds" nDe ([D.lst hs,D.lst []].set 0 (D.lst (ys++[d])))) else none | _=>none)=_;exact if_pos hl;rfl
theorem anew_int (n:Int):F_anew__0 [.int n]=.ok (.int n):=by rfl
theorem r_methFld (hi:ρ[i]?=some (some (.obj c ns ds)))(hf:fIx f ns=some j)(hj:ds[j]?=some (.obj c2 ns2 ds2))(hm:fIx m ns2=none)(ha:args ρ=.ok ys)(h:G (.obj c2 ns2 ds2::ys)=.ok (d,o)):mMethFld i c f c2 m G args ρ=.ok (d,ρ.set i (some (.obj c ns (ds.set j o)))):=by unfold mMethFld;rw [hi];show (if c=c then match fIx f ns with | some j=>_ | none=>R.bad else R.bad)=_;rw [if_pos rfl,hf];show (match ds[j]? with | some (.obj c2' ns2 ds2)=>_ | _=>R.bad)=_;rw [hj];show (if c2=c2/\fIx m ns2=none then _ else _)=_;rw [if_pos ⟨rfl,hm⟩,ha];show (G (.obj c2 ns2 ds2::ys)).bind _=_;rw [h];rfl
theorem enter_ok (kd:List D)(le:Int)(hs:List D)(L L':List (List Int))(n:Int)(hl:hs.length<lim):F_Stock_enter [stO kd le hs L,shF L',.int n]=.ok (.int n,stO kd le (hs++[.tup [shF L,shF L',.int n]]) L'):=by
  have a:=dadd_ok hs (.tup [shF L,shF L',.int n]) rfl hl;refine r_runMS (r_mbS (r_dropMS (r_methFld (i:=0) (ns:=nSt) (ds:=[.lst kd,.int le,shF L,deO hs]) (j:=3) rfl rfl rfl (by decide +kernel) (r_cons (r_fA (r_cons (r_f1 (x:=shF L) rfl rfl) (r_cons (r_f1 (x:=shF L') rfl rfl) (r_cons (r_f1 (x:=.int n) rfl rfl) rfl))) rfl) rfl) a))
    (r_mbS (r_fldS (d:=shF L') (o:=stO kd le (hs++[.tup [shF L,shF L',.int n]]) L) (o':=stO kd le (hs++[.tup [shF L,shF L',.int n]]) L') (r_f1 (x:=shF L') rfl rfl) rfl rfl) (r_mbRetS (r_call (r_cons (x:=.int n) rfl rfl) (anew_int n))))) rfl
theorem another_ok (L:List (List Int))(hl:L.length<=lim):F_Shelf_another [shF L]=.ok (shO L (cel L)):=by
  have e:gDictK [.fdk (kyL L.length) (flD L)]=some (.dct (kyL L.length) (flD L)):=if_pos ⟨by rw [kyL_len];exact hl,flD_flat L⟩;exact r_run (r_seq (r_set (r_make rfl shelf_new)) (r_seq (r_fldS (d:=.dct (kyL L.length) (flD L)) (o:=shO [] 0) (r_fA (r_cons (x:=.fdk (kyL L.length) (flD L)) rfl rfl) e) rfl rfl)
    (r_seq (r_fldS (d:=.int (L.length:Int)) rfl rfl rfl) (r_seq (r_fldS (d:=.int (cel L)) rfl rfl rfl) (r_seq (r_fldS (d:=.int 0) rfl rfl rfl) (r_seq (r_fldS (d:=.int 0) rfl rfl rfl) (r_seq (r_fldS (d:=.int 0) rfl rfl rfl) (r_ret rfl))))))))
theorem r_fldPutS {k:FE}(he:e ρ=.ok d)(hi:ρ[i]?=some (some (.obj c ns ds)))(hf:fIx f ns=some j)(hj:ds[j]?=some (.dct ks xs))(hk:k ρ=.ok z)(hz:keyD z=some q)(hd:flat d=true)(hx:flatA xs=true)(hl:ks.length<lim) :
  sFldPut i c f k e ρ=.ok (.nx (ρ.set i (some (.obj c ns (ds.set j (dPut ks xs q d)))))):=by
 unfold sFldPut;rw [he];show (match ρ[i]? with | some (some (.obj c' ns ds))=>_ | _=>R.bad)=_;rw [hi];show (if c=c then match fIx f ns with | some j=>_ | none=>R.bad else R.bad)=_;rw [if_pos rfl,hf];show (match ds[j]? with | some (.dct ks xs)=>_ | _=>R.bad)=_;rw [hj];show (k ρ).bind _=_;rw [hk];show (match keyD z with | some q=>_ | none=>R.bad)=_;rw [hz];exact if_pos ⟨hd,hx,hl⟩
theorem r_fldAugS {k z:Int}(hi:ρ[i]?=some (some o))(hg:gFld c f o=some (.int k))(he:e ρ=.ok d)(hz:g (.int k) d=some (.int z))(hp:putO c f (.int z) o=some o'):sFldAug i c f g e ρ=.ok (.nx (ρ.set i (some o'))):=by simp [sFldAug,hi,hg,he,hz,hp]
theorem put_ok (L:List (List Int))(l:Int)(r:List Int)(hl:L.length<lim):F_Shelf_put [shO L l,.lst (r.map D.int)]=.ok (.int (L.length:Int),shO (L++[r]) l):=by
  have p:dPut (kyL L.length) (flD L) (.inl (L.length:Int)) (rlD r)=.dct (kyL (L.length+1)) (flD (L++[r])):=by unfold dPut;rw [ky_has,if_neg (by simp),kyL_succ,flD_app]
  have hp:F_Shelf_put [shO L l,.lst (r.map D.int)]=.ok (.int (L.length:Int),.obj "Shelf" nSh [.dct (kyL (L.length+1)) (flD (L++[r])),.int ((L.length:Int)+1),.int l,.int 0,.int 0,.int 0]):=by
    refine r_runMS (o:=.obj "Shelf" nSh [.dct (kyL (L.length+1)) (flD (L++[r])),.int ((L.length:Int)+1),.int l,.int 0,.int 0,.int 0]) (r_mbS (r_set (r_f1 (x:=.int (L.length:Int)) rfl rfl)) (r_mbS (r_fldPutS (d:=rlD r) (z:=.int (L.length:Int)) (ns:=nSh) (j:=0) (ks:=kyL L.length) (xs:=flD L) (r_f1 (r_fA (r_cons (x:=.lst (r.map D.int)) rfl rfl) (if_pos (ints_flat r))) (if_pos (ints_flat r))) rfl rfl rfl rfl rfl rfl (flD_flat L) (by rw [kyL_len];exact hl))
      (r_mbS (r_fldAugS (k:=(L.length:Int)) (z:=(L.length:Int)+1) (o':=.obj "Shelf" nSh [.dct (kyL (L.length+1)) (flD (L++[r])),.int ((L.length:Int)+1),.int l,.int 0,.int 0,.int 0]) rfl rfl rfl rfl ?_) (r_mbRetS (r_f1 (x:=.int (L.length:Int)) rfl rfl))))) rfl
    rw [p];rfl
  rw [hp];unfold shO;rw [Az];rfl
theorem fz_sh (L:List (List Int))(l:Int)(h:cel L=l):gFzO (shO L l)=some (shF L):=by subst h;exact if_pos ⟨flD_flat L,rfl⟩
theorem r_enter {r o2:D}(h0:ρ[(0:Nat)]?=some (some (.obj c ns ds)))(hi:ρ[i]?=some (some (.obj c2 ns2 ds2)))(hm:fIx m ns=none)(hm2:fIx m2 ns2=none)(ha:args ρ=.ok ys)(h:G2 (.obj c2 ns2 ds2::ys)=.ok (d,o))(hz:gFzO o=some z)(hf:flat d=true)(h2:G [.obj c ns ds,z,d]=.ok (r,o2)) :
  mEnter i c m G c2 m2 G2 args ρ=.ok (r,(ρ.set i none).set 0 (some o2)):=by
 unfold mEnter;rw [h0,hi];show (if c=c/\fIx m ns=none/\c2=c2/\fIx m2 ns2=none then _ else _)=_;rw [if_pos ⟨rfl,hm,rfl,hm2⟩,ha];show (G2 (.obj c2 ns2 ds2::ys)).bind _=_;rw [h];show (match gFzO o with | some z=>_ | none=>R.bad)=_;rw [hz];show (if flat d=true then _ else _)=_;rw [if_pos hf];show (G [.obj c ns ds,z,d]).bind _=_;rw [h2];rfl
theorem lay_ok (kd:List D)(le:Int)(hs:List D)(L:List (List Int))(r:List Int)(hl:L.length<40)(hh:hs.length<lim) :
    F_Stock_lay [stO kd le hs L,.lst (r.map D.int)]=.ok (.int (L.length:Int),stO kd le (hs++[.tup [shF L,shF (L++[r]),.int (L.length:Int)]]) (L++[r])):=by
  have hL:L.length<lim:=by show _<1000000;omega
  have g:gGe (.int ((kyL L.length).length:Int)) (.int 40)=some (.bl false):=by rw [kyL_len];exact bl_f (by omega)
  refine r_runMS (r_mbS (r_ifF (r_cE (r_f2 (r_f1 (x:=.fdk (kyL L.length) (flD L)) rfl rfl) rfl g)) rfl) (r_mbS (r_set (r_methF (ns:=nSh) rfl (by decide +kernel) rfl (another_ok L (D4 hL))))
    (r_mbS (r_fldAugS (k:=cel L) (z:=cel L+(r.length:Int)) (o:=shO L (cel L)) (o':=shO L (cel L+r.length)) rfl rfl (r_fA (r_cons (x:=.lst (r.map D.int)) rfl rfl) (show gLen [.lst (r.map D.int)]=some (.int (r.length:Int)) by simp [gLen])) rfl rfl)
    (r_enter (ns:=nSt) (ds:=[.lst kd,.int le,shF L,deO hs]) rfl rfl (by decide +kernel) (by decide +kernel) (r_cons (x:=.lst (r.map D.int)) rfl rfl) (put_ok L _ r hL) (fz_sh _ _ (cel_app L r)) rfl (enter_ok kd le hs L (L++[r]) _ hh))))) rfl
theorem r_seqES {f g:FS}(h:f ρ=.err c x):sSeq f g ρ=.err c x:=by unfold sSeq;rw [h];rfl
theorem r_dropES (h:e ρ=.err c x):sDrop e ρ=.err c x:=by unfold sDrop;rw [h];rfl
theorem run_errS {b:FS}(h:b (ds.map some++Aa (N - ds.length) none)=.err c x):run N b ds=.err c x:=by unfold run;rw [h];rfl
section
variable (kd:List D)(le:Int)(hs:List D)(L:List (List Int))
theorem layR_full (h:40<=L.length)(x:D):F_lay__R [stO kd le hs L,x]=.err "Full" none:=by
 have g:gGe (.int ((kyL L.length).length:Int)) (.int 40)=some (.bl true):=by rw [kyL_len];exact bl_t (by omega)
 exact run_errS (r_seqES (r_ifT (r_cE (r_f2 (r_f1 (x:=.fdk (kyL L.length) (flD L)) rfl rfl) rfl g)) rfl))
theorem full_ok (h:40<=L.length):F__law_full [stO kd le hs L]=.ok (.bl true):=by refine r_run (r_seqR ?_);show sTry _ 2 1 _ _ [some (stO kd le hs L),none]=_;rw [ev_sTry,r_dropES (r_meth (ns:=nSt) (xs:=[.lst kd,.int le,shF L,deO hs]) (ys:=[.lst [.int 0]]) rfl (by decide +kernel) rfl (layR_full kd le hs L h _))];rfl
theorem roll_none {i:Int}(h:¬(0<=i/\i<L.length))(hi:i.natAbs<2 ^ 200):F_Stock_roll [stO kd le hs L,.int i]=.err "NoRoll" none:=by
 have g:gNotK (.int i) (.fdk (kyL L.length) (flD L))=some (.bl true):=by show some (D.bl (!dHas (kyL L.length) (.inl i)))=_;rw [ky_has,decide_eq_false h];rfl
 have v:gFv (.int i)=some (.int i):=if_pos hi;refine run_errS (r_seqES (r_ifT (r_cE (r_f2 (x:=.int i) (y:=.fdk (kyL L.length) (flD L)) rfl rfl g)) ?_));unfold sRaise;rw [r_cons (x:=.int i) (r_f1 (x:=.int i) rfl v) (xs:=[]) rfl];rfl
theorem none_ok {i:Int}(h:¬(0<=i/\i<L.length))(hi:i.natAbs<2 ^ 200):F__law_none [stO kd le hs L,.int i]=.ok (.bl true):=by refine r_run (r_seqR ?_);show sTry _ 3 2 _ _ [some (stO kd le hs L),some (.int i),none]=_;rw [ev_sTry,r_dropES (r_meth (ns:=nSt) (xs:=[.lst kd,.int le,shF L,deO hs]) (ys:=[.int i]) rfl (by decide +kernel) rfl (roll_none kd le hs L h hi))];rfl
theorem roll_at {k:Nat}(h:k<L.length):F_roll__N [stO kd le hs L,.int (k:Int)]=.ok (iD L[k]):=by
 have g:gNotK (.int (k:Int)) (.fdk (kyL L.length) (flD L))=some (.bl false):=by show some (D.bl (!dHas (kyL L.length) (.inl (k:Int))))=_;rw [ky_has,decide_eq_true (by omega)];rfl
 have a:gAtK (.fdk (kyL L.length) (flD L)) (.int (k:Int))=some (rlD L[k]):=by show (if flatA (flD L)=true then dAt (kyL L.length) (flD L) (.inl (k:Int)) else none)=_;rw [if_pos (flD_flat L)];exact ky_at L k h
 exact r_run (r_seq (r_ifF (r_cE (r_f2 (x:=.int (k:Int)) (y:=.fdk (kyL L.length) (flD L)) rfl rfl g)) rfl) (r_ret (r_fA (r_cons (r_f2 (x:=.fdk (kyL L.length) (flD L)) (y:=.int (k:Int)) rfl rfl a) rfl) (if_pos (ints_flat _)))))
theorem ky_rng (n:Nat):(kyL n).map kyD=rngL 0 n:=by unfold kyL rngL;rw [Et];refine Dt fun i _=>?_;show D.int (i:Int)=D.int (0+(i:Int));rw [DA]
theorem rng_map (n:Nat):rngL 0 n=((AW n).map fun (i:Nat)=>(i:Int)).map D.int:=by unfold rngL;rw [Et];refine Dt fun i _=>?_;show D.int (0+(i:Int))=D.int (i:Int);rw [DA]
theorem sort_rng (n:Nat)(h:n<64):gSort [.lst (rngL 0 n)]=some (.lst (rngL 0 n)):=by
 have p:((AW n).map fun (i:Nat)=>(i:Int)).Pairwise (fun a b=>decide (a<=b)=true):=by rw [Fx];refine (List.pairwise_lt_range).imp fun {a b} h=>?_;exact decide_eq_true (by omega)
 show (intsOf (rngL 0 n)).bind _=_;rw [rng_map,ints_map];show (if ((AW n).map fun (i:Nat)=>(i:Int)).length<64 then some (D.lst ((sortI ((AW n).map fun (i:Nat)=>(i:Int))).map D.int)) else none)=_;rw [if_pos (by rw [Ap,CJ];exact h)];unfold sortI;rw [List.mergeSort_of_pairwise p]
theorem numbers_ok (h:L.length<64):F_Stock_numbers [stO kd le hs L]=.ok (.lst (rngL 0 L.length)):=by
 have g:gListK [.fdk (kyL L.length) (flD L)]=some (.lst (rngL 0 L.length)):=by show (if (kyL L.length).length<=lim/\(kyL L.length).all kOk=true then some (D.lst ((kyL L.length).map kyD)) else none)=_;rw [if_pos ⟨by rw [kyL_len];show _<=1000000;omega,kyL_ok _⟩,ky_rng]
 exact r_run (r_ret (r_fA (r_cons (r_fA (r_cons (x:=.fdk (kyL L.length) (flD L)) rfl rfl) g) rfl) (sort_rng _ h)))
theorem total_ok:F_Stock_total [stO kd le hs L]=.ok (.int 0):=by rfl
theorem lens_c (hn:ρ.length=n):compN 1 (bName n) cYes (fA gLen (aCons (fV n) aNil)) ρ (flD L)=.ok ((L.map fun r=>(r.length:Int)).map D.int):=by
 have e:(L.map fun r=>(r.length:Int)).map D.int=L.map fun r=>D.int (r.length:Int):=by rw [Et];rfl
 rw [e];refine comp1' hn fun l _=>?_;have vn:fV n (ρ++[some (rlD l)])=.ok (rlD l):=by unfold fV;rw [Bk (by rw [hn];exact AM _),hn,EJ];rfl
 exact r_fA (r_cons vn rfl) (show gLen [rlD l]=some (.int (l.length:Int)) by simp [rlD,gLen])
theorem standing_ok (h:L.length<64):F_Shelf_standing [shF L]=.ok (.int (cel L)):=by
 have j:jVals (f1 (gFldF "Shelf" ("stands":Str)) (fV 0)) [some (shF L)]=.ok (flD L):=by unfold jVals;rw [r_f1 (x:=shF L) (z:=.fdk (kyL L.length) (flD L)) rfl rfl];show (if (kyL L.length).length<=lim/\flatA (flD L)=true then R.ok (flD L) else .bad)=_;rw [if_pos ⟨by rw [kyL_len];show _<=1000000;omega,flD_flat L⟩]
 exact r_run (r_ret (r_fA (r_cons (r_comp (n:=1) rfl j (lens_c L rfl)) rfl) (sum_ints _)))
theorem ssums_ok (h:L.length<64):F_Stock_sums [stO kd le hs L]=.ok (.tup [.int (cel L),.int 0,.int 0,.int (cel L)]):=r_run (r_seq (r_set (r_f1 (x:=shF L) rfl rfl)) (r_ret (r_fA (r_cons (x:=.int (cel L)) rfl (r_cons (x:=.int 0) rfl (r_cons (x:=.int 0) rfl (r_cons (r_methF (ns:=nSh) rfl (by decide +kernel) rfl (standing_ok L h)) rfl)))) rfl)))
theorem neF_self (r:List Int):gNeF (iD r) (rlD r)=some (.bl false):=neX (depI r)
theorem stands_loop (hr:∀r∈L,r.length<=100)(a b:D) :
  V (forD (bName 4) l__law_stands_7 (rngL 0 L.length) [some (stO kd le hs L),some (.lst (flD L)),some a,some b,none,none]) (fun fl=>∃o4 o5,fl=.nx [some (stO kd le hs L),some (.lst (flD L)),some a,some b,o4,o5]):=by
 refine V_rng0 (P:=fun i ρ=>∃o4 o5,ρ=[some (stO kd le hs L),some (.lst (flD L)),some a,some b,o4,o5]) ⟨none,none,rfl⟩ (fun i ρ hi q=>?_) (fun ρ q=>?_);obtain ⟨o4,o5,rfl⟩:=q;rw [turn_name];have ix:gIx (.lst (flD L)) (.int (i:Int))=some (rlD L[i]):=ix_l (k:=i) rfl (by unfold flD;rw [Bg,AA hi];rfl);have e:l__law_stands_7 [some (stO kd le hs L),some (.lst (flD L)),some a,some b,some (.int (i:Int)),o5]=.ok (.nx [some (stO kd le hs L),some (.lst (flD L)),some a,some b,some (.int (i:Int)),some (.lst (L[i].map D.int++[.int 5]))]):=by refine r_seq (r_set (r_meth (ns:=nSt) (xs:=[.lst kd,.int le,shF L,deO hs]) (ys:=[.int (i:Int)]) rfl (by decide +kernel) rfl (roll_at kd le hs L hi))) (r_seq (r_ifF (r_cOrF (r_cNot (b:=true) (r_cE (r_f1 (x:=iD L[i]) rfl rfl))) (r_cE (r_f2 (x:=iD L[i]) rfl (r_f2 (x:=.lst (flD L)) rfl rfl ix) (neF_self _)))) rfl) (r_app (xs:=L[i].map D.int) rfl rfl ?_));rw [Ap];have:=hr L[i] (DE hi);show _<1000000;omega
 show V (l__law_stands_7 [some (stO kd le hs L),some (.lst (flD L)),some a,some b,some (.int (i:Int)),o5]) _;rw [e];exact ⟨_,_,rfl⟩;obtain ⟨o4,o5,rfl⟩:=q;exact ⟨o4,o5,rfl⟩
theorem nx_of {P:Fl->Prop}(h:V r P):∃fl,r=.ok fl/\P fl:=by
 cases r with
 | ok fl=>exact ⟨fl,rfl,h⟩
 | err c x=>exact h.elim
 | bad=>exact h.elim
theorem stands_ok (h:L.length<64)(hr:∀r∈L,r.length<=100):F__law_stands [stO kd le hs L,.lst (flD L)]=.ok (.bl true):=by
  have hlen:(flD L).length=L.length:=by unfold flD;rw [Ap]
  have ln:gLen [.lst (flD L)]=some (.int (L.length:Int)):=by show some (D.int ((flD L).length:Int))=_;rw [hlen]
  have lm:L.length<=lim:=by show _<=1000000;omega
  have jl:jList (fV 1) [some (stO kd le hs L),some (.lst (flD L)),none,none,none,none]=.ok (flD L):=r_jList rfl (by rw [hlen];exact lm);have gl:gList [.rng 0 (L.length:Int)]=some (.lst (rngL 0 L.length)):=by
    show (if -1000000000<=(0:Int)/\(0:Int)<=1000000000/\-1000000000<=(L.length:Int)/\(L.length:Int)<=1000000000/\((L.length:Int) - 0).toNat<=lim then some (D.lst (rngL 0 ((L.length:Int) - 0).toNat)) else none)=_;have e:((L.length:Int) - 0).toNat=L.length:=by omega
    rw [e,if_pos ⟨by omega,by omega,by omega,by omega,lm⟩]
  have n1:gNe (.lst (rngL 0 L.length)) (.lst (rngL 0 L.length))=some (.bl false):=by rw [rng_map];exact neX (depI _)
  have n2:gNe (.tup [.int (cel L),.int 0,.int 0,.int (cel L)]) (.tup [.int (cel L),.int 0,.int 0,.int (cel L)])=some (.bl false):=neX (by simp [dep,depA]);obtain ⟨fl,e,o4,o5,rfl⟩:=nx_of (stands_loop kd le hs L hr (.int (cel L)) (.lst (rngL 0 L.length)));have i1:¬(0<=(L.length:Int)/\(L.length:Int)<L.length):=by omega
  have i2:¬(0<=(-1:Int)/\(-1:Int)<L.length):=by omega
  refine r_run (r_seq (r_set (r_fA (r_cons (r_comp (n:=6) rfl jl (lens_c L rfl)) rfl) (sum_ints _))) (r_seq (r_set (r_meth (ns:=nSt) (xs:=[.lst kd,.int le,shF L,deO hs]) (ys:=[]) rfl (by decide +kernel) rfl (numbers_ok kd le hs L h)))
    (r_seq (r_ifF (r_cOrF (r_cE (r_f2 (x:=.lst (rngL 0 L.length)) rfl (r_fA (r_cons (r_fA (r_cons (r_fA (r_cons (x:=.lst (flD L)) rfl rfl) ln) rfl) rfl) rfl) gl) n1)) (r_cE (r_f2 (r_meth (ns:=nSt) (xs:=[.lst kd,.int le,shF L,deO hs]) (ys:=[]) rfl (by decide +kernel) rfl (total_ok kd le hs L)) rfl rfl))) rfl)
    (r_seq (r_ifF (r_cE (r_f2 (r_meth (ns:=nSt) (xs:=[.lst kd,.int le,shF L,deO hs]) (ys:=[]) rfl (by decide +kernel) rfl (ssums_ok kd le hs L h)) (r_fA (r_cons (x:=.int (cel L)) rfl (r_cons rfl (r_cons rfl (r_cons (x:=.int (cel L)) rfl rfl)))) rfl) n2)) rfl)
    (r_seq (r_for (r_rng (r_cons (r_fA (r_cons (x:=.lst (flD L)) rfl rfl) ln) rfl) (by omega)) e)
    (r_seq (r_app (xs:=rngL 0 L.length) rfl rfl (by rw [rngL_length];show _<1000000;omega))
    (r_ret (r_fAndT (r_call (r_cons (x:=stO kd le hs L) rfl (r_cons (r_fA (r_cons (x:=.lst (flD L)) rfl rfl) ln) rfl)) (none_ok kd le hs L i1 (by omega))) (r_call (r_cons (x:=stO kd le hs L) rfl (r_cons (x:=.int (-1)) rfl rfl)) (none_ok kd le hs L i2 (by decide)))))))))))
end
theorem stock_new (kd:List D)(le:Int)(hk:flatA kd=true)(h:args ρ=.ok [.lst kd,.int le]):fMake "Stock" F_Stock_init args ρ=.ok (stO kd le [] []):=by refine r_make h ?_;exact r_runMS (r_mbS (r_fldS (d:=.lst kd) (o:=.obj "Stock" [] []) (r_fA (r_cons (x:=.lst kd) rfl rfl) (if_pos hk)) rfl rfl) (r_mbS (r_fldS (d:=.int le) (r_f1 (x:=.int le) rfl rfl) rfl rfl) (r_mbS (r_fldS (d:=shF []) (r_f1 (r_make rfl shelf_new) rfl) rfl rfl) (r_mbEndS (r_fldS (d:=deO []) (r_make rfl deeds_new) rfl rfl))))) rfl
theorem comp_ex {n:Nat}{e:FE}{ρ:Env}{α β:Type}{enc:α->D}{f:β->D}{Q:β->Prop}(hn:ρ.length=n):∀{xs:List α},(∀x∈xs,∃v,e (ρ++[some (enc x)])=.ok (f v)/\Q v)->∃vs:List β,compN 1 (bName n) cYes e ρ (xs.map enc)=.ok (vs.map f)/\vs.length=xs.length/\∀v∈vs,Q v
 | [],_=>⟨[],rfl,rfl,fun _ z=>nomatch z⟩
 | x::xs,h=>by
  obtain ⟨v,h1,h2⟩:=h x (.head _);obtain ⟨vs,g1,g2,g3⟩:=comp_ex hn (xs:=xs) (f:=f) (Q:=Q) fun y hy=>h y (.tail _ hy);refine ⟨v::vs,?_,congrArg Nat.succ g2,AX.mpr ⟨h2,g3⟩⟩;rw [Bt];unfold compN;have hb:bName n (enc x) (ρ++Aa 1 none)=.ok (ρ++[some (enc x)]):=by show R.ok ((ρ++[none]).set n (some (enc x)))=_;rw [<- hn,C8 _ _ (AM _),EJ];rfl
  rw [hb,calm_bind_ok];show (e (ρ++[some (enc x)])).bind _=_;rw [h1,bind_ok,g1];rfl
theorem r_putS {k:FE}{n:Int}(he:e ρ=.ok d)(hi:ρ[i]?=some (some (.lst xs)))(hk:k ρ=.ok (.int n))(hf:flat d=true)(hx:flatA xs=true)(hj:ixD xs.length n=some j):sPut i k e ρ=.ok (.nx (ρ.set i (some (.lst (xs.set j d))))):=by unfold sPut;rw [he];show (match ρ[i]? with | some (some (.lst xs))=>_ | _=>_)=_;rw [hi];show (k ρ).bind _=_;rw [hk];show (if flat d=true/\flatA xs=true then _ else _)=_;rw [if_pos ⟨hf,hx⟩,hj]
theorem ixD0 (h:0<n):ixD n 0=some 0:=by unfold ixD;simp;omega
theorem flatA_appS (xs ys:List D)(h1:flatA xs=true)(h2:flatA ys=true):flatA (xs++ys)=true:=by
 induction xs with
 | nil=>exact h2
 | cons x xs ih =>have h:=(Aq _ _).mp h1;exact (Aq _ _).mpr ⟨h.1,ih h.2⟩
theorem lay_loop (a0 a1 a2 a3 a4:D)(kd:List D)(le:Int)(rs:List (List Int))(hr:∀r∈rs,r.length<=100)(hn:rs.length<=1000) :
  V (forD (bName 8) l_law_14 (flD rs) [some a0,some a1,some a2,some a3,some a4,some (stO kd le [] []),some (.lst (flD rs)),some (.lst []),none,none,none])
   (fun fl=>∃hs o8 o9 o10,fl=.nx [some a0,some a1,some a2,some a3,some a4,some (stO kd le hs (rs.take 40)),some (.lst (flD rs)),some (.lst (flD (rs.take 40))),o8,o9,o10]):=by
 refine V_forI (P:=fun i ρ=>∃hs o8 o9 o10,hs.length<=i/\ρ=[some a0,some a1,some a2,some a3,some a4,some (stO kd le hs (rs.take (min i 40))),some (.lst (flD rs)),some (.lst (flD (rs.take (min i 40)))),o8,o9,o10]) ⟨[],none,none,none,AM _,rfl⟩ (fun i x ρ hx q=>?_) (fun ρ q=>?_);obtain ⟨hs,o8,o9,o10,hh,rfl⟩:=q;have hi:i<rs.length:=by
  have:=(Ad.mp hx).1;unfold flD at this
  rwa [Ap] at this
 have ex:x=rlD rs[i]:=by unfold flD at hx;rw [Bg,AA hi] at hx;exact (AH hx).symm
 subst ex;rw [turn_name];show V (l_law_14 [some a0,some a1,some a2,some a3,some a4,some (stO kd le hs (rs.take (min i 40))),some (.lst (flD rs)),some (.lst (flD (rs.take (min i 40)))),some (rlD rs[i]),o9,o10]) _;by_cases h40:i<40;have em:min i 40=i:=by omega
 have em2:min (i+1) 40=i+1:=by omega
 rw [em];have ht:(rs.take i).length=i:=by rw [BI];omega
 have htk:rs.take (i+1)=rs.take i++[rs[i]]:=by rw [List.take_succ_eq_append_getElem hi]
 have ln:gLen [.lst (flD (rs.take i))]=some (.int (i:Int)):=by show some (D.int ((flD (rs.take i)).length:Int))=_;unfold flD;rw [Ap,ht]
 have lay:=lay_ok kd le hs (rs.take i) rs[i] (by omega) (by show _<1000000;omega);rw [ht,<- htk] at lay;have hri:=hr rs[i] (DE hi);obtain ⟨hs2,e2⟩:∃hs2,hs2=hs++[.tup [shF (rs.take i),shF (rs.take (i+1)),.int (i:Int)]]:=⟨_,rfl⟩;rw [<- e2] at lay;obtain ⟨zs,ez⟩:∃zs,zs=rs[i]++[9]:=⟨_,rfl⟩;have ez2:rs[i].map D.int++[D.int 9]=zs.map D.int:=by rw [ez,BM];rfl
 have zl:0<zs.length:=by rw [ez,Az];show 0<_+1;omega
 have ix0:gIx (.lst (zs.map D.int)) (.int 0)=some (.int (zs.getD 0 0)):=ix_ints (k:=0) rfl zl;have ef:some (D.lst (flD (rs.take i)++[rlD rs[i]]))=some (D.lst (flD (rs.take (i+1)))):=by rw [htk,flD_app]
 have lz:(rs[i].map D.int).length<lim:=by rw [Ap];show _<1000000;omega
 have lf:(flD (rs.take i)).length<lim:=by unfold flD;rw [Ap,ht];show _<1000000;omega
 have pt:ixD (zs.map D.int).length 0=some 0:=ixD0 (by rw [Ap];exact zl);have s1:l_law_14 [some a0,some a1,some a2,some a3,some a4,some (stO kd le hs (rs.take i)),some (.lst (flD rs)),some (.lst (flD (rs.take i))),some (rlD rs[i]),o9,o10]
   = .ok (.nx [some a0,some a1,some a2,some a3,some a4,some (stO kd le hs2 (rs.take (i+1))),some (.lst (flD rs)),some (.lst (flD (rs.take i)++[rlD rs[i]])),some (rlD rs[i]),some (.lst ((zs.map D.int).set 0 (.int (zs.getD 0 0+1)))),some (.int (i:Int))]):=by
  refine r_ifF (r_cE (r_f2 (r_fA (r_cons (x:=.lst (flD (rs.take i))) rfl rfl) ln) rfl ((eq_ii _ _).trans (bl_f (by omega))))) ?_;refine r_seq (r_set (d:=iD rs[i]) (r_fA (r_cons (x:=rlD rs[i]) rfl rfl) (if_pos (ints_flat _)))) ?_;refine r_seq (r_setMS (r_mMeth (ns:=nSt) (xs:=[.lst kd,.int le,shF (rs.take i),deO hs]) (ys:=[iD rs[i]]) rfl (by decide +kernel) rfl lay)) ?_;refine r_seq (r_ifF (r_cOrF (r_cNot (b:=true) (r_cE (r_call (r_cons (x:=.int (i:Int)) rfl rfl) rfl))) (r_cOrF (r_cE (r_f2 (x:=.int (i:Int)) rfl (r_fA (r_cons (x:=.lst (flD (rs.take i))) rfl rfl) ln) (neX (Dg _)))) (r_cE (r_f2 (x:=iD rs[i]) (y:=rlD rs[i]) rfl rfl (neF_self _))))) rfl) ?_;refine r_seq (r_app (xs:=rs[i].map D.int) rfl rfl lz) ?_;rw [ez2];refine r_seq (r_putS (xs:=zs.map D.int) (n:=0) (j:=0) (r_f2 (r_f2 (x:=.lst (zs.map D.int)) rfl rfl ix0) rfl rfl) rfl rfl rfl (ints_flat _) pt) ?_;exact r_app (xs:=flD (rs.take i)) rfl (r_f1 (x:=rlD rs[i]) rfl rfl) lf
 rw [s1,ef];refine ⟨hs2,some (rlD rs[i]),some (.lst ((zs.map D.int).set 0 (.int (zs.getD 0 0+1)))),some (.int (i:Int)),?_,?_⟩;rw [e2,Az];show _+1<=_;omega;rw [em2];have em:min i 40=40:=by omega
 have em2:min (i+1) 40=40:=by omega
 rw [em];have ht:(rs.take 40).length=40:=by rw [BI];omega
 have ln:gLen [.lst (flD (rs.take 40))]=some (.int 40):=by show some (D.int ((flD (rs.take 40)).length:Int))=_;unfold flD;rw [Ap,ht];rfl
 have s1:l_law_14 [some a0,some a1,some a2,some a3,some a4,some (stO kd le hs (rs.take 40)),some (.lst (flD rs)),some (.lst (flD (rs.take 40))),some (rlD rs[i]),o9,o10]
   = .ok (.nx [some a0,some a1,some a2,some a3,some a4,some (stO kd le hs (rs.take 40)),some (.lst (flD rs)),some (.lst (flD (rs.take 40))),some (rlD rs[i]),o9,o10]):=
  r_ifT (r_cE (r_f2 (r_fA (r_cons (x:=.lst (flD (rs.take 40))) rfl rfl) ln) rfl rfl)) (r_ifF (r_cNot (b:=true) (r_cE (r_call (r_cons (x:=stO kd le hs (rs.take 40)) rfl rfl) (full_ok kd le hs _ (EK ht.symm))))) rfl)
 rw [s1];refine ⟨hs,some (rlD rs[i]),o9,o10,by omega,?_⟩;rw [em2];obtain ⟨hs,o8,o9,o10,hh,rfl⟩:=q;refine ⟨hs,o8,o9,o10,?_⟩;have hl:(flD rs).length=rs.length:=by unfold flD;rw [Ap]
 rw [hl];have e:rs.take (min rs.length 40)=rs.take 40:=by by_cases h:rs.length<=40;rw [Gb h,FD,Cf h];rw [FU (by omega)]
 rw [e]
theorem law81_true (ns:List Int)(h:ns.length<=63):F_law [.scr ns]=.ok (.bl true):=by
 obtain ⟨os,hrow,R⟩:=row_ok ns h (i:=30) (by decide) (by decide) [13,4,4,4] (by decide) (max_lit (by decide));have hol:os.length=4:=R.len;have b0:0<=os.getD 0 0/\os.getD 0 0<13:=R.at_ 0 (by decide);have b2:0<=os.getD 2 0/\os.getD 2 0<4:=R.at_ 2 (by decide);have b3:0<=os.getD 3 0/\os.getD 3 0<4:=R.at_ 3 (by decide);obtain ⟨fl,hfl,fl0,fl1⟩:=flaw_ok ns h (i:=0) (m:=4) (by decide) (by decide) (by decide) (by decide);obtain ⟨ks,htb,hkl,hto⟩:=table_ok ns h (i:=0) (m:=4) (by decide) (by decide) (by decide) (by decide);have hk4:ks.length<=4:=Int.ofNat_le.mp hkl;have x0:gIx (iD os) (.int 0)=some (.int (os.getD 0 0)):=ix_ints (k:=0) rfl (by omega);have x1:gIx (iD os) (.int 1)=some (.int (os.getD 1 0)):=ix_ints (k:=1) rfl (by omega);have x2:gIx (iD os) (.int 2)=some (.int (os.getD 2 0)):=ix_ints (k:=2) rfl (by omega);have x3:gIx (iD os) (.int 3)=some (.int (os.getD 3 0)):=ix_ints (k:=3) rfl (by omega);obtain ⟨le,xl⟩:∃le,gIx (iD [1,2,3,6]) (.int (os.getD 3 0))=some (.int le):=⟨_,ix_lit [1,2,3,6] b3.1 (by show _<4;exact b3.2)⟩;have hfk:flatA (ks.map kD)=true:=flatA_kD ks;have gl:gList [tD ks]=some (tD ks):=if_pos hfk;have n1:gNe (tD ks) (tD ks)=some (.bl false):=neX (A9 (dep_tD ks) (by decide));have p59:gPow (.int 10) (.int 59)=some (.int (10 ^ 59)):=rfl;have nn:=none_ok (ks.map kD) le [] [] (i:=10 ^ 59) (by show ¬(0<=(10 ^ 59:Int)/\(10 ^ 59:Int)<0);decide) (by decide);obtain ⟨kt,ekt⟩:∃kt:List D,kt=(ks.map kD++[.tup [.str ("other":Str),.int 1,.int 1,.int 0]]):=⟨_,rfl⟩;have hkt:flatA kt=true:=by rw [ekt];exact flatA_appS _ _ hfk rfl
 have ktl:0<kt.length:=by rw [ekt,Az];show 0<_+1;omega
 have lkt:(ks.map kD).length<lim:=by rw [Ap];show _<1000000;omega
 obtain ⟨t3,e3⟩:∃t3:D,t3=.lst (kt.set 0 (.tup [.str ("more":Str),.int 1,.int 9,.int 0])):=⟨_,rfl⟩;have e3':some (D.lst (kt.set 0 (.tup [.str ("more":Str),.int 1,.int 9,.int 0])))=some t3:=by rw [e3]
 obtain ⟨rs,c1,c2,c3⟩:=comp_ex (n:=11) (e:=f1 gFzL (fCall F__law_roll (aCons (fV 0) (aCons (f2 gAdd (fC (.int 1)) (fV 11)) (aCons (fC (.int 20)) (aCons (fV 2) aNil)))))) (ρ:=[some (.scr ns),some (iD os),some (.int fl),some t3,some (tD ks),some (stO (ks.map kD) le [] []),none,none,none,none,none]) (enc:=fun k:Nat=>D.int (0+(k:Int))) (f:=rlD) (Q:=fun r:List Int=>r.length<=100) (xs:=AW (os.getD 0 0).toNat) rfl fun k hk=>by have hk:=CG.mp hk;obtain ⟨ws,hws,hwl,_⟩:=roll_ok ns h (i:=1+(0+(k:Int))) (m:=20) (by omega) (by omega) (by decide) (by decide) fl0 fl1;exact ⟨ws,r_f1 (r_call (r_cons (x:=.scr ns) rfl (r_cons (r_f2 (x:=.int 1) (y:=.int (0+(k:Int))) rfl rfl rfl) (r_cons (x:=.int 20) rfl (r_cons (x:=.int fl) rfl rfl)))) hws) (if_pos (ints_flat ws)),by omega⟩
 rw [CJ] at c2;have rl:rs.length<=12:=by omega
 obtain ⟨rs2,hl2,hr2,step⟩:∃rs2:List (List Int),rs2.length<=100/\(∀r∈rs2,r.length<=100)/\sIf (cE (f2 gEq (f2 gIx (fV 1) (fC (.int 1))) (fC (.int 0)))) (sSet 6 (f2 gAdd (fComp 11 1 (jRng1 (aCons (f2 gAdd (fC (.int 38)) (f2 gIx (fV 1) (fC (.int 2)))) aNil)) (bName 11) cYes (f1 gFzL (fA gLst (aCons (f1 gFlat (fV 11)) aNil)))) (fV 6))) sNx [some (.scr ns),some (iD os),some (.int fl),some t3,some (tD ks),some (stO (ks.map kD) le [] []),some (.lst (flD rs)),none,none,none,none]=.ok (.nx [some (.scr ns),some (iD os),some (.int fl),some t3,some (tD ks),some (stO (ks.map kD) le [] []),some (.lst (flD rs2)),none,none,none,none]):=by
  by_cases q:os.getD 1 0=0;obtain ⟨n2,en⟩:∃n2:Nat,(38+os.getD 2 0).toNat=n2:=⟨_,rfl⟩;have cc:compN 1 (bName 11) cYes (f1 gFzL (fA gLst (aCons (f1 gFlat (fV 11)) aNil))) [some (.scr ns),some (iD os),some (.int fl),some t3,some (tD ks),some (stO (ks.map kD) le [] []),some (.lst (flD rs)),none,none,none,none] (rngL 0 n2)=.ok (flD ((AW n2).map fun (k:Nat)=>[0+(k:Int)])):=by have:=comp1' (n:=11) (ρ:=[some (.scr ns),some (iD os),some (.int fl),some t3,some (tD ks),some (stO (ks.map kD) le [] []),some (.lst (flD rs)),none,none,none,none]) (e:=f1 gFzL (fA gLst (aCons (f1 gFlat (fV 11)) aNil))) (enc:=fun (k:Nat)=>D.int (0+(k:Int))) (v:=fun (k:Nat)=>rlD [0+(k:Int)]) (xs:=AW n2) rfl fun k _=>rfl;refine this.trans ?_;unfold flD;rw [Et];rfl
  have hg:gAdd (.lst (flD ((AW n2).map fun (k:Nat)=>[0+(k:Int)]))) (.lst (flD rs))=some (.lst (flD (((AW n2).map fun (k:Nat)=>[0+(k:Int)])++rs))):=by show (if (flD ((AW n2).map fun (k:Nat)=>[0+(k:Int)])).length+(flD rs).length<=lim/\flatA _=true/\flatA _=true then some (D.lst _) else none)=_;rw [if_pos ⟨by simp only [flD,Ap,CJ];show _<=1000000;omega,flD_flat _,flD_flat _⟩];simp only [flD,BM]
  refine ⟨((AW n2).map fun (k:Nat)=>[0+(k:Int)])++rs,by rw [Az,Ap,CJ];omega,fun r hr=>?_,?_⟩;rcases Ae.mp hr with hr | hr;obtain ⟨k,_,rfl⟩:=Gy.mp hr;show 1<=100;decide;exact c3 r hr;refine r_ifT (r_cE (r_f2 (r_f2 (x:=iD os) rfl rfl x1) rfl ((eq_ii _ _).trans (bl_t q)))) (r_set (r_f2 (r_comp (n:=11) rfl (r_rng (r_cons (r_f2 (x:=.int 38) rfl (r_f2 (x:=iD os) rfl rfl x2) rfl) rfl) (by omega)) ?_) (y:=.lst (flD rs)) rfl hg));rw [en];exact cc;exact ⟨rs,by omega,c3,r_ifF (r_cE (r_f2 (r_f2 (x:=iD os) rfl rfl x1) rfl ((eq_ii _ _).trans (bl_f q)))) rfl⟩
 obtain ⟨f,ef,hs,o8,o9,o10,rfl⟩:=nx_of (lay_loop (.scr ns) (iD os) (.int fl) t3 (tD ks) (ks.map kD) le rs2 hr2 (by omega));have st:=stands_ok (ks.map kD) le hs (rs2.take 40) (by rw [BI];omega) fun r hr=>hr2 r (List.mem_of_mem_take hr);have jl:(flD rs2).length<=lim:=by unfold flD;rw [Ap];show _<=1000000;omega
 refine r_run ?_;show q_law [some (.scr ns),none,none,none,none,none,none,none,none,none,none]=_;refine r_seq (r_set (r_call (r_cons (x:=.scr ns) rfl (r_cons (x:=.int 30) rfl (r_cons (x:=iD [13,4,4,4]) rfl rfl))) hrow)) ?_;refine r_seq (r_set (r_call (r_cons (x:=.scr ns) rfl (r_cons (x:=.int 0) rfl (r_cons (x:=.int 4) rfl rfl))) hfl)) ?_;refine r_seq (r_set (r_call (r_cons (x:=.scr ns) rfl (r_cons (x:=.int 0) rfl (r_cons (x:=.int 4) rfl rfl))) htb)) ?_;refine r_seq (r_set (r_fA (r_cons (x:=tD ks) rfl rfl) gl)) ?_;refine r_seq (r_set (stock_new (ks.map kD) le hfk (r_cons (x:=tD ks) rfl (r_cons (r_f2 (x:=iD [1,2,3,6]) rfl (r_f2 (x:=iD os) rfl rfl x3) xl) rfl)))) ?_;refine r_seq (r_ifF (r_cOrF (r_cE (r_f2 (x:=tD ks) (y:=tD ks) rfl rfl n1)) (r_cNot (b:=true) (r_cE (r_call (r_cons (x:=stO (ks.map kD) le [] []) rfl (r_cons (r_f2 rfl rfl p59) rfl)) nn)))) rfl) ?_;refine r_seq (r_app (xs:=ks.map kD) rfl rfl lkt) ?_;rw [<- ekt];refine r_seq (r_putS (xs:=kt) (n:=0) (j:=0) (d:=.tup [.str ("more":Str),.int 1,.int 9,.int 0]) rfl rfl rfl rfl hkt (ixD0 ktl)) ?_;rw [e3'];refine r_seq (r_set (r_comp (n:=11) rfl (r_rng (r_cons (r_f2 (x:=iD os) rfl rfl x0) rfl) (by omega)) c1)) ?_;refine r_seq step ?_;refine r_seq (r_set (d:=.lst []) rfl) ?_;refine r_seq (r_for (r_jList (xs:=flD rs2) rfl jl) ef) ?_;exact r_ret (r_fAndT (r_call (r_cons (x:=stO (ks.map kD) le hs (rs2.take 40)) rfl (r_cons (x:=.lst (flD (rs2.take 40))) rfl rfl)) st) (r_call (r_cons (x:=stO (ks.map kD) le hs (rs2.take 40)) rfl (r_cons (x:=.lst (flD (rs2.take 40))) rfl rfl)) st))
end Dl
set_option maxHeartbeats 4000000
namespace K81
open PySem PySem.Spec PyProof.Rows L2
open Dl (D R FE FT FA FO FS FI FB Fl)
variable {P q:Ao}{w:AK}{K:AC}{C:String->Addr}{mg:Str->Option Value}{f a:Addr}{fd:BD}{xs:List V}{l:PySem.W.OpenLaw}{h:AR}{loose:List Str}{XP:(Str->Option Value)->AR->Prop}{YP:AK->AR->Prop}{d:DefRec}
def top (i:Nat):Stmt:=PySem.Challenge.pw_selvage_k81_laid.main.body.getD i (.Pass ⟨0,0,0,0⟩)
abbrev sanew:Stmt:=top 12
abbrev s_law_cell:Stmt:=top 15
abbrev s_law_mix:Stmt:=top 16
abbrev s_law_row:Stmt:=top 17
abbrev s_law_table:Stmt:=top 18
abbrev s_law_flaw:Stmt:=top 19
abbrev s_law_roll:Stmt:=top 20
abbrev s_law_is_whole:Stmt:=top 21
abbrev s_law_full:Stmt:=top 22
abbrev s_law_none:Stmt:=top 23
abbrev s_law_stands:Stmt:=top 24
abbrev slaw:Stmt:=top 25
abbrev sDeeds_init:Stmt:=inClass (top 7) 0
abbrev sDeeds_add:Stmt:=inClass (top 7) 1
abbrev sShelf_init:Stmt:=inClass (top 9) 0
abbrev sShelf_another:Stmt:=inClass (top 9) 1
abbrev sShelf_put:Stmt:=inClass (top 9) 2
abbrev sShelf_standing:Stmt:=inClass (top 9) 4
abbrev sStock_init:Stmt:=inClass (top 13) 0
abbrev sStock_lay:Stmt:=inClass (top 13) 1
abbrev sStock_enter:Stmt:=inClass (top 13) 5
abbrev sStock_numbers:Stmt:=inClass (top 13) 8
abbrev sStock_roll:Stmt:=inClass (top 13) 9
abbrev sStock_total:Stmt:=inClass (top 13) 10
abbrev sStock_sums:Stmt:=inClass (top 13) 11
abbrev slay__R:Stmt:=inClass (top 13) 1
abbrev sroll__N:Stmt:=inClass (top 13) 9
abbrev sanew__0:Stmt:=top 12
theorem scanew:FnScope ["told"] ["told"] (defScope sanew):=⟨rfl,rfl,rfl,by decide +kernel,rfl,by decide +kernel,by decide +kernel⟩
theorem sc_law_cell:FnScope ["_law_script","_law_place","_law_seed","_law_cell_here"] ["_law_script","_law_place"] (defScope s_law_cell):=⟨rfl,rfl,rfl,by decide +kernel,rfl,by decide +kernel,by decide +kernel⟩
theorem sc_law_mix:FnScope ["_law_cell_here","_law_k","_law_one","_law_two"] ["_law_cell_here","_law_k"] (defScope s_law_mix):=⟨rfl,rfl,rfl,by decide +kernel,rfl,by decide +kernel,by decide +kernel⟩
theorem sc_law_row:FnScope ["_law_script","_law_place","_law_sizes","_law_cell_here","_law_left","_law_some","_law_k","_law_other"] ["_law_script","_law_place","_law_sizes"] (defScope s_law_row):=⟨rfl,rfl,rfl,by decide +kernel,rfl,by decide +kernel,by decide +kernel⟩
theorem sc_law_table:FnScope ["_law_script","_law_place","_law_most","_law_pool","_law_some","_law_flaw_here","_law_gain","_law_table_here","_law_k","_law_at","_law_width","_law_worth","_law_allowed","_law_name"] ["_law_script","_law_place","_law_most"] (defScope s_law_table):=⟨rfl,rfl,rfl,by decide +kernel,rfl,by decide +kernel,by decide +kernel⟩
theorem sc_law_flaw:FnScope ["_law_script","_law_place","_law_most"] ["_law_script","_law_place","_law_most"] (defScope s_law_flaw):=⟨rfl,rfl,rfl,by decide +kernel,rfl,by decide +kernel,by decide +kernel⟩
theorem sc_law_roll:FnScope ["_law_script","_law_place","_law_most","_law_flaw_here","_law_some","_law_great","_law_roll_here","_law_k","_law_at","_law_weight"] ["_law_script","_law_place","_law_most","_law_flaw_here"] (defScope s_law_roll):=⟨rfl,rfl,rfl,by decide +kernel,rfl,by decide +kernel,by decide +kernel⟩
theorem sc_law_is_whole:FnScope ["_law_one"] ["_law_one"] (defScope s_law_is_whole):=⟨rfl,rfl,rfl,by decide +kernel,rfl,by decide +kernel,by decide +kernel⟩
theorem sc_law_full:FnScope ["_law_stock","e"] ["_law_stock"] (defScope s_law_full):=⟨rfl,rfl,rfl,by decide +kernel,rfl,by decide +kernel,by decide +kernel⟩
theorem sc_law_none:FnScope ["_law_stock","_law_number","e"] ["_law_stock","_law_number"] (defScope s_law_none):=⟨rfl,rfl,rfl,by decide +kernel,rfl,by decide +kernel,by decide +kernel⟩
theorem sc_law_stands:FnScope ["_law_stock","_law_laid","_law_cells","_law_told_numbers","_law_k","_law_found"] ["_law_stock","_law_laid"] (defScope s_law_stands):=⟨rfl,rfl,rfl,by decide +kernel,rfl,by decide +kernel,by decide +kernel⟩
theorem sclaw:FnScope ["_law_script","_law_some","_law_flaw_here","_law_table_here","_law_before","_law_stock","_law_rolls","_law_laid","_law_roll_here","_law_handed","_law_found"] ["_law_script"] (defScope slaw):=⟨rfl,rfl,rfl,by decide +kernel,rfl,by decide +kernel,by decide +kernel⟩
theorem scDeeds_init:FnScope ["self"] ["self"] (defScope sDeeds_init):=⟨rfl,rfl,rfl,by decide +kernel,rfl,by decide +kernel,by decide +kernel⟩
theorem scDeeds_add:FnScope ["self","deed"] ["self","deed"] (defScope sDeeds_add):=⟨rfl,rfl,rfl,by decide +kernel,rfl,by decide +kernel,by decide +kernel⟩
theorem scShelf_init:FnScope ["self"] ["self"] (defScope sShelf_init):=⟨rfl,rfl,rfl,by decide +kernel,rfl,by decide +kernel,by decide +kernel⟩
theorem scShelf_another:FnScope ["self","shelf"] ["self"] (defScope sShelf_another):=⟨rfl,rfl,rfl,by decide +kernel,rfl,by decide +kernel,by decide +kernel⟩
theorem scShelf_put:FnScope ["self","roll","number"] ["self","roll"] (defScope sShelf_put):=⟨rfl,rfl,rfl,by decide +kernel,rfl,by decide +kernel,by decide +kernel⟩
theorem scShelf_standing:FnScope ["self"] ["self"] (defScope sShelf_standing):=⟨rfl,rfl,rfl,by decide +kernel,rfl,by decide +kernel,by decide +kernel⟩
theorem scStock_init:FnScope ["self","table","least"] ["self","table","least"] (defScope sStock_init):=⟨rfl,rfl,rfl,by decide +kernel,rfl,by decide +kernel,by decide +kernel⟩
theorem scStock_lay:FnScope ["self","roll","shelf"] ["self","roll"] (defScope sStock_lay):=⟨rfl,rfl,rfl,by decide +kernel,rfl,by decide +kernel,by decide +kernel⟩
theorem scStock_enter:FnScope ["self","shelf","told"] ["self","shelf","told"] (defScope sStock_enter):=⟨rfl,rfl,rfl,by decide +kernel,rfl,by decide +kernel,by decide +kernel⟩
theorem scStock_numbers:FnScope ["self"] ["self"] (defScope sStock_numbers):=⟨rfl,rfl,rfl,by decide +kernel,rfl,by decide +kernel,by decide +kernel⟩
theorem scStock_roll:FnScope ["self","number"] ["self","number"] (defScope sStock_roll):=⟨rfl,rfl,rfl,by decide +kernel,rfl,by decide +kernel,by decide +kernel⟩
theorem scStock_total:FnScope ["self"] ["self"] (defScope sStock_total):=⟨rfl,rfl,rfl,by decide +kernel,rfl,by decide +kernel,by decide +kernel⟩
theorem scStock_sums:FnScope ["self","shelf"] ["self"] (defScope sStock_sums):=⟨rfl,rfl,rfl,by decide +kernel,rfl,by decide +kernel,by decide +kernel⟩
theorem sclay__R:FnScope ["self","roll","shelf"] ["self","roll"] (defScope slay__R):=⟨rfl,rfl,rfl,by decide +kernel,rfl,by decide +kernel,by decide +kernel⟩
theorem scroll__N:FnScope ["self","number"] ["self","number"] (defScope sroll__N):=⟨rfl,rfl,rfl,by decide +kernel,rfl,by decide +kernel,by decide +kernel⟩
theorem scanew__0:FnScope ["told"] ["told"] (defScope sanew__0):=⟨rfl,rfl,rfl,by decide +kernel,rfl,by decide +kernel,by decide +kernel⟩
structure Txt (mg:Str->Option Value)(K:AC)(C:String->Addr):Prop where
 isinstance:mg "isinstance"=none
 list:mg "list"=none
 tuple:mg "tuple"=none
 len:mg "len"=none
 range:mg "range"=none
 min:mg "min"=none
 int:mg "int"=none
 bool:mg "bool"=none
 sum:mg "sum"=none
 dict:mg "dict"=none
 sorted:mg "sorted"=none
 MOST_STANDING:∃t,mg "MOST_STANDING"=Option.some (.int 40 t)
 mCutError:mg "CutError"=some (.ref (C "CutError"))
 eCutError:ErrIn K (C "CutError")
 mTooBig:mg "TooBig"=some (.ref (C "TooBig"))
 eTooBig:ErrIn K (C "TooBig")
 mFull:mg "Full"=some (.ref (C "Full"))
 eFull:ErrIn K (C "Full")
 mNoRoll:mg "NoRoll"=some (.ref (C "NoRoll"))
 eNoRoll:ErrIn K (C "NoRoll")
 mDeeds:mg "Deeds"=some (.ref (C "Deeds"))
 cDeeds:Cls K (C "Deeds")
 nDeeds_done:NoAttr K (C "Deeds") "done"
 nDeeds_undone:NoAttr K (C "Deeds") "undone"
 mShelf:mg "Shelf"=some (.ref (C "Shelf"))
 cShelf:Cls K (C "Shelf")
 nShelf_stands:NoAttr K (C "Shelf") "stands"
 nShelf_given:NoAttr K (C "Shelf") "given"
 nShelf_laid:NoAttr K (C "Shelf") "laid"
 nShelf_cut:NoAttr K (C "Shelf") "cut"
 nShelf_scrapped:NoAttr K (C "Shelf") "scrapped"
 nShelf_earned:NoAttr K (C "Shelf") "earned"
 mStock:mg "Stock"=some (.ref (C "Stock"))
 cStock:Cls K (C "Stock")
 nStock_kinds:NoAttr K (C "Stock") "kinds"
 nStock_least:NoAttr K (C "Stock") "least"
 nStock_shelf:NoAttr K (C "Stock") "shelf"
 nStock_deeds:NoAttr K (C "Stock") "deeds"
 sFull_CutError:Bs K (.ref (C "Full")) (.ref (C "CutError"))=some true
 sFull_TooBig:Bs K (.ref (C "Full")) (.ref (C "TooBig"))=some false
 sFull_NoRoll:Bs K (.ref (C "Full")) (.ref (C "NoRoll"))=some false
 sNoRoll_CutError:Bs K (.ref (C "NoRoll")) (.ref (C "CutError"))=some true
 sNoRoll_TooBig:Bs K (.ref (C "NoRoll")) (.ref (C "TooBig"))=some false
 sNoRoll_Full:Bs K (.ref (C "NoRoll")) (.ref (C "Full"))=some false
section
variable {base:AR}
theorem okDeeds_init (F:Fun K "__init__" "Deeds.__init__" sDeeds_init f fd)(T:Txt mg K C):FnOk P w K mg base CX0 7 f fd ["self"] (spM K C 0 Dl.F_Deeds_init):=by
  refine F.okM scDeeds_init rfl fun cdv A outer s H E hr=>?_;have sc:=scDeeds_init;have hu:_+64<Bf:=hr.units;exact ⟨_,(jb_cons [0] [0] (jp_fld (i:=0) (c:="Deeds") T.cDeeds T.nDeeds_done (ce_lst ca_nil))
      (jb_end (jp_fld (i:=0) (c:="Deeds") T.cDeeds T.nDeeds_undone (ce_lst ca_nil))))⟩
theorem okDeeds_add (F:Fun K "add" "Deeds.add" sDeeds_add f fd)(T:Txt mg K C):FnOk P w K mg base CX0 7 f fd ["self","deed"] (spM K C 1 Dl.F_Deeds_add):=by
  refine F.okM scDeeds_add rfl fun cdv A outer s H E hr=>?_;have sc:=scDeeds_add;have hu:_+64<Bf:=hr.units;exact ⟨_,(jb_cons [0] [0] (jp_fldApp (i:=0) (c:="Deeds") T.cDeeds T.nDeeds_done (ce_flat (ce_v 1)) star_name)
      (jb_end (jp_fld (i:=0) (c:="Deeds") T.cDeeds T.nDeeds_undone (ce_lst ca_nil))))⟩
theorem okShelf_init (F:Fun K "__init__" "Shelf.__init__" sShelf_init f fd)(T:Txt mg K C):FnOk P w K mg base CX0 7 f fd ["self"] (spM K C 0 Dl.F_Shelf_init):=by
  refine F.okM scShelf_init rfl fun cdv A outer s H E hr=>?_;have sc:=scShelf_init;have hu:_+64<Bf:=hr.units;exact ⟨_,(jb_cons [0] [0] (jp_fld (i:=0) (c:="Shelf") T.cShelf T.nShelf_stands ce_dnew)
      (jb_cons [0] [0] (jp_fld (i:=0) (c:="Shelf") T.cShelf T.nShelf_given ce_int)
      (jb_cons [0] [0] (jp_fld (i:=0) (c:="Shelf") T.cShelf T.nShelf_laid ce_int)
      (jb_cons [0] [0] (jp_fld (i:=0) (c:="Shelf") T.cShelf T.nShelf_cut ce_int)
      (jb_cons [0] [0] (jp_fld (i:=0) (c:="Shelf") T.cShelf T.nShelf_scrapped ce_int)
      (jb_end (jp_fld (i:=0) (c:="Shelf") T.cShelf T.nShelf_earned ce_int)))))))⟩
theorem okShelf_put (F:Fun K "put" "Shelf.put" sShelf_put f fd)(T:Txt mg K C):FnOk P w K mg base CX0 7 f fd ["self","roll"] (spM K C 1 Dl.F_Shelf_put):=by
  refine F.okM scShelf_put rfl fun cdv A outer s H E hr=>?_;have sc:=scShelf_put;have hu:_+64<Bf:=hr.units;exact ⟨_,(jb_cons [0,2] [0,2] (jp_set (i:=2) sc.nd rfl (AD rfl) (ce_flat (ce_fld (c:="Shelf") T.cShelf T.nShelf_given (ce_v 0))))
      (jb_cons [0,2] [0,2] (jp_fldPut (i:=0) (c:="Shelf") T.cShelf T.nShelf_stands (ce_fzl (ce_callTy (r:=rList K) (call_listA rfl) gak_list rfl T.list AJ (ca_cons (ce_v 1) ca_nil star_name) (he:=star_name))) (ce_v 2) hu)
      (jb_cons [0,2] [0,2] (jp_fldAugA (i:=0) (c:="Shelf") T.cShelf T.nShelf_given ce_int)
      (jb_ret (ce_flat (ce_v 2))))))⟩
theorem okShelf_standing (F:Fun K "standing" "Shelf.standing" sShelf_standing f fd)(T:Txt mg K C):FnOk P w K mg base CX0 7 f fd ["self"] (spD K C 1 2 Dl.F_Shelf_standing):=by
 refine F.okC scShelf_standing (Γ':=[]) (Δ':=[]) rfl fun cdv A outer s H E hr=>?_;have sc:=scShelf_standing;have hu:_+64<Bf:=hr.units;have nd0:Fi (["self","roll"]:List Str):=by decide +kernel
 exact ⟨_,(css_one (cs_ret (ce_callB (r:=rSum K) (call_sum rfl) gak_sum rfl T.sum DZ (ca_cons (ce_comp (n:=1) (defScope sShelf_standing) ["self"] ["self"] ["roll"] ⟨rfl,by decide +kernel,by decide +kernel,by decide +kernel,by decide +kernel,by decide +kernel,rfl,by decide +kernel⟩ (ci_vals (ce_fldF (c:="Shelf") T.cShelf T.nShelf_stands (ce_v 0))) (fun _ _ _ _ _=>(cb_name 1 (hN:=nd0))) (fun _ _ _ _ _=>cif_nil) (fun _ _ _ _ _=>(ce_callB (r:=rLenA K) call_lenA gak_len rfl T.len PySem.boot_len (ca_cons (ce_v 1 (hv:=AD rfl)) ca_nil star_name) (he:=star_name)))) ca_nil star_comp) (he:=star_comp))))⟩
theorem okanew__0 (F:Fun K "anew" "anew" sanew__0 f fd)(T:Txt mg K C):FnOk P w K mg base CX0 7 f fd ["told"] (spD K C 1 2 Dl.F_anew__0):=by
  refine F.okC scanew__0 (Γ':=[]) (Δ':=[]) rfl fun cdv A outer s H E hr=>?_;have sc:=scanew__0;have hu:_+64<Bf:=hr.units;exact ⟨_,(css_cons [] [] (cs_if (ct_val (ce_isI K (ty:="list") kit_list rfl T.isinstance rfl T.list AJ (ce_v 0) star_name)) css_never css_nil)
      (css_cons [] [] (cs_if (ct_val (ce_isI K (ty:="tuple") kit_tuple rfl T.isinstance rfl T.tuple GX (ce_v 0) star_name)) css_never css_nil)
      (css_one (cs_ret (ce_flat (ce_v 0))))))⟩
theorem oklay__R (F:Fun K "lay" "Stock.lay" slay__R f fd)(T:Txt mg K C):FnOk P w K mg base (CXE P w) 7 f fd ["self","roll"] (spD K C 2 2 Dl.F_lay__R):=by
  refine F.okCE sclay__R (Γ':=[]) (Δ':=[]) rfl fun cdv A outer s H E hr=>?_;have sc:=sclay__R;have hu:_+64<Bf:=hr.units;exact ⟨_,(css_cons [] [] (cs_if (ct_cmp op_ge gok_ge (ce_lenK rfl T.len (ce_fldF (c:="Shelf") T.cShelf T.nShelf_stands (ce_fld (c:="Stock") T.cStock T.nStock_shelf (ce_v 0))) star_attr) (ce_glob rfl T.MOST_STANDING.choose_spec ⟨_,rfl⟩) (nomark _)) (css_one (cs_raiseF T.eFull.exc T.mFull (cj_fv (ce_glob rfl T.MOST_STANDING.choose_spec ⟨_,rfl⟩) (cj_str cj_nil)))) css_nil)
      css_never)⟩
theorem okStock_numbers (F:Fun K "numbers" "Stock.numbers" sStock_numbers f fd)(T:Txt mg K C):FnOk P w K mg base CX0 7 f fd ["self"] (spD K C 1 2 Dl.F_Stock_numbers):=by refine F.okC scStock_numbers (Γ':=[]) (Δ':=[]) rfl fun cdv A outer s H E hr=>?_;have sc:=scStock_numbers;have hu:_+64<Bf:=hr.units;exact ⟨_,(css_one (cs_ret (ce_callB call_sorted gak_sort rfl T.sorted GY (ca_cons (ce_callTy (r:=rListK) (call_listK rfl) gak_listK rfl T.list AJ (ca_cons (ce_fldF (c:="Shelf") T.cShelf T.nShelf_stands (ce_fld (c:="Stock") T.cStock T.nStock_shelf (ce_v 0))) ca_nil star_attr) (he:=star_attr)) ca_nil star_call) (he:=star_call))))⟩
theorem okStock_roll (F:Fun K "roll" "Stock.roll" sStock_roll f fd)(T:Txt mg K C):FnOk P w K mg base (CXE P w) 7 f fd ["self","number"] (spD K C 2 2 Dl.F_Stock_roll):=by
  refine F.okCE scStock_roll (Γ':=[]) (Δ':=[]) rfl fun cdv A outer s H E hr=>?_;have sc:=scStock_roll;have hu:_+64<Bf:=hr.units;exact ⟨_,(css_cons [] [] (cs_if (ct_cmp (op_dnot hu) gok_notK (ce_v 1) (ce_fldF (c:="Shelf") T.cShelf T.nShelf_stands (ce_fld (c:="Stock") T.cStock T.nStock_shelf (ce_v 0))) rfl) (css_one (cs_raiseF T.eNoRoll.exc T.mNoRoll (cj_str (cj_fv (ce_v 1) cj_nil)))) css_nil)
      (css_one (cs_ret (ce_callTy (r:=rList K) (call_listA rfl) gak_list rfl T.list AJ (ca_cons (ce_atK (ce_fldF (c:="Shelf") T.cShelf T.nShelf_stands (ce_fld (c:="Stock") T.cStock T.nStock_shelf (ce_v 0))) (ce_v 1) hu) ca_nil star_sub) (he:=star_sub)))))⟩
theorem okroll__N (F:Fun K "roll" "Stock.roll" sroll__N f fd)(T:Txt mg K C):FnOk P w K mg base CX0 7 f fd ["self","number"] (spD K C 2 2 Dl.F_roll__N):=by
  refine F.okC scroll__N (Γ':=[]) (Δ':=[]) rfl fun cdv A outer s H E hr=>?_;have sc:=scroll__N;have hu:_+64<Bf:=hr.units;exact ⟨_,(css_cons [] [] (cs_if (ct_cmp (op_dnot hu) gok_notK (ce_v 1) (ce_fldF (c:="Shelf") T.cShelf T.nShelf_stands (ce_fld (c:="Stock") T.cStock T.nStock_shelf (ce_v 0))) rfl) (css_one cs_never) css_nil)
      (css_one (cs_ret (ce_callTy (r:=rList K) (call_listA rfl) gak_list rfl T.list AJ (ca_cons (ce_atK (ce_fldF (c:="Shelf") T.cShelf T.nShelf_stands (ce_fld (c:="Stock") T.cStock T.nStock_shelf (ce_v 0))) (ce_v 1) hu) ca_nil star_sub) (he:=star_sub)))))⟩
theorem okStock_total (F:Fun K "total" "Stock.total" sStock_total f fd)(T:Txt mg K C):FnOk P w K mg base CX0 7 f fd ["self"] (spD K C 1 2 Dl.F_Stock_total):=by refine F.okC scStock_total (Γ':=[]) (Δ':=[]) rfl fun cdv A outer s H E hr=>?_;have sc:=scStock_total;have hu:_+64<Bf:=hr.units;exact ⟨_,(css_one (cs_ret (ce_fldF (c:="Shelf") T.cShelf T.nShelf_earned (ce_fld (c:="Stock") T.cStock T.nStock_shelf (ce_v 0)))))⟩
theorem ok_law_cell (F:Fun K "_law_cell" "_law_cell" s_law_cell f fd)(T:Txt mg K C):FnOk P w K mg base CX0 7 f fd ["_law_script","_law_place"] (spD K C 2 2 Dl.F__law_cell):=by
  refine F.okC sc_law_cell (Γ':=[]) (Δ':=[]) rfl fun cdv A outer s H E hr=>?_;have sc:=sc_law_cell;have hu:_+64<Bf:=hr.units;exact ⟨_,(css_cons [] [] (cs_if (ct_cmp op_lt gok_lt (ce_v 1) (ce_callB (r:=rLenA K) call_lenA gak_len rfl T.len PySem.boot_len (ca_cons (ce_v 0) ca_nil star_name) (he:=star_name)) (nomark _)) (css_one (cs_ret (ce_flat (ce_ix K (ce_v 0) (ce_v 1) plain_name)))) css_nil)
      (css_cons [2] [2] (cs_set (i:=2) sc.nd rfl (AD rfl) ce_int)
      (css_cons [2] [2] (cs_for [2] [2] B6 rfl (ci_list (ce_sl K (ce_v 0) co_none (co_some ce_int))) (cg_name (i:=3) (hN:=sc.nd) (hi:=rfl) (hx:=AD rfl)) (css_one (cs_set (i:=2) sc.nd rfl (AD rfl) (ce_op op_mod gok_mod (ce_op op_addA gok_add (ce_op op_addA gok_add (ce_op op_mulA gok_mul (ce_v 2) ce_int) (ce_op op_mod gok_mod (ce_v 3) ce_int)) ce_int) ce_int))))
      (css_one (cs_ret (ce_op op_mod gok_mod (ce_op op_addA gok_add (ce_v 2) (ce_op op_mulA gok_mul ce_int (ce_v 1))) ce_int))))))⟩
theorem ok_law_mix (F:Fun K "_law_mix" "_law_mix" s_law_mix f fd)(T:Txt mg K C):FnOk P w K mg base CX0 7 f fd ["_law_cell_here","_law_k"] (spD K C 2 2 Dl.F__law_mix):=by
  refine F.okC sc_law_mix (Γ':=[]) (Δ':=[]) rfl fun cdv A outer s H E hr=>?_;have sc:=sc_law_mix;have hu:_+64<Bf:=hr.units;exact ⟨_,(css_cons [2] [2] (cs_set (i:=2) sc.nd rfl (AD rfl) (ce_op op_mod gok_mod (ce_op op_pow gok_pow (ce_op op_addA gok_add (ce_op op_addA gok_add (ce_op op_mod gok_mod (ce_v 0) ce_int) (ce_op op_mulA gok_mul ce_int (ce_v 1))) ce_int) ce_int) ce_int))
      (css_cons [2,3] [2,3] (cs_set (i:=3) sc.nd rfl (AD rfl) (ce_op op_mod gok_mod (ce_op op_addA gok_add (ce_op op_addA gok_add (ce_op op_mulA gok_mul (ce_v 2) ce_int) (ce_op op_mulA gok_mul (ce_op op_mulA gok_mul ce_int (ce_v 1)) (ce_v 1))) ce_int) ce_int))
      (css_one (cs_ret (ce_op op_fdivL gok_div (ce_v 3) ce_int)))))⟩
theorem ok_law_is_whole (F:Fun K "_law_is_whole" "_law_is_whole" s_law_is_whole f fd)(T:Txt mg K C):FnOk P w K mg base CX0 7 f fd ["_law_one"] (spD K C 1 2 Dl.F__law_is_whole):=by refine F.okC sc_law_is_whole (Γ':=[]) (Δ':=[]) rfl fun cdv A outer s H E hr=>?_;have sc:=sc_law_is_whole;have hu:_+64<Bf:=hr.units;exact ⟨_,(css_one (cs_ret (ce_and (ce_isI K (ty:="int") kit_int rfl T.isinstance rfl T.int G0 (ce_v 0) star_name) (ce_one (ce_not (ce_isI K (ty:="bool") kit_bool rfl T.isinstance rfl T.bool G3 (ce_v 0) star_name))))))⟩
theorem okStock_enter (F:Fun K "enter" "Stock.enter" sStock_enter f fd)(T:Txt mg K C)(Danew__0:Def P w K mg base CX0 7 "anew" ["told"] (spD K C 1 2 Dl.F_anew__0))(DDeeds_add:MDef P w K mg base CX0 7 (C "Deeds") "add" ["self","deed"] (spM K C 1 Dl.F_Deeds_add)):FnOk P w K mg base CX0 8 f fd ["self","shelf","told"] (spM K C 2 Dl.F_Stock_enter):=by
  refine F.okM scStock_enter rfl fun cdv A outer s H E hr=>?_;have sc:=scStock_enter;have hu:_+64<Bf:=hr.units;exact ⟨_,(jb_cons [0] [0] (jp_dropM (cm_methFld 0 (c:="Stock") (c2:="Deeds") T.cStock T.nStock_deeds T.cDeeds DDeeds_add (hr.mono (by decide)) pass0 (ca_cons2 (ce_tup (ca_cons2 (ce_flat (ce_fld (c:="Stock") T.cStock T.nStock_shelf (ce_v 0))) (ca_cons2 (ce_flat (ce_v 1)) (ca_cons2 (ce_flat (ce_v 2)) ca_nil star_name) star_name) star_attr)) ca_nil star_tup) (hst:=star_tup)))
      (jb_cons [0] [0] (jp_fld (i:=0) (c:="Stock") T.cStock T.nStock_shelf (ce_flat (ce_v 1)))
      (jb_ret (ce_call Danew__0 (hr.mono (by decide)) rfl pass0 (ca_cons (ce_v 2) ca_nil star_name) (he:=star_name)))))⟩
theorem okStock_sums (F:Fun K "sums" "Stock.sums" sStock_sums f fd)(T:Txt mg K C)(DShelf_standing:MDef P w K mg base CX0 7 (C "Shelf") "standing" ["self"] (spD K C 1 2 Dl.F_Shelf_standing)):FnOk P w K mg base CX0 8 f fd ["self"] (spD K C 1 2 Dl.F_Stock_sums):=by
  refine F.okC scStock_sums (Γ':=[]) (Δ':=[]) rfl fun cdv A outer s H E hr=>?_;have sc:=scStock_sums;have hu:_+64<Bf:=hr.units;exact ⟨_,(css_cons [1] [1] (cs_set (i:=1) sc.nd rfl (AD rfl) (ce_flat (ce_fld (c:="Stock") T.cStock T.nStock_shelf (ce_v 0))))
      (css_one (cs_ret (ce_tup (ca_cons2 (ce_fldF (c:="Shelf") T.cShelf T.nShelf_laid (ce_v 1)) (ca_cons2 (ce_fldF (c:="Shelf") T.cShelf T.nShelf_cut (ce_v 1)) (ca_cons2 (ce_fldF (c:="Shelf") T.cShelf T.nShelf_scrapped (ce_v 1)) (ca_cons2 (ce_meth0F (c:="Shelf") T.cShelf DShelf_standing (hr.mono (by decide)) pass0 (ce_v 1)) ca_nil star_call) star_attr) star_attr) star_attr)))))⟩
theorem ok_law_row (F:Fun K "_law_row" "_law_row" s_law_row f fd)(T:Txt mg K C)(D_law_cell:Def P w K mg base CX0 7 "_law_cell" ["_law_script","_law_place"] (spD K C 2 2 Dl.F__law_cell))(D_law_mix:Def P w K mg base CX0 7 "_law_mix" ["_law_cell_here","_law_k"] (spD K C 2 2 Dl.F__law_mix)):FnOk P w K mg base CX0 8 f fd ["_law_script","_law_place","_law_sizes"] (spD K C 3 2 Dl.F__law_row):=by
  refine F.okC sc_law_row (Γ':=[]) (Δ':=[]) rfl fun cdv A outer s H E hr=>?_;have sc:=sc_law_row;have hu:_+64<Bf:=hr.units;exact ⟨_,(css_cons [3] [3] (cs_set (i:=3) sc.nd rfl (AD rfl) (ce_call D_law_cell (hr.mono (by decide)) rfl pass0 (ca_cons (ce_v 0) (ca_cons (ce_v 1) ca_nil star_name) star_name) (he:=star_name)))
      (css_cons [3,4] [3,4] (cs_set (i:=4) sc.nd rfl (AD rfl) (ce_flat (ce_v 3)))
      (css_cons [3,4,5] [3,4,5] (cs_set (i:=5) sc.nd rfl (AD rfl) (ce_lst ca_nil))
      (css_cons [3,4,5] [3,4,5] (cs_for [3,4,5] [3,4,5] B6 rfl (ci_rng1 rfl T.range (ca_cons (ce_callB (r:=rLenA K) call_lenA gak_len rfl T.len PySem.boot_len (ca_cons (ce_v 2) ca_nil star_name) (he:=star_name)) ca_nil star_call)) (cg_name (i:=6) (hN:=sc.nd) (hi:=rfl) (hx:=AD rfl)) (css_one (cs_if (ct_cmp op_lt gok_lt (ce_v 3) (ce_op op_pow gok_pow ce_int ce_int) (nomark _)) (css_one (cs_app (i:=5) (he:=(ce_op op_mod gok_mod (ce_call D_law_mix (hr.mono (by decide)) rfl pass0 (ca_cons (ce_v 3) (ca_cons (ce_v 6) ca_nil star_name) star_name) (he:=star_name)) (ce_ix K (ce_v 2) (ce_v 6) plain_name))) (hse:=star_bin))) (css_one (cs_if (ct_cmp op_gt gok_gt (ce_v 4) ce_int (nomark _)) (css_cons [3,4,5] [3,4,5] (cs_app (i:=5) (he:=(ce_op op_mod gok_mod (ce_v 4) (ce_ix K (ce_v 2) (ce_v 6) plain_name))) (hse:=star_bin))
      (css_one (cs_set (i:=4) sc.nd rfl (AD rfl) (ce_op op_fdivL gok_div (ce_v 4) (ce_ix K (ce_v 2) (ce_v 6) plain_name))))) (css_weak [3,4,5,7] [3,4,5,7] (css_cons [3,4,5,7] [3,4,5,7] (cs_set (i:=7) sc.nd rfl (AD rfl) (ce_call D_law_cell (hr.mono (by decide)) rfl pass0 (ca_cons (ce_v 0) (ca_cons (ce_op op_mod gok_mod (ce_op op_addA gok_add (ce_op op_addA gok_add (ce_v 1) ce_int) (ce_v 6)) ce_int) ca_nil star_bin) star_name) (he:=star_name)))
      (css_one (cs_app (i:=5) (he:=(ce_op op_mod gok_mod (ce_call D_law_mix (hr.mono (by decide)) rfl pass0 (ca_cons (ce_v 7) (ca_cons (ce_v 6) ca_nil star_name) star_name) (he:=star_name)) (ce_ix K (ce_v 2) (ce_v 6) plain_name))) (hse:=star_bin))))))))))
      (css_one (cs_ret (ce_vd 5)))))))⟩
theorem ok_law_full (F:Fun K "_law_full" "_law_full" s_law_full f fd)(T:Txt mg K C)(Dlay__R:MDef P w K mg base (CXE P w) 7 (C "Stock") "lay" ["self","roll"] (spD K C 2 2 Dl.F_lay__R)):FnOk P w K mg base CX0 8 f fd ["_law_stock"] (spD K C 1 2 Dl.F__law_full):=by
  refine F.okC sc_law_full (Γ':=[]) (Δ':=[]) rfl fun cdv A outer s H E hr=>?_;have sc:=sc_law_full;have hu:_+64<Bf:=hr.units;exact ⟨_,(css_cons [] [] (cs_try (i:=1) (Γ1:=[]) (Δ1:=[]) (Γ2:=[]) (Δ2:=[]) ["Full","NoRoll"] T.mCutError (fun E pn=>(css_one (cs_drop (ce_meth (c:="Stock") T.cStock Dlay__R (hr.mono (by decide)) passE (ce_v 0) (ca_cons (ce_lst (ca_cons2 ce_int ca_nil star_const)) ca_nil star_list) (hst:=star_list)))))
      (fun ea=>(css_one (cs_ret (ce_and (ce_isX K (tb:=[("Full",true),("NoRoll",false)]) rfl T.isinstance rfl T.mFull (all_cons ⟨T.eFull.k,T.eFull.cls.kitO T.eFull.se⟩ (all_cons ⟨T.eNoRoll.k,T.eFull.cls.kitO T.sNoRoll_Full⟩ all_nil)) (ce_v 1) star_name) (ce_one (ce_not (ce_isX K (tb:=[("Full",false),("NoRoll",false)]) rfl T.isinstance rfl T.mTooBig (all_cons ⟨T.eFull.k,T.eTooBig.cls.kitO T.sFull_TooBig⟩ (all_cons ⟨T.eNoRoll.k,T.eTooBig.cls.kitO T.sNoRoll_TooBig⟩ all_nil)) (ce_v 1) star_name))))))) (all_cons (T.eCutError.k.exm T.sFull_CutError) (all_cons (T.eCutError.k.exm T.sNoRoll_CutError) all_nil)) sc.nd rfl rfl)
      (css_one (cs_ret ce_bl)))⟩
theorem ok_law_none (F:Fun K "_law_none" "_law_none" s_law_none f fd)(T:Txt mg K C)(DStock_roll:MDef P w K mg base (CXE P w) 7 (C "Stock") "roll" ["self","number"] (spD K C 2 2 Dl.F_Stock_roll)):FnOk P w K mg base CX0 8 f fd ["_law_stock","_law_number"] (spD K C 2 2 Dl.F__law_none):=by
  refine F.okC sc_law_none (Γ':=[]) (Δ':=[]) rfl fun cdv A outer s H E hr=>?_;have sc:=sc_law_none;have hu:_+64<Bf:=hr.units;exact ⟨_,(css_cons [] [] (cs_try (i:=2) (Γ1:=[]) (Δ1:=[]) (Γ2:=[]) (Δ2:=[]) ["Full","NoRoll"] T.mCutError (fun E pn=>(css_one (cs_drop (ce_meth (c:="Stock") T.cStock DStock_roll (hr.mono (by decide)) passE (ce_v 0) (ca_cons (ce_v 1) ca_nil star_name) (hst:=star_name)))))
      (fun ea=>(css_one (cs_ret (ce_and (ce_isX K (tb:=[("Full",false),("NoRoll",true)]) rfl T.isinstance rfl T.mNoRoll (all_cons ⟨T.eFull.k,T.eNoRoll.cls.kitO T.sFull_NoRoll⟩ (all_cons ⟨T.eNoRoll.k,T.eNoRoll.cls.kitO T.eNoRoll.se⟩ all_nil)) (ce_v 2) star_name) (ce_one (ce_not (ce_isX K (tb:=[("Full",false),("NoRoll",false)]) rfl T.isinstance rfl T.mTooBig (all_cons ⟨T.eFull.k,T.eTooBig.cls.kitO T.sFull_TooBig⟩ (all_cons ⟨T.eNoRoll.k,T.eTooBig.cls.kitO T.sNoRoll_TooBig⟩ all_nil)) (ce_v 2) star_name))))))) (all_cons (T.eCutError.k.exm T.sFull_CutError) (all_cons (T.eCutError.k.exm T.sNoRoll_CutError) all_nil)) sc.nd rfl rfl)
      (css_one (cs_ret ce_bl)))⟩
theorem okShelf_another (F:Fun K "another" "Shelf.another" sShelf_another f fd)(T:Txt mg K C)(DShelf_init:MkDef P w K mg base CX0 7 (C "Shelf") ["self"] (spM K C 0 Dl.F_Shelf_init)):FnOk P w K mg base CX0 9 f fd ["self"] (spD K C 1 2 Dl.F_Shelf_another):=by
  refine F.okC scShelf_another (Γ':=[]) (Δ':=[]) rfl fun cdv A outer s H E hr=>?_;have sc:=scShelf_another;have hu:_+64<Bf:=hr.units;exact ⟨_,(css_cons [1] [1] (cs_set (i:=1) sc.nd rfl (AD rfl) (ce_make0 (c:="Shelf") DShelf_init (hr.mono (by decide)) rfl T.mShelf pass0))
      (css_cons [1] [1] (cs_fld (i:=1) (c:="Shelf") T.cShelf T.nShelf_stands (ce_callTy (r:=rDictK) call_dictK gak_dictK rfl T.dict G1 (ca_cons (ce_fldF (c:="Shelf") T.cShelf T.nShelf_stands (ce_v 0)) ca_nil star_attr) (he:=star_attr)))
      (css_cons [1] [1] (cs_fld (i:=1) (c:="Shelf") T.cShelf T.nShelf_given (ce_fldF (c:="Shelf") T.cShelf T.nShelf_given (ce_v 0)))
      (css_cons [1] [1] (cs_fld (i:=1) (c:="Shelf") T.cShelf T.nShelf_laid (ce_fldF (c:="Shelf") T.cShelf T.nShelf_laid (ce_v 0)))
      (css_cons [1] [1] (cs_fld (i:=1) (c:="Shelf") T.cShelf T.nShelf_cut (ce_fldF (c:="Shelf") T.cShelf T.nShelf_cut (ce_v 0)))
      (css_cons [1] [1] (cs_fld (i:=1) (c:="Shelf") T.cShelf T.nShelf_scrapped (ce_fldF (c:="Shelf") T.cShelf T.nShelf_scrapped (ce_v 0)))
      (css_cons [1] [1] (cs_fld (i:=1) (c:="Shelf") T.cShelf T.nShelf_earned (ce_fldF (c:="Shelf") T.cShelf T.nShelf_earned (ce_v 0)))
      (css_one (cs_ret (ce_vd 1))))))))))⟩
theorem okStock_init (F:Fun K "__init__" "Stock.__init__" sStock_init f fd)(T:Txt mg K C)(DShelf_init:MkDef P w K mg base CX0 7 (C "Shelf") ["self"] (spM K C 0 Dl.F_Shelf_init))(DDeeds_init:MkDef P w K mg base CX0 7 (C "Deeds") ["self"] (spM K C 0 Dl.F_Deeds_init)):FnOk P w K mg base CX0 9 f fd ["self","table","least"] (spM K C 2 Dl.F_Stock_init):=by
  refine F.okM scStock_init rfl fun cdv A outer s H E hr=>?_;have sc:=scStock_init;have hu:_+64<Bf:=hr.units;exact ⟨_,(jb_cons [0] [0] (jp_fld (i:=0) (c:="Stock") T.cStock T.nStock_kinds (ce_callTy (r:=rList K) (call_listA rfl) gak_list rfl T.list AJ (ca_cons (ce_v 1) ca_nil star_name) (he:=star_name)))
      (jb_cons [0] [0] (jp_fld (i:=0) (c:="Stock") T.cStock T.nStock_least (ce_flat (ce_v 2)))
      (jb_cons [0] [0] (jp_fld (i:=0) (c:="Stock") T.cStock T.nStock_shelf (ce_fzO (ce_make0 (c:="Shelf") DShelf_init (hr.mono (by decide)) rfl T.mShelf pass0)))
      (jb_end (jp_fld (i:=0) (c:="Stock") T.cStock T.nStock_deeds (ce_make0 (c:="Deeds") DDeeds_init (hr.mono (by decide)) rfl T.mDeeds pass0))))))⟩
theorem ok_law_table (F:Fun K "_law_table" "_law_table" s_law_table f fd)(T:Txt mg K C)(D_law_row:Def P w K mg base CX0 8 "_law_row" ["_law_script","_law_place","_law_sizes"] (spD K C 3 2 Dl.F__law_row)):FnOk P w K mg base CX0 9 f fd ["_law_script","_law_place","_law_most"] (spD K C 3 2 Dl.F__law_table):=by
  refine F.okC sc_law_table (Γ':=[]) (Δ':=[]) rfl fun cdv A outer s H E hr=>?_;have sc:=sc_law_table;have hu:_+64<Bf:=hr.units;exact ⟨_,(css_cons [3] [3] (cs_set (i:=3) sc.nd rfl (AD rfl) (ce_lst (ca_cons2 ce_str (ca_cons2 ce_str (ca_cons2 ce_str (ca_cons2 ce_str (ca_cons2 ce_str (ca_cons2 ce_str (ca_cons2 ce_str (ca_cons2 ce_str (ca_cons2 ce_str (ca_cons2 ce_str ca_nil star_const) star_const) star_const) star_const) star_const) star_const) star_const) star_const) star_const) star_const)))
      (css_cons [3] [3] (cs_set (i:=3) sc.nd rfl (AD rfl) (ce_op op_addA gok_add (ce_v 3) (ce_lst (ca_cons2 ce_str (ca_cons2 ce_str (ca_cons2 ce_str (ca_cons2 ce_str (ca_cons2 ce_str (ca_cons2 ce_str ca_nil star_const) star_const) star_const) star_const) star_const) star_const))))
      (css_cons [3,4] [3,4] (cs_set (i:=4) sc.nd rfl (AD rfl) (ce_call D_law_row (hr.mono (by decide)) rfl pass0 (ca_cons (ce_v 0) (ca_cons (ce_v 1) (ca_cons (ce_op op_addA gok_add (ce_lst (ca_cons2 (ce_op op_addA gok_add (ce_v 2) ce_int) (ca_cons2 ce_int (ca_cons2 ce_int (ca_cons2 ce_int (ca_cons2 ce_int (ca_cons2 ce_int ca_nil star_const) star_const) star_const) star_const) star_const) star_bin)) (ce_op op_mulA gok_mul (ce_lst (ca_cons2 ce_int (ca_cons2 ce_int (ca_cons2 ce_int ca_nil star_const) star_const) star_const)) (ce_v 2))) ca_nil star_bin) star_name) star_name) (he:=star_name)))
      (css_cons [3,4,5] [3,4,5] (cs_set (i:=5) sc.nd rfl (AD rfl) (ce_flat (ce_ix K (ce_lst (ca_cons2 ce_int (ca_cons2 ce_int (ca_cons2 ce_int (ca_cons2 (ce_op op_pow gok_pow ce_int ce_int) ca_nil star_bin) star_const) star_const) star_const)) (ce_ix K (ce_v 4) ce_int plain_const) plain_sub)))
      (css_cons [3,4,5,6] [3,4,5,6] (cs_set (i:=6) sc.nd rfl (AD rfl) (ce_flat (ce_ix K (ce_lst (ca_cons2 ce_int (ca_cons2 ce_int (ca_cons2 (ce_op op_pow gok_pow ce_int ce_int) (ca_cons2 (ce_op op_mulA gok_mul ce_int (ce_op op_pow gok_pow ce_int ce_int)) ca_nil star_bin) star_bin) star_const) star_const)) (ce_ix K (ce_v 4) ce_int plain_const) plain_sub)))
      (css_cons [3,4,5,6,7] [3,4,5,6,7] (cs_set (i:=7) sc.nd rfl (AD rfl) (ce_lst ca_nil))
      (css_cons [3,4,5,6,7] [3,4,5,6,7] (cs_for [3,4,5,6,7] [3,4,5,6,7] B6 rfl (ci_rng1 rfl T.range (ca_cons (ce_ix K (ce_v 4) ce_int plain_const) ca_nil star_sub)) (cg_name (i:=8) (hN:=sc.nd) (hi:=rfl) (hx:=AD rfl)) (css_weak [3,4,5,6,7,9,10,11,12,13] [3,4,5,6,7,9,10,11,12,13] (css_cons [3,4,5,6,7,9] [3,4,5,6,7,9] (cs_set (i:=9) sc.nd rfl (AD rfl) (ce_op op_addA gok_add (ce_op op_mulA gok_mul ce_int (ce_v 8)) ce_int))
      (css_cons [3,4,5,6,7,9,10] [3,4,5,6,7,9,10] (cs_set (i:=10) sc.nd rfl (AD rfl) (ce_flat (ce_ix K (ce_lst1 (ca_cons ce_int (ca_cons ce_int (ca_cons ce_int (ca_cons ce_int (ca_cons ce_int (ca_cons ce_int (ca_cons ce_int (ca_cons ce_int (ca_cons ce_int (ca_cons ce_int (ca_cons (ce_ix K (ce_lst (ca_cons2 ce_int (ca_cons2 ce_int ca_nil star_const) star_const)) (ce_op op_mod gok_mod (ce_v 8) ce_int) plain_bin) ca_nil star_sub) star_const) star_const) star_const) star_const) star_const) star_const) star_const) star_const) star_const) star_const)) (ce_ix K (ce_v 4) (ce_v 9) plain_name) plain_sub)))
      (css_cons [3,4,5,6,7,9,10,11] [3,4,5,6,7,9,10,11] (cs_set (i:=11) sc.nd rfl (AD rfl) (ce_op op_addA gok_add ce_int (ce_ix K (ce_v 4) (ce_op op_addA gok_add (ce_v 9) ce_int) plain_bin)))
      (css_cons [3,4,5,6,7,9,10,11] [3,4,5,6,7,9,10,11] (cs_if (ct_cmp (r:=rEqA K) (op_eqA hu) gok_eq (ce_ix K (ce_v 4) ce_int plain_const) ce_int (nomark _)) (css_one (cs_set (i:=11) sc.nd rfl (AD rfl) (ce_op op_addA gok_add (ce_op op_mulA gok_mul ce_int (ce_v 10)) (ce_op op_mod gok_mod (ce_ix K (ce_v 4) (ce_op op_addA gok_add (ce_v 9) ce_int) plain_bin) ce_int)))) css_nil)
      (css_cons [3,4,5,6,7,9,10,11] [3,4,5,6,7,9,10,11] (cs_if (ct_cmp (r:=rEqA K) (op_eqA hu) gok_eq (ce_ix K (ce_v 4) ce_int plain_const) ce_int (nomark _)) (css_one (cs_set (i:=11) sc.nd rfl (AD rfl) (ce_op op_addA gok_add ce_int (ce_op op_mod gok_mod (ce_ix K (ce_v 4) (ce_op op_addA gok_add (ce_v 9) ce_int) plain_bin) ce_int)))) css_nil)
      (css_cons [3,4,5,6,7,9,10,11] [3,4,5,6,7,9,10,11] (cs_if (ct_cmp (r:=rEqA K) (op_eqA hu) gok_eq (ce_ix K (ce_v 4) ce_int plain_const) ce_int (nomark _)) (css_one (cs_set (i:=11) sc.nd rfl (AD rfl) (ce_flat (ce_v 10)))) css_nil)
      (css_cons [3,4,5,6,7,9,10,11,12] [3,4,5,6,7,9,10,11,12] (cs_set (i:=12) sc.nd rfl (AD rfl) (ce_callB (r:=rMin2) (call_minR rfl) gak_min rfl T.min D0 (ca_cons (ce_op op_mulA gok_mul (ce_ix K (ce_lst (ca_cons2 ce_int (ca_cons2 ce_int (ca_cons2 ce_int (ca_cons2 ce_int (ca_cons2 ce_int (ca_cons2 ce_int ca_nil star_const) star_const) star_const) star_const) star_const) star_const)) (ce_ix K (ce_v 4) (ce_op op_addA gok_add (ce_v 9) ce_int) plain_bin) plain_sub) (ce_v 5)) (ca_cons (ce_op op_sub gok_sub (ce_op op_pow gok_pow ce_int ce_int) ce_int) ca_nil star_bin) star_bin) (he:=star_bin)))
      (css_cons [3,4,5,6,7,9,10,11,12,13] [3,4,5,6,7,9,10,11,12,13] (cs_set (i:=13) sc.nd rfl (AD rfl) (ce_flat (ce_ix K (ce_v 3) (ce_op op_mod gok_mod (ce_op op_addA gok_add (ce_ix K (ce_v 4) ce_int plain_const) (ce_op op_mulA gok_mul (ce_op op_addA gok_add (ce_op op_mulA gok_mul ce_int (ce_ix K (ce_v 4) ce_int plain_const)) ce_int) (ce_v 8))) ce_int) plain_bin)))
      (css_one (cs_app (i:=7) (he:=(ce_tup (ca_cons2 (ce_flat (ce_v 13)) (ca_cons2 (ce_flat (ce_v 10)) (ca_cons2 (ce_callB (r:=rMin2) (call_minR rfl) gak_min rfl T.min D0 (ca_cons (ce_op op_mulA gok_mul (ce_v 11) (ce_v 6)) (ca_cons (ce_op op_pow gok_pow ce_int ce_int) ca_nil star_bin) star_bin) (he:=star_bin)) (ca_cons2 (ce_flat (ce_v 12)) ca_nil star_name) star_call) star_name) star_name))) (hse:=star_tup)))))))))))))
      (css_one (cs_ret (ce_vd 7))))))))))⟩
theorem ok_law_flaw (F:Fun K "_law_flaw" "_law_flaw" s_law_flaw f fd)(T:Txt mg K C)(D_law_row:Def P w K mg base CX0 8 "_law_row" ["_law_script","_law_place","_law_sizes"] (spD K C 3 2 Dl.F__law_row)):FnOk P w K mg base CX0 9 f fd ["_law_script","_law_place","_law_most"] (spD K C 3 2 Dl.F__law_flaw):=by refine F.okC sc_law_flaw (Γ':=[]) (Δ':=[]) rfl fun cdv A outer s H E hr=>?_;have sc:=sc_law_flaw;have hu:_+64<Bf:=hr.units;exact ⟨_,(css_one (cs_ret (ce_flat (ce_ix K (ce_lst (ca_cons2 ce_int (ca_cons2 ce_int (ca_cons2 ce_int (ca_cons2 (ce_op op_pow gok_pow ce_int ce_int) ca_nil star_bin) star_const) star_const) star_const)) (ce_ix K (ce_call D_law_row (hr.mono (by decide)) rfl pass0 (ca_cons (ce_v 0) (ca_cons (ce_v 1) (ca_cons (ce_lst (ca_cons2 (ce_op op_addA gok_add (ce_v 2) ce_int) (ca_cons2 ce_int ca_nil star_const) star_bin)) ca_nil star_list) star_name) star_name) (he:=star_name)) ce_int plain_const) plain_sub))))⟩
theorem ok_law_roll (F:Fun K "_law_roll" "_law_roll" s_law_roll f fd)(T:Txt mg K C)(D_law_row:Def P w K mg base CX0 8 "_law_row" ["_law_script","_law_place","_law_sizes"] (spD K C 3 2 Dl.F__law_row)):FnOk P w K mg base CX0 9 f fd ["_law_script","_law_place","_law_most","_law_flaw_here"] (spD K C 4 2 Dl.F__law_roll):=by
  refine F.okC sc_law_roll (Γ':=[]) (Δ':=[]) rfl fun cdv A outer s H E hr=>?_;have sc:=sc_law_roll;have hu:_+64<Bf:=hr.units;exact ⟨_,(css_cons [4] [4] (cs_set (i:=4) sc.nd rfl (AD rfl) (ce_call D_law_row (hr.mono (by decide)) rfl pass0 (ca_cons (ce_v 0) (ca_cons (ce_v 1) (ca_cons (ce_op op_addA gok_add (ce_lst (ca_cons2 (ce_op op_addA gok_add (ce_v 2) ce_int) (ca_cons2 ce_int (ca_cons2 ce_int ca_nil star_const) star_const) star_bin)) (ce_op op_mulA gok_mul (ce_lst (ca_cons2 ce_int (ca_cons2 ce_int ca_nil star_const) star_const)) (ce_v 2))) ca_nil star_bin) star_name) star_name) (he:=star_name)))
      (css_cons [4,5] [4,5] (cs_set (i:=5) sc.nd rfl (AD rfl) (ce_op op_mulA gok_mul ce_int (ce_v 3)))
      (css_cons [4,5] [4,5] (cs_if (ct_cmp (r:=rEqA K) (op_eqA hu) gok_eq (ce_ix K (ce_v 4) ce_int plain_const) ce_int (nomark _)) (css_one (cs_set (i:=5) sc.nd rfl (AD rfl) (ce_op op_pow gok_pow ce_int ce_int))) css_nil)
      (css_cons [4,5,6] [4,5,6] (cs_set (i:=6) sc.nd rfl (AD rfl) (ce_lst ca_nil))
      (css_cons [4,5,6] [4,5,6] (cs_for [4,5,6] [4,5,6] B6 rfl (ci_rng1 rfl T.range (ca_cons (ce_ix K (ce_v 4) ce_int plain_const) ca_nil star_sub)) (cg_name (i:=7) (hN:=sc.nd) (hi:=rfl) (hx:=AD rfl)) (css_weak [4,5,6,8,9] [4,5,6,8,9] (css_cons [4,5,6,8] [4,5,6,8] (cs_set (i:=8) sc.nd rfl (AD rfl) (ce_op op_addA gok_add (ce_op op_mulA gok_mul ce_int (ce_v 7)) ce_int))
      (css_cons [4,5,6,8,9] [4,5,6,8,9] (cs_set (i:=9) sc.nd rfl (AD rfl) ce_int)
      (css_cons [4,5,6,8,9] [4,5,6,8,9] (cs_if (ct_cmp op_lt gok_lt (ce_ix K (ce_v 4) (ce_v 8) plain_name) (ce_ix K (ce_lst (ca_cons2 ce_int (ca_cons2 ce_int (ca_cons2 ce_int (ca_cons2 ce_int ca_nil star_const) star_const) star_const) star_const)) (ce_ix K (ce_v 4) ce_int plain_const) plain_sub) (nomark _)) (css_one (cs_set (i:=9) sc.nd rfl (AD rfl) (ce_flat (ce_ix K (ce_lst1 (ca_cons (ce_v 3) (ca_cons (ce_v 3) (ca_cons (ce_op op_mulA gok_mul ce_int (ce_v 3)) (ca_cons (ce_op op_mulA gok_mul ce_int (ce_v 3)) (ca_cons (ce_v 5) ca_nil star_name) star_bin) star_bin) star_name) star_name)) (ce_ix K (ce_v 4) (ce_op op_addA gok_add (ce_v 8) ce_int) plain_bin) plain_sub)))) css_nil)
      (css_one (cs_app (i:=6) (he:=(ce_flat (ce_v 9))) (hse:=star_name))))))))
      (css_one (cs_ret (ce_vd 6))))))))⟩
theorem ok_law_stands (F:Fun K "_law_stands" "_law_stands" s_law_stands f fd)(T:Txt mg K C)(D_law_none:Def P w K mg base CX0 8 "_law_none" ["_law_stock","_law_number"] (spD K C 2 2 Dl.F__law_none))(DStock_numbers:MDef P w K mg base CX0 7 (C "Stock") "numbers" ["self"] (spD K C 1 2 Dl.F_Stock_numbers))(DStock_sums:MDef P w K mg base CX0 8 (C "Stock") "sums" ["self"] (spD K C 1 2 Dl.F_Stock_sums))(Droll__N:MDef P w K mg base CX0 7 (C "Stock") "roll" ["self","number"] (spD K C 2 2 Dl.F_roll__N))(DStock_total:MDef P w K mg base CX0 7 (C "Stock") "total" ["self"] (spD K C 1 2 Dl.F_Stock_total)):FnOk P w K mg base CX0 9 f fd ["_law_stock","_law_laid"] (spD K C 2 2 Dl.F__law_stands):=by
  refine F.okC sc_law_stands (Γ':=[]) (Δ':=[]) rfl fun cdv A outer s H E hr=>?_;have sc:=sc_law_stands;have hu:_+64<Bf:=hr.units;have nd0:Fi (["_law_stock","_law_laid","_law_cells","_law_told_numbers","_law_k","_law_found","_law_roll_here"]:List Str):=by decide +kernel
  exact ⟨_,(css_cons [2] [2] (cs_set (i:=2) sc.nd rfl (AD rfl) (ce_callB (r:=rSum K) (call_sum rfl) gak_sum rfl T.sum DZ (ca_cons (ce_comp (n:=6) (defScope s_law_stands) ["_law_stock","_law_laid","_law_cells","_law_told_numbers","_law_k","_law_found"] ["_law_stock","_law_laid","_law_cells","_law_told_numbers","_law_k","_law_found"] ["_law_roll_here"] ⟨rfl,by decide +kernel,by decide +kernel,by decide +kernel,by decide +kernel,by decide +kernel,rfl,by decide +kernel⟩ (ci_list (ce_v 1)) (fun _ _ _ _ _=>(cb_name 6 (hN:=nd0))) (fun _ _ _ _ _=>cif_nil) (fun _ _ _ _ _=>(ce_callB (r:=rLenA K) call_lenA gak_len rfl T.len PySem.boot_len (ca_cons (ce_v 6 (hv:=AD rfl)) ca_nil star_name) (he:=star_name)))) ca_nil star_comp) (he:=star_comp)))
      (css_cons [2,3] [2,3] (cs_set (i:=3) sc.nd rfl (AD rfl) (ce_meth0 (c:="Stock") T.cStock DStock_numbers (hr.mono (by decide)) pass0 (ce_v 0)))
      (css_cons [2,3] [2,3] (cs_if (ct_w (cw_or (ct_cmp (r:=rNeA K) (op_neA hu) gok_ne (ce_v 3) (ce_callTy (r:=rList K) (call_listA rfl) gak_list rfl T.list AJ (ca_cons (ce_callTy (r:=rRange) call_range gak_range rfl T.range GZ (ca_cons (ce_callB (r:=rLenA K) call_lenA gak_len rfl T.len PySem.boot_len (ca_cons (ce_v 1) ca_nil star_name) (he:=star_name)) ca_nil star_call) (he:=star_call)) ca_nil star_call) (he:=star_call)) (nomark _)) (cw_or1 (ct_cmp (r:=rNeA K) (op_neA hu) gok_ne (ce_meth0 (c:="Stock") T.cStock DStock_total (hr.mono (by decide)) pass0 (ce_v 0)) ce_int (nomark _))))) (css_one (cs_ret ce_bl)) css_nil)
      (css_cons [2,3] [2,3] (cs_if (ct_cmp (r:=rNeA K) (op_neA hu) gok_ne (ce_meth0 (c:="Stock") T.cStock DStock_sums (hr.mono (by decide)) pass0 (ce_v 0)) (ce_tup0 (ca_cons (ce_v 2) (ca_cons ce_int (ca_cons ce_int (ca_cons (ce_v 2) ca_nil star_name) star_const) star_const) star_name)) (nomark _)) (css_one (cs_ret ce_bl)) css_nil)
      (css_cons [2,3] [2,3] (cs_for [2,3] [2,3] B6 rfl (ci_rng1 rfl T.range (ca_cons (ce_callB (r:=rLenA K) call_lenA gak_len rfl T.len PySem.boot_len (ca_cons (ce_v 1) ca_nil star_name) (he:=star_name)) ca_nil star_call)) (cg_name (i:=4) (hN:=sc.nd) (hi:=rfl) (hx:=AD rfl)) (css_weak [2,3,5] [2,3,5] (css_cons [2,3,5] [2,3,5] (cs_set (i:=5) sc.nd rfl (AD rfl) (ce_meth (c:="Stock") T.cStock Droll__N (hr.mono (by decide)) pass0 (ce_v 0) (ca_cons (ce_v 4) ca_nil star_name) (hst:=star_name)))
      (css_cons [2,3,5] [2,3,5] (cs_if (ct_w (cw_or (ct_not (ct_val (ce_isI K (ty:="list") kit_list rfl T.isinstance rfl T.list AJ (ce_v 5) star_name))) (cw_or1 (ct_cmp (r:=rNeA K) (op_neA hu) gok_neF (ce_v 5) (ce_ix K (ce_v 1) (ce_v 4) plain_name) (nomark _))))) (css_one (cs_ret ce_bl)) css_nil)
      (css_one (cs_app (i:=5) (he:=ce_int) (hse:=star_const)))))))
      (css_cons [2,3] [2,3] (cs_app (i:=3) (he:=ce_int) (hse:=star_const))
      (css_one (cs_ret (ce_and (ce_call D_law_none (hr.mono (by decide)) rfl pass0 (ca_cons (ce_v 0) (ca_cons (ce_callB (r:=rLenA K) call_lenA gak_len rfl T.len PySem.boot_len (ca_cons (ce_v 1) ca_nil star_name) (he:=star_name)) ca_nil star_call) star_name) (he:=star_name)) (ce_one (ce_call D_law_none (hr.mono (by decide)) rfl pass0 (ca_cons (ce_v 0) (ca_cons (ce_neg ce_int) ca_nil star_un) star_name) (he:=star_name))))))))))))⟩
theorem okStock_lay (F:Fun K "lay" "Stock.lay" sStock_lay f fd)(T:Txt mg K C)(DShelf_another:MDef P w K mg base CX0 9 (C "Shelf") "another" ["self"] (spD K C 1 2 Dl.F_Shelf_another))(DStock_enter:MDef P w K mg base CX0 8 (C "Stock") "enter" ["self","shelf","told"] (spM K C 2 Dl.F_Stock_enter))(DShelf_put:MDef P w K mg base CX0 7 (C "Shelf") "put" ["self","roll"] (spM K C 1 Dl.F_Shelf_put)):FnOk P w K mg base CX0 10 f fd ["self","roll"] (spM K C 1 Dl.F_Stock_lay):=by
  refine F.okM scStock_lay rfl fun cdv A outer s H E hr=>?_;have sc:=scStock_lay;have hu:_+64<Bf:=hr.units;exact ⟨_,(jb_cons [0] [0] (jp_ifN (ct_cmp op_ge gok_ge (ce_lenK rfl T.len (ce_fldF (c:="Shelf") T.cShelf T.nShelf_stands (ce_fld (c:="Stock") T.cStock T.nStock_shelf (ce_v 0))) star_attr) (ce_glob rfl T.MOST_STANDING.choose_spec ⟨_,rfl⟩) (nomark _)))
      (jb_cons [0,2] [0,2] (jp_set (i:=2) sc.nd rfl (AD rfl) (ce_meth0F (c:="Shelf") T.cShelf DShelf_another (hr.mono (by decide)) pass0 (ce_fld (c:="Stock") T.cStock T.nStock_shelf (ce_v 0))))
      (jb_cons [0,2] [0,2] (jp_fldAugA (i:=2) (c:="Shelf") T.cShelf T.nShelf_laid (ce_callB (r:=rLenA K) call_lenA gak_len rfl T.len PySem.boot_len (ca_cons (ce_v 1) ca_nil star_name) (he:=star_name)))
      (jb_enter 2 (c:="Stock") (c2:="Shelf") T.cStock DStock_enter (hr.mono (by decide)) pass0 T.cShelf DShelf_put (hr.mono (by decide)) pass0 (ca_cons (ce_v 1) ca_nil star_name) (hst:=star_name) (hst0:=star_name) (hst1:=star_call)))))⟩
theorem oklaw (F:Fun K "law" "law" slaw f fd)(T:Txt mg K C)(D_law_row:Def P w K mg base CX0 8 "_law_row" ["_law_script","_law_place","_law_sizes"] (spD K C 3 2 Dl.F__law_row))(D_law_flaw:Def P w K mg base CX0 9 "_law_flaw" ["_law_script","_law_place","_law_most"] (spD K C 3 2 Dl.F__law_flaw))(D_law_table:Def P w K mg base CX0 9 "_law_table" ["_law_script","_law_place","_law_most"] (spD K C 3 2 Dl.F__law_table))(D_law_roll:Def P w K mg base CX0 9 "_law_roll" ["_law_script","_law_place","_law_most","_law_flaw_here"] (spD K C 4 2 Dl.F__law_roll))(D_law_stands:Def P w K mg base CX0 9 "_law_stands" ["_law_stock","_law_laid"] (spD K C 2 2 Dl.F__law_stands))(D_law_none:Def P w K mg base CX0 8 "_law_none" ["_law_stock","_law_number"] (spD K C 2 2 Dl.F__law_none))(D_law_full:Def P w K mg base CX0 8 "_law_full" ["_law_stock"] (spD K C 1 2 Dl.F__law_full))(D_law_is_whole:Def P w K mg base CX0 7 "_law_is_whole" ["_law_one"] (spD K C 1 2 Dl.F__law_is_whole))(DStock_init:MkDef P w K mg base CX0 9 (C "Stock") ["self","table","least"] (spM K C 2 Dl.F_Stock_init))(DStock_lay:MDef P w K mg base CX0 10 (C "Stock") "lay" ["self","roll"] (spM K C 1 Dl.F_Stock_lay)):FnOk P w K mg base CX0 11 f fd ["_law_script"] (spD K C 1 2 Dl.F_law):=by
  refine F.okC sclaw (Γ':=[]) (Δ':=[]) rfl fun cdv A outer s H E hr=>?_;have sc:=sclaw;have hu:_+64<Bf:=hr.units;have nd0:Fi (["_law_script","_law_some","_law_flaw_here","_law_table_here","_law_before","_law_stock","_law_rolls","_law_laid","_law_roll_here","_law_handed","_law_found","_law_k"]:List Str):=by decide +kernel
  exact ⟨_,(css_cons [1] [1] (cs_set (i:=1) sc.nd rfl (AD rfl) (ce_call D_law_row (hr.mono (by decide)) rfl pass0 (ca_cons (ce_v 0) (ca_cons ce_int (ca_cons (ce_lst (ca_cons2 ce_int (ca_cons2 ce_int (ca_cons2 ce_int (ca_cons2 ce_int ca_nil star_const) star_const) star_const) star_const)) ca_nil star_list) star_const) star_name) (he:=star_name)))
      (css_cons [1,2] [1,2] (cs_set (i:=2) sc.nd rfl (EV rfl) (ce_call D_law_flaw (hr.mono (by decide)) rfl pass0 (ca_cons (ce_v 0) (ca_cons ce_int (ca_cons ce_int ca_nil star_const) star_const) star_name) (he:=star_name)))
      (css_cons [1,2,3] [1,2,3] (cs_set (i:=3) sc.nd rfl (AD rfl) (ce_call D_law_table (hr.mono (by decide)) rfl pass0 (ca_cons (ce_v 0) (ca_cons ce_int (ca_cons ce_int ca_nil star_const) star_const) star_name) (he:=star_name)))
      (css_cons [1,2,3,4] [1,2,3,4] (cs_set (i:=4) sc.nd rfl (AD rfl) (ce_callTy (r:=rList K) (call_listA rfl) gak_list rfl T.list AJ (ca_cons (ce_v 3) ca_nil star_name) (he:=star_name)))
      (css_cons [1,2,3,4,5] [1,2,3,4,5] (cs_set (i:=5) sc.nd rfl (AD rfl) (ce_make (c:="Stock") DStock_init (hr.mono (by decide)) rfl T.mStock pass0 (ca_cons (ce_v 3) (ca_cons (ce_ix K (ce_lst (ca_cons2 ce_int (ca_cons2 ce_int (ca_cons2 ce_int (ca_cons2 ce_int ca_nil star_const) star_const) star_const) star_const)) (ce_ix K (ce_v 1) ce_int plain_const) plain_sub) ca_nil star_sub) star_name) (he:=star_name)))
      (css_cons [1,2,3,4,5] [1,2,3,4,5] (cs_if (ct_w (cw_or (ct_cmp (r:=rNeA K) (op_neA hu) gok_ne (ce_v 3) (ce_v 4) (nomark _)) (cw_or1 (ct_not (ct_val (ce_call D_law_none (hr.mono (by decide)) rfl pass0 (ca_cons (ce_v 5) (ca_cons (ce_op op_pow gok_pow ce_int ce_int) ca_nil star_bin) star_name) (he:=star_name))))))) (css_one (cs_ret ce_bl)) css_nil)
      (css_cons [1,2,3,4,5] [1,2,3,4,5] (cs_app (i:=3) (he:=(ce_tup (ca_cons2 ce_str (ca_cons2 ce_int (ca_cons2 ce_int (ca_cons2 ce_int ca_nil star_const) star_const) star_const) star_const))) (hse:=star_tup))
      (css_cons [1,2,3,4,5] [1,2,3,4,5] (cs_put (i:=3) (he:=(ce_tup (ca_cons2 ce_str (ca_cons2 ce_int (ca_cons2 ce_int (ca_cons2 ce_int ca_nil star_const) star_const) star_const) star_const))) (hk:=ce_int))
      (css_cons [1,2,3,4,5,6] [1,2,3,4,5,6] (cs_setC (i:=6) (n:=11) (defScope slaw) ["_law_script","_law_some","_law_flaw_here","_law_table_here","_law_before","_law_stock","_law_rolls","_law_laid","_law_roll_here","_law_handed","_law_found"] ["_law_script","_law_some","_law_flaw_here","_law_table_here","_law_before","_law_stock","_law_rolls","_law_laid","_law_roll_here","_law_handed","_law_found"] ["_law_k"] ⟨rfl,by decide +kernel,by decide +kernel,by decide +kernel,by decide +kernel,by decide +kernel,rfl,by decide +kernel⟩ rfl rfl (ci_rng1 rfl T.range (ca_cons (ce_ix K (ce_v 1) ce_int plain_const) ca_nil star_sub)) (fun _ _ _ _ _=>(cb_name 11 (hN:=nd0))) (fun _ _ _ _ _=>cif_nil) (fun _ _ _ _ _=>(ce_fzl (ce_call D_law_roll (hr.mono (by decide)) rfl pass0 (ca_cons (ce_v 0 (hv:=EV (AD rfl))) (ca_cons (ce_op op_addA gok_add ce_int (ce_v 11 (hv:=AD rfl))) (ca_cons ce_int (ca_cons (ce_v 2 (hv:=EV (AD rfl))) ca_nil star_name) star_const) star_bin) star_name) (he:=star_name)))))
      (css_cons [1,2,3,4,5,6] [1,2,3,4,5,6] (cs_if (ct_cmp (r:=rEqA K) (op_eqA hu) gok_eq (ce_ix K (ce_v 1) ce_int plain_const) ce_int (nomark _)) (css_one (cs_set (i:=6) sc.nd rfl (AD rfl) (ce_op op_addA gok_add (ce_comp (n:=11) (defScope slaw) ["_law_script","_law_some","_law_flaw_here","_law_table_here","_law_before","_law_stock","_law_rolls","_law_laid","_law_roll_here","_law_handed","_law_found"] ["_law_script","_law_some","_law_flaw_here","_law_table_here","_law_before","_law_stock","_law_rolls","_law_laid","_law_roll_here","_law_handed","_law_found"] ["_law_k"] ⟨rfl,by decide +kernel,by decide +kernel,by decide +kernel,by decide +kernel,by decide +kernel,rfl,by decide +kernel⟩ (ci_rng1 rfl T.range (ca_cons (ce_op op_addA gok_add ce_int (ce_ix K (ce_v 1) ce_int plain_const)) ca_nil star_bin)) (fun _ _ _ _ _=>(cb_name 11 (hN:=nd0))) (fun _ _ _ _ _=>cif_nil) (fun _ _ _ _ _=>(ce_fzl (ce_lst (ca_cons2 (ce_flat (ce_v 11 (hv:=AD rfl))) ca_nil star_name))))) (ce_v 6)))) css_nil)
      (css_cons [1,2,3,4,5,6,7] [1,2,3,4,5,6,7] (cs_set (i:=7) sc.nd rfl (AD rfl) (ce_lst ca_nil))
      (css_cons [1,2,3,4,5,7] [1,2,3,4,5,7] (cs_for [1,2,3,4,5,7] [1,2,3,4,5,7] B6 rfl (ci_list (ce_v 6)) (cg_name (i:=8) (hN:=sc.nd) (hi:=rfl) (hx:=AD rfl)) (css_one (cs_if (ct_cmp (r:=rEqA K) (op_eqA hu) gok_eq (ce_callB (r:=rLenA K) call_lenA gak_len rfl T.len PySem.boot_len (ca_cons (ce_v 7) ca_nil star_name) (he:=star_name)) ce_int (nomark _)) (css_one (cs_if (ct_not (ct_val (ce_call D_law_full (hr.mono (by decide)) rfl pass0 (ca_cons (ce_v 5) ca_nil star_name) (he:=star_name)))) (css_one (cs_ret ce_bl)) css_nil)) (css_weak [1,2,3,4,5,7,9,10] [1,2,3,4,5,7,9,10] (css_cons [1,2,3,4,5,7,9] [1,2,3,4,5,7,9] (cs_set (i:=9) sc.nd rfl (AD rfl) (ce_callTy (r:=rList K) (call_listA rfl) gak_list rfl T.list AJ (ca_cons (ce_v 8) ca_nil star_name) (he:=star_name)))
      (css_cons [1,2,3,4,5,7,9,10] [1,2,3,4,5,7,9,10] (cs_setM (i:=10) sc.nd rfl (AD rfl) (cm_meth 5 (c:="Stock") T.cStock DStock_lay (hr.mono (by decide)) pass0 (ca_cons (ce_v 9) ca_nil star_name) (hst:=star_name)))
      (css_cons [1,2,3,4,5,7,9,10] [1,2,3,4,5,7,9,10] (cs_if (ct_w (cw_or (ct_not (ct_val (ce_call D_law_is_whole (hr.mono (by decide)) rfl pass0 (ca_cons (ce_v 10) ca_nil star_name) (he:=star_name)))) (cw_or (ct_cmp (r:=rNeA K) (op_neA hu) gok_ne (ce_v 10) (ce_callB (r:=rLenA K) call_lenA gak_len rfl T.len PySem.boot_len (ca_cons (ce_v 7) ca_nil star_name) (he:=star_name)) (nomark _)) (cw_or1 (ct_cmp (r:=rNeA K) (op_neA hu) gok_neF (ce_v 9) (ce_v 8) (nomark _)))))) (css_one (cs_ret ce_bl)) css_nil)
      (css_cons [1,2,3,4,5,7,9,10] [1,2,3,4,5,7,9,10] (cs_app (i:=9) (he:=ce_int) (hse:=star_const))
      (css_cons [1,2,3,4,5,7,9,10] [1,2,3,4,5,7,9,10] (cs_put (i:=9) (he:=(ce_op op_addA gok_add (ce_ix K (ce_v 9) ce_int plain_const) ce_int)) (hk:=ce_int))
      (css_one (cs_app (i:=7) (he:=(ce_flat (ce_v 8))) (hse:=star_name))))))))))))
      (css_one (cs_ret (ce_and (ce_call D_law_stands (hr.mono (by decide)) rfl pass0 (ca_cons (ce_v 5) (ca_cons (ce_v 7) ca_nil star_name) star_name) (he:=star_name)) (ce_one (ce_call D_law_stands (hr.mono (by decide)) rfl pass0 (ca_cons (ce_v 5) (ca_cons (ce_v 7) ca_nil star_name) star_name) (he:=star_name))))))))))))))))))⟩
end
def spLaw (K:AC):Sp:=fun vs H Q _=>∃(a:Addr) (ns:List Int),vs=[.ref a]/\FzL K H a (ns.map V.int)/\ns.length<=63/\∀H',Q (.bl true) H'
theorem fz_of {H:Hp}(hO:Only H)(h:SqL K H a xs):FzL K H a xs:=by rcases h with (h | h) | h;rcases hO a with z | ⟨o,ys,z⟩;rw [h] at z;cases z;rw [h] at z;cases z;exact .inl h;exact .inr h
theorem law_true (ns:List Int)(h:ns.length<=63):Dl.F_law [.scr ns]=.ok (.bl true):=Dl.law81_true ns h
theorem all_mk {fa f1 f2 f3 f4 f5 f6 f7 f8 f9 f10 f11 f12 f13 f14 f15 f16 f17 f18 f19 f20 f21 f22 f23 f24 f25 f26 f27 f28:Addr}(X:K.In h)(G:h.Ns Af mg)(hfa:mg "law"=some (.ref fa))
  {fd1 fd2 fd3 fd4 fd5 fd6 fd7 fd8 fd9 fd10 fd11 fd12 fd13 fd14 fd15 fd16 fd17 fd18 fd19 fd20 fd21 fd22 fd23 fd24 fd25 fd26 fd27 fd28:BD}
  {cDeeds cShelf cStock:Addr}
  (a1:Ca K Af "anew"=some (some (.ref f1))) (F1:Fun K "anew" "anew" sanew f1 fd1)
  (a2:Ca K Af "_law_cell"=some (some (.ref f2))) (F2:Fun K "_law_cell" "_law_cell" s_law_cell f2 fd2)
  (a3:Ca K Af "_law_mix"=some (some (.ref f3))) (F3:Fun K "_law_mix" "_law_mix" s_law_mix f3 fd3)
  (a4:Ca K Af "_law_row"=some (some (.ref f4))) (F4:Fun K "_law_row" "_law_row" s_law_row f4 fd4)
  (a5:Ca K Af "_law_table"=some (some (.ref f5))) (F5:Fun K "_law_table" "_law_table" s_law_table f5 fd5)
  (a6:Ca K Af "_law_flaw"=some (some (.ref f6))) (F6:Fun K "_law_flaw" "_law_flaw" s_law_flaw f6 fd6)
  (a7:Ca K Af "_law_roll"=some (some (.ref f7))) (F7:Fun K "_law_roll" "_law_roll" s_law_roll f7 fd7)
  (a8:Ca K Af "_law_is_whole"=some (some (.ref f8))) (F8:Fun K "_law_is_whole" "_law_is_whole" s_law_is_whole f8 fd8)
  (a9:Ca K Af "_law_full"=some (some (.ref f9))) (F9:Fun K "_law_full" "_law_full" s_law_full f9 fd9)
  (a10:Ca K Af "_law_none"=some (some (.ref f10))) (F10:Fun K "_law_none" "_law_none" s_law_none f10 fd10)
  (a11:Ca K Af "_law_stands"=some (some (.ref f11))) (F11:Fun K "_law_stands" "_law_stands" s_law_stands f11 fd11)
  (a12:Ca K Af "law"=some (some (.ref f12))) (F12:Fun K "law" "law" slaw f12 fd12)
  (a13:Ax K (.ref cDeeds) "__init__"=some (some (.ref f13))) (i13:DD K (.ref f13)=true)
  (F13:Fun K "__init__" "Deeds.__init__" sDeeds_init f13 fd13)
  (a14:Ax K (.ref cDeeds) "add"=some (some (.ref f14))) (i14:DD K (.ref f14)=true)
  (F14:Fun K "add" "Deeds.add" sDeeds_add f14 fd14)
  (a15:Ax K (.ref cShelf) "__init__"=some (some (.ref f15))) (i15:DD K (.ref f15)=true)
  (F15:Fun K "__init__" "Shelf.__init__" sShelf_init f15 fd15)
  (a16:Ax K (.ref cShelf) "another"=some (some (.ref f16))) (i16:DD K (.ref f16)=true)
  (F16:Fun K "another" "Shelf.another" sShelf_another f16 fd16)
  (a17:Ax K (.ref cShelf) "put"=some (some (.ref f17))) (i17:DD K (.ref f17)=true)
  (F17:Fun K "put" "Shelf.put" sShelf_put f17 fd17)
  (a18:Ax K (.ref cShelf) "standing"=some (some (.ref f18))) (i18:DD K (.ref f18)=true)
  (F18:Fun K "standing" "Shelf.standing" sShelf_standing f18 fd18)
  (a19:Ax K (.ref cStock) "__init__"=some (some (.ref f19))) (i19:DD K (.ref f19)=true)
  (F19:Fun K "__init__" "Stock.__init__" sStock_init f19 fd19)
  (a20:Ax K (.ref cStock) "lay"=some (some (.ref f20))) (i20:DD K (.ref f20)=true)
  (F20:Fun K "lay" "Stock.lay" sStock_lay f20 fd20)
  (a21:Ax K (.ref cStock) "enter"=some (some (.ref f21))) (i21:DD K (.ref f21)=true)
  (F21:Fun K "enter" "Stock.enter" sStock_enter f21 fd21)
  (a22:Ax K (.ref cStock) "numbers"=some (some (.ref f22))) (i22:DD K (.ref f22)=true)
  (F22:Fun K "numbers" "Stock.numbers" sStock_numbers f22 fd22)
  (a23:Ax K (.ref cStock) "roll"=some (some (.ref f23))) (i23:DD K (.ref f23)=true)
  (F23:Fun K "roll" "Stock.roll" sStock_roll f23 fd23)
  (a24:Ax K (.ref cStock) "total"=some (some (.ref f24))) (i24:DD K (.ref f24)=true)
  (F24:Fun K "total" "Stock.total" sStock_total f24 fd24)
  (a25:Ax K (.ref cStock) "sums"=some (some (.ref f25))) (i25:DD K (.ref f25)=true)
  (F25:Fun K "sums" "Stock.sums" sStock_sums f25 fd25)
  (a26:Ax K (.ref cStock) "lay"=some (some (.ref f26))) (i26:DD K (.ref f26)=true)
  (F26:Fun K "lay" "Stock.lay" slay__R f26 fd26)
  (a27:Ax K (.ref cStock) "roll"=some (some (.ref f27))) (i27:DD K (.ref f27)=true)
  (F27:Fun K "roll" "Stock.roll" sroll__N f27 fd27)
  (a28:Ca K Af "anew"=some (some (.ref f28))) (F28:Fun K "anew" "anew" sanew__0 f28 fd28)
  (z1:Ca K Af "isinstance"=some none)
  (z2:Ca K Af "list"=some none)
  (z3:Ca K Af "tuple"=some none)
  (z4:Ca K Af "len"=some none)
  (z5:Ca K Af "range"=some none)
  (z6:Ca K Af "min"=some none)
  (z7:Ca K Af "int"=some none)
  (z8:Ca K Af "bool"=some none)
  (z9:Ca K Af "sum"=some none)
  (z10:Ca K Af "dict"=some none)
  (z11:Ca K Af "sorted"=some none)
  {tv1:Tok} (v1:Ca K Af "MOST_STANDING"=some (some (.int 40 tv1)))
  (gDeeds:Ca K Af "Deeds"=some (some (.ref cDeeds))) (pgDeeds:Da K cDeeds CW=true) (hdDeeds:CM K cDeeds=true) (poDeeds:DK K cDeeds=true) (saDeeds:Ax K (.ref cDeeds) "__setattr__"=some (some (.builtin "object.__setattr__"))) (mkDeeds:Eu K cDeeds=true) (kcDeeds:CI K (.ref cDeeds)=true)
  (nDeeds_done:Ax K (.ref cDeeds) "done"=some none)
  (nDeeds_undone:Ax K (.ref cDeeds) "undone"=some none)
  (gShelf:Ca K Af "Shelf"=some (some (.ref cShelf))) (pgShelf:Da K cShelf CW=true) (hdShelf:CM K cShelf=true) (poShelf:DK K cShelf=true) (saShelf:Ax K (.ref cShelf) "__setattr__"=some (some (.builtin "object.__setattr__"))) (mkShelf:Eu K cShelf=true) (kcShelf:CI K (.ref cShelf)=true)
  (nShelf_stands:Ax K (.ref cShelf) "stands"=some none)
  (nShelf_given:Ax K (.ref cShelf) "given"=some none)
  (nShelf_laid:Ax K (.ref cShelf) "laid"=some none)
  (nShelf_cut:Ax K (.ref cShelf) "cut"=some none)
  (nShelf_scrapped:Ax K (.ref cShelf) "scrapped"=some none)
  (nShelf_earned:Ax K (.ref cShelf) "earned"=some none)
  (gStock:Ca K Af "Stock"=some (some (.ref cStock))) (pgStock:Da K cStock CW=true) (hdStock:CM K cStock=true) (poStock:DK K cStock=true) (saStock:Ax K (.ref cStock) "__setattr__"=some (some (.builtin "object.__setattr__"))) (mkStock:Eu K cStock=true) (kcStock:CI K (.ref cStock)=true)
  (nStock_kinds:Ax K (.ref cStock) "kinds"=some none)
  (nStock_least:Ax K (.ref cStock) "least"=some none)
  (nStock_shelf:Ax K (.ref cStock) "shelf"=some none)
  (nStock_deeds:Ax K (.ref cStock) "deeds"=some none)
  {cCutError cTooBig cFull cNoRoll:Addr} {kCutError kTooBig kFull kNoRoll:_}
  (gCutError:Ca K Af "CutError"=some (some (.ref cCutError)))
  (xCutError:DS K cCutError bmV "ValueError.__new__"=true)
  (tCutError:C3 K (.ref cCutError)=some (.type "type"))
  (kCutError:Em K cCutError=some kCutError)
  (gaCutError:Ax K (.ref cCutError) "__getattribute__"=some (some (.builtin "BaseException.__getattribute__")))
  (geCutError:Ax K (.ref cCutError) "__getattr__"=some none)
  (lkCutError:Ax K (.ref cCutError) "__class__"=some (some (.builtin "object.__class__")))
  (soCutError:Bs K (.ref cCutError) (.type "object")=some true)
  (sbCutError:Bs K (.ref cCutError) (.type "BaseException")=some true)
  (seCutError:Bs K (.ref cCutError) (.ref cCutError)=some true)
  (gTooBig:Ca K Af "TooBig"=some (some (.ref cTooBig)))
  (xTooBig:DS K cTooBig bmV "ValueError.__new__"=true)
  (tTooBig:C3 K (.ref cTooBig)=some (.type "type"))
  (kTooBig:Em K cTooBig=some kTooBig)
  (gaTooBig:Ax K (.ref cTooBig) "__getattribute__"=some (some (.builtin "BaseException.__getattribute__")))
  (geTooBig:Ax K (.ref cTooBig) "__getattr__"=some none)
  (lkTooBig:Ax K (.ref cTooBig) "__class__"=some (some (.builtin "object.__class__")))
  (soTooBig:Bs K (.ref cTooBig) (.type "object")=some true)
  (sbTooBig:Bs K (.ref cTooBig) (.type "BaseException")=some true)
  (seTooBig:Bs K (.ref cTooBig) (.ref cTooBig)=some true)
  (gFull:Ca K Af "Full"=some (some (.ref cFull)))
  (xFull:DS K cFull bmV "ValueError.__new__"=true)
  (tFull:C3 K (.ref cFull)=some (.type "type"))
  (kFull:Em K cFull=some kFull)
  (gaFull:Ax K (.ref cFull) "__getattribute__"=some (some (.builtin "BaseException.__getattribute__")))
  (geFull:Ax K (.ref cFull) "__getattr__"=some none)
  (lkFull:Ax K (.ref cFull) "__class__"=some (some (.builtin "object.__class__")))
  (soFull:Bs K (.ref cFull) (.type "object")=some true)
  (sbFull:Bs K (.ref cFull) (.type "BaseException")=some true)
  (seFull:Bs K (.ref cFull) (.ref cFull)=some true)
  (gNoRoll:Ca K Af "NoRoll"=some (some (.ref cNoRoll)))
  (xNoRoll:DS K cNoRoll bmV "ValueError.__new__"=true)
  (tNoRoll:C3 K (.ref cNoRoll)=some (.type "type"))
  (kNoRoll:Em K cNoRoll=some kNoRoll)
  (gaNoRoll:Ax K (.ref cNoRoll) "__getattribute__"=some (some (.builtin "BaseException.__getattribute__")))
  (geNoRoll:Ax K (.ref cNoRoll) "__getattr__"=some none)
  (lkNoRoll:Ax K (.ref cNoRoll) "__class__"=some (some (.builtin "object.__class__")))
  (soNoRoll:Bs K (.ref cNoRoll) (.type "object")=some true)
  (sbNoRoll:Bs K (.ref cNoRoll) (.type "BaseException")=some true)
  (seNoRoll:Bs K (.ref cNoRoll) (.ref cNoRoll)=some true)
  (sFull_CutError:Bs K (.ref cFull) (.ref cCutError)=some true)
  (sFull_TooBig:Bs K (.ref cFull) (.ref cTooBig)=some false)
  (sFull_NoRoll:Bs K (.ref cFull) (.ref cNoRoll)=some false)
  (sNoRoll_CutError:Bs K (.ref cNoRoll) (.ref cCutError)=some true)
  (sNoRoll_TooBig:Bs K (.ref cNoRoll) (.ref cTooBig)=some false)
  (sNoRoll_Full:Bs K (.ref cNoRoll) (.ref cFull)=some false)
  : ∃fd:BD,(∀(s:Ac) (v:Value),DN s fd ⟨[v],[]⟩ [("_law_script",v)])/\∀base:AR,K.In base->base.Ns Af mg->FnOk l.prog w K mg base CX0 11 fa fd ["_law_script"] (spLaw K):=by
 have e:=hfa.symm.trans (Ck X G a12);cases e;obtain ⟨C,hCutError,hTooBig,hFull,hNoRoll,hDeeds,hShelf,hStock⟩:∃C:String->Addr,C "CutError"=cCutError/\C "TooBig"=cTooBig/\C "Full"=cFull/\C "NoRoll"=cNoRoll/\C "Deeds"=cDeeds/\C "Shelf"=cShelf/\C "Stock"=cStock:=⟨fun x=>if x="CutError" then cCutError else if x="TooBig" then cTooBig else if x="Full" then cFull else if x="NoRoll" then cNoRoll else if x="Deeds" then cDeeds else if x="Shelf" then cShelf else if x="Stock" then cStock else 0,by simp,by simp,by simp,by simp,by simp,by simp,by simp⟩;subst hCutError;subst hTooBig;subst hFull;subst hNoRoll;subst hDeeds;subst hShelf;subst hStock;have T:Txt mg K C:=⟨BL X G z1,BL X G z2,BL X G z3,BL X G z4,BL X G z5,BL X G z6,BL X G z7,BL X G z8,BL X G z9,BL X G z10,BL X G z11,⟨tv1,Ck X G v1⟩,Ck X G gCutError,⟨xCutError,tCutError,⟨_,kCutError⟩,gaCutError,geCutError,lkCutError,soCutError,sbCutError,seCutError⟩,Ck X G gTooBig,⟨xTooBig,tTooBig,⟨_,kTooBig⟩,gaTooBig,geTooBig,lkTooBig,soTooBig,sbTooBig,seTooBig⟩,Ck X G gFull,⟨xFull,tFull,⟨_,kFull⟩,gaFull,geFull,lkFull,soFull,sbFull,seFull⟩,Ck X G gNoRoll,⟨xNoRoll,tNoRoll,⟨_,kNoRoll⟩,gaNoRoll,geNoRoll,lkNoRoll,soNoRoll,sbNoRoll,seNoRoll⟩,Ck X G gDeeds,⟨pgDeeds,hdDeeds,poDeeds,saDeeds⟩,nDeeds_done,nDeeds_undone,Ck X G gShelf,⟨pgShelf,hdShelf,poShelf,saShelf⟩,nShelf_stands,nShelf_given,nShelf_laid,nShelf_cut,nShelf_scrapped,nShelf_earned,Ck X G gStock,⟨pgStock,hdStock,poStock,saStock⟩,nStock_kinds,nStock_least,nStock_shelf,nStock_deeds,sFull_CutError,sFull_TooBig,sFull_NoRoll,sNoRoll_CutError,sNoRoll_TooBig,sNoRoll_Full⟩;obtain ⟨oc,od,kV,doc,pm,an,cdv,ct,osl,rfl,lk,hcd⟩:=F12.ex;refine ⟨Fs "law" "law" (defArgs slaw) (defBody slaw) (defScope slaw) .none kV doc pm an cdv ct,fun s v=>.of_eq rfl,fun base _ _=>?_⟩;have b1:=F1.binds (ps:=["told"]) fun _ _ _ _ _ _=>allN1 (fun _=>rfl);have b2:=F2.binds (ps:=["_law_script","_law_place"]) fun _ _ _ _ _ _=>allN2 (fun _ _=>rfl);have D_law_cell:Def l.prog w K mg base CX0 7 "_law_cell" ["_law_script","_law_place"] (spD K (C) 2 2 Dl.F__law_cell):=⟨f2,_,Ck X G a2,F2.kp,b2,ok_law_cell F2 T⟩;have b3:=F3.binds (ps:=["_law_cell_here","_law_k"]) fun _ _ _ _ _ _=>allN2 (fun _ _=>rfl);have D_law_mix:Def l.prog w K mg base CX0 7 "_law_mix" ["_law_cell_here","_law_k"] (spD K (C) 2 2 Dl.F__law_mix):=⟨f3,_,Ck X G a3,F3.kp,b3,ok_law_mix F3 T⟩;have b8:=F8.binds (ps:=["_law_one"]) fun _ _ _ _ _ _=>allN1 (fun _=>rfl);have D_law_is_whole:Def l.prog w K mg base CX0 7 "_law_is_whole" ["_law_one"] (spD K (C) 1 2 Dl.F__law_is_whole):=⟨f8,_,Ck X G a8,F8.kp,b8,ok_law_is_whole F8 T⟩;have b13:=F13.binds (ps:=["self"]) fun _ _ _ _ _ _=>allN1 (fun _=>rfl);have DDeeds_init:MkDef l.prog w K mg base CX0 7 (C "Deeds") ["self"] (spM K C 0 Dl.F_Deeds_init):=⟨f13,_,⟨mkDeeds,a13,i13,kcDeeds⟩,b13,okDeeds_init F13 T⟩;have b14:=F14.binds (ps:=["self","deed"]) fun _ _ _ _ _ _=>allN2 (fun _ _=>rfl);have DDeeds_add:MDef l.prog w K mg base CX0 7 (C "Deeds") "add" ["self","deed"] (spM K C 1 Dl.F_Deeds_add):=⟨f14,_,⟨a14,i14,F14.kp⟩,b14,okDeeds_add F14 T⟩;have b15:=F15.binds (ps:=["self"]) fun _ _ _ _ _ _=>allN1 (fun _=>rfl);have DShelf_init:MkDef l.prog w K mg base CX0 7 (C "Shelf") ["self"] (spM K C 0 Dl.F_Shelf_init):=⟨f15,_,⟨mkShelf,a15,i15,kcShelf⟩,b15,okShelf_init F15 T⟩;have b17:=F17.binds (ps:=["self","roll"]) fun _ _ _ _ _ _=>allN2 (fun _ _=>rfl);have DShelf_put:MDef l.prog w K mg base CX0 7 (C "Shelf") "put" ["self","roll"] (spM K C 1 Dl.F_Shelf_put):=⟨f17,_,⟨a17,i17,F17.kp⟩,b17,okShelf_put F17 T⟩;have b18:=F18.binds (ps:=["self"]) fun _ _ _ _ _ _=>allN1 (fun _=>rfl);have DShelf_standing:MDef l.prog w K mg base CX0 7 (C "Shelf") "standing" ["self"] (spD K C 1 2 Dl.F_Shelf_standing):=⟨f18,_,⟨a18,i18,F18.kp⟩,b18,okShelf_standing F18 T⟩;have b22:=F22.binds (ps:=["self"]) fun _ _ _ _ _ _=>allN1 (fun _=>rfl);have DStock_numbers:MDef l.prog w K mg base CX0 7 (C "Stock") "numbers" ["self"] (spD K C 1 2 Dl.F_Stock_numbers):=⟨f22,_,⟨a22,i22,F22.kp⟩,b22,okStock_numbers F22 T⟩;have b23:=F23.binds (ps:=["self","number"]) fun _ _ _ _ _ _=>allN2 (fun _ _=>rfl);have DStock_roll:MDef l.prog w K mg base (CXE l.prog w) 7 (C "Stock") "roll" ["self","number"] (spD K C 2 2 Dl.F_Stock_roll):=⟨f23,_,⟨a23,i23,F23.kp⟩,b23,okStock_roll F23 T⟩;have b24:=F24.binds (ps:=["self"]) fun _ _ _ _ _ _=>allN1 (fun _=>rfl);have DStock_total:MDef l.prog w K mg base CX0 7 (C "Stock") "total" ["self"] (spD K C 1 2 Dl.F_Stock_total):=⟨f24,_,⟨a24,i24,F24.kp⟩,b24,okStock_total F24 T⟩;have b26:=F26.binds (ps:=["self","roll"]) fun _ _ _ _ _ _=>allN2 (fun _ _=>rfl);have Dlay__R:MDef l.prog w K mg base (CXE l.prog w) 7 (C "Stock") "lay" ["self","roll"] (spD K C 2 2 Dl.F_lay__R):=⟨f26,_,⟨a26,i26,F26.kp⟩,b26,oklay__R F26 T⟩;have b27:=F27.binds (ps:=["self","number"]) fun _ _ _ _ _ _=>allN2 (fun _ _=>rfl);have Droll__N:MDef l.prog w K mg base CX0 7 (C "Stock") "roll" ["self","number"] (spD K C 2 2 Dl.F_roll__N):=⟨f27,_,⟨a27,i27,F27.kp⟩,b27,okroll__N F27 T⟩;have b28:=F28.binds (ps:=["told"]) fun _ _ _ _ _ _=>allN1 (fun _=>rfl);have Danew__0:Def l.prog w K mg base CX0 7 "anew" ["told"] (spD K (C) 1 2 Dl.F_anew__0):=⟨f28,_,Ck X G a28,F28.kp,b28,okanew__0 F28 T⟩;have b4:=F4.binds (ps:=["_law_script","_law_place","_law_sizes"]) fun _ _ _ _ _ _=>allN3 (fun _ _ _=>rfl);have D_law_row:Def l.prog w K mg base CX0 8 "_law_row" ["_law_script","_law_place","_law_sizes"] (spD K (C) 3 2 Dl.F__law_row):=⟨f4,_,Ck X G a4,F4.kp,b4,ok_law_row F4 T D_law_cell D_law_mix⟩;have b9:=F9.binds (ps:=["_law_stock"]) fun _ _ _ _ _ _=>allN1 (fun _=>rfl);have D_law_full:Def l.prog w K mg base CX0 8 "_law_full" ["_law_stock"] (spD K (C) 1 2 Dl.F__law_full):=⟨f9,_,Ck X G a9,F9.kp,b9,ok_law_full F9 T Dlay__R⟩;have b10:=F10.binds (ps:=["_law_stock","_law_number"]) fun _ _ _ _ _ _=>allN2 (fun _ _=>rfl);have D_law_none:Def l.prog w K mg base CX0 8 "_law_none" ["_law_stock","_law_number"] (spD K (C) 2 2 Dl.F__law_none):=⟨f10,_,Ck X G a10,F10.kp,b10,ok_law_none F10 T DStock_roll⟩;have b21:=F21.binds (ps:=["self","shelf","told"]) fun _ _ _ _ _ _=>allN3 (fun _ _ _=>rfl);have DStock_enter:MDef l.prog w K mg base CX0 8 (C "Stock") "enter" ["self","shelf","told"] (spM K C 2 Dl.F_Stock_enter):=⟨f21,_,⟨a21,i21,F21.kp⟩,b21,okStock_enter F21 T Danew__0 DDeeds_add⟩;have b25:=F25.binds (ps:=["self"]) fun _ _ _ _ _ _=>allN1 (fun _=>rfl);have DStock_sums:MDef l.prog w K mg base CX0 8 (C "Stock") "sums" ["self"] (spD K C 1 2 Dl.F_Stock_sums):=⟨f25,_,⟨a25,i25,F25.kp⟩,b25,okStock_sums F25 T DShelf_standing⟩;have b5:=F5.binds (ps:=["_law_script","_law_place","_law_most"]) fun _ _ _ _ _ _=>allN3 (fun _ _ _=>rfl);have D_law_table:Def l.prog w K mg base CX0 9 "_law_table" ["_law_script","_law_place","_law_most"] (spD K (C) 3 2 Dl.F__law_table):=⟨f5,_,Ck X G a5,F5.kp,b5,ok_law_table F5 T D_law_row⟩;have b6:=F6.binds (ps:=["_law_script","_law_place","_law_most"]) fun _ _ _ _ _ _=>allN3 (fun _ _ _=>rfl);have D_law_flaw:Def l.prog w K mg base CX0 9 "_law_flaw" ["_law_script","_law_place","_law_most"] (spD K (C) 3 2 Dl.F__law_flaw):=⟨f6,_,Ck X G a6,F6.kp,b6,ok_law_flaw F6 T D_law_row⟩;have b7:=F7.binds (ps:=["_law_script","_law_place","_law_most","_law_flaw_here"]) fun _ _ _ _ _ _=>allN4 (fun _ _ _ _=>rfl);have D_law_roll:Def l.prog w K mg base CX0 9 "_law_roll" ["_law_script","_law_place","_law_most","_law_flaw_here"] (spD K (C) 4 2 Dl.F__law_roll):=⟨f7,_,Ck X G a7,F7.kp,b7,ok_law_roll F7 T D_law_row⟩;have b11:=F11.binds (ps:=["_law_stock","_law_laid"]) fun _ _ _ _ _ _=>allN2 (fun _ _=>rfl);have D_law_stands:Def l.prog w K mg base CX0 9 "_law_stands" ["_law_stock","_law_laid"] (spD K (C) 2 2 Dl.F__law_stands):=⟨f11,_,Ck X G a11,F11.kp,b11,ok_law_stands F11 T D_law_none DStock_numbers DStock_sums Droll__N DStock_total⟩;have b16:=F16.binds (ps:=["self"]) fun _ _ _ _ _ _=>allN1 (fun _=>rfl);have DShelf_another:MDef l.prog w K mg base CX0 9 (C "Shelf") "another" ["self"] (spD K C 1 2 Dl.F_Shelf_another):=⟨f16,_,⟨a16,i16,F16.kp⟩,b16,okShelf_another F16 T DShelf_init⟩;have b19:=F19.binds (ps:=["self","table","least"]) fun _ _ _ _ _ _=>allN3 (fun _ _ _=>rfl);have DStock_init:MkDef l.prog w K mg base CX0 9 (C "Stock") ["self","table","least"] (spM K C 2 Dl.F_Stock_init):=⟨f19,_,⟨mkStock,a19,i19,kcStock⟩,b19,okStock_init F19 T DShelf_init DDeeds_init⟩;have b20:=F20.binds (ps:=["self","roll"]) fun _ _ _ _ _ _=>allN2 (fun _ _=>rfl);have DStock_lay:MDef l.prog w K mg base CX0 10 (C "Stock") "lay" ["self","roll"] (spM K C 1 Dl.F_Stock_lay):=⟨f20,_,⟨a20,i20,F20.kp⟩,b20,okStock_lay F20 T DShelf_another DStock_enter DShelf_put⟩;exact (oklaw (C:=C) F12 T D_law_row D_law_flaw D_law_table D_law_roll D_law_stands D_law_none D_law_full D_law_is_whole DStock_init DStock_lay).imp fun vs H Q E h=>by obtain ⟨a,ns,rfl,hz,hl,q⟩:=h;refine ⟨[.scr ns],[],rfl,⟨.ref a,[],[],[],rfl,⟨a,rfl,hz,rfl⟩,⟨rfl,rfl⟩,rfl⟩,?_⟩;rw [law_true ns hl];rintro v H' _ ⟨B,r,_⟩;obtain ⟨rfl,_⟩:=r;exact q H'
theorem walk {K:Params->AC}(hn:l.most=some 63)(hdf:d.params.defaults=[])
    (hY:∀(w:AK) (h:AR),YP w h->(K w.params).In h)
    (F:∀(w:AK) (mg:Str->Option Value) (fa:Addr) (h:AR),(K w.params).In h->h.Ns Af mg->mg d.name=some (.ref fa)->
      ∃fd:BD,(∀(s:Ac) (u:Value),DN s fd ⟨[u],[]⟩ [("_law_script",u)])/\∀base:AR,(K w.params).In base->base.Ns Af mg->FnOk l.prog w (K w.params) mg base CX0 11 fa fd ["_law_script"] (spLaw (K w.params))) :
    PySem.W.WalkO q loose XP YP l.row.toRowW d [] (fun f vs=>PySem.call f vs):=
  L2.walk_of (n:=63) (k:=11) (x:="_law_script") (CX:=fun _=>CX0) (sp:=fun w=>spLaw (K w.params)) hn (by decide) hdf ⟨rfl,by decide,by decide,rfl⟩ hY F (fun _ H a ns hl hO hS=>⟨a,ns,rfl,fz_of hO hS,hl,fun _=>rfl⟩) fun _ _ _ _ _ z=>z
end K81
open PySem PySem.W PyProof.Rows
set_option maxRecDepth 100000 in
set_option maxHeartbeats 0 in
theorem PySem.Challenge.cw_selvage_k81_laid_holds : PySem.Challenge.rw_selvage_k81_laid.Holds := by
 w_on;o_law;z_head;(case hw=>w_witness2)
 k_fill
 refine L2.walkX_of (fun _=>by kernel_rfl) (K81.walk (l:=PySem.Challenge.rw_selvage_k81_laid) rfl rfl (fun w h Y=>Y) ?F)
 case F =>
  intro w mg fa h KX G hmg;refine' K81.all_mk KX G hmg ?a1 (L2.fun_mk ?l1 ?c1 ?k1) ?a2 (L2.fun_mk ?l2 ?c2 ?k2) ?a3 (L2.fun_mk ?l3 ?c3 ?k3) ?a4 (L2.fun_mk ?l4 ?c4 ?k4) ?a5 (L2.fun_mk ?l5 ?c5 ?k5) ?a6 (L2.fun_mk ?l6 ?c6 ?k6) ?a7 (L2.fun_mk ?l7 ?c7 ?k7) ?a8 (L2.fun_mk ?l8 ?c8 ?k8) ?a9 (L2.fun_mk ?l9 ?c9 ?k9) ?a10 (L2.fun_mk ?l10 ?c10 ?k10) ?a11 (L2.fun_mk ?l11 ?c11 ?k11) ?a12 (L2.fun_mk ?l12 ?c12 ?k12) ?a13 ?i13 (L2.fun_mk ?l13 ?c13 ?k13) ?a14 ?i14 (L2.fun_mk ?l14 ?c14 ?k14) ?a15 ?i15 (L2.fun_mk ?l15 ?c15 ?k15) ?a16 ?i16 (L2.fun_mk ?l16 ?c16 ?k16) ?a17 ?i17 (L2.fun_mk ?l17 ?c17 ?k17) ?a18 ?i18 (L2.fun_mk ?l18 ?c18 ?k18) ?a19 ?i19 (L2.fun_mk ?l19 ?c19 ?k19) ?a20 ?i20 (L2.fun_mk ?l20 ?c20 ?k20) ?a21 ?i21 (L2.fun_mk ?l21 ?c21 ?k21) ?a22 ?i22 (L2.fun_mk ?l22 ?c22 ?k22) ?a23 ?i23 (L2.fun_mk ?l23 ?c23 ?k23) ?a24 ?i24 (L2.fun_mk ?l24 ?c24 ?k24) ?a25 ?i25 (L2.fun_mk ?l25 ?c25 ?k25) ?a26 ?i26 (L2.fun_mk ?l26 ?c26 ?k26) ?a27 ?i27 (L2.fun_mk ?l27 ?c27 ?k27) ?a28 (L2.fun_mk ?l28 ?c28 ?k28) ?z1 ?z2 ?z3 ?z4 ?z5 ?z6 ?z7 ?z8 ?z9 ?z10 ?z11 ?v1 ?gDeeds ?pgDeeds ?hdDeeds ?poDeeds ?saDeeds ?mkDeeds ?kcDeeds ?nDeeds_done ?nDeeds_undone ?gShelf ?pgShelf ?hdShelf ?poShelf ?saShelf ?mkShelf ?kcShelf ?nShelf_stands ?nShelf_given ?nShelf_laid ?nShelf_cut ?nShelf_scrapped ?nShelf_earned ?gStock ?pgStock ?hdStock ?poStock ?saStock ?mkStock ?kcStock ?nStock_kinds ?nStock_least ?nStock_shelf ?nStock_deeds ?gCutError ?xCutError ?tCutError ?kCutError ?gaCutError ?geCutError ?lkCutError ?soCutError ?sbCutError ?seCutError ?gTooBig ?xTooBig ?tTooBig ?kTooBig ?gaTooBig ?geTooBig ?lkTooBig ?soTooBig ?sbTooBig ?seTooBig ?gFull ?xFull ?tFull ?kFull ?gaFull ?geFull ?lkFull ?soFull ?sbFull ?seFull ?gNoRoll ?xNoRoll ?tNoRoll ?kNoRoll ?gaNoRoll ?geNoRoll ?lkNoRoll ?soNoRoll ?sbNoRoll ?seNoRoll ?sFull_CutError ?sFull_TooBig ?sFull_NoRoll ?sNoRoll_CutError ?sNoRoll_TooBig ?sNoRoll_Full
  (case gDeeds=>k_is)
  (case gShelf=>k_is)
  (case gStock=>k_is)
  (case a1=>k_is)
  (case l1=>k_is)
  (case c1=>k_is)
  (case k1=>k_is)
  (case a2=>k_is)
  (case l2=>k_is)
  (case c2=>k_is)
  (case k2=>k_is)
  (case a3=>k_is)
  (case l3=>k_is)
  (case c3=>k_is)
  (case k3=>k_is)
  (case a4=>k_is)
  (case l4=>k_is)
  (case c4=>k_is)
  (case k4=>k_is)
  (case a5=>k_is)
  (case l5=>k_is)
  (case c5=>k_is)
  (case k5=>k_is)
  (case a6=>k_is)
  (case l6=>k_is)
  (case c6=>k_is)
  (case k6=>k_is)
  (case a7=>k_is)
  (case l7=>k_is)
  (case c7=>k_is)
  (case k7=>k_is)
  (case a8=>k_is)
  (case l8=>k_is)
  (case c8=>k_is)
  (case k8=>k_is)
  (case a9=>k_is)
  (case l9=>k_is)
  (case c9=>k_is)
  (case k9=>k_is)
  (case a10=>k_is)
  (case l10=>k_is)
  (case c10=>k_is)
  (case k10=>k_is)
  (case a11=>k_is)
  (case l11=>k_is)
  (case c11=>k_is)
  (case k11=>k_is)
  (case a12=>k_is)
  (case l12=>k_is)
  (case c12=>k_is)
  (case k12=>k_is)
  (case a13=>k_is)
  (case i13=>k_is)
  (case l13=>k_is)
  (case c13=>k_is)
  (case k13=>k_is)
  (case a14=>k_is)
  (case i14=>k_is)
  (case l14=>k_is)
  (case c14=>k_is)
  (case k14=>k_is)
  (case a15=>k_is)
  (case i15=>k_is)
  (case l15=>k_is)
  (case c15=>k_is)
  (case k15=>k_is)
  (case a16=>k_is)
  (case i16=>k_is)
  (case l16=>k_is)
  (case c16=>k_is)
  (case k16=>k_is)
  (case a17=>k_is)
  (case i17=>k_is)
  (case l17=>k_is)
  (case c17=>k_is)
  (case k17=>k_is)
  (case a18=>k_is)
  (case i18=>k_is)
  (case l18=>k_is)
  (case c18=>k_is)
  (case k18=>k_is)
  (case a19=>k_is)
  (case i19=>k_is)
  (case l19=>k_is)
  (case c19=>k_is)
  (case k19=>k_is)
  (case a20=>k_is)
  (case i20=>k_is)
  (case l20=>k_is)
  (case c20=>k_is)
  (case k20=>k_is)
  (case a21=>k_is)
  (case i21=>k_is)
  (case l21=>k_is)
  (case c21=>k_is)
  (case k21=>k_is)
  (case a22=>k_is)
  (case i22=>k_is)
  (case l22=>k_is)
  (case c22=>k_is)
  (case k22=>k_is)
  (case a23=>k_is)
  (case i23=>k_is)
  (case l23=>k_is)
  (case c23=>k_is)
  (case k23=>k_is)
  (case a24=>k_is)
  (case i24=>k_is)
  (case l24=>k_is)
  (case c24=>k_is)
  (case k24=>k_is)
  (case a25=>k_is)
  (case i25=>k_is)
  (case l25=>k_is)
  (case c25=>k_is)
  (case k25=>k_is)
  (case a26=>k_is)
  (case i26=>k_is)
  (case l26=>k_is)
  (case c26=>k_is)
  (case k26=>k_is)
  (case a27=>k_is)
  (case i27=>k_is)
  (case l27=>k_is)
  (case c27=>k_is)
  (case k27=>k_is)
  (case a28=>k_is)
  (case l28=>k_is)
  (case c28=>k_is)
  (case k28=>k_is)
  (case z1=>k_is)
  (case z2=>k_is)
  (case z3=>k_is)
  (case z4=>k_is)
  (case z5=>k_is)
  (case z6=>k_is)
  (case z7=>k_is)
  (case z8=>k_is)
  (case z9=>k_is)
  (case z10=>k_is)
  (case z11=>k_is)
  (case v1=>k_is)
  (case pgDeeds=>k_is)
  (case hdDeeds=>k_is)
  (case poDeeds=>k_is)
  (case saDeeds=>k_is)
  (case mkDeeds=>k_is)
  (case kcDeeds=>k_is)
  (case nDeeds_done=>k_is)
  (case nDeeds_undone=>k_is)
  (case pgShelf=>k_is)
  (case hdShelf=>k_is)
  (case poShelf=>k_is)
  (case saShelf=>k_is)
  (case mkShelf=>k_is)
  (case kcShelf=>k_is)
  (case nShelf_stands=>k_is)
  (case nShelf_given=>k_is)
  (case nShelf_laid=>k_is)
  (case nShelf_cut=>k_is)
  (case nShelf_scrapped=>k_is)
  (case nShelf_earned=>k_is)
  (case pgStock=>k_is)
  (case hdStock=>k_is)
  (case poStock=>k_is)
  (case saStock=>k_is)
  (case mkStock=>k_is)
  (case kcStock=>k_is)
  (case nStock_kinds=>k_is)
  (case nStock_least=>k_is)
  (case nStock_shelf=>k_is)
  (case nStock_deeds=>k_is)
  (case gCutError=>k_is)
  (case xCutError=>kernel_rfl)
  (case tCutError=>k_is)
  (case kCutError=>k_is)
  (case gaCutError=>k_is)
  (case geCutError=>k_is)
  (case lkCutError=>k_is)
  (case soCutError=>k_is)
  (case sbCutError=>k_is)
  (case seCutError=>k_is)
  (case gTooBig=>k_is)
  (case xTooBig=>kernel_rfl)
  (case tTooBig=>k_is)
  (case kTooBig=>k_is)
  (case gaTooBig=>k_is)
  (case geTooBig=>k_is)
  (case lkTooBig=>k_is)
  (case soTooBig=>k_is)
  (case sbTooBig=>k_is)
  (case seTooBig=>k_is)
  (case gFull=>k_is)
  (case xFull=>kernel_rfl)
  (case tFull=>k_is)
  (case kFull=>k_is)
  (case gaFull=>k_is)
  (case geFull=>k_is)
  (case lkFull=>k_is)
  (case soFull=>k_is)
  (case sbFull=>k_is)
  (case seFull=>k_is)
  (case gNoRoll=>k_is)
  (case xNoRoll=>kernel_rfl)
  (case tNoRoll=>k_is)
  (case kNoRoll=>k_is)
  (case gaNoRoll=>k_is)
  (case geNoRoll=>k_is)
  (case lkNoRoll=>k_is)
  (case soNoRoll=>k_is)
  (case sbNoRoll=>k_is)
  (case seNoRoll=>k_is)
  (case sFull_CutError=>k_is)
  (case sFull_TooBig=>k_is)
  (case sFull_NoRoll=>k_is)
  (case sNoRoll_CutError=>k_is)
  (case sNoRoll_TooBig=>k_is)
  (case sNoRoll_Full=>k_is)
