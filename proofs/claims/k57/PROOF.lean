import PyProof.Rows.All
import Wide.All
import OpenK.AllK
import Wide.FinOn
import Lean
import PyProof.EqAt
import PyProof.EqKinds
import PyProof.TupleCall
import PySem.Challenge.RW_selvage_k57_two_by_turns
set_option Elab.async false
set_option linter.all false
set_option maxRecDepth 100000
set_option genSizeOfSpec false
set_option genInjectivity false
open PySem.W (Frag callWith_K clsIn codeHdIn codeIn emptyDict exmOne findIn fnOf hasDictIn hideAll instObj isFn keepIn lookIn makesIn methodObj mg_none_of mg_of nsIn plainGet plainGet_of plainOver specialIn subIn takerIn typeIn)
open List (any_cons any_eq_true append_assoc append_nil filter_append find?_cons flatten_cons foldl_cons getD_eq_getElem?_getD getElem?_append_left getElem?_append_right getElem?_cons_succ getElem?_eq_getElem getElem?_eq_none getElem?_map getElem?_set_ne getElem?_set_self getElem_mem length_append length_cons length_filter_le length_map length_nil length_range length_replicate length_set length_singleton length_take lookup_cons map_append map_cons map_drop map_map map_nil map_take mem_append mem_append_left mem_append_right mem_cons mem_cons_of_mem mem_cons_self mem_of_getElem? mem_replicate mem_singleton nodup_nil range_succ replicate_succ reverse_cons size_toArray take_of_length_le zip_cons_cons)
open Nat (le_add_right le_of_lt le_refl le_trans lt_irrefl lt_of_le_of_lt lt_of_lt_of_le lt_succ_self min_eq_left ne_of_lt sub_self zero_le)
open Int (emod_lt_of_pos emod_nonneg mul_nonneg toNat_lt toNat_natCast zero_add)
open PySem.Heap (get?_push_of_some get?_push_size lt_size size_push)
def PySem.W.Fast.tw1690224216564439817:=0
def PySem.W.Fast.tw17572911064118343133:=0
def PySem.W.Fast.tw6066074069837156606:=0
def PySem.W.Fast.tw8839226978517921287:=0
def PySem.W.Fast.tw17575262349339651883:=0
def PySem.W.Fast.tw6846663644453090163:=0
def PySem.W.Fast.tw11130313807497700052:=0
def PySem.W.Fast.tw15090877253073404745:=0
def PySem.W.Fast.tw6237390699190250277:=0
def PySem.W.Fast.tw15940125643227509921:=0
def PySem.W.Fast.tw4619314109598579911:=0
def PySem.W.Fast.tw9913659562684697101:=0
def PySem.W.Fast.tw14752794604683322987:=0
def PySem.W.Fast.tw18070508307383905991:=0
def PySem.W.Fast.tw16696723394670280323:=0
theorem aT0 (h:True:=by first | exact .inl rfl | exact .inr rfl | assumption):True:=True.intro
theorem aT3 (h:True:=by first | exact Or.inl rfl | exact Or.inr (Or.inl rfl) | exact Or.inr (Or.inr rfl)):True:=True.intro
namespace L2
open PySem PySem.Spec PyProof.Rows
noncomputable abbrev Key:=Sum Int Str
noncomputable def Zro:Key→Value→Bool
 | .inl k,v=>Value.isInt k v
 | .inr x,v=>Value.isStrOf x v
noncomputable def keyH (w:World):Key→Int
 | .inl k=>hashInt k
 | .inr x=>hashStr w x
theorem Yw:∀{k:Key} {v:Value},Zro k v=true→(∃i t,k=Sum.inl i∧v=Value.int i t)∨(∃x t,k=Sum.inr x∧v=Value.str x t)
 | .inl i,v,h=>by
  obtain ⟨t,e⟩:=Value.isInt_shape (k:=i) (v:=v) h
  exact .inl ⟨i,t,rfl,e⟩
 | .inr x,v,h=>by
  obtain ⟨t,e⟩:=Value.isStrOf_shape (x:=x) (v:=v) h
  exact .inr ⟨x,t,rfl,e⟩
theorem Zya (i:Int)(t:Tok):Zro (.inl i) (.int i t)=true:=by simp [Zro,Value.isInt]
theorem Zyh (x:Str)(t:Tok):Zro (.inr x) (.str x t)=true:=by simp [Zro,Value.isStrOf]
theorem Xrm (a b:Int):decide ((Sum.inl a:Key)=Sum.inl b)=(a==b):=by
 by_cases e:a=b
 ·subst e;simp
 ·have h:¬(Sum.inl a:Key)=Sum.inl b:=fun q=>e (Sum.inl.inj q)
  rw [decide_eq_false h]
  exact (beq_eq_false_iff_ne.mpr e).symm
theorem Xsp (a b:Str):decide ((Sum.inr a:Key)=Sum.inr b)=decide (a=b):=by
 by_cases e:a=b
 ·subst e;simp
 ·have h:¬(Sum.inr a:Key)=Sum.inr b:=fun q=>e (Sum.inr.inj q)
  rw [decide_eq_false h,decide_eq_false e]
theorem Xtz (a:Int)(b:Str):decide ((Sum.inl a:Key)=Sum.inr b)=false:=decide_eq_false (fun q=>nomatch q)
theorem Xqi (a:Str)(b:Int):decide ((Sum.inr a:Key)=Sum.inl b)=false:=decide_eq_false (fun q=>nomatch q)
noncomputable def Ja (prog:Program)(w:World):PySem.KeyKind prog w Key where
 is:=Zro
 hash:=keyH w
 inj:=fun v a b ha hb=>by
  rcases Yw ha with ⟨i,t,rfl,rfl⟩ | ⟨x,t,rfl,rfl⟩
  ·rcases Yw hb with ⟨j,u,rfl,e⟩ | ⟨y,u,rfl,e⟩
   ·injection e with e1 _;rw [e1]
   ·exact nomatch e
  ·rcases Yw hb with ⟨j,u,rfl,e⟩ | ⟨y,u,rfl,e⟩
   ·exact nomatch e
   ·injection e with e1 _;rw [e1]
 byValue:=fun k v h=>by
  rcases Yw h with ⟨i,t,rfl,rfl⟩ | ⟨x,t,rfl,rfl⟩<;>rfl
 pyHash:=fun hv h=>by
  rcases Yw hv with ⟨i,t,rfl,rfl⟩ | ⟨x,t,rfl,rfl⟩
  ·exact wpAny_pyHash_int h
  ·exact wpAny_pyHash_str h
 eqBool:=fun hu hv h=>by
  rcases Yw hu with ⟨i,t,rfl,rfl⟩ | ⟨x,t,rfl,rfl⟩
  ·rcases Yw hv with ⟨j,u,rfl,rfl⟩ | ⟨y,u,rfl,rfl⟩
   ·rw [Xrm] at h;exact wpAny_eqBool_int h
   ·rw [Xtz] at h;exact SeqAt.EqAt.int_str i t y u _ _ _ _ h
  ·rcases Yw hv with ⟨j,u,rfl,rfl⟩ | ⟨y,u,rfl,rfl⟩
   ·rw [Xqi] at h;exact SeqAt.EqAt.str_int x t j u _ _ _ _ h
   ·rw [Xsp] at h;exact wpAny_eqBool_str h
 «strs»:=fun k x t v h=>by
  rcases Yw h with ⟨i,u,rfl,e⟩ | ⟨y,u,rfl,e⟩
  ·exact nomatch e
  ·injection e with e1 _
   subst e1
   cases v<;>rfl
theorem Zte (prog:Program)(w:World)(i:Int)(t:Tok):(Ja prog w).is (.inl i) (.int i t)=true:=Zya i t
theorem Zsq (prog:Program)(w:World)(x:Str)(t:Tok):(Ja prog w).is (.inr x) (.str x t)=true:=Zyh x t
set_option genInjectivity true in
inductive V where
 | non | bl (b:Bool) | int (i:Int) | str (x:Str) | byt (b:Array UInt8) | flt (b:UInt64) | ref (a:Addr) | ty (n:String)
 deriving DecidableEq
noncomputable def RelV:V→Value→Prop
 | .non,u=>u=Value.none
 | .bl b,u=>u=Value.bool b
 | .int i,u=>∃t,u=Value.int i t
 | .str x,u=>∃t,u=Value.str x t
 | .byt b,u=>∃t,u=Value.bytes b t
 | .flt b,u=>∃t,u=Value.float b t
 | .ref a,u=>u=Value.ref a
 | .ty n,u=>u=Value.type n
noncomputable abbrev Jd:List V→List Value→Prop:=Paired RelV
theorem Jd.length {xs:List V}{us:List Value}(r:Jd xs us):xs.length=us.length:=Paired.length r
theorem Jd.get:∀{xs:List V} {us:List Value} {i:Nat} {x:V},Jd xs us→xs[i]?=some x→∃u,us[i]?=some u∧RelV x u
 | _,_,_,_,.nil,e=>by simp at e
 | _,_,0,_,.cons r _,e=>by simp at e;subst e;exact ⟨_,rfl,r⟩
 | _,_,i+1,x,.cons _ t,e=>by
  obtain ⟨u,h1,h2⟩:=Jd.get (i:=i) (x:=x) t (by simpa using e)
  exact ⟨u,by simpa using h1,h2⟩
theorem Jd.set {x:V}{u:Value}(r:RelV x u):∀{xs:List V} {us:List Value} (i:Nat),Jd xs us→Jd (xs.set i x) (us.set i u)
 | _,_,_,.nil=>.nil
 | _,_,0,.cons _ t=>.cons r t
 | _,_,i+1,.cons q t=>.cons q (Jd.set r i t)
theorem Jd.append:∀{xs ys:List V} {us ws:List Value},Jd xs us→Jd ys ws→Jd (xs++ys) (us++ws)
 | _,_,_,_,.nil,s=>s
 | _,_,_,_,.cons r t,s=>.cons r (Jd.append t s)
theorem Jd.take:∀{xs:List V} {us:List Value} (n:Nat),Jd xs us→Jd (xs.take n) (us.take n)
 | _,_,0,_=>.nil
 | _,_,_+1,.nil=>.nil
 | _,_,n+1,.cons r t=>.cons r (Jd.take n t)
theorem Jd.drop:∀{xs:List V} {us:List Value} (n:Nat),Jd xs us→Jd (xs.drop n) (us.drop n)
 | _,_,0,r=>r
 | _,_,_+1,.nil=>.nil
 | _,_,n+1,.cons _ t=>Jd.drop n t
noncomputable def Zow:Option V→Option Value→Prop
 | some v,some u=>RelV v u
 | none,none=>True
 | _,_=>False
def KV {κ:Type}:List (κ×V)→List (κ×Value)→Prop:=Paired fun (p:κ×V) (q:κ×Value)=>p.1=q.1∧RelV p.2 q.2
noncomputable def kV:Key→V
 | .inl i=>.int i
 | .inr x=>.str x
inductive HO where
 | lst (xs:List V)
 | tup (xs:List V)
 | dK (kvs:List (Key×V)) | dT (kvs:List (List Key×V))
 | set (S:Int→Bool) (n:Nat)
 | ins (C dx:Addr) (fs:List (Str×V))
 | own (x:Addr)
 | xd (fs:List (Str×V))
 | met (f x:Addr)
 | rng (lo hi:Int)
 | frz (o:Obj) (u:HO)
 | tbl (pos:Pos) (qual:Str)
 | ext (φ:Heap→Prop)
noncomputable abbrev Hp:=Addr→Option HO
noncomputable def upd (H:Hp)(a:Addr)(o:HO):Hp:=fun b=>if b=a then some o else H b
theorem Yb {H:Hp}{a:Addr}{o:HO}:upd H a o a=some o:=by unfold upd;rw [if_pos rfl]
theorem Xb {H:Hp}{a b:Addr}{o:HO}(h:b≠a):upd H a o b=H b:=by unfold upd;rw [if_neg h]
theorem ne_of {H:Hp}{a b:Addr}{o u:HO}(h:H a=some o)(h':H b=some u)(d:o≠u):a≠b:=by
 intro e;subst e;rw [h] at h';exact d (Option.some.inj h')
theorem Ym {H:Hp}{a b:Addr}{o:HO}(h:H a=some o)(h':H b=none):a≠b:=by
 intro e;subst e;rw [h] at h';cases h'
section
variable (P:Program)(w:World)
noncomputable def Zax (H:Hp)(h:Heap)(a:Addr):HO→Prop
 | .lst xs=>xs.length≤sizeLine∧∃(its:List Value) (n:Nat),Jd xs its∧h.get? a=some {cls:=.type "list",data:=.seq its.toArray n}
 | .tup xs=>xs.length≤sizeLine∧∃its:List Value,Jd xs its∧IsTup h a its.toArray
 | .dK kvs=>kvs.length≤sizeLine∧(a==sysModules)=false∧∃vs,KV kvs vs∧h.DictOf (Ja P w) a vs
 | .dT kvs=>kvs.length≤sizeLine∧(a==sysModules)=false∧∃xs:List (List Key×Addr×Value),
   Paired (fun (p:List Key×V) (q:List Key×Addr×Value)=>p.1=q.1∧H q.2.1=some (.tup (p.1.map kV))∧RelV p.2 q.2.2) kvs xs∧
   ∃o es ep,h.get? a=some o∧o.ExactDict∧o.data=.dict es ep∧es.toList=xs.map (entryOfKey (tupleKind (Ja P w)))∧(xs.map (·.1)).Nodup
 | .set S n=>h.SetOf (intKind P w) a S n
 | .ins C dx fs=>H dx=some (.own a)∧fs.length≤1000∧dx≠a∧h.get? a=some (instObj C dx)∧
   ∃mA,h.Ns1 dx mA∧(∀f,Zow (fs.lookup f) (mA f))∧PySem.Within mA (fs.map (·.1))
 | .own _=>∃o,h.get? a=some o
 | .xd fs=>∃mA,h.Ns1 a mA∧∀f,Zow (fs.lookup f) (mA f)
 | .rng lo hi=>∃t u v,h.get? a=some {cls:=.type "range",data:=.fields #[.int lo t,.int hi u,.int 1 v]}
 | .frz o u=>h.get? a=some o∧Zax H h a u
 | .tbl pos qual=>∃ps,h.get? a=some {cls:=.none,data:=.fields ps}∧TriplesOk ps.toList∧∀v,codeAmong pos ps.toList=some v→∃c o vs t,v=.ref c∧H c=some (.frz o (.own 0))∧o.data=.fields vs∧vs[1]?=some (.str qual t)
 | .met f x=>h.get? a=some (methodObj (.ref f) (.ref x))
 | .ext φ=>φ h∧(∃o,h.get? a=some o)∧∀h1 h2:Heap,φ h1→(∀o,h1.get? a=some o→h2.get? a=some o)→φ h2
def HOk (H:Hp)(h:Heap):Prop:=∀a o,H a=some o→Zax P w H h a o
end
section
variable {P:Program}{w:World}{H H':Hp}{h h':Heap}{a:Addr}{o:HO}
theorem Zax.lt (x:Zax P w H h a o):a<h.objs.size:=by
 cases o with
 | lst xs=>obtain ⟨_,_,_,_,e⟩:=x;exact lt_size e
 | tup xs=>obtain ⟨_,_,_,p⟩:=x;exact p.lt
 | dK kvs=>obtain ⟨_,_,_,_,o,_,_,e,_⟩:=x;exact lt_size e
 | dT kvs=>obtain ⟨_,_,_,_,o,_,_,e,_⟩:=x;exact lt_size e
 | set S n=>obtain ⟨o,_,_,_,e,_⟩:=x;exact lt_size e
 | ins C dx fs=>obtain ⟨_,_,_,e,_⟩:=x;exact lt_size e
 | own y=>obtain ⟨_,e⟩:=x;exact lt_size e
 | xd fs=>obtain ⟨_,⟨_,_,_,e,_⟩,_⟩:=x;exact lt_size e
 | rng lo hi=>obtain ⟨_,_,_,e⟩:=x;exact lt_size e
 | frz ob u=>obtain ⟨e,_⟩:=x;exact lt_size e
 | tbl pos qual=>obtain ⟨_,e,_⟩:=x;exact lt_size e
 | met f y=>exact lt_size (show h.get? a=some _ from x)
 | ext φ=>obtain ⟨_,⟨_,e⟩,_⟩:=x;exact lt_size e
theorem Paired.mapP {α β:Type}{F G:α→β→Prop}:∀{l₁:List α} {l₂:List β},Paired F l₁ l₂→(∀a b,F a b→G a b)→Paired G l₁ l₂
 | _,_,.nil,_=>.nil
 | _,_,.cons r t,f=>.cons (f _ _ r) (Paired.mapP t f)
theorem Zax.stay (x:Zax P w H h a o)(k:∀b u,(b=a∨H b=some (.own a))→h.get? b=some u→h'.get? b=some u)
  (ho:∀b,H b=some (.own a)→H' b=some (.own a)) (ht:∀b xs,H b=some (.tup xs)→H' b=some (.tup xs)) (hf:∀b o u,H b=some (.frz o u)→H' b=some (.frz o u)):Zax P w H' h' a o:=by
 induction o with
 | lst xs=>obtain ⟨z,its,n,r,e⟩:=x;exact ⟨z,its,n,r,k _ _ (.inl rfl) e⟩
 | tup xs=>obtain ⟨z,its,r,ob,e,c⟩:=x;exact ⟨z,its,r,ob,k _ _ (.inl rfl) e,c⟩
 | dK kvs=>obtain ⟨z,y,vs,r,ob,es,ep,e,c⟩:=x;exact ⟨z,y,vs,r,ob,es,ep,k _ _ (.inl rfl) e,c⟩
 | dT kvs =>
  obtain ⟨z,y,xs,r,ob,es,ep,e,c⟩:=x
  exact ⟨z,y,xs,Paired.mapP r fun p q z=>⟨z.1,ht _ _ z.2.1,z.2.2⟩,ob,es,ep,k _ _ (.inl rfl) e,c⟩
 | set S n=>obtain ⟨ob,es,ep,t,e,c⟩:=x;exact ⟨ob,es,ep,t,k _ _ (.inl rfl) e,c⟩
 | ins C dx fs =>
  obtain ⟨d,z,ne,e,mA,⟨od,es,ep,e2,c⟩,r⟩:=x
  exact ⟨ho _ d,z,ne,k _ _ (.inl rfl) e,mA,⟨od,es,ep,k _ _ (.inr d) e2,c⟩,r⟩
 | own y=>obtain ⟨ob,e⟩:=x;exact ⟨ob,k _ _ (.inl rfl) e⟩
 | xd fs=>obtain ⟨mA,⟨od,es,ep,e,c⟩,r⟩:=x;exact ⟨mA,⟨od,es,ep,k _ _ (.inl rfl) e,c⟩,r⟩
 | rng lo hi=>obtain ⟨t,u,v,e⟩:=x;exact ⟨t,u,v,k _ _ (.inl rfl) e⟩
 | frz ob u ih=>obtain ⟨e,q⟩:=x;exact ⟨k _ _ (.inl rfl) e,ih q⟩
 | tbl pos qual =>
  obtain ⟨ps,e,tr,hc⟩:=x
  refine ⟨ps,k a _ (.inl rfl) e,tr,fun v hv=>?_⟩
  obtain ⟨c,o,vs,t,e1,e2,e3⟩:=hc v hv
  exact ⟨c,o,vs,t,e1,hf _ _ _ e2,e3⟩
 | met f y =>
  have e:h.get? a=some (methodObj (.ref f) (.ref y)):=x
  show h'.get? a=some (methodObj (.ref f) (.ref y))
  exact k a _ (.inl rfl) e
 | ext φ=>obtain ⟨p,⟨o,e⟩,st⟩:=x;exact ⟨st _ _ p fun o q=>k _ _ (.inl rfl) q,⟨o,k _ _ (.inl rfl) e⟩,st⟩
theorem HOk.lt (x:HOk P w H h)(e:H a=some o):a<h.objs.size:=(x a o e).lt
theorem HOk.fresh (x:HOk P w H h)(e:h.objs.size≤a):H a=none:=by
 cases q:H a with
 | none=>rfl
 | some u=>exact absurd (lt_of_lt_of_le (x.lt q) e) (lt_irrefl _)
theorem HOk.kept (x:HOk P w H h)(k:∀b u,h.get? b=some u→h'.get? b=some u):HOk P w H h':=fun a o e =>
 (x a o e).stay (fun b u _ q=>k b u q) (fun _ q=>q) (fun _ _ q=>q) fun _ _ _ q=>q
theorem HOk.laid (x:HOk P w H h)(k:∀b u,h.get? b=some u→h'.get? b=some u)(hp:h.objs.size≤a)(new:Zax P w (upd H a o) h' a o):HOk P w (upd H a o) h':=fun b u e=>by
 have hn:=x.fresh hp
 by_cases hb:b=a
 ·subst hb;rw [Yb] at e;cases e;exact new
 ·rw [Xb hb] at e
  exact (x b u e).stay (fun c v _ q=>k c v q) (fun c q=>by rw [Xb (Ym q hn)];exact q) (fun c xs q=>by rw [Xb (Ym q hn)];exact q) fun c ob u q=>by rw [Xb (Ym q hn)];exact q
end
def Rd (H:Hp)(a:Addr)(u:HO):Prop:=H a=some u∨∃o,H a=some (.frz o u)
theorem Rd.ok {P:Program}{w:World}{H:Hp}{h:Heap}{a:Addr}{u:HO}(r:Rd H a u)(x:HOk P w H h):Zax P w H h a u:=by
 rcases r with r | ⟨o,r⟩
 ·exact x a u r
 ·obtain ⟨_,q⟩:=x a _ r
  exact q
noncomputable def Mut:Option HO→Prop
 | some (.lst _)=>True
 | some (.dK _)=>True
 | some (.dT _)=>True
 | some (.set _ _)=>True
 | some (.ins _ _ _)=>True
 | some (.ext _)=>True
 | _=>False
section
variable {P:Program}{w:World}{H:Hp}{h h':Heap}{x e:Addr}{o':HO}
theorem HOk.write (ok:HOk P w H h)(mu:Mut (H x))(he:e=x∨H e=some (.own x))(k:∀b u,b≠e→h.get? b=some u→h'.get? b=some u)(heo:∃u,h'.get? e=some u)
  (new:Zax P w (upd H x o') h' x o'):HOk P w (upd H x o') h':=fun b u q=>by
 have nown:∀c y,H c=some (.own y)→c≠x:=fun c y r z=>by subst z;rw [r] at mu;exact mu
 have ntup:∀c xs,H c=some (.tup xs)→c≠x:=fun c xs r z=>by subst z;rw [r] at mu;exact mu
 have nfrz:∀c ob u,H c=some (.frz ob u)→c≠x:=fun c ob u r z=>by subst z;rw [r] at mu;exact mu
 by_cases hb:b=x
 ·subst hb;rw [Yb] at q;cases q;exact new
 ·rw [Xb hb] at q
  by_cases hbe:b=e
  ·have q':H b=some (.own x):=by
    rcases he with z | z
    ·exact absurd (hbe.trans z) hb
    ·rw [hbe];exact z
   rw [q] at q';cases q'
   obtain ⟨v,hv⟩:=heo
   exact ⟨v,by rw [hbe];exact hv⟩
  ·refine (ok b u q).stay (fun c v hc r=>k c v ?_ r) (fun c r=>by rw [Xb (nown c b r)];exact r) (fun c xs r=>by rw [Xb (ntup c xs r)];exact r) fun c ob u r=>by rw [Xb (nfrz c ob u r)];exact r
   rcases hc with rfl | hc
   ·exact hbe
   ·rintro rfl
    rcases he with z | z
    ·exact nown c b hc z
    ·rw [hc] at z;cases z;exact hb rfl
end
structure Un (fs ex:List Addr)(H H':Hp)(h h':Heap):Prop where
 keep:∀b o,h.get? b=some o→H b=none→b∉fs→b∉ex→h'.get? b=some o
 slot:∀b o,h.get? b=some o→H b=none→b∈fs→b∉ex→∃sl,h'.get? b=some {o with slots:=sl}
 free:∀b o,h.get? b=some o→H b=none→b∉ex→H' b=none
 there:∀b o,h.get? b=some o→b∉ex→∃o',h'.get? b=some o'
 tups:∀b xs,H b=some (.tup xs)→H' b=some (.tup xs)
 frzs:∀b o u,H b=some (.frz o u)→H' b=some (.frz o u)
 tbls:∀b p q,H b=some (.tbl p q)→H' b=some (.tbl p q)
section
variable {fs fs' ex ex':List Addr}{H H1 H2:Hp}{h h1 h2 h':Heap}{a x e:Addr}{o:HO}
theorem Un.any (u:Un fs ex H H1 h h1){b:Addr}{ob:Obj}(q:h.get? b=some ob)(n:H b=none)(hx:b∉ex):∃sl,h1.get? b=some {ob with slots:=sl}:=by
 by_cases hb:b∈fs
 ·exact u.slot b ob q n hb hx
 ·exact ⟨ob.slots,u.keep b ob q n hb hx⟩
theorem Un.kept (k:∀b u,h.get? b=some u→h'.get? b=some u):Un fs ex H H h h':=
 ⟨fun b ob q _ _ _=>k b ob q,fun b ob q _ _ _=>⟨ob.slots,k b ob q⟩,fun _ _ _ n _=>n,fun b ob q _=>⟨ob,k b ob q⟩,fun _ _ q=>q,fun _ _ _ q=>q,fun _ _ _ q=>q⟩
theorem Un.refl:Un fs ex H H h h:=Un.kept fun _ _ q=>q
theorem Un.laid (k:∀b u,h.get? b=some u→h'.get? b=some u)(hp:h.objs.size≤a)(hn:H a=none):Un fs ex H (upd H a o) h h' where
 keep:=fun b u q _ _ _=>k b u q
 slot:=fun b u q _ _ _=>⟨u.slots,k b u q⟩
 free:=fun b u q n _=>by rw [Xb (ne_of_lt (lt_of_lt_of_le (lt_size q) hp))];exact n
 there:=fun b u q _=>⟨u,k b u q⟩
 tups:=fun b xs q=>by rw [Xb (Ym q hn)];exact q
 frzs:=fun b u xs q=>by rw [Xb (Ym q hn)];exact q
 tbls:=fun b p n q=>by rw [Xb (Ym q hn)];exact q
theorem Un.write (mu:Mut (H x))(he:e=x∨H e=some (.own x))(k:∀b u,b≠e→h.get? b=some u→h'.get? b=some u)(heo:∃u,h'.get? e=some u):Un fs ex H (upd H x o) h h':=by
  have hx:∀b,H b=none→b≠x:=fun b n z=>by subst z;rw [n] at mu;exact mu
  have hb:∀b,H b=none→b≠e:=fun b n z=>by
    subst z
    rcases he with r | r
    · exact hx b n r
    · rw [n] at r;cases r
  have hm:∀b u,H b=some u→¬Mut (some u)→b≠x:=fun b u q nm z=>by subst z;rw [q] at mu;exact nm mu
  refine ⟨fun b u q n _ _=>k b u (hb b n) q,fun b u q n _ _=>⟨u.slots,k b u (hb b n) q⟩,fun b u q n _=>by rw [Xb (hx b n)];exact n,fun b u q _=>?_,
    fun b xs q=>by rw [Xb (hm b _ q fun z=>z)];exact q,fun b u xs q=>by rw [Xb (hm b _ q fun z=>z)];exact q,fun b p n q=>by rw [Xb (hm b _ q fun z=>z)];exact q⟩
  by_cases hbe:b=e
  · subst hbe;exact heo
  · exact ⟨u,k b u hbe q⟩
end
noncomputable def trk (h:Heap)(H:Hp):List Addr:=(List.range h.objs.size).filter fun a=>(H a).isSome
noncomputable def Xej (h:Heap)(H:Hp):Heap:=hideAll h (trk h H)
theorem Xbx (h:Heap)(H:Hp):(Xej h H).objs.size=h.objs.size:=PySem.W.hideAll_size _ _
theorem Xgt {h:Heap}{H:Hp}{b:Addr}{o:Obj}(e:h.get? b=some o)(n:H b=none):(Xej h H).get? b=some o:=
 PySem.W.hideAll_get _ e fun hm=>by
  have q:(H b).isSome=true:=(List.mem_filter.mp hm).2
  rw [n] at q;simp at q
theorem Xkj {h:Heap}{H:Hp}{b:Addr}{o:Obj}(e:(Xej h H).get? b=some o):h.get? b=some o∧H b=none:=by
 have e':h.get? b=some o:=PySem.W.of_hideAll (trk h H) e
 refine ⟨e',?_⟩
 cases q:H b with
 | none=>rfl
 | some x =>
  have hm:b∈trk h H:=List.mem_filter.mpr ⟨List.mem_range.mpr (lt_size e'),by simp [q]⟩
  have z:(Xej h H).get? b=none:=PySem.W.hideAll_none (trk h H) hm
  rw [z] at e;cases e
noncomputable def Xnt (g h:Heap)(L:Addr):List (Addr×Obj):=(List.range h.objs.size).filterMap fun a=>if a=L∨(g.get? a).isSome=true then none else (h.get? a).map fun o=>(a,o)
noncomputable def rest (g h:Heap)(L d:Addr):List (Addr×Obj):=(Xnt g h L).filter fun p=>decide (p.1≠d)
structure Mod (K:Frag)(mg:Str→Option Value)(base:Heap):Prop where
 kin:K.In base
 glob:base.Ns mainGlobals mg
 blt:∃mb,base.Ns builtinsNs mb∧∀x:Str,x≠"__name__"→mb x=bootBuiltins x
 nolimit:base.NoLimit
structure Cx where
 prog:Program
 w:World
 K:Frag
 mg:Str→Option Value
 base:Heap
 A:Around
 N:List Str
 s₀:Shared
 H₀:Hp
 env:Env
 outer:List Env
 stack:List Env
 ex:List Addr
 fn:Str→Bool
 calm:Bool
 pn:List (Addr×Obj)
 xe:Value→Shared→Prop
noncomputable def frs (l:List Env):List Addr:=l.filterMap (·.frame)
noncomputable abbrev Cx.fs (X:Cx):List Addr:=frs X.outer
def Vis (sc:Scope)(x:Str):Prop:=sc.names.lookup x=some .local∨sc.names.lookup x=some .cell∨sc.names.lookup x=some .free
def Loc (sc:Scope)(x:Str):Prop:=sc.names.lookup x=some .local∨sc.names.lookup x=some .cell
def Look (env:Env)(h:Heap)(m:Str→Option Value)(x:Str)(u:Value):Prop:=
 (env.kindOf x=some .local∧m x=some u)∨((env.kindOf x=some .cell∨env.kindOf x=some .free)∧∃c,env.cells.lookup x=some c∧h.IsCell c (some u))
structure Cx.Ok (X:Cx):Prop where
 mod:Mod X.K X.mg X.base
 kind:X.env.scope.kind=.function
 glob:X.env.globals=mainGlobals
 blt:X.env.builtins=builtinsNs
 above:X.s₀.heap.objs.size≤X.env.locals
 inj:∀x y c,X.env.cells.lookup x=some c→X.env.cells.lookup y=some c→x=y
 has:∀x,(X.env.kindOf x=some .cell∨X.env.kindOf x=some .free)→∃c,X.env.cells.lookup x=some c
 cab:∀x c,X.fn x=true→X.env.cells.lookup x=some c→X.s₀.heap.objs.size≤c
 hd:X.calm=true→X.A.handled=none
 frames:X.A.frames=some X.stack
 stk:X.stack=X.outer∨(X.stack=X.env::X.outer∧X.env.frame=some X.env.locals)
 exf:∀b∈X.ex,b≠X.env.locals∧∀x c,X.env.cells.lookup x=some c→c≠b
 bs:∀b o,X.base.get? b=some o→X.s₀.heap.get? b=some o∧X.H₀ b=none
 bsz:X.base.objs.size≤X.s₀.heap.objs.size
 noex:∀b o,X.base.get? b=some o→b∉X.ex
 exfs:∀b∈X.ex,b∉X.fs
 funs:X.s₀.heap.FunFrames X.base X.outer
 frf:∀b∈X.fs,X.H₀ b=none
structure Inv (X:Cx)(pins:List (Addr×Obj))(σ:List (Option V))(H:Hp)(s:Shared):Prop where
 ok:X.Ok
 os:s.os=X.s₀.os
 bare:AllBare s.gens
 base:Un X.fs X.ex X.H₀ H X.s₀.heap s.heap
 loc:∃m,s.heap.Ns X.env.locals m∧∀(i:Nat) (x:Str) (v:V),X.N[i]?=some x→σ[i]?=some (some v)→Vis X.env.scope x→∃u,RelV v u∧Look X.env s.heap m x u
 cell:∀x c,X.env.cells.lookup x=some c→∃v,s.heap.IsCell c v
 free:H X.env.locals=none
 freeC:∀x c,X.env.cells.lookup x=some c→H c=none
 pin:∀p∈X.pn++pins,s.heap.get? p.1=some p.2∧H p.1=none∧p.1≠X.env.locals∧p.1∉X.fs∧∀v,p.2.data≠.cell v
 hok:HOk X.prog X.w H s.heap
 len:σ.length=X.N.length
section
variable {X:Cx}{pins:List (Addr×Obj)}{σ:List (Option V)}{H H':Hp}{s:Shared}{h':Heap}
theorem Cx.Ok.nofr (ok:X.Ok){b:Addr}{o:Obj}(e:X.base.get? b=some o):b∉X.fs:=fun hb=>by
 have:=(ok.funs.mem hb).1
 rw [e] at this;cases this
theorem Inv.bs (I:Inv X pins σ H s):∀b o,X.base.get? b=some o→s.heap.get? b=some o∧H b=none:=fun b o e =>
 ⟨I.base.keep b o (I.ok.bs b o e).1 (I.ok.bs b o e).2 (I.ok.nofr e) (I.ok.noex b o e),I.base.free b o (I.ok.bs b o e).1 (I.ok.bs b o e).2 (I.ok.noex b o e)⟩
theorem Inv.bk (I:Inv X pins σ H s):∀b o,X.base.get? b=some o→s.heap.get? b=some o:=fun b o e=>(I.bs b o e).1
theorem Inv.mod (I:Inv X pins σ H s):Mod X.K X.mg X.base:=I.ok.mod
theorem Inv.kIn (I:Inv X pins σ H s):X.K.In s.heap:=I.ok.mod.kin.keeps I.bk
theorem Inv.lt (I:Inv X pins σ H s):X.env.locals<s.heap.objs.size:=let ⟨_,hn,_⟩:=I.loc;hn.lt
theorem Inv.sz (I:Inv X pins σ H s):X.s₀.heap.objs.size≤s.heap.objs.size:=le_trans I.ok.above (le_of_lt I.lt)
theorem Inv.nofs (I:Inv X pins σ H s){a:Addr}(h:s.heap.objs.size≤a):a∉X.fs:=fun hb=>by
 obtain ⟨_,o,ho,_⟩:=I.ok.funs.mem hb
 exact absurd (lt_of_lt_of_le (lt_size ho) (le_trans I.sz h)) (lt_irrefl _)
theorem Inv.cne (I:Inv X pins σ H s):∀x c,X.env.cells.lookup x=some c→c≠X.env.locals:=fun x c e z=>by
 obtain ⟨v,o,ho,hd⟩:=I.cell x c e
 obtain ⟨m,⟨o',es,ep,ho',hd',_⟩,_⟩:=I.loc
 rw [z,ho'] at ho;cases ho;rw [hd'] at hd;cases hd
theorem Inv.funs (I:Inv X pins σ H s):s.heap.FunFrames X.base X.outer:=by
 have all:∀(l:List Env),(∀b∈frs l,b∈X.fs)→X.s₀.heap.FunFrames X.base l→s.heap.FunFrames X.base l:=by
  intro l
  induction l with
  | nil=>intro _ _;trivial
  | cons env r ih =>
   intro hs hl
   obtain ⟨hk,⟨L,o,hf,hn,ho,hd⟩,hr⟩:=hl
   have hL:L∈X.fs:=hs L (by unfold frs;rw [List.filterMap_cons,hf];exact mem_cons_self)
   obtain ⟨sl,e⟩:=I.base.slot L o ho (I.ok.frf L hL) hL fun z=>I.ok.exfs L z hL
   exact ⟨hk,⟨L,_,hf,hn,e,hd⟩,ih (fun b hb=>hs b (by unfold frs;rw [List.filterMap_cons,hf];exact mem_cons_of_mem _ hb)) hr⟩
 exact all X.outer (fun _ hb=>hb) I.ok.funs
theorem Inv.stack (I:Inv X pins σ H s):s.heap.FunFrames X.base X.stack:=by
 rcases I.ok.stk with e | ⟨e,hf⟩
 ·rw [e];exact I.funs
 ·rw [e]
  obtain ⟨m,hn,_⟩:=I.loc
  refine .cons (by rw [I.ok.kind];decide) hf hn ?_ I.funs
  exact Heap.get?_none_of_le (le_trans I.ok.bsz I.ok.above)
theorem Inv.stkSub (I:Inv X pins σ H s):∀b∈frs X.stack,b∈X.env.locals::X.fs:=fun b hb=>by
 rcases I.ok.stk with e | ⟨e,hf⟩
 ·rw [e] at hb;exact mem_cons_of_mem _ hb
 ·rw [e] at hb
  unfold frs at hb
  rw [List.filterMap_cons,hf] at hb
  exact hb
theorem Inv.stkFree (I:Inv X pins σ H s):∀b∈frs X.stack,H b=none:=fun b hb=>by
 rcases List.mem_cons.mp (I.stkSub b hb) with e | hb
 ·rw [e];exact I.free
 ·obtain ⟨_,o,ho,_⟩:=I.ok.funs.mem hb
  exact I.base.free b o ho (I.ok.frf b hb) fun z=>I.ok.exfs b z hb
theorem Inv.step {g':Array GenState}{t':Nat}{d':Drawn}{ch:List Addr}(I:Inv X pins σ H s)
  (hch:∀b∈ch,(b∈X.ex∨X.s₀.heap.objs.size≤b)∧b≠X.env.locals∧(∀x c,X.env.cells.lookup x=some c→c≠b)∧∀p∈X.pn++pins,p.1≠b)
  (keep:∀b o,b≠X.env.locals→b∉X.fs→b∉ch→s.heap.get? b=some o→H b=none→h'.get? b=some o)
  (slot:∀b o,b≠X.env.locals→b∈X.fs→b∉ch→s.heap.get? b=some o→H b=none→∃sl,h'.get? b=some {o with slots:=sl}) (free:∀b o,b∉ch→s.heap.get? b=some o→H b=none→H' b=none)
  (there:∀b o,b∉ch→s.heap.get? b=some o→∃o',h'.get? b=some o')
  (tups:∀b xs,H b=some (.tup xs)→H' b=some (.tup xs)) (frzs:∀b o u,H b=some (.frz o u)→H' b=some (.frz o u)) (tbls:∀b p n,H b=some (.tbl p n)→H' b=some (.tbl p n))
  (ns:∀m,s.heap.Ns X.env.locals m→h'.Ns X.env.locals m) (hok:HOk X.prog X.w H' h') (hg:AllBare g') :
  Inv X pins σ H' {s with heap:=h',gens:=g',drawn:=d',toks:=t'}:=by
 have neL:∀b o,X.s₀.heap.get? b=some o→b≠X.env.locals:=fun b o e=>ne_of_lt (lt_of_lt_of_le (lt_size e) I.ok.above)
 have neC:∀b o,X.s₀.heap.get? b=some o→b∉X.ex→b∉ch:=fun b o e hx hb=>by
  rcases (hch b hb).1 with z | z
  ·exact hx z
  ·exact absurd (lt_of_lt_of_le (lt_size e) z) (lt_irrefl _)
 have cellK:∀x c,X.env.cells.lookup x=some c→∀v,s.heap.IsCell c v→h'.IsCell c v:=fun x c e v ⟨o,ho,hd⟩=>by
  have nch:c∉ch:=fun z=>(hch c z).2.2.1 x c e rfl
  by_cases hc:c∈X.fs
  ·obtain ⟨sl,q⟩:=slot c o (I.cne x c e) hc nch ho (I.freeC x c e)
   exact ⟨_,q,hd⟩
  ·exact ⟨o,keep c o (I.cne x c e) hc nch ho (I.freeC x c e),hd⟩
 refine ⟨I.ok,I.os,hg,⟨fun b o e n hb hx=>?_,fun b o e n hb hx=>?_,fun b o e n hx=>?_,fun b o e hx=>?_,fun b xs e=>tups b xs (I.base.tups b xs e),fun b o xs e=>frzs b o xs (I.base.frzs b o xs e),fun b p n e=>tbls b p n (I.base.tbls b p n e)⟩,?_,fun x c e=>?_,?_,fun x c e=>?_,fun p hp=>?_,hok,I.len⟩
 ·exact keep b o (neL b o e) hb (neC b o e hx) (I.base.keep b o e n hb hx) (I.base.free b o e n hx)
 ·obtain ⟨sl,e1⟩:=I.base.slot b o e n hb hx
  obtain ⟨sl',e2⟩:=slot b _ (neL b o e) hb (neC b o e hx) e1 (I.base.free b o e n hx)
  exact ⟨sl',e2⟩
 ·obtain ⟨o',e1⟩:=I.base.there b o e hx
  exact free b o' (neC b o e hx) e1 (I.base.free b o e n hx)
 ·obtain ⟨o',e1⟩:=I.base.there b o e hx
  exact there b o' (neC b o e hx) e1
 ·obtain ⟨m,hn,hl⟩:=I.loc
  refine ⟨m,ns m hn,fun i x v e1 e2 e3=>?_⟩
  obtain ⟨u,r,l⟩:=hl i x v e1 e2 e3
  refine ⟨u,r,?_⟩
  rcases l with l | ⟨k,c,e,z⟩
  ·exact .inl l
  ·exact .inr ⟨k,c,e,cellK x c e _ z⟩
 ·obtain ⟨v,z⟩:=I.cell x c e
  exact ⟨v,cellK x c e v z⟩
 ·obtain ⟨m,⟨o,_,_,ho,_⟩,_⟩:=I.loc
  exact free _ o (fun z=>(hch _ z).2.1 rfl) ho I.free
 ·obtain ⟨v,o,ho,hd⟩:=I.cell x c e
  exact free c o (fun z=>(hch c z).2.2.1 x c e rfl) ho (I.freeC x c e)
 ·obtain ⟨e,n,ne,nf,d⟩:=I.pin p hp
  have nch:p.1∉ch:=fun z=>(hch p.1 z).2.2.2 p hp rfl
  exact ⟨keep p.1 p.2 ne nf nch e n,free p.1 p.2 nch e n,ne,nf,d⟩
theorem Inv.un {t':Nat}(I:Inv X pins σ H s)(u:Un X.fs [] H H' s.heap h')(hok:HOk X.prog X.w H' h'):Inv X pins σ H' {s with heap:=h',toks:=t'}:=by
  obtain ⟨m,⟨o,es,ep,ho,r⟩,_⟩:=id I.loc
  obtain ⟨sl,hL⟩:=u.any ho I.free (by simp)
  exact I.step (g':=s.gens) (d':=s.drawn) (ch:=[]) (fun _ z=>nomatch z) (fun b o _ hb _ e n=>u.keep b o e n hb (by simp)) (fun b o _ hb _ e n=>u.slot b o e n hb (by simp)) (fun b o _ e n=>u.free b o e n (by simp)) (fun b o _ e=>u.there b o e (by simp)) u.tups u.frzs u.tbls (fun m' hm=>by
    obtain ⟨o',es',ep',ho',r'⟩:=hm
    rw [ho] at ho';cases ho'
    exact ⟨_,es',ep',hL,r'⟩) hok I.bare
theorem Inv.call {g':Array GenState}{t':Nat}{d':Drawn}{ch:List Addr}(I:Inv X pins σ H s)(u:Un (frs X.stack) ch H H' s.heap h')(hok:HOk X.prog X.w H' h')(hg:AllBare g')
    (hch:∀b∈ch,(b∈X.ex∨X.s₀.heap.objs.size≤b)∧b≠X.env.locals∧(∀x c,X.env.cells.lookup x=some c→c≠b)∧∀p∈X.pn++pins,p.1≠b) :
    Inv X pins σ H' {s with heap:=h',gens:=g',drawn:=d',toks:=t'}:=by
  obtain ⟨m,⟨o,es,ep,ho,r⟩,_⟩:=id I.loc
  obtain ⟨sl,hL⟩:=u.any ho I.free fun z=>(hch _ z).2.1 rfl
  exact I.step (ch:=ch) hch (fun b o hL hb hc e n=>u.keep b o e n (fun z=>(List.mem_cons.mp (I.stkSub b z)).elim hL hb) hc) (fun b o _ _ hc e n=>u.any e n hc) (fun b o hc e n=>u.free b o e n hc) (fun b o hc e=>u.there b o e hc) u.tups u.frzs u.tbls (fun m' hm=>by
    obtain ⟨o',es',ep',ho',r'⟩:=hm
    rw [ho] at ho';cases ho'
    exact ⟨_,es',ep',hL,r'⟩) hok hg
theorem Inv.turned {t':Nat}{it:Addr}(I:Inv X pins σ H s)(k:∀b o,b≠it→s.heap.get? b=some o→h'.get? b=some o)(hn:H it=none)(hL:it≠X.env.locals)
  (h1:it∈X.ex∨X.s₀.heap.objs.size≤it) (h2:∀x c,X.env.cells.lookup x=some c→c≠it) (h3:∀p∈X.pn++pins,p.1≠it):Inv X pins σ H {s with heap:=h',toks:=t'}:=by
 have nit:∀b u,H b=some u→b≠it:=fun b u e z=>by rw [z,hn] at e;cases e
 refine I.step (g':=s.gens) (d':=s.drawn) (ch:=[it]) (fun b hb=>?_) (fun b o _ _ hc e _=>k b o (fun z=>hc (by simp [z])) e) (fun b o _ _ hc e _=>⟨o.slots,k b o (fun z=>hc (by simp [z])) e⟩) (fun _ _ _ _ n=>n)
  (fun b o hc e=>⟨o,k b o (fun z=>hc (by simp [z])) e⟩) (fun _ _ e=>e) (fun _ _ _ e=>e) (fun _ _ _ e=>e) (fun m hm=>?_) (fun b u e=>?_) I.bare
 ·have e:b=it:=by simpa using hb
  subst e
  exact ⟨h1,hL,h2,h3⟩
 ·obtain ⟨o,es,ep,ho,r⟩:=hm
  exact ⟨o,es,ep,k _ o (Ne.symm hL) ho,r⟩
 ·refine (I.hok b u e).stay (fun c v hc q=>k c v ?_ q) (fun _ q=>q) (fun _ _ q=>q) fun _ _ _ q=>q
  rcases hc with z | z
  ·rw [z];exact nit b u e
  ·exact nit c _ z
theorem Inv.tok (I:Inv X pins σ H s)(t:Nat):Inv X pins σ H {s with toks:=t}:=I.un (h':=s.heap) (t':=t) Un.refl I.hok
theorem Inv.kept {t':Nat}(I:Inv X pins σ H s)(k:∀b u,s.heap.get? b=some u→h'.get? b=some u):Inv X pins σ H {s with heap:=h',toks:=t'}:=I.un (Un.kept k) (I.hok.kept k)
theorem Inv.laid {a:Addr}{o:HO}{t':Nat}(I:Inv X pins σ H s)(k:∀b u,s.heap.get? b=some u→h'.get? b=some u)(hp:s.heap.objs.size≤a)(new:Zax X.prog X.w (upd H a o) h' a o) :
  Inv X pins σ (upd H a o) {s with heap:=h',toks:=t'}:=I.un (Un.laid k hp (I.hok.fresh hp)) (I.hok.laid k hp new)
theorem Inv.write {x e:Addr}{o:HO}{t':Nat}(I:Inv X pins σ H s)(mu:Mut (H x))(he:e=x∨H e=some (.own x))(k:∀b u,b≠e→s.heap.get? b=some u→h'.get? b=some u)(heo:∃u,h'.get? e=some u)
  (new:Zax X.prog X.w (upd H x o) h' x o):Inv X pins σ (upd H x o) {s with heap:=h',toks:=t'}:=I.un (Un.write mu he k heo) (I.hok.write mu he k heo new)
theorem Inv.pins_of {pins':List (Addr×Obj)}(I:Inv X pins σ H s)(h:∀p∈pins',s.heap.get? p.1=some p.2∧H p.1=none∧p.1≠X.env.locals∧p.1∉X.fs∧∀v,p.2.data≠.cell v):Inv X pins' σ H s:=
 ⟨I.ok,I.os,I.bare,I.base,I.loc,I.cell,I.free,I.freeC,fun p hp=>(List.mem_append.mp hp).elim (fun z=>I.pin p (mem_append_left _ z)) (h p),I.hok,I.len⟩
theorem Zuz {N:List Str}(hN:N.Nodup){i j:Nat}{x:Str}(a:N[i]?=some x)(b:N[j]?=some x):i=j:=by
 obtain ⟨h1,e1⟩:=List.getElem?_eq_some_iff.mp a
 obtain ⟨h2,e2⟩:=List.getElem?_eq_some_iff.mp b
 exact (List.getElem_inj hN).mp (e1.trans e2.symm)
theorem Zqw {M:Model}{A:Around}{E:Value→Shared→Prop}{i:Nat}{x:Str}{v:V}{u:Value}{Q:Unit→Shared→Prop}(I:Inv X pins σ H s)(hN:X.N.Nodup)(hi:X.N[i]?=some x)(hx:Loc X.env.scope x)(r:RelV v u)
  (h:∀s',Inv X pins (σ.set i (some v)) H s'→(∃a,Heap.SameBut a s.heap s'.heap∧(a=X.env.locals∨X.env.cells.lookup x=some a))→Q () s') (hf:autoParam (X.fn x=true∨X.env.scope.names.lookup x=some .local) aT0._auto_1):wpAny M A (storeName X.env x u) Q E s:=by
 obtain ⟨m,hn,hl⟩:=id I.loc
 have hcls:(X.env.scope.kind==.class||(X.env.scope.kind==.module&&X.env.locals != X.env.globals))=false:=by rw [I.ok.kind];rfl
 have hiσ:i<σ.length:=by rw [I.len];exact (List.getElem?_eq_some_iff.mp hi).1
 have cne:=I.cne
 have tracked:∀{a:Addr} {h':Heap},(∃o,s.heap.get? a=some o∧H a=none)→Heap.SameBut a s.heap h'→HOk X.prog X.w H h':=fun {a h'} ha hs b ob e=>by
  obtain ⟨_,_,hfree⟩:=ha
  refine (I.hok b ob e).stay (fun c w' hc q=>(hs.2 c ?_).trans q) (fun _ q=>q) (fun _ _ q=>q) fun _ _ _ q=>q
  rintro rfl
  rcases hc with rfl | hc
  ·rw [hfree] at e;cases e
  ·rw [hfree] at hc;cases hc
 rcases hx with hk | hk
 ·refine wpAny_storeName_local hk hn (fun h' hn' hs=>?_) hcls
  obtain ⟨oL,_,_,hoL,_⟩:=id hn
  refine h _ ⟨I.ok,I.os,I.bare,⟨fun b o e n hb hx=>?_,fun b o e n hb hx=>?_,I.base.free,fun b o e hx=>?_,I.base.tups,I.base.frzs,I.base.tbls⟩,⟨_,hn',fun j y v' e1 e2 e3=>?_⟩,fun y c e=>?_,I.free,I.freeC,fun p hp=>?_,tracked ⟨oL,hoL,I.free⟩ hs,by simpa using I.len⟩ ⟨_,hs,.inl rfl⟩
  ·exact (hs.2 b (ne_of_lt (lt_of_lt_of_le (lt_size e) I.ok.above))).trans (I.base.keep b o e n hb hx)
  ·obtain ⟨sl,e1⟩:=I.base.slot b o e n hb hx
   exact ⟨sl,(hs.2 b (ne_of_lt (lt_of_lt_of_le (lt_size e) I.ok.above))).trans e1⟩
  ·obtain ⟨o',e1⟩:=I.base.there b o e hx
   exact ⟨o',(hs.2 b (ne_of_lt (lt_of_lt_of_le (lt_size e) I.ok.above))).trans e1⟩
  ·by_cases hj:j=i
   ·subst hj
    rw [hi] at e1;cases e1
    rw [getElem?_set_self hiσ] at e2
    cases e2
    exact ⟨u,r,.inl ⟨hk,by simp⟩⟩
   ·rw [getElem?_set_ne (Ne.symm hj)] at e2
    obtain ⟨u',r',q⟩:=hl j y v' e1 e2 e3
    refine ⟨u',r',?_⟩
    rcases q with ⟨k,e⟩ | ⟨k,c,e,z⟩
    ·refine .inl ⟨k,?_⟩
     have:y≠x:=fun e=>hj (Zuz hN e1 (e▸hi))
     simp [this,e]
    ·exact .inr ⟨k,c,e,z.sameBut hs (cne y c e)⟩
  ·obtain ⟨w',z⟩:=I.cell y c e
   exact ⟨w',z.sameBut hs (cne y c e)⟩
  ·obtain ⟨e,n,ne,nf,d⟩:=I.pin p hp
   exact ⟨(hs.2 p.1 ne).trans e,n,ne,nf,d⟩
 ·have hfn:X.fn x=true:=by
   rcases hf with z | z
   ·exact z
   ·rw [z] at hk;cases hk
  obtain ⟨c,hc⟩:=I.ok.has x (.inl hk)
  obtain ⟨w',z⟩:=I.cell x c hc
  refine wpAny_storeName_cell I.ok.kind hk hc z (fun h' hc' hs=>?_)
  obtain ⟨oc,hoc,hocd⟩:=id z
  refine h {s with heap:=h'} ⟨I.ok,I.os,I.bare,⟨fun b o e n hb hx=>?_,fun b o e n hb hx=>?_,I.base.free,fun b o e hx=>?_,I.base.tups,I.base.frzs,I.base.tbls⟩,⟨m,hn.sameBut hs (Ne.symm (cne x c hc)),fun j y v' e1 e2 e3=>?_⟩,fun y c' e=>?_,I.free,I.freeC,fun p hp=>?_,tracked ⟨oc,hoc,I.freeC x c hc⟩ hs,by simpa using I.len⟩ ⟨c,hs,.inr hc⟩
  ·exact (hs.2 b (ne_of_lt (lt_of_lt_of_le (lt_size e) (I.ok.cab x c hfn hc)))).trans (I.base.keep b o e n hb hx)
  ·obtain ⟨sl,e1⟩:=I.base.slot b o e n hb hx
   exact ⟨sl,(hs.2 b (ne_of_lt (lt_of_lt_of_le (lt_size e) (I.ok.cab x c hfn hc)))).trans e1⟩
  ·obtain ⟨o',e1⟩:=I.base.there b o e hx
   exact ⟨o',(hs.2 b (ne_of_lt (lt_of_lt_of_le (lt_size e) (I.ok.cab x c hfn hc)))).trans e1⟩
  ·by_cases hj:j=i
   ·subst hj
    rw [hi] at e1;cases e1
    rw [getElem?_set_self hiσ] at e2
    cases e2
    exact ⟨u,r,.inr ⟨.inl hk,c,hc,hc'⟩⟩
   ·rw [getElem?_set_ne (Ne.symm hj)] at e2
    obtain ⟨u',r',q⟩:=hl j y v' e1 e2 e3
    refine ⟨u',r',?_⟩
    rcases q with q | ⟨k,c',e,z'⟩
    ·exact .inl q
    ·refine .inr ⟨k,c',e,z'.sameBut hs ?_⟩
     rintro rfl
     exact hj (Zuz hN e1 (I.ok.inj _ _ _ e hc▸hi))
  ·by_cases hcc:c'=c
   ·subst hcc;exact ⟨_,hc'⟩
   ·obtain ⟨w2,z2⟩:=I.cell y c' e
    exact ⟨w2,z2.sameBut hs hcc⟩
  ·obtain ⟨e,n,ne,nf,d⟩:=I.pin p hp
   refine ⟨(hs.2 p.1 ?_).trans e,n,ne,nf,d⟩
   intro q
   rw [q,hoc] at e
   have q':oc=p.2:=Option.some.inj e
   exact d w' (by rw [← q'];exact hocd)
theorem Zos {M:Model}{A:Around}{E:Value→Shared→Prop}{i:Nat}{x:Str}{v:V}{u:Value}{Q:Unit→Shared→Prop}(I:Inv X pins σ H s)(hN:X.N.Nodup)(hi:X.N[i]?=some x)(hx:Loc X.env.scope x)(r:RelV v u)
  (h:∀s',Inv X pins (σ.set i (some v)) H s'→Q () s') (hf:autoParam (X.fn x=true∨X.env.scope.names.lookup x=some .local) aT0._auto_1):wpAny M A (storeName X.env x u) Q E s:=
 Zqw I hN hi hx r (fun s' I' _=>h s' I') hf
theorem Inv.call' {s':Shared}{ch:List Addr}(I:Inv X pins σ H s)(ho:s'.os=s.os)(u:Un (frs X.stack) ch H H' s.heap s'.heap)(hok:HOk X.prog X.w H' s'.heap)(hg:AllBare s'.gens)
  (hch:∀b∈ch,(b∈X.ex∨X.s₀.heap.objs.size≤b)∧b≠X.env.locals∧(∀x c,X.env.cells.lookup x=some c→c≠b)∧∀p∈X.pn++pins,p.1≠b):Inv X pins σ H' s':=by
 obtain ⟨h',g',d',t',o'⟩:=s'
 have e:o'=s.os:=ho
 subst e
 exact I.call (g':=g') (t':=t') (d':=d') u hok hg hch
end
noncomputable abbrev XK:=Value→Option Addr→Hp→Prop
noncomputable abbrev St:=List (Option V)
noncomputable abbrev VK:=V→Hp→Prop
noncomputable abbrev TE:=St→Hp→VK→Prop
noncomputable abbrev TT:=St→Hp→(Bool→Hp→Prop)→Prop
noncomputable abbrev TA:=St→Hp→(List V→Hp→Prop)→Prop
structure Ends where
 nx:St→Hp→Prop
 rt:VK
 bk:St→Hp→Prop:=fun _ _=>False
 ct:St→Hp→Prop:=fun _ _=>False
noncomputable abbrev TS:=Ends→St→Hp→Prop
def EP (X:Cx)(pins:List (Addr×Obj))(σ:St)(Q:VK)(u:Value)(s':Shared):Prop:=∃v H',Inv X pins σ H' s'∧RelV v u∧Q v H'
def TP (X:Cx)(pins:List (Addr×Obj))(σ:St)(Q:Bool→Hp→Prop)(b:Bool)(s':Shared):Prop:=∃H',Inv X pins σ H' s'∧Q b H'
def AP (X:Cx)(pins:List (Addr×Obj))(σ:St)(Q:List V→Hp→Prop)(us:List Value)(s':Shared):Prop:=∃vs H',Inv X pins σ H' s'∧Jd vs us∧Q vs H'
def SP (X:Cx)(pins:List (Addr×Obj))(D:Ends)(f:Flow)(s':Shared):Prop:=
 match f with
 | .next=>∃σ' H',Inv X pins σ' H' s'∧D.nx σ' H'
 | .brk=>∃σ' H',Inv X pins σ' H' s'∧D.bk σ' H'
 | .cont=>∃σ' H',Inv X pins σ' H' s'∧D.ct σ' H'
 | .ret u=>∃v σ' H',Inv X pins σ' H' s'∧RelV v u∧D.rt v H'
def PE (X:Cx)(e:Expr)(t:TE):Prop:=
 ∀(pins:List (Addr×Obj)) (s:Shared) (σ:St) (H:Hp) (Q:VK),Inv X pins σ H s→t σ H Q→wpAny (model X.prog X.w) X.A (eval e X.env) (EP X pins σ Q) X.xe s
def PT (X:Cx)(e:Expr)(t:TT):Prop:=
 ∀(pins:List (Addr×Obj)) (s:Shared) (σ:St) (H:Hp) (Q:Bool→Hp→Prop),Inv X pins σ H s→t σ H Q→wpAny (model X.prog X.w) X.A (isTrue e X.env (eval e X.env)) (TP X pins σ Q) X.xe s
def PW (X:Cx)(e:Expr)(t:TT):Prop:=
 ∀(whole:Sem Value) (pins:List (Addr×Obj)) (s:Shared) (σ:St) (H:Hp) (Q:Bool→Hp→Prop),Inv X pins σ H s→t σ H Q→wpAny (model X.prog X.w) X.A (isTrue e X.env whole) (TP X pins σ Q) X.xe s
theorem PW.pt {X:Cx}{e:Expr}{t:TT}(h:PW X e t):PT X e t:=h _
def PA (X:Cx)(es:List Expr)(t:TA):Prop:=
 ∀(pos:Pos) (pins:List (Addr×Obj)) (s:Shared) (σ:St) (H:Hp) (Q:List V→Hp→Prop),Inv X pins σ H s→t σ H Q→wpAny (model X.prog X.w) X.A (spliced (backTo pos (starEach es X.env))) (AP X pins σ Q) X.xe s
def PS (X:Cx)(st:Stmt)(t:TS):Prop:=
 ∀(pins:List (Addr×Obj)) (s:Shared) (σ:St) (H:Hp) (D:Ends),Inv X pins σ H s→t D σ H→wpAny (model X.prog X.w) X.A (exec st X.env) (SP X pins D) X.xe s
def PSs (X:Cx)(st:List Stmt)(t:TS):Prop:=
 ∀(pins:List (Addr×Obj)) (s:Shared) (σ:St) (H:Hp) (D:Ends),Inv X pins σ H s→t D σ H→wpAny (model X.prog X.w) X.A (execs st X.env) (SP X pins D) X.xe s
theorem thn {α:Type}{t:Sem α}{Q Q':α→Shared→Prop}{M:Model}{A:Around}{E:Value→Shared→Prop}{s:Shared}(h:wpAny M A t Q E s)(hQ:∀a s,Q a s→Q' a s):wpAny M A t Q' E s:=wpAny_mono h hQ fun _ _ x=>x
section
variable {X:Cx}
def Zdb (i:Nat):TE:=fun σ H Q=>∃v,σ[i]?=some (some v)∧Q v H
def tC (v:V):TE:=fun _ H Q=>Q v H
theorem Xqm {i:Nat}{x:Str}{pos:Pos}(hN:X.N[i]?=some x)(hv:Vis X.env.scope x)(hd:(x==("__debug__":Str))=false:=by decide)(hcd:(x==("__classdict__":Str))=false:=by decide):PE X (.Name x pos) (Zdb i):=by
 intro pins s σ H Q I h
 obtain ⟨v,e,h⟩:=h
 obtain ⟨m,hn,hl⟩:=I.loc
 obtain ⟨u,r,l⟩:=hl i x v hN e hv
 have fin:EP X pins σ Q u s:=⟨v,H,I,r,h⟩
 rcases l with ⟨hk,hm⟩ | ⟨hk,c,hc,hcell⟩
 ·exact wpAny_Name (wpAny_loadName_local I.ok.kind hk hn hm fin) hd
 ·rcases hk with hk | hk
  ·exact wpAny_Name (wpAny_loadName_cell I.ok.kind hk hc hcell fin) hd
  ·exact wpAny_Name (wpAny_loadName_free I.ok.kind hk hc hcell fin hcd) hd
theorem Xtx {i j pos}:PE X (.Constant (.int i) j pos) (tC (.int i)):=fun _ _ _ H _ I h=>wpAny_Constant_int ⟨.int i,H,I.tok _,⟨_,rfl⟩,h⟩
theorem pe_bl {b j pos}:PE X (.Constant (.bool b) j pos) (tC (.bl b)):=fun _ _ _ H _ I h=>Constant_bool ⟨.bl b,H,I,rfl,h⟩
theorem Xsy {j pos}:PE X (.Constant .none j pos) (tC .non):=fun _ _ _ H _ I h=>Constant_none ⟨.non,H,I,rfl,h⟩
theorem Xsh {x j pos}:PE X (.Constant (.str x) j pos) (tC (.str x)):=fun _ _ _ H _ I h=>Calls.Constant_str ⟨.str x,H,I.tok _,⟨_,rfl⟩,h⟩
def Gl (X:Cx)(x:Str):Prop:=X.env.kindOf x=some .globalImplicit
theorem Ztk {E:Value→Shared→Prop}{pins:List (Addr×Obj)}{s:Shared}{σ:St}{H:Hp}{x:Str}{u:Value}{pos:Pos}{Q:Value→Shared→Prop}(I:Inv X pins σ H s)(hg:Gl X x)(hm:X.mg x=some u)(h:Q u s)
  (hd:(x==("__debug__":Str))=false:=by decide):wpAny (model X.prog X.w) X.A (eval (.Name x pos) X.env) Q E s:=
 Calls.Name_function_global I.ok.kind hg (Calls.loadGlobal_global (by rw [I.ok.glob];exact I.mod.glob.keeps I.bk) hm h) hd
theorem Znc {E:Value→Shared→Prop}{pins:List (Addr×Obj)}{s:Shared}{σ:St}{H:Hp}{x:Str}{u:Value}{pos:Pos}{Q:Value→Shared→Prop}(I:Inv X pins σ H s)(hg:Gl X x)(hm:X.mg x=none)(hv:bootBuiltins x=some u)(h:Q u s)
  (hn:x≠"__name__":=by decide) (hd:(x==("__debug__":Str))=false:=by decide):wpAny (model X.prog X.w) X.A (eval (.Name x pos) X.env) Q E s:=by
 obtain ⟨mb,h1,h2⟩:=I.mod.blt
 exact Calls.Name_function_global I.ok.kind hg (Calls.loadGlobal_builtin (by rw [I.ok.glob];exact I.mod.glob.keeps I.bk) hm (by rw [I.ok.blt];exact h1.keeps I.bk) ((h2 x hn).trans hv) h) hd
theorem Xmw {x:Str}{v:V}{u:Value}{pos:Pos}(hg:Gl X x)(hm:X.mg x=some u)(r:RelV v u)(hd:(x==("__debug__":Str))=false:=by decide):PE X (.Name x pos) (tC v):=
 fun _ _ _ H _ I h=>Ztk I hg hm ⟨v,H,I,r,h⟩ hd
variable {a b:Expr}{ta tb:TE}{pos:Pos}
def tB (t:TE):TT:=fun σ H Q=>t σ H fun x H1=>∃c,x=.bl c∧Q c H1
theorem Xri {e:Expr}{t:TE}(h:PE X e t)(he:∀whole,isTrue e X.env whole=(do let v ← whole;standAt e.pos;holding [v] (truthy v)):=by intro _;rfl):PT X e (tB t):=by
 intro pins s σ H Q I hw
 refine isTrue_plain (thn (h pins s σ H _ I hw) fun v s1 hz9=>?_) (he _)
 obtain ⟨x,H1,I1,r1,q1⟩:=hz9
 obtain ⟨d,rfl,q⟩:=q1
 cases r1
 exact wpAny_truthy_bool ⟨H1,I1,q⟩
variable {tA tB':TT}{rest:List Expr}
def tAnd (t u:TT):TT:=fun σ H Q=>t σ H fun c H1=>if c=true then u σ H1 Q else Q false H1
def tOr (t u:TT):TT:=fun σ H Q=>t σ H fun c H1=>if c=true then Q true H1 else u σ H1 Q
def tNot (t:TT):TT:=fun σ H Q=>t σ H fun c H1=>Q (!c) H1
theorem Xnh (ha:PT X a tA):PW X (.BoolOp .And [a] pos) tA:=by
 intro wh pins s σ H Q I h
 refine isTrue_and (thn (ha pins s σ H Q I h) fun c s1 e=>?_)
 cases c with
 | true=>exact isTrue_and_nil e
 | false=>exact e
theorem Xrx (ha:PT X a tA):PW X (.BoolOp .Or [a] pos) tA:=by
 intro wh pins s σ H Q I h
 refine isTrue_or (thn (ha pins s σ H Q I h) fun c s1 e=>?_)
 cases c with
 | false=>exact isTrue_or_nil e
 | true=>exact e
theorem Xud (ha:PT X a tA)(hb:PW X (.BoolOp .And (b::rest) pos) tB'):PW X (.BoolOp .And (a::b::rest) pos) (tAnd tA tB'):=by
 intro wh pins s σ H Q I h
 refine isTrue_and (thn (ha pins s σ H _ I h) fun c s1 ⟨H1,I1,q1⟩=>?_)
 cases c with
 | true=>exact hb wh pins s1 σ H1 Q I1 q1
 | false=>exact ⟨H1,I1,q1⟩
theorem pw_or (ha:PT X a tA)(hb:PW X (.BoolOp .Or (b::rest) pos) tB'):PW X (.BoolOp .Or (a::b::rest) pos) (tOr tA tB'):=by
 intro wh pins s σ H Q I h
 refine isTrue_or (thn (ha pins s σ H _ I h) fun c s1 ⟨H1,I1,q1⟩=>?_)
 cases c with
 | true=>exact ⟨H1,I1,q1⟩
 | false=>exact hb wh pins s1 σ H1 Q I1 q1
theorem Xtj (ha:PT X a tA):PT X (.UnaryOp .Not a pos) (tNot tA):=by
 intro pins s σ H Q I h
 exact isTrue_not (ha pins s σ H (fun c H1=>Q (!c) H1) I h)
def Xdv (ta tb:TE):TE:=fun σ H Q=>ta σ H fun x H1=>∃c,x=.bl c∧if c=true then tb σ H1 Q else Q (.bl false) H1
theorem Xro {op}{t:TE}(h:PE X a t):PE X (.BoolOp op [a] pos) t:=fun pins s σ H Q I hw=>BoolOp_one (h pins s σ H Q I hw)
theorem Xqq (ha:PE X a ta)(hb:PE X (.BoolOp .And (b::rest) pos) tb):PE X (.BoolOp .And (a::b::rest) pos) (Xdv ta tb):=by
 intro pins s σ H Q I h
 refine BoolOp_and (thn (ha pins s σ H _ I h) fun v s1 hz9=>?_)
 obtain ⟨x,H1,I1,r1,q1⟩:=hz9
 obtain ⟨c,rfl,q1⟩:=q1
 cases r1
 refine wpAny_truthy_bool ?_
 cases c with
 | true=>exact hb pins s1 σ H1 Q I1 q1
 | false=>exact ⟨.bl false,H1,I1,rfl,q1⟩
def tIf (t:TT)(ta tb:TE):TE:=fun σ H Q=>t σ H fun c H1=>if c=true then ta σ H1 Q else tb σ H1 Q
theorem Xdn {c:Expr}(hc:PT X c tA)(ha:PE X a ta)(hb:PE X b tb):PE X (.IfExp c a b pos) (tIf tA ta tb):=by
 intro pins s σ H Q I h
 refine wpAny_IfExp (thn (hc pins s σ H _ I h) fun d s1 ⟨H1,I1,q1⟩=>?_)
 cases d with
 | true=>exact ha pins s1 σ H1 Q I1 q1
 | false=>exact hb pins s1 σ H1 Q I1 q1
end
def SqL (K:Frag)(H:Hp)(a:Addr)(xs:List V):Prop:=
 Rd H a (.lst xs)∨
  ∃(o:Obj) (its:Array Value) (n:Nat),K.lookup a=some o∧o.cls=.type "list"∧o.dict=none∧o.data=.seq its n∧its.size≤sizeLine∧Jd xs its.toList
def SqT (K:Frag)(H:Hp)(a:Addr)(xs:List V):Prop:=
 Rd H a (.tup xs)∨
  ∃(o:Obj) (its:Array Value) (n:Nat),K.lookup a=some o∧o.cls=.type "tuple"∧o.data=.seq its n∧its.size≤sizeLine∧Jd xs its.toList
noncomputable def absV:Value→Option V
 | .none=>some .non
 | .bool b=>some (.bl b)
 | .int i _=>some (.int i)
 | .str x _=>some (.str x)
 | .bytes b _=>some (.byt b)
 | .float b _=>some (.flt b)
 | .ref a=>some (.ref a)
 | .type n=>some (.ty n)
 | _=>none
theorem RelV.abs {x:V}{u:Value}(r:RelV x u):absV u=some x:=by
 cases x with
 | non=>cases r;rfl
 | bl _=>cases r;rfl
 | int _=>obtain ⟨t,rfl⟩:=r;rfl
 | str _=>obtain ⟨t,rfl⟩:=r;rfl
 | byt _=>obtain ⟨t,rfl⟩:=r;rfl
 | flt _=>obtain ⟨t,rfl⟩:=r;rfl
 | ref _=>cases r;rfl
 | ty _=>cases r;rfl
theorem RelV.inj {x y:V}{u:Value}(r:RelV x u)(q:RelV y u):x=y:=Option.some.inj (r.abs.symm.trans q.abs)
theorem Jd.inj:∀{xs ys:List V} {us:List Value},Jd xs us→Jd ys us→xs=ys
 | _,_,_,.nil,.nil=>rfl
 | _,_,_,.cons r t,.cons r' t'=>by rw [r.inj r',Jd.inj t t']
section
variable {X:Cx}{pins:List (Addr×Obj)}{σ:St}{H:Hp}{s:Shared}{a:Addr}{xs ys:List V}
theorem SqL.of {K:Frag}(h:H a=some (.lst xs)):SqL K H a xs:=.inl (.inl h)
theorem SqT.of {K:Frag}(h:H a=some (.tup xs)):SqT K H a xs:=.inl (.inl h)
theorem Inv.list (I:Inv X pins σ H s)(h:SqL X.K H a xs):∃its:List Value,Jd xs its∧PlainL s.heap a its.toArray∧xs.length≤sizeLine:=by
 rcases h with h | ⟨o,its,n,hk,hc,hd,hs,hz,r⟩
 ·obtain ⟨z,its,n,r,e⟩:=h.ok I.hok
  exact ⟨its,r,⟨_,n,e,rfl,rfl,rfl⟩,z⟩
 ·refine ⟨its.toList,r,⟨o,n,I.kIn a o hk,hc,hd,by simpa using hs⟩,?_⟩
  have e:=r.length
  simp only [Array.length_toList] at e
  omega
theorem Inv.tuple (I:Inv X pins σ H s)(h:SqT X.K H a xs):∃its:List Value,Jd xs its∧IsTup s.heap a its.toArray∧xs.length≤sizeLine:=by
 rcases h with h | ⟨o,its,n,hk,hc,hs,hz,r⟩
 ·obtain ⟨z,its,r,p⟩:=h.ok I.hok
  exact ⟨its,r,p,z⟩
 ·refine ⟨its.toList,r,⟨o,I.kIn a o hk,hc,n,by simpa using hs⟩,?_⟩
  have e:=r.length
  simp only [Array.length_toList] at e
  omega
theorem Inv.list_inj (I:Inv X pins σ H s)(h:SqL X.K H a xs)(h':SqL X.K H a ys):xs=ys:=by
 obtain ⟨its,r,⟨o,n,e,_,_,d⟩,_⟩:=I.list h
 obtain ⟨its',r',⟨o',n',e',_,_,d'⟩,_⟩:=I.list h'
 rw [e] at e';cases e'
 rw [d] at d'
 injection d' with d1 _
 have:its=its':=by simpa using congrArg Array.toList d1
 subst this
 exact r.inj r'
end
noncomputable abbrev Cx.wish (X:Cx)(E:Value→Shared→Prop):Cx:={X with xe:=E}
noncomputable abbrev Cx.nox (X:Cx):Cx:=X.wish fun _ _=>False
theorem Cx.Ok.wish {X:Cx}(ok:X.Ok)(E:Value→Shared→Prop):(X.wish E).Ok:=
 ⟨ok.mod,ok.kind,ok.glob,ok.blt,ok.above,ok.inj,ok.has,ok.cab,ok.hd,ok.frames,ok.stk,ok.exf,ok.bs,ok.bsz,ok.noex,ok.exfs,ok.funs,ok.frf⟩
theorem Cx.Ok.unwish {X:Cx}{E:Value→Shared→Prop}(ok:(X.wish E).Ok):X.Ok:=
 ⟨ok.mod,ok.kind,ok.glob,ok.blt,ok.above,ok.inj,ok.has,ok.cab,ok.hd,ok.frames,ok.stk,ok.exf,ok.bs,ok.bsz,ok.noex,ok.exfs,ok.funs,ok.frf⟩
section
variable {X:Cx}{pins:List (Addr×Obj)}{σ:St}{H:Hp}{s:Shared}{E:Value→Shared→Prop}
theorem Inv.wish (I:Inv X pins σ H s)(E:Value→Shared→Prop):Inv (X.wish E) pins σ H s:=⟨I.ok.wish E,I.os,I.bare,I.base,I.loc,I.cell,I.free,I.freeC,I.pin,I.hok,I.len⟩
theorem Inv.unwish (I:Inv (X.wish E) pins σ H s):Inv X pins σ H s:=⟨I.ok.unwish,I.os,I.bare,I.base,I.loc,I.cell,I.free,I.freeC,I.pin,I.hok,I.len⟩
theorem SP.unwish {D:Ends}{f:Flow}{s':Shared}(h:SP (X.wish E) pins D f s'):SP X pins D f s':=by
 cases f with
 | next=>obtain ⟨σ',H',I,q⟩:=h;exact ⟨σ',H',I.unwish,q⟩
 | brk=>obtain ⟨σ',H',I,q⟩:=h;exact ⟨σ',H',I.unwish,q⟩
 | cont=>obtain ⟨σ',H',I,q⟩:=h;exact ⟨σ',H',I.unwish,q⟩
 | ret u=>obtain ⟨v,σ',H',I,r,q⟩:=h;exact ⟨v,σ',H',I.unwish,r,q⟩
theorem PSs.nox {st:List Stmt}{t:TS}(h:PSs X.nox st t):PSs X st t:=fun pins s σ H D I hw =>
 wpAny_mono (h pins s σ H D (I.wish _) hw) (fun _ _ q=>q.unwish) fun _ _ z=>False.elim z
end
section
variable {X:Cx}{st:Stmt}{rest:List Stmt}{t u:TS}{e:Expr}{te:TE}{pos:Pos}
def Zwa:TS:=fun D σ H=>D.nx σ H
def Xoq (t u:TS):TS:=fun D σ H=>t {D with nx:=u D} σ H
theorem Xmm:PSs X [] Zwa:=fun _ _ σ H _ I h=>wpAny_execs_nil ⟨σ,H,I,h⟩
theorem Xdb (h1:PS X st t)(h2:PSs X rest u):PSs X (st::rest) (Xoq t u):=by
 intro pins s σ H D I h
 refine wpAny_execs_cons (thn (h1 pins s σ H {D with nx:=u D} I h) fun f s1 q=>?_)
 cases f with
 | next =>
  obtain ⟨σ',H',I',q⟩:=q
  exact h2 pins s1 σ' H' D I' q
 | ret v=>exact q
 | brk=>exact q
 | cont=>exact q
theorem Xjl (h1:PS X st t):PSs X [st] t:=by
 intro pins s σ H D I h
 refine wpAny_execs_cons (thn (h1 pins s σ H D I h) fun f s1 q=>?_)
 cases f with
 | next=>exact wpAny_execs_nil q
 | ret v=>exact q
 | brk=>exact q
 | cont=>exact q
theorem Inv.quiet {pins:List (Addr×Obj)}{σ:St}{H:Hp}{s:Shared}(I:Inv X pins σ H s):interactive X.env=false:=by simp [interactive,I.ok.kind]
def Zja (te:TE):TS:=fun D σ H=>te σ H fun _ H1=>D.nx σ H1
theorem Xnv (he:PE X e te)(hs:swapsWith e none pos.line X.env=pure false:=by rfl):PS X (.Expr e pos) (Zja te):=by
 intro pins s σ H D I h
 exact wpAny_Expr_any (thn (he pins s σ H _ I h) fun v s1 ⟨x,H1,I1,r1,q1⟩=>⟨σ,H1,I1,q1⟩) I.quiet hs
def Xos (te:TE):TS:=fun D σ H=>te σ H D.rt
theorem Xsa (he:PE X e te):PS X (.Return (some e) pos) (Xos te):=by
 intro pins s σ H D I h
 exact wpAny_Return_some (thn (he pins s σ H _ I h) fun v s1 ⟨x,H1,I1,r1,q1⟩=>⟨x,σ,H1,I1,r1,q1⟩)
def Xoj (c:TT)(t u:TS):TS:=fun D σ H=>c σ H fun b H1=>if b=true then t D σ H1 else u D σ H1
theorem ps_if {c:Expr}{a b:List Stmt}{tc:TT}(hc:PT X c tc)(ha:PSs X a t)(hb:PSs X b u):PS X (.If c a b pos) (Xoj tc t u):=by
 intro pins s σ H D I h
 refine wpAny_If (thn (hc pins s σ H _ I h) fun d s1 ⟨H1,I1,q1⟩=>?_)
 cases d with
 | true=>exact ha pins s1 σ H1 D I1 q1
 | false=>exact hb pins s1 σ H1 D I1 q1
def Zml:TS:=fun _ _ _=>False
theorem Xhe:PS X st Zml:=fun _ _ _ _ _ _ h=>h.elim
end
noncomputable abbrev TG:=V→St→Hp→(St→Hp→Prop)→Prop
noncomputable abbrev TGs:=List V→St→Hp→(St→Hp→Prop)→Prop
def PG (X:Cx)(target:Expr)(t:TG):Prop:=
 ∀(pins:List (Addr×Obj)) (s:Shared) (σ:St) (H:Hp) (v:V) (u:Value) (Q:St→Hp→Prop),Inv X pins σ H s→RelV v u→t v σ H Q→
  wpAny (model X.prog X.w) X.A (assign target X.env u) (fun _ s'=>∃σ' H',Inv X pins σ' H' s'∧Q σ' H') X.xe s
def PGs (X:Cx)(ts:List Expr)(t:TGs):Prop:=
 ∀(pins:List (Addr×Obj)) (s:Shared) (σ:St) (H:Hp) (vs:List V) (us:List Value) (Q:St→Hp→Prop),Inv X pins σ H s→Jd vs us→t vs σ H Q→
  wpAny (model X.prog X.w) X.A (assignInOrder ((assignEach ts X.env).map (·.2)) us) (fun _ s'=>∃σ' H',Inv X pins σ' H' s'∧Q σ' H') X.xe s
noncomputable abbrev TSet:=V→V→V→Hp→(Hp→Prop)→Prop
def PSet (X:Cx)(t:TSet):Prop:=
 ∀(pins:List (Addr×Obj)) (s:Shared) (σ:St) (H:Hp) (o i v:V) (ov iv u:Value) (Q:Hp→Prop),Inv X pins σ H s→RelV o ov→RelV i iv→RelV v u→t o i v H Q→
  wpAny (model X.prog X.w) X.A (setItem ov iv u) (fun _ s'=>∃H',Inv X pins σ H' s'∧Q H') X.xe s
noncomputable abbrev TIp:=V→V→Hp→VK→Prop
def PIp (X:Cx)(op:Operator)(t:TIp):Prop:=
 ∀(pins:List (Addr×Obj)) (s:Shared) (σ:St) (H:Hp) (x y:V) (v u:Value) (Q:VK),Inv X pins σ H s→RelV x v→RelV y u→t x y H Q→
  wpAny (model X.prog X.w) X.A (inplaceOp op v u) (EP X pins σ Q) X.xe s
section
variable {X:Cx}{pos:Pos}
noncomputable def Zbn (i:Nat):TG:=fun v σ H Q=>Q (σ.set i (some v)) H
theorem Xni {i:Nat}{x:Str}(hN:X.N.Nodup)(hi:X.N[i]?=some x)(hx:Loc X.env.scope x)(hf:autoParam (X.fn x=true∨X.env.scope.names.lookup x=some .local) aT0._auto_1):PG X (.Name x pos) (Zbn i):=by
 intro pins s σ H v u Q I r h
 exact wpAny_assign_Name (Zos I hN hi hx r (fun s' I'=>⟨_,H,I',h⟩) hf)
noncomputable def gNil:TGs:=fun vs σ H Q=>vs=[]∧Q σ H
noncomputable def Xco (t:TG)(u:TGs):TGs:=fun vs σ H Q=>∃v r,vs=v::r∧t v σ H fun σ' H'=>u r σ' H' Q
theorem Xkv:PGs X [] gNil:=by
 intro pins s σ H vs us Q I r h
 obtain ⟨e,h⟩:=h
 subst e
 cases r
 exact assignInOrder_nil ⟨σ,H,I,h⟩
theorem Xee {e:Expr}{es:List Expr}{t:TG}{u:TGs}(h1:PG X e t)(h2:PGs X es u)
  (hs:(assignEach (e::es) X.env).map (·.2)=assign e X.env::(assignEach es X.env).map (·.2):=by rfl):PGs X (e::es) (Xco t u):=by
 intro pins s σ H vs us Q I r h
 obtain ⟨v,vr,e1,h⟩:=h
 subst e1
 cases r with
 | cons r rr =>
  rw [hs]
  refine assignInOrder_cons (thn (h1 pins s σ H _ _ _ I r h) fun _ s1 hz9=>?_)
  obtain ⟨σ1,H1,I1,q1⟩:=hz9
  exact h2 pins s1 σ1 H1 _ _ Q I1 rr q1
noncomputable def Zjb (K:Frag)(n:Nat)(t:TGs):TG:=fun v σ H Q=>∃a xs,v=.ref a∧SqT K H a xs∧xs.length=n∧t xs σ H Q
theorem Xsu {es:List Expr}{k:Nat}{t:TGs}{n:Nat}(hc:X.calm=true)(h:PGs X es t)
  (hn:(assignEach es X.env).length=n:=by rfl) (hst:(assignEach es X.env).findIdx? (·.1)=none:=by rfl):PG X (.Tuple es k pos) (Zjb X.K n t):=by
 intro pins s σ H v u Q I r hw
 obtain ⟨a,xs,e1,hq,hl,hw⟩:=hw
 subst e1
 cases r
 obtain ⟨its,rv,ht,hz⟩:=I.tuple hq
 refine assign_Tuple_tuple (I.ok.hd hc) ht (by simp [hn,← hl,rv.length]) hst fun h' hx=>?_
 have I1:Inv X pins σ H {s with heap:=h'}:=I.kept (t':=s.toks) fun b o e=>hx b o (ne_of_lt (lt_size e)) e
 exact h pins _ σ H xs _ Q I1 (by simpa using rv) hw
noncomputable def Zdy (to ti:TE)(t:TSet):TG:=fun v σ H Q=>to σ H fun o H1=>ti σ H1 fun i H2=>t o i v H2 fun H3=>Q σ H3
theorem Xqs {o i:Expr}{to ti:TE}{t:TSet}(ho:PE X o to)(hi:PE X i ti)(hs:PSet X t)
    (ha:∀v,assign (.Subscript o i pos) X.env v=(do
      let ov ← holding [v] (eval o X.env)
      let iv ← holding [v,ov] (eval i X.env)
      standAt pos
      holding [v,ov,iv] (setItem ov iv v)
      release [v,ov,iv] []):=by intro _;rfl):PG X (.Subscript o i pos) (Zdy to ti t):=by
  intro pins s σ H v u Q I r h
  rw [ha]
  refine wpAny_bind (wpAny_holding (thn (ho pins s σ H _ I h) fun ov s1 hz9=>?_))
  obtain ⟨x,H1,I1,r1,q1⟩:=hz9
  refine wpAny_bind (wpAny_holding (thn (hi pins s1 σ H1 _ I1 q1) fun iv s2 hz9=>?_))
  obtain ⟨y,H2,I2,r2,q2⟩:=hz9
  refine wpAny_bind (wpAny_standAt (wpAny_bind (wpAny_holding (thn (hs pins s2 σ H2 x y v ov iv u _ I2 r1 r2 r q2) fun _ s3 ⟨H3,I3,q3⟩=>?_))))
  exact wpAny_release ⟨σ,H3,I3,q3⟩
def Zmf (te:TE)(g:TG):TS:=fun D σ H=>te σ H fun x H1=>g x σ H1 D.nx
theorem Xta {tg e:Expr}{te:TE}{g:TG}(he:PE X e te)(hg:PG X tg g)(hs:swapsWithSole [tg] e pos.line X.env=pure false:=by rfl)(hw:swappedStores [tg] e X.env=pure none:=by rfl)
  (h1:(assignEach [tg] X.env).map (·.2)=[assign tg X.env]:=by rfl):PS X (.Assign [tg] e pos) (Zmf te g):=by
 intro pins s σ H D I h
 refine wpAny_Assign_stores (thn (he pins s σ H _ I h) fun v s1 hz9=>?_) hs hw
 obtain ⟨x,H1,I1,r1,q1⟩:=hz9
 rw [h1]
 exact thn (hg pins s1 σ H1 x v _ I1 r1 q1) fun _ s2 q=>q
theorem Xql {i:Nat}{x:Str}{e:Expr}{te:TE}{pos':Pos}(hN:X.N.Nodup)(hi:X.N[i]?=some x)(hx:Loc X.env.scope x)(he:PE X e te)(hs:swapsWith e (some (.Name x pos')) pos.line X.env=pure false:=by rfl)(hf:autoParam (X.fn x=true∨X.env.scope.names.lookup x=some .local) aT0._auto_1) :
  PS X (.Assign [.Name x pos'] e pos) (Zmf te (Zbn i)):=by
 intro pins s σ H D I h
 refine wpAny_Assign_Name (thn (he pins s σ H _ I h) fun v s1 hz9=>?_) hs
 obtain ⟨y,H1,I1,r1,q1⟩:=hz9
 exact Zos I1 hN hi hx r1 (fun s2 I2=>⟨_,H1,I2,q1⟩) hf
def tAug (i:Nat)(te:TE)(ti:TIp):TS:=fun D σ H=>∃x,σ[i]?=some (some x)∧te σ H fun y H1=>ti x y H1 fun z H2=>D.nx (σ.set i (some z)) H2
theorem Xph {i:Nat}{x:Str}{e:Expr}{te:TE}{op:Operator}{ti:TIp}{pos':Pos}(hN:X.N.Nodup)(hi:X.N[i]?=some x)(hx:Loc X.env.scope x)(he:PE X e te)(ho:PIp X op ti)(hf:autoParam (X.fn x=true∨X.env.scope.names.lookup x=some .local) aT0._auto_1) :
  PS X (.AugAssign (.Name x pos') op e pos) (tAug i te ti):=by
 intro pins s σ H D I h
 obtain ⟨v,e1,h⟩:=h
 obtain ⟨m,hn,hl⟩:=I.loc
 have vis:Vis X.env.scope x:=by rcases hx with k | k;exact .inl k;exact .inr (.inl k)
 obtain ⟨u,r,l⟩:=hl i x v hi e1 vis
 refine wpAny_AugAssign_Name ?_
 have go:wpAny (model X.prog X.w) X.A (eval e X.env) (fun w s₂=>wpAny (model X.prog X.w) X.A (inplaceOp op u w) (fun r s₃=>wpAny (model X.prog X.w) X.A (storeName X.env x r) (fun _=>SP X pins D .next) X.xe s₃) X.xe s₂) X.xe s:=by
  refine thn (he pins s σ H _ I h) fun w s1 hz9=>?_
  obtain ⟨y,H1,I1,r1,q1⟩:=hz9
  refine thn (ho pins s1 σ H1 v y u w _ I1 r r1 q1) fun z s2 hz9=>?_
  obtain ⟨zv,H2,I2,r2,q2⟩:=hz9
  exact Zos I2 hN hi hx r2 (fun s3 I3=>⟨_,H2,I3,q2⟩) hf
 rcases l with ⟨hk,hm⟩ | ⟨hk,c,hc,hcell⟩
 ·exact wpAny_loadName_local I.ok.kind hk hn hm go
 ·rcases hk with hk | hk
  ·exact wpAny_loadName_cell I.ok.kind hk hc hcell go
  ·rcases hx with k | k
   ·have:X.env.scope.names.lookup x=some .free:=hk
    rw [k] at this;cases this
   ·have:X.env.scope.names.lookup x=some .free:=hk
    rw [k] at this;cases this
noncomputable def ipI (f:Int→Int→Int):TIp:=fun x y H Q=>∃i j,x=.int i∧y=.int j∧Q (.int (f i j)) H
theorem Xig:PIp X .Sub (ipI fun i j=>i - j):=by
 intro pins s σ H x y v u Q I r1 r2 h
 obtain ⟨i,j,e1,e2,q⟩:=h
 subst e1;subst e2
 obtain ⟨t,rfl⟩:=r1
 obtain ⟨t',rfl⟩:=r2
 exact isub_int ⟨.int _,H,I.tok _,⟨_,rfl⟩,q⟩
def Zts (c:TT)(tb:TS):TS:=fun D σ H=>∃W:Nat→St→Hp→Prop,(∃m,W m σ H)∧∀m σ H,W m σ H→
 c σ H fun b H1=>if b=true then ∃N:St→Hp→Prop,(∀σ' H',N σ' H'→∃m',m'<m∧W m' σ' H')∧tb {D with nx:=N,ct:=N,bk:=D.nx} σ H1 else D.nx σ H1
theorem Xgy {c:Expr}{body:List Stmt}{tc:TT}{tb:TS}(hp:PassesOwn (model X.prog X.w) X.A X.env X.xe)(hc:PT X c tc)(hb:PSs X body tb):PS X (.While c body [] pos) (Zts tc tb):=by
 intro pins s σ H D I h
 obtain ⟨W,⟨m0,w0⟩,turn⟩:=h
 refine wpAny_While (codeAny_whileLoop (fun n s'=>∃σ' H',Inv X pins σ' H' s'∧W n σ' H') ?_ m0 ⟨σ,H,I,w0⟩)
 rintro n s1 ⟨σ1,H1,I1,w1⟩
 refine wpAny_passesOwn hp (thn (hc pins s1 σ1 H1 _ I1 (turn n σ1 H1 w1)) fun b s2 ⟨H2,I2,q2⟩=>?_)
 cases b with
 | true =>
  obtain ⟨N,hN,q2⟩:=q2
  rw [if_pos rfl]
  refine wpAny_passesOwn hp (thn (hb pins s2 σ1 H2 _ I2 q2) fun f s3 q3=>?_)
  cases f with
  | next =>
   obtain ⟨σ3,H3,I3,n3⟩:=q3
   obtain ⟨m',hm,w3⟩:=hN σ3 H3 n3
   exact ⟨m',hm,σ3,H3,I3,w3⟩
  | cont =>
   obtain ⟨σ3,H3,I3,n3⟩:=q3
   obtain ⟨m',hm,w3⟩:=hN σ3 H3 n3
   exact ⟨m',hm,σ3,H3,I3,w3⟩
  | brk=>exact q3
  | ret v=>exact q3
 | false =>
  rw [if_neg Bool.false_ne_true]
  exact wpAny_execs_nil ⟨σ1,H2,I2,q2⟩
end
structure It where
 go:Nat→Hp→Prop
 yld:Nat→Hp→V→Hp→Prop
 stop:Nat→Hp→Prop
def Xbd (X:Cx)(pins:List (Addr×Obj))(H:Hp)(b:Addr):Prop:=
 H b=none∧b≠X.env.locals∧b∉X.fs∧(b∈X.ex∨X.s₀.heap.objs.size≤b)∧(∀x c,X.env.cells.lookup x=some c→c≠b)∧∀p∈X.pn++pins,p.1≠b
theorem Inv.fpOk {X:Cx}{pins:List (Addr×Obj)}{σ:St}{H H':Hp}{s:Shared}{b:Addr}(I:Inv X pins σ H s)(hb:s.heap.objs.size≤b)(hn:H' b=none):Xbd X pins H' b:=by
 refine ⟨hn,Nat.ne_of_gt (lt_of_lt_of_le I.lt hb),I.nofs hb,.inr (le_trans I.sz hb),fun x c e z=>?_,fun p hp z=>?_⟩
 ·obtain ⟨v,q⟩:=I.cell x c e
  exact absurd (lt_of_lt_of_le q.lt (by rw [z];exact hb)) (lt_irrefl _)
 ·exact absurd (lt_of_lt_of_le (lt_size (I.pin p hp).1) (by rw [z];exact hb)) (lt_irrefl _)
structure Turn (P:Program)(w:World)(K:Frag)(tg:Expr)(J:It)(fp:List Addr)(it:Addr)(tn:Nat→Heap→Prop):Prop where
  mem:it∈fp
  obj:∀i h,tn i h→∀b∈fp,∃o,h.get? b=some o∧∀v,o.data≠.cell v
  keep:∀i h h',tn i h→(∀b∈fp,∀o,h.get? b=some o→h'.get? b=some o)→tn i h'
  item:∀(X:Cx),X.prog=P→X.w=w→X.K=K→X.calm=true→∀(i:Nat) (pins:List (Addr×Obj)) (s:Shared) (σ:St) (H:Hp) (E:Value→Shared→Prop),Inv X pins σ H s→(∀b∈fp,Xbd X pins H b)→tn i s.heap→J.go i H→
    wpAny (model P w) X.A (pyNext (.ref it)) (fun r s1=>∃u,r=some u∧
      wpAny (model P w) X.A (letOwnedTupleGo tg (.ref it) u) (fun _ s2=>∃x H',Inv X pins σ H' s2∧RelV x u∧J.yld i H x H'∧tn (i+1) s2.heap∧∀b∈fp,H' b=none) E s1) E s
  done:∀(X:Cx),X.prog=P→X.w=w→X.K=K→X.calm=true→∀(i:Nat) (pins:List (Addr×Obj)) (s:Shared) (σ:St) (H:Hp) (E:Value→Shared→Prop),Inv X pins σ H s→(∀b∈fp,Xbd X pins H b)→tn i s.heap→J.stop i H→
    wpAny (model P w) X.A (pyNext (.ref it)) (fun r s1=>r=none∧Inv X pins σ H s1) E s
  self:∀(A:Around) (i:Nat) (s:Shared) (Q:Value→Shared→Prop) (E:Value→Shared→Prop),tn i s.heap→Q (.ref it) s→wpAny (model P w) A (pyIter (.ref it)) Q E s
noncomputable abbrev TI:=St→Hp→(It→Hp→Prop)→Prop
def PIE (X:Cx)(pins:List (Addr×Obj))(σ:St)(tg:Expr)(R:It→Hp→Prop)(itv:Value)(s2:Shared):Prop:=
 ∃(it:Addr) (fp:List Addr) (tn:Nat→Heap→Prop) (J:It) (H':Hp),itv=.ref it∧Inv X pins σ H' s2∧Turn X.prog X.w X.K tg J fp it tn∧tn 0 s2.heap∧(∀b∈fp,Xbd X pins H' b)∧R J H'
def PI (X:Cx)(tg iter:Expr)(wi:TI):Prop:=
 ∀(pins:List (Addr×Obj)) (s:Shared) (σ:St) (H:Hp) (R:It→Hp→Prop),Inv X pins σ H s→wi σ H R→
  wpAny (model X.prog X.w) X.A (eval iter X.env) (fun v s1=>wpAny (model X.prog X.w) X.A (pyIter v) (PIE X pins σ tg R) X.xe s1) X.xe s
theorem Xnz {M:Model}{A:Around}{E:Value→Shared→Prop}{s:Shared}{tg:Expr}{it:Addr}{u:Value}{o:Obj}{n:String}{vs:Array Value}{Q:Unit→Shared→Prop}(ho:s.heap.get? it=some o)(hc:o.cls=.type n)(hd:o.data=.fields vs)
    (hn:["enumerate","zip","dict_itemiterator","dict_reverseitemiterator","odict_iterator","itertools.zip_longest","itertools.pairwise"].contains n=false) (hQ:Q () s):wpAny M A (letOwnedTupleGo tg (.ref it) u) Q E s:=by
  unfold letOwnedTupleGo
  cases tg<;>first
    | exact wpAny_pure hQ
    | (cases u<;>first
        | exact wpAny_pure hQ
        | (refine wpAny_bind (wpAny_load ho ?_)
           rw [hc,hd]
           show wpAny M A (if (["enumerate","zip","dict_itemiterator","dict_reverseitemiterator","odict_iterator","itertools.zip_longest","itertools.pairwise"].contains n&&vs[0]?==some (rawInt _))=true then _ else _) Q E s
           rw [if_neg (by intro h;rw [hn,Bool.false_and] at h;cases h)]
           exact wpAny_pure hQ))
noncomputable def Itl (K:Frag)(a:Addr):It:=
 ⟨fun i H=>∃xs x,SqL K H a xs∧xs[i]?=some x,fun i H x H'=>H'=H∧∀xs,SqL K H a xs→xs[i]?=some x,fun i H=>∃xs,SqL K H a xs∧xs.length≤i⟩
noncomputable def Itr (lo:Int)(n:Nat):It:=⟨fun i _=>i<n,fun i H x H'=>H'=H∧x=.int (lo+i),fun i _=>n≤i⟩
theorem Xci {P:Program}{w:World}{K:Frag}{tg:Expr}(a it:Addr):Turn P w K tg (Itl K a) [it] it (fun i h=>h.IsListIter it a i) where
 mem:=by simp
 obj:=fun i h st b hb=>by
  have e:b=it:=by simpa using hb
  subst e
  obtain ⟨o,e,c,d⟩:=st
  exact ⟨o,e,fun v z=>by rw [d] at z;cases z⟩
 keep:=fun i h h' st k=>st.at fun o e=>k it (by simp) o e
 item:=by
  intro X hP hw hK hc i pins s σ H E I hf st hg
  subst hP hw hK
  obtain ⟨xs,x,hq,hx⟩:=hg
  obtain ⟨its,rv,p,hz⟩:=I.list hq
  obtain ⟨u,hu,ru⟩:=rv.get hx
  obtain ⟨f0,f1,f2,f3,f4,f5⟩:=hf it (by simp)
  refine wpAny_pyNext_list_item st p.isList (x:=u) (by simpa using hu) fun h' st' sb=>?_
  have I1:Inv X pins σ H {s with heap:=h'}:=I.turned (t':=s.toks) (fun b o hb e=>(sb.2 b hb).trans e) f0 f1 f3 f4 f5
  obtain ⟨o,e,c,d⟩:=id st'
  exact ⟨u,rfl,Xnz (s:={s with heap:=h'}) e c d (by decide) ⟨x,H,I1,ru,⟨rfl,fun ys hy=>by rw [I.list_inj hy hq];exact hx⟩,st',fun b hb=>(hf b hb).1⟩⟩
 done:=by
  intro X hP hw hK hc i pins s σ H E I hf st hg
  subst hP hw hK
  obtain ⟨xs,hq,hx⟩:=hg
  obtain ⟨its,rv,p,hz⟩:=I.list hq
  obtain ⟨f0,f1,f2,f3,f4,f5⟩:=hf it (by simp)
  have hl:=rv.length
  exact wpAny_pyNext_list_end (I.ok.hd hc) st p.isList (by simp;omega) fun h' eb=>⟨rfl,I.turned (t':=s.toks) (fun b o hb e=>eb b o hb e) f0 f1 f3 f4 f5⟩
 self:=fun _ _ _ _ _ st h=>wpAny_pyIter_listiter st h
theorem Zxn {P:Program}{w:World}{K:Frag}{tg:Expr}(it:Addr)(lo:Int)(n:Nat):Turn P w K tg (Itr lo n) [it] it (fun i h=>IsRangeIter h it (lo+(i:Nat)*1) ((n:Int) - (i:Nat)) 1) where
  mem:=by simp
  obj:=fun i h st b hb=>by
    have e:b=it:=by simpa using hb
    subst e
    exact ⟨_,st,fun v z=>by
      have z':Data.fields _=Data.cell v:=z
      cases z'⟩
  keep:=fun i h h' st k=>k it (by simp) _ st
  item:=by
    intro X hP hw hK hc i pins s σ H E I hf st hg
    subst hP hw hK
    obtain ⟨f0,f1,f2,f3,f4,f5⟩:=hf it (by simp)
    have W:=Walks.range (prog:=X.prog) (w:=X.w) (I.ok.hd hc) it lo 1 n
    refine W.item i s _ _ hg st fun v h' tk hv st' kk=>?_
    obtain ⟨t,rfl⟩:=hv
    have I1:Inv X pins σ H {s with heap:=h',toks:=tk}:=I.turned (fun b o hb e=>kk b o (by simpa using hb) e) f0 f1 f3 f4 f5
    refine ⟨_,rfl,Xnz (s:={s with heap:=h',toks:=tk}) (n:="range_iterator") st' rfl rfl (by decide) ⟨.int (lo+i),H,I1,⟨t,?_⟩,⟨rfl,rfl⟩,st',fun b hb=>(hf b hb).1⟩⟩
    rw [Int.mul_one]
  done:=by
    intro X hP hw hK hc i pins s σ H E I hf st hg
    subst hP hw hK
    obtain ⟨f0,f1,f2,f3,f4,f5⟩:=hf it (by simp)
    exact wpAny_pyNext_range_end (I.ok.hd hc) st (by have:n≤i:=hg;omega) fun h' eb=>⟨rfl,I.turned (t':=s.toks) (fun b o hb e=>eb b o hb e) f0 f1 f3 f4 f5⟩
  self:=fun _ _ _ _ _ st h=>wpAny_pyIter_rangeiter st h
section
variable {X:Cx}{tg:Expr}
noncomputable def Xff (K:Frag)(tl:TE):TI:=fun σ H R=>tl σ H fun x H1=>∃a,x=.ref a∧(∃xs,SqL K H1 a xs)∧R (Itl K a) H1
theorem Xkf {l:Expr}{tl:TE}(hl:PE X l tl):PI X tg l (Xff X.K tl):=by
 intro pins s σ H R I h
 refine thn (hl pins s σ H _ I h) fun v s1 hz9=>?_
 obtain ⟨x,H1,I1,r1,q1⟩:=hz9
 obtain ⟨a,e,⟨xs,hq⟩,q⟩:=q1
 subst e
 cases r1
 obtain ⟨its,rv,p,hz⟩:=I1.list hq
 refine wpAny_pyIter_list p.isList ?_
 refine ⟨s1.heap.objs.size,[s1.heap.objs.size],_,_,H1,rfl,I1.kept (t':=s1.toks) fun b o e=>get?_push_of_some _ e,Xci a _,⟨_,get?_push_size _ rfl,rfl,rfl⟩,fun b hb=>?_,q⟩
 have e:b=s1.heap.objs.size:=by simpa using hb
 subst e
 exact I1.fpOk (le_refl _) (I1.hok.fresh (le_refl _))
theorem Zul {pins:List (Addr×Obj)}{σ:St}{H:Hp}{s:Shared}{R:It→Hp→Prop}{E:Value→Shared→Prop}{lo hi:Int}{t u v:Tok}{tk:Nat}(I:Inv X pins σ H s)(h1:-(2 ^ 62)≤lo)(h2:lo<2 ^ 62)(h3:-(2 ^ 62)≤hi)(h4:hi<2 ^ 62)
    (q:R (Itr lo (hi - lo).toNat) H):wpAny (model X.prog X.w) X.A (pyIter (.ref s.heap.objs.size)) (PIE X pins σ tg R) E {s with heap:=s.heap.push {cls:=.type "range",data:=.fields #[.int lo t,.int hi u,.int 1 v]},toks:=tk}:=by
  refine wpAny_pyIter_range (IsRange.new ..) (small_one h1 h2 h3 h4) ?_
  have I1:Inv X pins σ H {s with heap:=s.heap.push {cls:=.type "range",data:=.fields #[.int lo t,.int hi u,.int 1 v]},toks:=tk}:=I.kept fun b o e=>get?_push_of_some _ e
  refine ⟨(s.heap.push {cls:=.type "range",data:=.fields #[.int lo t,.int hi u,.int 1 v]}).objs.size,[(s.heap.push {cls:=.type "range",data:=.fields #[.int lo t,.int hi u,.int 1 v]}).objs.size],_,_,H,rfl,
    I1.kept (t':=tk) fun b o e=>get?_push_of_some _ e,Zxn _ lo (hi - lo).toNat,?_,fun b hb=>?_,q⟩
  · have e1:lo+((0:Nat):Int)*1=lo:=by simp
    have e2:(((hi - lo).toNat:Nat):Int) - ((0:Nat):Int)=Builtin.Range.rangeSize lo hi 1:=by rw [rangeSize_one];split<;>omega
    show IsRangeIter _ _ (lo+((0:Nat):Int)*1) ((((hi - lo).toNat:Nat):Int) - ((0:Nat):Int)) 1
    rw [e1,e2]
    exact get?_push_size _ rfl
  · have e:b=(s.heap.push {cls:=.type "range",data:=.fields #[.int lo t,.int hi u,.int 1 v]}).objs.size:=by simpa using hb
    subst e
    exact I1.fpOk (le_refl _) (I1.hok.fresh (le_refl _))
noncomputable def Xfp (ta:TA):TI:=fun σ H R=>ta σ H fun vs H1=>∃j:Int,vs=[.int j]∧-(2 ^ 62)≤j∧j<2 ^ 62∧R (Itr 0 j.toNat) H1
noncomputable def Xcp (ta:TA):TI:=fun σ H R=>ta σ H fun vs H1=>∃i j:Int,vs=[.int i,.int j]∧(-(2 ^ 62)≤i∧i<2 ^ 62∧-(2 ^ 62)≤j∧j<2 ^ 62)∧R (Itr i (j - i).toNat) H1
theorem Xbz {a:Expr}{ta:TA}{p pos:Pos}(hg:Gl X "range")(hm:X.mg "range"=none)(ha:PA X [a] ta)(hs:starEach [a] X.env=[(false,eval a X.env)]:=by rfl):PI X tg (.Call (.Name "range" p) [a] [] pos) (Xfp ta):=by
 intro pins s σ H R I h
 refine Call_ (Znc I hg hm boot_range (PyProof.Rows.callWith_type1 (thn (ha pos pins s σ H _ I h) fun us s1 hz9=>?_) hs rfl))
 obtain ⟨vs,H1,I1,r1,q1⟩:=hz9
 obtain ⟨j,e,q1,q2,q⟩:=q1
 subst e
 cases r1 with
 | cons r rr =>
  cases rr
  obtain ⟨t,rfl⟩:=r
  exact call_range_1 (Zul I1 (by omega) (by omega) q1 q2 (by simpa using q))
theorem Zzv {a b:Expr}{ta:TA}{p pos:Pos}(hg:Gl X "range")(hm:X.mg "range"=none)(ha:PA X [a,b] ta)(hs:starEach [a,b] X.env=[(false,eval a X.env),(false,eval b X.env)]:=by rfl)(hs2:starEach [b] X.env=[(false,eval b X.env)]:=by rfl) :
  PI X tg (.Call (.Name "range" p) [a,b] [] pos) (Xcp ta):=by
 intro pins s σ H R I h
 refine Call_ (Znc I hg hm boot_range (PyProof.Rows.callWith_type1 (thn (ha pos pins s σ H _ I h) fun us s1 hz9=>?_) (by rw [hs,hs2]) (by rw [hs2];rfl)))
 obtain ⟨vs,H1,I1,r1,q1⟩:=hz9
 obtain ⟨i,j,e,⟨q1,q2,q3,q4⟩,q⟩:=q1
 subst e
 cases r1 with
 | cons r rr =>
  cases rr with
  | cons r' rr =>
   cases rr
   obtain ⟨t,rfl⟩:=r
   obtain ⟨t',rfl⟩:=r'
   exact call_range_2 (Zul I1 q1 q2 q3 q4 q)
def tFor (wi:TI)(g:TG)(tb:TS):TS:=fun D σ H=>wi σ H fun J H1=>∃W:Nat→Nat→St→Hp→Prop,(∃m,W 0 m σ H1)∧∀i m σ H,W i m σ H→
 (J.stop i H∧D.nx σ H)∨(J.go i H∧∃N:St→Hp→Prop,(∀σ' H',N σ' H'→∃m',m'<m∧W (i+1) m' σ' H')∧∀x H',J.yld i H x H'→g x σ H' fun σ2 H2=>tb {D with nx:=N,ct:=N,bk:=D.nx} σ2 H2)
noncomputable def Zqv (fp:List Addr)(h:Heap):List (Addr×Obj):=fp.filterMap fun b=>(h.get? b).map fun o=>(b,o)
theorem Zet {fp:List Addr}{h:Heap}{b:Addr}{o:Obj}(hb:b∈fp)(e:h.get? b=some o):(b,o)∈Zqv fp h:=List.mem_filterMap.mpr ⟨b,hb,by rw [e];rfl⟩
theorem Xas {fp:List Addr}{h:Heap}{p:Addr×Obj}(hp:p∈Zqv fp h):p.1∈fp∧h.get? p.1=some p.2:=by
 obtain ⟨b,hb,e⟩:=List.mem_filterMap.mp hp
 cases q:h.get? b with
 | none=>rw [q] at e;cases e
 | some o =>
  rw [q] at e
  have e':(b,o)=p:=Option.some.inj e
  subst e'
  exact ⟨hb,q⟩
theorem Inv.pinned {pins:List (Addr×Obj)}{σ:St}{H:Hp}{s:Shared}{fp:List Addr}(I:Inv X pins σ H s)(hf:∀b∈fp,Xbd X pins H b)(ho:∀b∈fp,∃o,s.heap.get? b=some o∧∀v,o.data≠.cell v):Inv X (pins++Zqv fp s.heap) σ H s:=
 I.pins_of fun p hp=>(List.mem_append.mp hp).elim (fun z=>I.pin p (mem_append_right _ z)) fun z=>by
  obtain ⟨hb,e⟩:=Xas z
  obtain ⟨f0,f1,f2,_⟩:=hf p.1 hb
  obtain ⟨o,e',d⟩:=ho p.1 hb
  rw [e] at e';cases e'
  exact ⟨e,f0,f1,f2,d⟩
theorem Inv.unpinned {pins pl:List (Addr×Obj)}{σ:St}{H:Hp}{s:Shared}(I:Inv X (pins++pl) σ H s):Inv X pins σ H s:=I.pins_of fun p hp=>I.pin p (mem_append_right _ (mem_append_left _ hp))
theorem Xpw {iter:Expr}{body:List Stmt}{wi:TI}{g:TG}{tb:TS}{pos:Pos}(hp:PassesOwn (model X.prog X.w) X.A X.env X.xe)(hc:X.calm=true)(hi:PI X tg iter wi)(hg:PG X tg g)(hb:PSs X body tb)
  (hs:∀x,foldedSetIterable iter X.env x=pure x:=by intro _;rfl):PS X (.For tg iter body [] pos) (tFor wi g tb):=by
 intro pins s σ H D I h
 refine wpAny_For (thn (hi pins s σ H _ I h) fun v s1 h1=>thn h1 fun itv s2 h2=>?_) hs
 obtain ⟨it,fp,tn,J,H2,e,I2,T,st2,f2,W,⟨m0,w0⟩,turn⟩:=h2
 subst e
 have stat:∀{H':Hp},(∀b∈fp,H' b=none)→∀b∈fp,Xbd X pins H' b:=fun hn b hb=>⟨hn b hb,(f2 b hb).2⟩
 refine codeAny_forLoop_any (fun n s'=>∃i σ' H',Inv X pins σ' H' s'∧tn i s'.heap∧(∀b∈fp,H' b=none)∧W i n σ' H') ?_ m0 ⟨0,σ,H2,I2,st2,fun b hb=>(f2 b hb).1,w0⟩
 rintro n s3 ⟨i,σ3,H3,I3,st3,fr3,w3⟩
 rcases turn i n σ3 H3 w3 with ⟨stop,qn⟩ | ⟨go,N,hN,step⟩
 ·refine wpAny_passesOwn hp (thn (T.done X rfl rfl rfl hc i pins s3 σ3 H3 X.xe I3 (stat fr3) st3 stop) fun r s4 ⟨hr,I4⟩=>?_)
  subst hr
  exact wpAny_execs_nil ⟨σ3,H3,I4,qn⟩
 ·refine wpAny_passesOwn hp (thn (T.item X rfl rfl rfl hc i pins s3 σ3 H3 X.xe I3 (stat fr3) st3 go) fun r s4 ⟨u,hr,h4⟩=>?_)
  subst hr
  refine wpAny_passesOwn hp (thn h4 fun _ s5 hz9=>?_)
  obtain ⟨x,H5,I5,r5,y5,st5,fr5⟩:=hz9
  have I5':=I5.pinned (stat fr5) (T.obj _ _ st5)
  refine wpAny_passesOwn hp (thn (hg _ s5 σ3 H5 x u _ I5' r5 (step x H5 y5)) fun _ s6 hz9=>?_)
  obtain ⟨σ6,H6,I6,q6⟩:=hz9
  refine wpAny_passesOwn hp (thn (hb _ s6 σ6 H6 _ I6 q6) fun f s7 q7=>?_)
  have again:∀{σ7:St} {H7:Hp},Inv X (pins++Zqv fp s5.heap) σ7 H7 s7→N σ7 H7→∃m,m<n∧∃i σ' H',Inv X pins σ' H' s7∧tn i s7.heap∧(∀b∈fp,H' b=none)∧W i m σ' H':=fun {σ7 H7} I7 n7=>by
   obtain ⟨m',hm,w7⟩:=hN σ7 H7 n7
   refine ⟨m',hm,i+1,σ7,H7,I7.unpinned,T.keep _ _ _ st5 fun b hb o e=>(I7.pin (b,o) (mem_append_right _ (mem_append_right _ (Zet hb e)))).1,fun b hb=>?_,w7⟩
   obtain ⟨o,e,d⟩:=T.obj _ _ st5 b hb
   exact (I7.pin (b,o) (mem_append_right _ (mem_append_right _ (Zet hb e)))).2.1
  cases f with
  | next=>obtain ⟨σ7,H7,I7,n7⟩:=q7;exact again I7 n7
  | cont=>obtain ⟨σ7,H7,I7,n7⟩:=q7;exact again I7 n7
  | brk=>obtain ⟨σ7,H7,I7,q7⟩:=q7;exact ⟨σ7,H7,I7.unpinned,q7⟩
  | ret v=>obtain ⟨x7,σ7,H7,I7,r7,q7⟩:=q7;exact ⟨x7,σ7,H7,I7.unpinned,r7,q7⟩
end
noncomputable abbrev R2:=V→V→Hp→VK→Prop
def OpR (X:Cx)(f:Value→Value→Sem Value)(r:R2):Prop:=
 ∀(pins:List (Addr×Obj)) (s:Shared) (σ:St) (H:Hp) (x y:V) (v u:Value) (Q:VK),Inv X pins σ H s→RelV x v→RelV y u→r x y H Q→
  wpAny (model X.prog X.w) X.A (f v u) (EP X pins σ Q) X.xe s
def UnR (X:Cx)(f:Value→Sem Value)(r:V→Hp→VK→Prop):Prop:=
 ∀(pins:List (Addr×Obj)) (s:Shared) (σ:St) (H:Hp) (x:V) (v:Value) (Q:VK),Inv X pins σ H s→RelV x v→r x H Q→
  wpAny (model X.prog X.w) X.A (f v) (EP X pins σ Q) X.xe s
def Zcd (X:Cx)(f:Value)(r:List V→Hp→VK→Prop):Prop:=
 ∀(pins:List (Addr×Obj)) (s:Shared) (σ:St) (H:Hp) (xs:List V) (us:List Value) (Q:VK),Inv X pins σ H s→Jd xs us→r xs H Q→
  wpAny (model X.prog X.w) X.A (call f us) (EP X pins σ Q) X.xe s
def tOp (r:R2)(ta tb:TE):TE:=fun σ H Q=>ta σ H fun x H1=>tb σ H1 fun y H2=>r x y H2 Q
def tUn (r:V→Hp→VK→Prop)(ta:TE):TE:=fun σ H Q=>ta σ H fun x H1=>r x H1 Q
noncomputable def rI (C:Int→Int→Prop)(g:Int→Int→V):R2:=fun x y H Q=>∃i j,x=.int i∧y=.int j∧C i j∧Q (g i j) H
noncomputable def rI0 (g:Int→Int→V):R2:=fun x y H Q=>∃i j,x=.int i∧y=.int j∧Q (g i j) H
def rU (g:Int→V):V→Hp→VK→Prop:=fun x H Q=>∃i,x=.int i∧Q (g i) H
section
variable {X:Cx}{a b c:Expr}{ta tb tc:TE}{pos:Pos}
theorem binT (ha:PE X a ta)(hb:PE X b tb){pins:List (Addr×Obj)}{s:Shared}{σ:St}{H:Hp}{R:V→V→Hp→Prop}(I:Inv X pins σ H s)
  (h:ta σ H fun x H1=>tb σ H1 fun y H2=>R x y H2) {Q:Value→Shared→Prop} {f:Value→Value→Sem Value}
  (hf:∀v u s2 x y H2,Inv X pins σ H2 s2→RelV x v→RelV y u→R x y H2→wpAny (model X.prog X.w) X.A (f v u) Q X.xe s2) :
  wpAny (model X.prog X.w) X.A (eval a X.env) (fun v s₁=>wpAny (model X.prog X.w) X.A (eval b X.env) (fun u s₂=>wpAny (model X.prog X.w) X.A (f v u) Q X.xe s₂) X.xe s₁) X.xe s:=by
 refine thn (ha pins s σ H _ I h) fun v s1 hz9=>?_
 obtain ⟨x,H1,I1,r1,q1⟩:=hz9
 refine thn (hb pins s1 σ H1 _ I1 q1) fun u s2 hz9=>?_
 obtain ⟨y,H2,I2,r2,q2⟩:=hz9
 exact hf v u s2 x y H2 I2 r1 r2 q2
theorem pe_op {op:Operator}{r:R2}(ho:OpR X (binaryOp op) r)(ha:PE X a ta)(hb:PE X b tb):PE X (.BinOp a op b pos) (tOp r ta tb):=by
 intro pins s σ H Q I h
 exact wpAny_BinOp (binT ha hb I h fun v u s2 x y H2 I2 rx ry q=>ho pins s2 σ H2 x y v u Q I2 rx ry q)
theorem pe_un {op:UnaryOp}{r:V→Hp→VK→Prop}(ho:UnR X (unaryOp op) r)(ha:PE X a ta):PE X (.UnaryOp op a pos) (tUn r ta):=by
 intro pins s σ H Q I h
 exact UnaryOp_ (thn (ha pins s σ H _ I h) fun v s1 ⟨x,H1,I1,r1,q1⟩=>ho pins s1 σ H1 x v Q I1 r1 q1)
theorem opI {f:Value→Value→Sem Value}{C:Int→Int→Prop}{g:Int→Int→Int}
  (rule:∀(i j:Int) (t u:Tok) (s:Shared) (Q:Value→Shared→Prop) (E:Value→Shared→Prop),C i j→Q (.int (g i j) s.toks) {s with toks:=s.toks+1}→wpAny (model X.prog X.w) X.A (f (.int i t) (.int j u)) Q E s) :
  OpR X f (rI C fun i j=>.int (g i j)):=by
 intro pins s σ H x y v u Q I rx ry h
 obtain ⟨i,j,rfl,rfl,hc,q⟩:=h
 obtain ⟨t,rfl⟩:=rx
 obtain ⟨t',rfl⟩:=ry
 exact rule i j t t' s _ _ hc ⟨.int (g i j),H,I.tok _,⟨_,rfl⟩,q⟩
theorem opI0 {f:Value→Value→Sem Value}{g:Int→Int→Int}
  (rule:∀(i j:Int) (t u:Tok) (s:Shared) (Q:Value→Shared→Prop) (E:Value→Shared→Prop),Q (.int (g i j) s.toks) {s with toks:=s.toks+1}→wpAny (model X.prog X.w) X.A (f (.int i t) (.int j u)) Q E s) :
  OpR X f (rI0 fun i j=>.int (g i j)):=by
 intro pins s σ H x y v u Q I rx ry h
 obtain ⟨i,j,rfl,rfl,q⟩:=h
 obtain ⟨t,rfl⟩:=rx
 obtain ⟨t',rfl⟩:=ry
 exact rule i j t t' s _ _ ⟨.int (g i j),H,I.tok _,⟨_,rfl⟩,q⟩
theorem opB0 {f:Value→Value→Sem Value}{g:Int→Int→Bool}
  (rule:∀(i j:Int) (t u:Tok) (s:Shared) (Q:Value→Shared→Prop) (E:Value→Shared→Prop),Q (.bool (g i j)) s→wpAny (model X.prog X.w) X.A (f (.int i t) (.int j u)) Q E s) :
  OpR X f (rI0 fun i j=>.bl (g i j)):=by
 intro pins s σ H x y v u Q I rx ry h
 obtain ⟨i,j,rfl,rfl,q⟩:=h
 obtain ⟨t,rfl⟩:=rx
 obtain ⟨t',rfl⟩:=ry
 exact rule i j t t' s _ _ ⟨.bl (g i j),H,I,rfl,q⟩
def CPow (i j:Int):Prop:=0≤j∧j≤1000000∧i.natAbs<2 ^ 64
def Xor (i j:Int):Prop:=(-(2 ^ 64)<i∧i<2 ^ 64)∨(-(2 ^ 64)<j∧j<2 ^ 64)
theorem Xor.ok {i j:Int}(h:Xor i j):IntMulOk i j:=by
 rcases h with ⟨h1,h2⟩ | ⟨h1,h2⟩
 ·exact .of_left (intBits_le_64 h1 h2)
 ·exact .of_right (intBits_le_64 h1 h2)
theorem Xqn:OpR X (binaryOp .Add) (rI0 fun i j=>.int (i+j)):=opI0 fun _ _ _ _ _ _ _ q=>add_int q
theorem Zbx:OpR X (binaryOp .Sub) (rI0 fun i j=>.int (i - j)):=opI0 fun _ _ _ _ _ _ _ q=>sub_int q
theorem Xtu:OpR X (binaryOp .Mult) (rI Xor fun i j=>.int (i*j)):=opI fun _ _ _ _ _ _ _ hc q=>mul_int q hc.ok
theorem Zce:OpR X (binaryOp .Mod) (rI (fun _ j=>0<j) fun i j=>.int (i % j)):=opI fun i j _ _ _ _ _ hc q=>by
 have h1:(0:Int)<j:=hc
 exact mod_int' (by omega) (by rw [Int.fmod_eq_emod_of_nonneg i (by omega)];exact q)
theorem Zgx:OpR X (binaryOp .Pow) (rI CPow fun i j=>.int (i ^ j.toNat)):=opI fun _ _ _ _ _ _ _ hc q=>pow_int_small hc.1 hc.2.1 hc.2.2 q
theorem unI {f:Value→Sem Value}{g:Int→Int}
  (rule:∀(i:Int) (t:Tok) (s:Shared) (Q:Value→Shared→Prop) (E:Value→Shared→Prop),Q (.int (g i) s.toks) {s with toks:=s.toks+1}→wpAny (model X.prog X.w) X.A (f (.int i t)) Q E s) :
  UnR X f (rU fun i=>.int (g i)):=by
 intro pins s σ H x v Q I rx h
 obtain ⟨i,rfl,q⟩:=h
 obtain ⟨t,rfl⟩:=rx
 exact rule i t s _ _ ⟨.int (g i),H,I.tok _,⟨_,rfl⟩,q⟩
theorem Xpt:UnR X (unaryOp .USub) (rU fun i=>.int (-i)):=unI fun _ _ _ _ _ q=>neg_int q
end
noncomputable def scal:V→V→Bool
 | .non,.non=>true | .non,.int _=>true | .int _,.non=>true | .non,.bl _=>true | .bl _,.non=>true | .non,.str _=>true | .str _,.non=>true
 | .int _,.int _=>true | .bl _,.bl _=>true | .str _,.str _=>true | .byt _,.byt _=>true
 | .int _,.str _=>true | .str _,.int _=>true | .bl _,.str _=>true | .str _,.bl _=>true
 | _,_=>false
noncomputable def rEq:R2:=fun x y H Q=>scal x y=true∧Q (.bl (decide (x=y))) H
noncomputable def rNe:R2:=fun x y H Q=>scal x y=true∧Q (.bl (!decide (x=y))) H
theorem Xbc {i j:Int}:decide (V.int i=V.int j)=(i==j):=by
 rw [Bool.eq_iff_iff]
 simp
theorem Xhu {i j:Bool}:decide (V.bl i=V.bl j)=(i==j):=by
 rw [Bool.eq_iff_iff]
 simp
theorem Xbp {i j:Str}:decide (V.str i=V.str j)=(i==j):=by
 rw [Bool.eq_iff_iff]
 simp
theorem Xbv {i j:Array UInt8}:decide (V.byt i=V.byt j)=(i.toList==j.toList):=by
 rw [Bool.eq_iff_iff]
 cases i
 cases j
 simp
section
variable {X:Cx}{a b c:Expr}{ta tb tc:TE}{pos:Pos}
theorem Yp {pins:List (Addr×Obj)}{σ:St}{H:Hp}{s:Shared}{Q:VK}{k k':Bool}(I:Inv X pins σ H s)(q:Q (.bl k) H)(e:k=k'):EP X pins σ Q (.bool k') s:=by
 subst e
 exact ⟨.bl k,H,I,rfl,q⟩
theorem op_eq:OpR X (compareOp .Eq) rEq:=by
 intro pins s σ H x y v u Q I rx ry h
 obtain ⟨hs,q⟩:=h
 cases x with
 | non =>
  cases rx
  cases y with
  | non=>cases ry;exact PySem.EqNone.eq_none_none (Yp I q (by simp))
  | bl j=>cases ry;exact PySem.EqNone.eq_none_bool (Yp I q (by simp))
  | int j=>obtain ⟨t',rfl⟩:=ry;exact PySem.EqNone.eq_none_int (Yp I q (by simp))
  | str j=>obtain ⟨t',rfl⟩:=ry;exact PySem.EqNone.eq_none_str (Yp I q (by simp))
  | _=>exact absurd (show false=true from hs) Bool.false_ne_true
 | bl i =>
  cases rx
  cases y with
  | non=>cases ry;exact PySem.EqNone.eq_bool_none (Yp I q (by simp))
  | bl j=>cases ry;exact eq_bool (Yp I q Xhu)
  | str j=>obtain ⟨t',rfl⟩:=ry;exact PySem.EqMixed.eq_bool_str (Yp I q (by simp))
  | _=>exact absurd (show false=true from hs) Bool.false_ne_true
 | int i =>
  obtain ⟨t,rfl⟩:=rx
  cases y with
  | non=>cases ry;exact PySem.EqNone.eq_int_none (Yp I q (by simp))
  | int j=>obtain ⟨t',rfl⟩:=ry;exact eq_int (Yp I q Xbc)
  | str j=>obtain ⟨t',rfl⟩:=ry;exact PySem.EqMixed.eq_int_str (Yp I q (by simp))
  | _=>exact absurd (show false=true from hs) Bool.false_ne_true
 | str i =>
  obtain ⟨t,rfl⟩:=rx
  cases y with
  | non=>cases ry;exact PySem.EqNone.eq_str_none (Yp I q (by simp))
  | bl j=>cases ry;exact PySem.EqMixed.eq_str_bool (Yp I q (by simp))
  | int j=>obtain ⟨t',rfl⟩:=ry;exact PySem.EqMixed.eq_str_int (Yp I q (by simp))
  | str j=>obtain ⟨t',rfl⟩:=ry;exact eq_str (Yp I q Xbp)
  | _=>exact absurd (show false=true from hs) Bool.false_ne_true
 | byt i =>
  obtain ⟨t,rfl⟩:=rx
  cases y with
  | byt j=>obtain ⟨t',rfl⟩:=ry;exact PySem.W.eq_bytes (Yp I q Xbv)
  | _=>exact absurd (show false=true from hs) Bool.false_ne_true
 | _=>cases y<;>exact absurd (show false=true from hs) Bool.false_ne_true
theorem op_ne:OpR X (compareOp .NotEq) rNe:=by
 intro pins s σ H x y v u Q I rx ry h
 obtain ⟨hs,q⟩:=h
 cases x with
 | non =>
  cases rx
  cases y with
  | non=>cases ry;exact PySem.EqNone.ne_none_none (Yp I q (by simp))
  | bl j=>cases ry;exact PySem.EqNone.ne_none_bool (Yp I q (by simp))
  | int j=>obtain ⟨t',rfl⟩:=ry;exact PySem.EqNone.ne_none_int (Yp I q (by simp))
  | str j=>obtain ⟨t',rfl⟩:=ry;exact PySem.EqNone.ne_none_str (Yp I q (by simp))
  | _=>exact absurd (show false=true from hs) Bool.false_ne_true
 | bl i =>
  cases rx
  cases y with
  | non=>cases ry;exact PySem.EqNone.ne_bool_none (Yp I q (by simp))
  | bl j=>cases ry;exact ne_bool (Yp I q (congrArg not Xhu))
  | str j=>obtain ⟨t',rfl⟩:=ry;exact PySem.EqMixed.ne_bool_str (Yp I q (by simp))
  | _=>exact absurd (show false=true from hs) Bool.false_ne_true
 | int i =>
  obtain ⟨t,rfl⟩:=rx
  cases y with
  | non=>cases ry;exact PySem.EqNone.ne_int_none (Yp I q (by simp))
  | int j=>obtain ⟨t',rfl⟩:=ry;exact ne_int (Yp I q (congrArg not Xbc))
  | str j=>obtain ⟨t',rfl⟩:=ry;exact PySem.EqMixed.ne_int_str (Yp I q (by simp))
  | _=>exact absurd (show false=true from hs) Bool.false_ne_true
 | str i =>
  obtain ⟨t,rfl⟩:=rx
  cases y with
  | non=>cases ry;exact PySem.EqNone.ne_str_none (Yp I q (by simp))
  | bl j=>cases ry;exact PySem.EqMixed.ne_str_bool (Yp I q (by simp))
  | int j=>obtain ⟨t',rfl⟩:=ry;exact PySem.EqMixed.ne_str_int (Yp I q (by simp))
  | str j=>obtain ⟨t',rfl⟩:=ry;exact ne_str (Yp I q (congrArg not Xbp))
  | _=>exact absurd (show false=true from hs) Bool.false_ne_true
 | byt i =>
  obtain ⟨t,rfl⟩:=rx
  cases y with
  | byt j=>obtain ⟨t',rfl⟩:=ry;exact PySem.W.ne_bytes (Yp I q (congrArg not Xbv))
  | _=>exact absurd (show false=true from hs) Bool.false_ne_true
 | _=>cases y<;>exact absurd (show false=true from hs) Bool.false_ne_true
theorem Zsd:OpR X (compareOp .Lt) (rI0 fun i j=>.bl (decide (i<j))):=opB0 fun _ _ _ _ _ _ _ q=>lt_int q
theorem Xbk:OpR X (compareOp .LtE) (rI0 fun i j=>.bl (decide (i≤j))):=opB0 fun _ _ _ _ _ _ _ q=>le_int q
theorem Ziy:OpR X (compareOp .Gt) (rI0 fun i j=>.bl (decide (j<i))):=opB0 fun _ _ _ _ _ _ _ q=>gt_int q
theorem Xqt:OpR X (compareOp .GtE) (rI0 fun i j=>.bl (decide (j≤i))):=opB0 fun _ _ _ _ _ _ _ q=>ge_int q
theorem Xsi:OpR X (compareOp .Is) (fun x y H Q=>y=.non∧Q (.bl (decide (x=.non))) H):=by
 intro pins s σ H x y v u Q I rx ry h
 obtain ⟨rfl,q⟩:=h
 cases ry
 refine is_none_gen (Yp I q ?_)
 cases x<;>first
  | (cases rx;rfl)
  | (obtain ⟨t,rfl⟩:=rx;rfl)
theorem OpR.or {f:Value→Value→Sem Value}{r r':R2}(h:OpR X f r)(h':OpR X f r'):OpR X f (fun x y H Q=>r x y H Q∨r' x y H Q):=by
 intro pins s σ H x y v u Q I rx ry q
 rcases q with q | q
 ·exact h pins s σ H x y v u Q I rx ry q
 ·exact h' pins s σ H x y v u Q I rx ry q
theorem Xh (b:Expr){op:CmpOp}(h:op≠.In:=by decide)(h2:op≠.NotIn:=by decide):behindInMarks op b=false:=by
 have e1:(op==CmpOp.In)=false:=by cases op<;>first | rfl | exact absurd rfl h
 have e2:(op==CmpOp.NotIn)=false:=by cases op<;>first | rfl | exact absurd rfl h2
 cases b<;>simp [behindInMarks,e1,e2]
theorem Xmn {op:CmpOp}{r:R2}(ho:OpR X (compareOp op) r)(ha:PE X a ta)(hb:PE X b tb)(hm:behindInMarks op b=false):PE X (.Compare a [op] [b] pos) (tOp r ta tb):=by
 intro pins s σ H Q I h
 exact wpAny_Compare1 (binT ha hb I h fun v u s2 x y H2 I2 rx ry q=>ho pins s2 σ H2 x y v u Q I2 rx ry q) hm
def Zxi (t:TE):TT:=fun σ H Q=>t σ H fun x H'=>∃k,x=.bl k∧Q k H'
theorem Xjn {op:CmpOp}{r:R2}(ho:OpR X (compareOp op) r)(ha:PE X a ta)(hb:PE X b tb)(hm:behindInMarks op b=false):PT X (.Compare a [op] [b] pos) (Zxi (tOp r ta tb)):=by
  intro pins s σ H Q I h
  refine wpAny_isTrue_Compare1 (thn (ha pins s σ H _ I h) fun v s1 ⟨x,H1,I1,r1,q1⟩=>thn (hb pins s1 σ H1 _ I1 q1) fun u s2 ⟨y,H2,I2,r2,q2⟩ =>
    thn (ho pins s2 σ H2 x y v u _ I2 r1 r2 q2) fun c s3 ⟨z,H3,I3,r3,k,e,q3⟩=>?_) hm
  subst e
  cases r3
  exact wpAny_truthy_bool ⟨H3,I3,q3⟩
theorem Zmr:(sizeLine:Nat)<2 ^ 63:=by rw [sizeLine_eq];decide
theorem Zxo:OpR X (binaryOp .Add) (fun x y H Q=>∃i j,x=.str i∧y=.str j∧i.length+j.length≤sizeLine∧Q (.str (i++j)) H):=by
 intro pins s σ H x y v u Q I rx ry h
 obtain ⟨i,j,rfl,rfl,hz,q⟩:=h
 obtain ⟨t,rfl⟩:=rx
 obtain ⟨t',rfl⟩:=ry
 exact add_str (fun t' tk=>⟨.str (i++j),H,I.tok _,⟨_,rfl⟩,q⟩) hz
theorem vals1 {x:V}{us:List Value}(r:Jd [x] us):∃u,us=[u]∧RelV x u:=by
 cases r with
 | cons r1 r2=>cases r2;exact ⟨_,rfl,r1⟩
theorem vals2 {x y:V}{us:List Value}(r:Jd [x,y] us):∃u w',us=[u,w']∧RelV x u∧RelV y w':=by
 cases r with
 | cons r1 r2 =>
  cases r2 with
  | cons r3 r4=>cases r4;exact ⟨_,_,rfl,r1,r3⟩
theorem Zyn (hc:X.calm=true):Zcd X (.builtin "max") (fun xs H Q=>∃i j,xs=[.int i,.int j]∧Q (.int (if j > i then j else i)) H):=by
 intro pins s σ H xs us Q I r h
 obtain ⟨i,j,rfl,q⟩:=h
 obtain ⟨u,w',rfl,⟨t,rfl⟩,⟨t',rfl⟩⟩:=vals2 r
 refine max_two_ints (I.ok.hd hc) fun h' tk k=>⟨_,H,I.kept k,?_,q⟩
 by_cases hj:j > i
 ·rw [if_pos hj,if_pos hj];exact ⟨_,rfl⟩
 ·rw [if_neg hj,if_neg hj];exact ⟨_,rfl⟩
theorem Xby (hc:X.calm=true):Zcd X (.builtin "min") (fun xs H Q=>∃i j,xs=[.int i,.int j]∧Q (.int (if j<i then j else i)) H):=by
 intro pins s σ H xs us Q I r h
 obtain ⟨i,j,rfl,q⟩:=h
 obtain ⟨u,w',rfl,⟨t,rfl⟩,⟨t',rfl⟩⟩:=vals2 r
 refine min_two_ints (I.ok.hd hc) fun h' tk k=>⟨_,H,I.kept k,?_,q⟩
 by_cases hj:j<i
 ·rw [if_pos hj,if_pos hj];exact ⟨_,rfl⟩
 ·rw [if_neg hj,if_neg hj];exact ⟨_,rfl⟩
end
structure Xjt (h:Heap)(x dx C:Addr)(mA:Str→Option Value):Prop where
 obj:h.get? x=some (instObj C dx)
 ns:h.Ns1 dx mA
 ne:dx≠x
theorem Zzj {h:Heap}{dx:Addr}{mA:Str→Option Value}(n:h.Ns1 dx mA):∃od,h.get? dx=some od∧∀name,lookIn name od=some (mA name):=by
 obtain ⟨o,es,ep,ho,hd,hk,_,hm⟩:=n
 refine ⟨o,ho,fun name=>?_⟩
 have e:=hm name
 unfold nsFind findBy at e
 rw [← Array.find?_toList] at e
 unfold lookIn
 rw [hd]
 dsimp only
 split
 ·rename_i y q
  rw [q] at e
  exact congrArg some e
 ·rename_i q
  rw [q] at e
  have a:es.toList.any (·.refKey)=false:=by
   rw [List.any_eq_false]
   intro y hy
   obtain ⟨z,t,hkey⟩:=hk y (Array.mem_toList_iff.mp hy)
   simp [DictEntry.refKey,hkey]
  have a':¬es.toList.any (·.refKey)=true:=by rw [a];exact Bool.false_ne_true
  rw [if_neg a']
  exact congrArg some e
theorem Xjt.look {h:Heap}{x dx C:Addr}{mA:Str→Option Value}(I:Xjt h x dx C mA):∃od,PySem.W.InstAt h x (instObj C dx) C (some od)∧∀name,lookIn name od=some (mA name):=
 let ⟨od,ho,hl⟩:=Zzj I.ns
 ⟨od,⟨I.obj,rfl,rfl,ho⟩,hl⟩
section
variable {prog:Program}{w:World}{A:Around}{E:Value→Shared→Prop}{s:Shared}{K:Frag}{x dx C f:Addr}{mA:Str→Option Value}{name:Str}{v:Value}
theorem Xnf {expr:Bool}{Q:Value→Shared→Prop}(X:K.In s.heap)(I:Xjt s.heap x dx C mA)(hg:plainGet K C name=true)(hh:hasDictIn K C=true)
  (ha:findIn K (.ref C) name=some none) (hv:mA name=some v) (hv':PySem.W.handedIn v=true) (h:Q v {s with toks:=s.toks+1}) :
  wpAny (model prog w) A (getAttr (.ref x) name expr) Q E s:=by
 obtain ⟨od,J,hl⟩:=I.look
 exact PySem.W.get_value X J (plainGet_of hg).1 (PySem.W.findObj_own hh ha rfl (by rw [hl,hv])) hv' h
theorem Xdp {pl:Sem Bool}{Q:Value×List Value→Shared→Prop}(X:K.In s.heap)(I:Xjt s.heap x dx C mA)(hg:plainGet K C name=true)
  (hf:findIn K (.ref C) name=some (some (.ref f))) (ht:isFn K (.ref f)=true) (hv:mA name=none) (h:Q (.ref f,[.ref x]) s) :
  wpAny (model prog w) A (getMethod (.ref x) name pl) Q E s:=by
 obtain ⟨od,J,hl⟩:=I.look
 exact PySem.W.method_fn X J (plainGet_of hg).1 (plainGet_of hg).2 hf (beq_iff_eq.mp ht) (by show (lookIn name od).map (·.isSome)=some false;rw [hl,hv];rfl) h
theorem Xne {ns:List Str}{Q:Unit→Shared→Prop}(X:K.In s.heap)(I:Xjt s.heap x dx C mA)
  (hs:findIn K (.ref C) "__setattr__"=some (some (.builtin "object.__setattr__"))) (hp:plainOver K C=true) (ht:takerIn K C name=some none) (hh:hasDictIn K C=true)
  (hw:PySem.Within mA ns) (hsz:ns.length≤sizeLine)
  (h:∀h',Xjt h' x dx C (fun y=>if y=name then some v else mA y)→Heap.SameBut dx s.heap h'→Q () {s with heap:=h',toks:=s.toks+2}) :
  wpAny (model prog w) A (setAttr (.ref x) name v) Q E s:=by
 obtain ⟨od,J,hl⟩:=I.look
 refine PySem.W.set_plain X J hs (PySem.W.osa_open (s:={s with toks:=s.toks+1}) (r:=none) X J hp ht fun b=>?_)
 obtain ⟨cd,hc,hd'⟩:=PySem.W.any_some hh
 have hx:s.heap.get? x=some ⟨.ref C,some dx,.plain,#[]⟩:=I.obj
 refine wpAny_bind (wpAny_pure (wpAny_bind (wpAny_bind (wpAny_loadPart hx (wpAny_bind (PySem.W.Looks.here (s:={s with toks:=s.toks+1}) (PySem.W.looks_clsIn X hc) ?_))))))
 rw [hd']
 refine wpAny_pure (a:=some dx) (wpAny_bind (wpAny_pure (wpAny_bind ?_)))
 refine wpAny_nsSet1 (s:={s with toks:=s.toks+1}) I.ns fun h' hn2 hs2=>?_
 obtain ⟨oD,esD,epD,hoD,hdD,hcD⟩:=hn2.count (PySem.Within.cons name v hw)
 refine wpAny_bind (wpAny_lookBehind hoD (by rw [hdD];exact pastItsLine_dict (le_trans hcD (by rw [length_cons];omega))) ?_)
 exact wpAny_pure (h _ ⟨(hs2.2 _ (Ne.symm I.ne)).trans I.obj,hn2,I.ne⟩ hs2)
theorem Xfn {R:Result→Shared→Prop}{vs:List Value}{kw:List (Str×Value)}(X:K.In s.heap)(hm:makesIn K C=true)
    (hi:findIn K (.ref C) "__init__"=some (some (.ref f))) (hf:typeIn K (.ref f)=some (.type "function"))
    (h:codeAny (model prog w) (A.under (.builtin "type.__call__" ⟨.ref C::vs,kw⟩)) (.call (.ref f) ⟨.ref (s.heap.objs.size+1)::vs,kw⟩) (PySem.W.InitBack (s.heap.objs.size+1) R)
      {s with heap:=(s.heap.push emptyDict).push (instObj C s.heap.objs.size)}) :
    codeAny (model prog w) A (.call (.ref C) ⟨vs,kw⟩) R s:=by
  obtain ⟨hh,g,d,t,os⟩:=s
  exact PySem.W.make_core (PySem.W.makes_of X hm) (PySem.W.looks_findIn X hi) (fun self=>PySem.W.bind_fn X self hf) (.inl rfl) h
end
noncomputable def Zlo (f:Str)(v:V):List (Str×V)→List (Str×V)
 | []=>[(f,v)]
 | (g,x)::r=>if g=f then (g,v)::r else (g,x)::Zlo f v r
theorem Zle (f g:Str)(v:V):∀fs:List (Str×V),(Zlo f v fs).lookup g=if g=f then some v else fs.lookup g
 | []=>by
  show List.lookup g [(f,v)]=_
  by_cases h:g=f
  ·have hb:(g==f)=true:=beq_iff_eq.mpr h
   simp only [List.lookup,hb,if_pos h]
  ·have hb:(g==f)=false:=beq_eq_false_iff_ne.mpr h
   simp only [List.lookup,hb,if_neg h]
 | (k,x)::r=>by
  have ih:=Zle f g v r
  rw [show Zlo f v ((k,x)::r)=(if k=f then (k,v)::r else (k,x)::Zlo f v r) from rfl]
  by_cases hk:k=f
  ·rw [if_pos hk]
   by_cases h:g=k
   ·have hb:(g==k)=true:=beq_iff_eq.mpr h
    simp only [List.lookup,hb,if_pos (h.trans hk)]
   ·have hb:(g==k)=false:=beq_eq_false_iff_ne.mpr h
    simp only [List.lookup,hb,if_neg (fun e:g=f=>h (e.trans hk.symm))]
  ·rw [if_neg hk]
   by_cases h:g=k
   ·have hb:(g==k)=true:=beq_iff_eq.mpr h
    simp only [List.lookup,hb,if_neg (fun e:g=f=>hk (h.symm.trans e))]
   ·have hb:(g==k)=false:=beq_eq_false_iff_ne.mpr h
    simp only [List.lookup,hb]
    exact ih
theorem Zkr (f:Str)(v:V):∀fs:List (Str×V),f∈(Zlo f v fs).map (·.1)∧∀g,g∈fs.map (·.1)→g∈(Zlo f v fs).map (·.1)
 | []=>⟨by simp [Zlo],fun g h=>by simp at h⟩
 | (k,x)::r=>by
  obtain ⟨i1,i2⟩:=Zkr f v r
  rw [show Zlo f v ((k,x)::r)=(if k=f then (k,v)::r else (k,x)::Zlo f v r) from rfl]
  by_cases hk:k=f
  ·rw [if_pos hk]
   subst hk
   exact ⟨by simp,fun g h=>by simpa using h⟩
  ·rw [if_neg hk]
   refine ⟨?_,fun g h=>?_⟩
   ·rw [map_cons]
    exact mem_cons_of_mem _ i1
   ·rw [map_cons] at h ⊢
    rcases List.mem_cons.mp h with e | e
    ·exact List.mem_cons.mpr (.inl e)
    ·exact mem_cons_of_mem _ (i2 g e)
theorem Zjp (f:Str)(v:V):∀fs:List (Str×V),(Zlo f v fs).length≤fs.length+1
 | []=>by simp [Zlo]
 | (k,x)::r=>by
  have ih:=Zjp f v r
  rw [show Zlo f v ((k,x)::r)=(if k=f then (k,v)::r else (k,x)::Zlo f v r) from rfl]
  by_cases hk:k=f
  ·rw [if_pos hk,length_cons,length_cons];omega
  ·rw [if_neg hk,length_cons,length_cons];omega
theorem Zow.some_of {v:V}{o:Option Value}(r:Zow (some v) o):∃u,o=some u∧RelV v u:=by
 cases o with
 | none=>exact (show False from r).elim
 | some u=>exact ⟨u,rfl,r⟩
theorem Zow.none_of {o:Option Value}(r:Zow none o):o=none:=by
 cases o with
 | none=>rfl
 | some u=>exact (show False from r).elim
theorem Xbs {v:V}{u:Value}(r:RelV v u):PySem.W.handedIn u=true:=by
 cases v with
 | non=>cases (show u=Value.none from r);rfl
 | bl b=>cases (show u=Value.bool b from r);rfl
 | int i=>obtain ⟨t,e⟩:=(show ∃t,u=Value.int i t from r);cases e;rfl
 | str x=>obtain ⟨t,e⟩:=(show ∃t,u=Value.str x t from r);cases e;rfl
 | byt b=>obtain ⟨t,e⟩:=(show ∃t,u=Value.bytes b t from r);cases e;rfl
 | flt b=>obtain ⟨t,e⟩:=(show ∃t,u=Value.float b t from r);cases e;rfl
 | ref a=>cases (show u=Value.ref a from r);rfl
 | ty n=>cases (show u=Value.type n from r);rfl
section
variable {P:Program}{w:World}{H H':Hp}{h h':Heap}{a C dx:Addr}{fs fs':List (Str×V)}
theorem Zsm (hok:HOk P w H h)(e:H a=some (.ins C dx fs)):∃mA,Xjt h a dx C mA∧(∀f,Zow (fs.lookup f) (mA f))∧PySem.Within mA (fs.map (·.1))∧fs.length≤1000∧H dx=some (.own a):=by
 obtain ⟨d,z,ne,ob,mA,n,r,q⟩:=(show Zax P w H h a (.ins C dx fs) from hok a _ e)
 exact ⟨mA,⟨ob,n,ne⟩,r,q,z,d⟩
end
structure Cls (K:Frag)(C:Addr):Prop where
 pg:plainGet K C Str.empty=true
 hd:hasDictIn K C=true
 po:plainOver K C=true
 sa:findIn K (.ref C) "__setattr__"=some (some (.builtin "object.__setattr__"))
theorem Cls.get {K:Frag}{C:Addr}(c:Cls K C)(f:Str):plainGet K C f=true:=c.pg
def Zbs (K:Frag)(C:Addr)(f:Str):Prop:=findIn K (.ref C) f=some none
theorem Zbs.taker {K:Frag}{C:Addr}{f:Str}(n:Zbs K C f):takerIn K C f=some none:=by
 unfold takerIn
 rw [show findIn K (.ref C) f=some none from n]
 rfl
structure Con (K:Frag)(C:Addr)(f:Str)(v:V)(u:Value):Prop where
 at_:findIn K (.ref C) f=some (some u)
 rel:RelV v u
 get:specialIn K u "__get__"=some none
 cp:PySem.W.copiedNames.contains f=false
structure Meth (K:Frag)(C:Addr)(m:Str)(f:Addr):Prop where
 at_:findIn K (.ref C) m=some (some (.ref f))
 fn:isFn K (.ref f)=true
 kp:keepIn K (.ref f)=true
section
variable {X:Cx}{pins:List (Addr×Obj)}{σ:St}{H:Hp}{s:Shared}{a C dx:Addr}{fs:List (Str×V)}{f:Str}{v:V}{A:Around}{E:Value→Shared→Prop}
theorem Zxk {b:Bool}{Q:Value→Shared→Prop}(I:Inv X pins σ H s)(e:H a=some (.ins C dx fs))(c:Cls X.K C)(n:Zbs X.K C f)(l:fs.lookup f=some v)
  (h:∀u s',Inv X pins σ H s'→RelV v u→Q u s'):wpAny (model X.prog X.w) A (getAttr (.ref a) f b) Q E s:=by
 obtain ⟨mA,O,r,_,_,_⟩:=Zsm I.hok e
 obtain ⟨u,hu,ru⟩:=Zow.some_of (v:=v) (o:=mA f) (by rw [← l];exact r f)
 exact Xnf I.kIn O (c.get f) c.hd n hu (Xbs ru) (h u _ (I.tok _) ru)
theorem Zmp {m:Str}{g:Addr}{pl:Sem Bool}{Q:Value×List Value→Shared→Prop}(I:Inv X pins σ H s)(e:H a=some (.ins C dx fs))(c:Cls X.K C)(k:Meth X.K C m g)(l:fs.lookup m=none)
  (h:Q (.ref g,[.ref a]) s):wpAny (model X.prog X.w) A (getMethod (.ref a) m pl) Q E s:=by
 obtain ⟨mA,O,r,_,_,_⟩:=Zsm I.hok e
 have hn:mA m=none:=Zow.none_of (by rw [← l];exact r m)
 exact Xdp I.kIn O (c.get m) k.at_ k.fn hn h
theorem Zxh {y:V}{u:Value}{Q:Unit→Shared→Prop}(I:Inv X pins σ H s)(e:H a=some (.ins C dx fs))(c:Cls X.K C)(n:Zbs X.K C f)(hl:fs.length<1000)(ry:RelV y u)
  (h:∀s',Inv X pins σ (upd H a (.ins C dx (Zlo f y fs))) s'→Q () s'):wpAny (model X.prog X.w) A (setAttr (.ref a) f u) Q E s:=by
 obtain ⟨mA,O,r,wi,_,ho⟩:=Zsm I.hok e
 have hz:(fs.map (·.1)).length≤sizeLine:=by rw [length_map,sizeLine_eq];omega
 refine Xne I.kIn O c.sa c.po n.taker c.hd wi hz fun h' O' sb=>h _ ?_
 have hd:∃o,h'.get? dx=some o:=let ⟨o,_,_,e',_⟩:=O'.ns;⟨o,e'⟩
 refine I.write (x:=a) (e:=dx) (by rw [e];exact True.intro) (.inr ho) (fun b q hb z=>(sb.2 b hb).trans z) hd ?_
 refine ⟨by rw [Xb O.ne];exact ho,?_,O.ne,O'.obj,_,O'.ns,fun g=>?_,fun g hg=>?_⟩
 ·have:=Zjp f y fs;omega
 ·show Zow ((Zlo f y fs).lookup g) (if g=f then some u else mA g)
  rw [Zle]
  by_cases q:g=f
  ·rw [if_pos q,if_pos q];exact ry
  ·rw [if_neg q,if_neg q];exact r g
 ·by_cases q:g=f
  ·rw [q];exact (Zkr f y fs).1
  ·refine (Zkr f y fs).2 g (wi g fun z=>hg ?_)
   show (if g=f then some u else mA g)=none
   rw [if_neg q];exact z
theorem Inv.made (I:Inv X pins σ H s):Inv X pins σ (upd (upd H s.heap.objs.size (.own (s.heap.objs.size+1))) (s.heap.objs.size+1) (.ins C s.heap.objs.size []))
  {s with heap:=(s.heap.push emptyDict).push (instObj C s.heap.objs.size)}:=by
 have e1:(s.heap.push emptyDict).get? s.heap.objs.size=some emptyDict:=get?_push_size s.heap rfl
 have e2:((s.heap.push emptyDict).push (instObj C s.heap.objs.size)).get? (s.heap.objs.size+1)=some (instObj C s.heap.objs.size):=by
  have:=get?_push_size (s.heap.push emptyDict) (o:=instObj C s.heap.objs.size) rfl
  rwa [size_push] at this
 have e3:(s.heap.push emptyDict).Ns s.heap.objs.size (fun _=>none):=⟨emptyDict,#[],_,e1,rfl,(fun e he=>absurd he (by simp)),fun _=>rfl⟩
 have I1:=I.laid (a:=s.heap.objs.size) (o:=.own (s.heap.objs.size+1)) (h':=s.heap.push emptyDict) (t':=s.toks) (fun b u q=>get?_push_of_some _ q) (le_refl _) ⟨_,e1⟩
 refine I1.laid (a:=s.heap.objs.size+1) (o:=.ins C s.heap.objs.size []) (t':=s.toks) (fun b u q=>get?_push_of_some _ q) (Nat.le_of_eq (size_push _ _)) ?_
 have ne:s.heap.objs.size≠s.heap.objs.size+1:=ne_of_lt (lt_succ_self _)
 refine ⟨by rw [Xb ne,Yb],zero_le _,ne,e2,fun _=>none,(Heap.Ns1.of_empty e3).at fun o q=>get?_push_of_some _ q,fun _=>True.intro,fun y hy=>absurd rfl hy⟩
theorem Xli {prog:Program}{w:World}{env:Env}{e:Expr}{f:Str}{pos:Pos}{s:Shared}{Q:Value→Shared→Prop}(hb:attributeBase e f env (eval e env)=eval e env)
  (h:wpAny (model prog w) A (eval e env) (fun o s₁=>wpAny (model prog w) A (getAttr o f true) Q E s₁) E s):wpAny (model prog w) A (eval (.Attribute e f pos) env) Q E s:=
 Attribute_any_ h (by rw [arm_eval_Attribute,hb])
end
def Xpf (K:Frag)(ta:TE)(f:Str):TE:=fun σ H Q=>ta σ H fun x H1=>∃a C dx fs v,x=.ref a∧H1 a=some (.ins C dx fs)∧Cls K C∧Zbs K C f∧fs.lookup f=some v∧Q v H1
def Zxs (K:Frag)(ta tv:TE)(f:Str):TS:=fun D σ H=>tv σ H fun y H1=>ta σ H1 fun x H2=>∃a C dx fs,x=.ref a∧H2 a=some (.ins C dx fs)∧Cls K C∧Zbs K C f∧fs.length<1000∧
 D.nx σ (upd H2 a (.ins C dx (Zlo f y fs)))
section
variable {X:Cx}{o e value:Expr}{f:Str}{pos pos' tpos:Pos}{ta tv:TE}
theorem Xhq (he:PE X e ta)(hb:attributeBase e f X.env (eval e X.env)=eval e X.env):PE X (.Attribute e f pos) (Xpf X.K ta f):=by
 intro pins s σ H Q I h
 refine Xli hb (thn (he pins s σ H _ I h) fun u s1 hz9=>?_)
 obtain ⟨x,H1,I1,rx,a,C,dx,fs,v,ex,ea,c,n,l,q⟩:=hz9
 subst ex
 obtain rfl:u=Value.ref a:=rx
 exact Zxk I1 ea c n l fun u' s2 I2 ru=>⟨v,H1,I2,ru,q⟩
theorem Xpd (ha:PE X o ta)(hv:PE X value tv)(hs:swapsWith value (some (.Attribute o f pos')) pos.line X.env=pure false):PS X (.Assign [.Attribute o f pos'] value pos) (Zxs X.K ta tv f):=by
 intro pins s σ H D I h
 refine plainObj_wpAny_Assign_Attribute (thn (hv pins s σ H _ I h) fun u s1 ⟨y,H1,I1,ry,q⟩=>thn (ha pins s1 σ H1 _ I1 q) fun ov s2 ⟨x,H2,I2,rx,a,C,dx,fs,ex,ea,c,n,l,q2⟩=>?_) hs
 subst ex
 obtain rfl:ov=Value.ref a:=rx
 exact Zxh I2 ea c n l ry fun s3 I3=>⟨σ,_,I3,q2⟩
end
section
variable {X:Cx}{pins:List (Addr×Obj)}{σ:St}{H:Hp}{s:Shared}{A:Around}{E:Value→Shared→Prop}{Q:Value→Shared→Prop}{c:Value}{b:Bool}
inductive TyOf (K:Frag)(H:Hp):V→Value→Prop where
 | non:TyOf K H .non (.type "NoneType")
 | bl (x:Bool):TyOf K H (.bl x) (.type "bool")
 | int (i:Int):TyOf K H (.int i) (.type "int")
 | str (x:Str):TyOf K H (.str x) (.type "str")
 | flt (x:UInt64):TyOf K H (.flt x) (.type "float")
 | lst {a:Addr} {xs:List V} (e:H a=some (.lst xs)):TyOf K H (.ref a) (.type "list")
 | frz {a:Addr} {o:Obj} {xs:List V} (e:H a=some (.frz o (.lst xs))):TyOf K H (.ref a) (.type "list")
 | tup {a:Addr} {xs:List V} (e:H a=some (.tup xs)):TyOf K H (.ref a) (.type "tuple")
 | dK {a:Addr} {kvs:List (Key×V)} (e:H a=some (.dK kvs)):TyOf K H (.ref a) (.type "dict")
 | dT {a:Addr} {kvs:List (List Key×V)} (e:H a=some (.dT kvs)):TyOf K H (.ref a) (.type "dict")
 | ins {a C dx:Addr} {fs:List (Str×V)} (e:H a=some (.ins C dx fs)) (cl:Cls K C) (ha:findIn K (.ref C) "__class__"=some (some (.builtin "object.__class__")))
   (hn:specialIn K (.builtin "object.__class__") "__get__"=some (some (.builtin "getset_descriptor.__get__"))) (htk:PySem.W.takesIn K (.builtin "object.__class__")=some true)
   (hm:PySem.W.mroIn K C (.type "object")=some true):TyOf K H (.ref a) (.ref C)
end
structure Zdx (k:Nat)(A:Around):Prop where
 hd:A.handled=none
 dp:A.depth+3*k+5<recursionLimit
 un:A.units+16*k+200<cLine
 gd:A.guards=some []
theorem Zdx.mono {j k:Nat}{A:Around}(r:Zdx k A)(h:j≤k):Zdx j A:=⟨r.hd,by have:=r.dp;omega,by have:=r.un;omega,r.gd⟩
theorem Zdx.deeper {k:Nat}{A:Around}(r:Zdx (k+1) A)(env:Env):Zdx k (A.deeper env):=
 ⟨r.hd,by have:=r.dp;show A.depth+1+3*k+5<_;omega,by have:=r.un;show A.units+3+16*k+200<_;omega,r.gd⟩
theorem Zww {A:Around}{C:Addr}{us:List Value}{kw:List (Str×Value)}:(A.under (.builtin "type.__call__" ⟨.ref C::us,kw⟩)).depth=A.depth+1:=by
 first | rfl | simp [Around.under,Code.weight,Code.isCreation,Code.isGuard,Code.isCaller,Code.frames,Code.isFrame,guardIds]
theorem Zxd {A:Around}{C:Addr}{us:List Value}{kw:List (Str×Value)}:(A.under (.builtin "type.__call__" ⟨.ref C::us,kw⟩)).units=A.units+1:=by
 first | rfl | simp [Around.under,Code.cUnits,Code.frames,Code.isFrame]
theorem Zdx.make {k:Nat}{A:Around}(r:Zdx (k+1) A)(C:Addr)(us:List Value)(kw:List (Str×Value)):Zdx k (A.under (.builtin "type.__call__" ⟨.ref C::us,kw⟩)):=
 ⟨r.hd,by have:=r.dp;rw [Zww];omega,by have:=r.un;rw [Zxd];omega,by have h:=r.gd;first | exact h | (simp [Around.under,Code.guards,Code.isGuard,guardIds,pushGuards];exact h) | simpa [Around.under,Code.guards,Code.isGuard,guardIds,pushGuards] using h⟩
theorem Zdx.depth {k:Nat}{A:Around}(r:Zdx k A):A.depth<recursionLimit:=by have:=r.dp;omega
theorem Zdx.units {k:Nat}{A:Around}(r:Zdx k A):A.units+64<cLine:=by have:=r.un;omega
def Zvr:TA:=fun _ H Q=>Q [] H
def Zhz (ta:TE)(tr:TA):TA:=fun σ H Q=>ta σ H fun x H1=>tr σ H1 fun xs H2=>Q (x::xs) H2
section
variable {X:Cx}{e:Expr}{es:List Expr}{te:TE}{t:TA}{pos:Pos}
theorem Xic:PA X [] Zvr:=fun _ _ _ _ H Q I h=>Calls.spliced_nil ⟨[],H,I,.nil,h⟩
theorem Zzr (ha:PE X e te)(hr:PA X es t)(hs:starEach (e::es) X.env=(false,eval e X.env)::starEach es X.env:=by rfl):PA X (e::es) (Zhz te t):=by
 intro pos pins s σ H Q I h
 rw [hs]
 show wpAny _ _ (spliced ((false,eval e X.env)::backTo pos (starEach es X.env))) _ _ s
 refine Calls.spliced_cons (thn (ha pins s σ H _ I h) fun u s1 hz9=>?_)
 obtain ⟨x,H1,I1,r1,q1⟩:=hz9
 exact thn (hr pos pins s1 σ H1 _ I1 q1) fun us s2 ⟨xs,H2,I2,r2,q2⟩=>⟨x::xs,H2,I2,.cons r1 r2,q2⟩
def Xte (t:TA):TE:=fun σ H Q=>t σ H fun xs H1=>xs.length≤sizeLine∧∀p,H1 p=none→Q (.ref p) (upd H1 p (.tup xs))
def Xoo (t:TA):TE:=fun σ H Q=>t σ H fun xs H1=>xs.length≤sizeLine∧∀p,H1 p=none→Q (.ref p) (upd H1 p (.lst xs))
theorem Xqz {x1}(h:PA X es t):PE X (.Tuple es x1 pos) (Xte t):=by
 intro pins s σ H Q I hq
 refine wpAny_Tuple_spliced (thn (h pos pins s σ H _ I hq) fun us s1 ⟨xs,H1,I1,r,z,q⟩=>⟨by rw [← r.length];exact z,?_⟩)
 have hf:H1 s1.heap.objs.size=none:=I1.hok.fresh (le_refl _)
 refine ⟨.ref s1.heap.objs.size,upd H1 s1.heap.objs.size (.tup xs),I1.laid (t':=s1.toks) (fun b u e=>get?_push_of_some _ e) (le_refl _) ?_,rfl,q _ hf⟩
 exact ⟨z,us,r,⟨_,get?_push_size _ rfl,rfl,_,rfl⟩⟩
theorem Xoz (h:PA X es t):PE X (.List es pos) (Xoo t):=by
 intro pins s σ H Q I hq
 refine wpAny_List_spliced (thn (h pos pins s σ H _ I hq) fun us s1 ⟨xs,H1,I1,r,z,q⟩=>⟨by rw [← r.length];exact z,?_⟩)
 have hf:H1 s1.heap.objs.size=none:=I1.hok.fresh (le_refl _)
 refine ⟨.ref s1.heap.objs.size,upd H1 s1.heap.objs.size (.lst xs),I1.laid (t':=s1.toks) (fun b u e=>get?_push_of_some _ e) (le_refl _) ?_,rfl,q _ hf⟩
 exact ⟨z,us,0,r,get?_push_size _ rfl⟩
end
noncomputable abbrev Sp:=List V→Hp→VK→XK→Prop
noncomputable abbrev CXT:=List Env→Hp→Shared→XK→Value→Shared→Prop
structure Xhx (P:Program)(w:World)(K:Frag)(mg:Str→Option Value)(base:Heap)(A:Around)(outer:List Env)(s:Shared)(H:Hp):Prop where
 frames:A.frames=some outer
 mod:Mod K mg base
 bs:∀b o,base.get? b=some o→s.heap.get? b=some o∧H b=none
 bsz:base.objs.size≤s.heap.objs.size
 funs:s.heap.FunFrames base outer
 frf:∀b∈frs outer,H b=none
 hok:HOk P w H s.heap
 bare:AllBare s.gens
def CE (outer:List Env)(P:Program)(w:World)(H:Hp)(s:Shared)(Q:VK)(u:Value)(s':Shared):Prop:=
 ∃v H',s'.os=s.os∧AllBare s'.gens∧Un (frs outer) [] H H' s.heap s'.heap∧HOk P w H' s'.heap∧RelV v u∧Q v H'
def CR (CX:CXT)(outer:List Env)(P:Program)(w:World)(H:Hp)(s:Shared)(Q:VK)(E:XK)(r:Result)(s':Shared):Prop:=
 match r with
 | .ok (.ret u)=>CE outer P w H s Q u s'
 | .ok _=>False
 | .error e=>CX outer H s E e s'
structure Jx (P:Program)(w:World)(K:Frag)(mg:Str→Option Value)(base:Heap)(CX:CXT)(k:Nat)(f:Addr)(fd:FuncData)(ps:List Str)(sp:Sp):Prop where
 len:∀vs H Q E,sp vs H Q E→vs.length=ps.length
 run:∀(A:Around) (outer:List Env) (s:Shared) (H:Hp) (args:Args) (us:List Value) (vs:List V) (Q:VK) (E:XK),Zdx k A→Xhx P w K mg base A outer s H→BindsTo s fd args (ps.zip us)→Jd vs us→sp vs H Q E→
  codeAny (model P w) A (.call (.ref f) args) (CR CX outer P w H s Q E) s
theorem Jx.imp {P:Program}{w:World}{K:Frag}{mg:Str→Option Value}{base:Heap}{CX:CXT}{k:Nat}{f:Addr}{fd:FuncData}{ps:List Str}{sp sp':Sp}(F:Jx P w K mg base CX k f fd ps sp)
  (h:∀vs H Q E,sp' vs H Q E→sp vs H Q E):Jx P w K mg base CX k f fd ps sp':=
 ⟨fun vs H Q E q=>F.len vs H Q E (h _ _ _ _ q),fun A outer s H args us vs Q E hr he hb hv hs=>F.run A outer s H args us vs Q E hr he hb hv (h _ _ _ _ hs)⟩
theorem Xhx.make {P:Program}{w:World}{K:Frag}{mg:Str→Option Value}{base:Heap}{A:Around}{outer:List Env}{s:Shared}{H:Hp}(e:Xhx P w K mg base A outer s H)(C:Addr)(us:List Value)(kw:List (Str×Value)) :
  Xhx P w K mg base (A.under (.builtin "type.__call__" ⟨.ref C::us,kw⟩)) outer s H:=⟨by first | exact e.frames | (simpa [Around.under,Code.envs,Code.isFrame,pushEnvs] using e.frames),e.mod,e.bs,e.bsz,e.funs,e.frf,e.hok,e.bare⟩
section
variable {X:Cx}{pins:List (Addr×Obj)}{σ:St}{H:Hp}{s s':Shared}
theorem Inv.env0 (I:Inv X pins σ H s):Xhx X.prog X.w X.K X.mg X.base X.A X.stack s H:=
 ⟨I.ok.frames,I.ok.mod,I.bs,le_trans I.ok.bsz I.sz,I.stack,I.stkFree,I.hok,I.bare⟩
theorem Inv.after {Q:VK}{u:Value}(I:Inv X pins σ H s)(h:CE X.stack X.prog X.w H s Q u s'):EP X pins σ Q u s':=by
 obtain ⟨v,H',os,bare,un,hok,r,q⟩:=h
 obtain ⟨hh,g,d,t,os'⟩:=s'
 obtain rfl:os'=s.os:=os
 exact ⟨v,H',I.call (h':=hh) (g':=g) (d':=d) (t':=t) (ch:=[]) un hok bare (fun b z=>absurd z (by simp)),r,q⟩
end
def Zxl (sp:Sp)(dvs:List V)(E:XK)(t:TA):TE:=fun σ H Q=>t σ H fun vs H1=>sp (vs++dvs) H1 Q E
def Zmg (C:Addr)(m:Str)(sp:Sp)(dvs:List V)(E:XK)(ta:TE)(t:TA):TE:=fun σ H Q=>ta σ H fun x H1=>∃a dx fs,x=.ref a∧H1 a=some (.ins C dx fs)∧fs.lookup m=none∧
 t σ H1 fun vs H2=>sp (x::(vs++dvs)) H2 Q E
def Xkt (C:Addr)(sp:Sp)(dvs:List V)(E:XK)(t:TA):TE:=fun σ H Q=>t σ H fun vs H1=>∀x dx,H1 x=none→H1 dx=none→dx≠x→
 sp (.ref x::(vs++dvs)) (upd (upd H1 dx (.own x)) x (.ins C dx [])) (fun v H2=>v=.non∧Q (.ref x) H2) E
def Binds (K:Frag)(fd:FuncData)(ps:List Str)(ds:List Value):Prop:=
 ∀(s:Shared) (us:List Value),K.In s.heap→(us++ds).length=ps.length→BindsTo s fd ⟨us,[]⟩ (ps.zip (us++ds))
theorem Binds.all {K:Frag}{fd:FuncData}{ps:List Str}(h:∀us:List Value,us.length=ps.length→bindArgs fd ⟨us,[]⟩=pure (ps.zip us)):Binds K fd ps []:=fun s us _ hl=>by
 rw [append_nil] at hl ⊢
 exact .of_eq (h us hl)
def Zbp (CX:CXT)(X:Cx)(E:XK):Prop:=∀(pins:List (Addr×Obj)) (σ:St) (H:Hp) (s:Shared) (e:Value) (s':Shared),Inv X pins σ H s→CX X.stack H s E e s'→X.xe e s'
section
variable {X:Cx}{CX:CXT}{k:Nat}{f C:Addr}{fd:FuncData}{ps:List Str}{sp:Sp}{dvs:List V}{ds:List Value}{E:XK}{x m:Str}{p pos apos:Pos}{e o:Expr}{es:List Expr}{ta:TE}{t:TA}
theorem Zxz {pins:List (Addr×Obj)}{σ:St}{H:Hp}{s:Shared}{Q:VK}{us:List Value}{vs:List V}(F:Jx X.prog X.w X.K X.mg X.base CX k f fd ps sp)(hr:Zdx k X.A)(hb:Binds X.K fd ps ds)(hd:Jd dvs ds)(hx:Zbp CX X E)
  (I:Inv X pins σ H s) (r:Jd vs us) (h:sp (vs++dvs) H Q E):wpAny (model X.prog X.w) X.A (call (.ref f) us) (EP X pins σ Q) X.xe s:=by
 have r2:Jd (vs++dvs) (us++ds):=r.append hd
 have hl:(us++ds).length=ps.length:=by rw [← r2.length];exact F.len _ _ _ _ h
 refine wpAny_call (codeAny_mono (F.run X.A X.stack s H ⟨us,[]⟩ (us++ds) (vs++dvs) Q E hr I.env0 (hb s us I.kIn hl) r2 h) fun r s' hq=>?_)
 cases r with
 | error e=>exact hx pins σ H s e s' I hq
 | ok fl =>
  cases fl with
  | ret u=>exact I.after hq
  | next=>exact False.elim hq
  | brk=>exact False.elim hq
  | cont=>exact False.elim hq
theorem Xkr (F:Jx X.prog X.w X.K X.mg X.base CX k f fd ps sp)(hr:Zdx k X.A)(hg:Gl X x)(hm:X.mg x=some (.ref f))(hk:keepIn X.K (.ref f)=true)(hb:Binds X.K fd ps ds)(hd:Jd dvs ds)(hx:Zbp CX X E)
  (ha:PA X (e::es) t) (hdb:(x==("__debug__":Str))=false:=by decide) (he:starEach (e::es) X.env=(false,eval e X.env)::starEach es X.env:=by rfl) (hpl:(backTo pos (starEach es X.env)).any (·.1)=false:=by rfl) :
  PE X (.Call (.Name x p) (e::es) [] pos) (Zxl sp dvs E t):=by
 intro pins s σ H Q I h
 refine wpAny_Call_Name_kw (Ztk I hg hm ?_ hdb)
 refine callWith_K (h₀:=X.base) I.ok.mod.kin hk (thn (ha pos pins s σ H _ I h) fun us s1 ⟨vs,H1,I1,r,q⟩=>⟨I1.kIn,?_⟩) he hpl
 exact Zxz F hr hb hd hx I1 r q
theorem Zrx {pl:Sem Bool}(he:PE X o ta)(c:Cls X.K C)(hm:Meth X.K C m f)(F:Jx X.prog X.w X.K X.mg X.base CX k f fd ps sp)(hr:Zdx k X.A)(hb:Binds X.K fd ps ds)(hd:Jd dvs ds)(hx:Zbp CX X E)(ha:PA X (e::es) t)
    (hst:starEach (e::es) X.env=(false,eval e X.env)::starEach es X.env:=by rfl) (hpl:(backTo pos (starEach es X.env)).any (·.1)=false:=by rfl)
    (ht:eval (.Call (.Attribute o m apos) (e::es) [] pos) X.env=(do
      let ov ← eval o X.env
      standAt apos.atName
      let (f,first) ← holding [ov] (getMethod ov m pl)
      callWith pos f first (backTo pos (starEach (e::es) X.env)) (backToKw pos (keywordEach [] X.env))):=by rfl) :
    PE X (.Call (.Attribute o m apos) (e::es) [] pos) (Zmg C m sp dvs E ta t):=by
  intro pins s σ H Q I h
  refine PySem.W.methodCall_KW (pl:=pl) (thn (he pins s σ H _ I h) fun u s1 hz9=>?_) ht
  obtain ⟨x,H1,I1,rx,a,dx,fs,ex,ea,l,q⟩:=hz9
  subst ex
  obtain rfl:u=Value.ref a:=rx
  refine Zmp I1 ea c hm l ?_
  refine callWith_K (first:=[.ref a]) (h₀:=X.base) I.ok.mod.kin hm.kp (thn (ha pos pins s1 σ H1 _ I1 q) fun us s2 ⟨vs,H2,I2,r,q2⟩=>⟨I2.kIn,?_⟩) hst hpl
  exact Zxz (us:=.ref a::us) (vs:=.ref a::vs) F hr hb hd hx I2 (.cons rfl r) q2
theorem Ztq {pl:Sem Bool}(he:PE X o ta)(c:Cls X.K C)(hm:Meth X.K C m f)(F:Jx X.prog X.w X.K X.mg X.base CX k f fd ps sp)(hr:Zdx k X.A)(hb:Binds X.K fd ps ds)(hd:Jd dvs ds)(hx:Zbp CX X E)
    (ht:eval (.Call (.Attribute o m apos) [] [] pos) X.env=(do
      let ov ← eval o X.env
      standAt apos.atName
      let (f,first) ← holding [ov] (getMethod ov m pl)
      callWith pos f first (backTo pos (starEach [] X.env)) (backToKw pos (keywordEach [] X.env))):=by rfl) :
    PE X (.Call (.Attribute o m apos) [] [] pos) (Zmg C m sp dvs E ta Zvr):=by
  intro pins s σ H Q I h
  refine PySem.W.methodCall_KW (pl:=pl) (thn (he pins s σ H _ I h) fun u s1 hz9=>?_) ht
  obtain ⟨x,H1,I1,rx,a,dx,fs,ex,ea,l,q⟩:=hz9
  subst ex
  obtain rfl:u=Value.ref a:=rx
  refine Zmp I1 ea c hm l ?_
  exact PySem.W.callWith_K0 (first:=[.ref a]) I1.kIn hm.kp (Zxz (us:=[.ref a]) (vs:=[.ref a]) F hr hb hd hx I1 (.cons rfl .nil) q)
structure Mk (K:Frag)(C f:Addr):Prop where
 makes:makesIn K C=true
 init:findIn K (.ref C) "__init__"=some (some (.ref f))
 fn:isFn K (.ref f)=true
 kp:keepIn K (.ref C)=true
theorem Xea {pins:List (Addr×Obj)}{σ:St}{H:Hp}{s:Shared}{Q:VK}{us:List Value}{vs:List V}(M:Mk X.K C f)(F:Jx X.prog X.w X.K X.mg X.base CX k f fd ps sp)(hr:Zdx (k+1) X.A)(hb:Binds X.K fd ps ds)(hd:Jd dvs ds)
    (hx:Zbp CX X E) (I:Inv X pins σ H s) (r:Jd vs us)
    (h:∀x dx,H x=none→H dx=none→dx≠x→sp (.ref x::(vs++dvs)) (upd (upd H dx (.own x)) x (.ins C dx [])) (fun v H2=>v=.non∧Q (.ref x) H2) E) :
    wpAny (model X.prog X.w) X.A (call (.ref C) us) (EP X pins σ Q) X.xe s:=by
  have hq:=h (s.heap.objs.size+1) s.heap.objs.size (I.hok.fresh (Nat.le_succ _)) (I.hok.fresh (le_refl _)) (ne_of_lt (lt_succ_self _))
  have I2:=Inv.made (C:=C) I
  have r2:Jd (V.ref (s.heap.objs.size+1)::(vs++dvs)) (Value.ref (s.heap.objs.size+1)::(us++ds)):=.cons rfl (r.append hd)
  have hl:(Value.ref (s.heap.objs.size+1)::us++ds).length=ps.length:=by
    have e:=r2.length
    rw [F.len _ _ _ _ hq] at e
    exact e.symm
  refine wpAny_call (Xfn (f:=f) I.kIn M.makes M.init (beq_iff_eq.mp M.fn) (codeAny_mono (F.run _ X.stack _ _ ⟨Value.ref (s.heap.objs.size+1)::us,[]⟩ (Value.ref (s.heap.objs.size+1)::(us++ds)) _ _ E (hr.make C us [])
    (I2.env0.make C us []) (hb _ (Value.ref (s.heap.objs.size+1)::us) I2.kIn hl) r2 hq) fun r s' hq'=>?_))
  cases r with
  | error e=>exact hx pins σ _ _ e s' I2 hq'
  | ok fl =>
    cases fl with
    | ret u =>
      obtain ⟨v,H',I3,rv,ev,q3⟩:=I2.after hq'
      subst ev
      exact ⟨rv,⟨V.ref (s.heap.objs.size+1),H',I3,rfl,q3⟩⟩
    | next=>exact False.elim hq'
    | brk=>exact False.elim hq'
    | cont=>exact False.elim hq'
theorem Xlh (M:Mk X.K C f)(F:Jx X.prog X.w X.K X.mg X.base CX k f fd ps sp)(hr:Zdx (k+1) X.A)(hg:Gl X x)(hm:X.mg x=some (.ref C))(hb:Binds X.K fd ps ds)(hd:Jd dvs ds)(hx:Zbp CX X E)
  (ha:PA X (e::es) t) (hdb:(x==("__debug__":Str))=false:=by decide) (he:starEach (e::es) X.env=(false,eval e X.env)::starEach es X.env:=by rfl) (hpl:(backTo pos (starEach es X.env)).any (·.1)=false:=by rfl) :
  PE X (.Call (.Name x p) (e::es) [] pos) (Xkt C sp dvs E t):=by
 intro pins s σ H Q I h
 refine wpAny_Call_Name_kw (Ztk I hg hm ?_ hdb)
 refine callWith_K (h₀:=X.base) I.ok.mod.kin M.kp (thn (ha pos pins s σ H _ I h) fun us s1 ⟨vs,H1,I1,r,q⟩=>⟨I1.kIn,?_⟩) he hpl
 exact Xea M F hr hb hd hx I1 r q
end
section
variable {X:Cx}{CX:CXT}{k:Nat}{f C:Addr}{fd:FuncData}{ps ks:List Str}{sp:Sp}{E:XK}{x m:Str}{p pos apos kpos:Pos}{e o:Expr}{es:List Expr}{kws:List Keyword}{te ta:TE}{t tk:TA}{nm:Option Str}
structure KBinds (K:Frag)(fd:FuncData)(ps ks:List Str)(g:List Value→List Value→List Value)(gV:List V→List V→List V):Prop where
 to:∀(s:Shared) (us ws:List Value),K.In s.heap→(g us ws).length=ps.length→BindsTo s fd ⟨us,ks.zip ws⟩ (ps.zip (g us ws))
 rel:∀{vs:List V} {us:List Value} {zs:List V} {ws:List Value},Jd vs us→Jd zs ws→Jd (gV vs zs) (g us ws)
variable {g:List Value→List Value→List Value}{gV:List V→List V→List V}
end
structure Zv (N P:List Str)(sc:Scope):Prop where
 kind:sc.kind=.function
 co:sc.isCoroutine=false
 gen:sc.isGenerator=false
 nd:N.Nodup
 pre:N.take P.length=P
 par:∀x∈P,sc.names.lookup x=some .local∨sc.names.lookup x=some .cell
 nofree:∀y∈sc.names,y.2≠.free
theorem Zpx {kindOf:Str→Option NameKind}{x:Str}:∀{binds:List (Str×Value)} {m:Str→Option Value},(∀v,(x,v)∉binds)→bindL kindOf binds m x=m x
 | [],_,_=>rfl
 | (n,v)::r,m,h=>by
  unfold bindL
  rw [Zpx fun w hw=>h w (mem_cons_of_mem _ hw)]
  split
  ·have:x≠n:=by rintro rfl;exact h v mem_cons_self
   simp [this]
  ·rfl
theorem Zqs {kindOf:Str→Option NameKind}{x:Str}:∀{binds:List (Str×Value)} {m:Str→Option Value},(∀v,(x,v)∉binds)→bindC kindOf binds m x=m x
 | [],_,_=>rfl
 | (n,v)::r,m,h=>by
  unfold bindC
  rw [Zqs fun w hw=>h w (mem_cons_of_mem _ hw)]
  split
  ·rfl
  ·have:x≠n:=by rintro rfl;exact h v mem_cons_self
   simp [this]
theorem Zqx {kindOf:Str→Option NameKind}{x:Str}{v:Value}:∀{P:List Str} {vs:List Value} {i:Nat} {m:Str→Option Value},P.Nodup→P[i]?=some x→vs[i]?=some v→kindOf x=some .local→
  bindL kindOf (P.zip vs) m x=some v
 | [],_,_,_,_,h,_,_=>by simp at h
 | _::_,[],_,_,_,_,h,_=>by simp at h
 | p::P,w::vs,0,m,nd,h1,h2,hk=>by
  simp at h1 h2;subst h1;subst h2
  show bindL kindOf ((p,w)::P.zip vs) m p=_
  unfold bindL
  rw [Zpx fun v hv=>(List.nodup_cons.mp nd).1 (List.of_mem_zip hv).1,if_pos hk]
  simp
 | p::P,w::vs,i+1,m,nd,h1,h2,hk=>by
  show bindL kindOf ((p,w)::P.zip vs) m x=_
  unfold bindL
  exact Zqx (i:=i) (List.nodup_cons.mp nd).2 (by simpa using h1) (by simpa using h2) hk
theorem Zpc {kindOf:Str→Option NameKind}{x:Str}{v:Value}:∀{P:List Str} {vs:List Value} {i:Nat} {m:Str→Option Value},P.Nodup→P[i]?=some x→vs[i]?=some v→kindOf x≠some .local→
  bindC kindOf (P.zip vs) m x=some v
 | [],_,_,_,_,h,_,_=>by simp at h
 | _::_,[],_,_,_,_,h,_=>by simp at h
 | p::P,w::vs,0,m,nd,h1,h2,hk=>by
  simp at h1 h2;subst h1;subst h2
  show bindC kindOf ((p,w)::P.zip vs) m p=_
  unfold bindC
  rw [Zqs fun v hv=>(List.nodup_cons.mp nd).1 (List.of_mem_zip hv).1,if_neg hk]
  simp
 | p::P,w::vs,i+1,m,nd,h1,h2,hk=>by
  show bindC kindOf ((p,w)::P.zip vs) m x=_
  unfold bindC
  exact Zpc (i:=i) (List.nodup_cons.mp nd).2 (by simpa using h1) (by simpa using h2) hk
noncomputable def start (N:List Str)(vs:List V):St:=vs.map some++List.replicate (N.length - vs.length) none
noncomputable def Xek (CX:CXT)(P:Program)(w:World)(K:Frag)(mg:Str→Option Value)(base:Heap)(N:List Str)(qual:Str)(scope:Scope)(f:Addr)(cd:Value)(A:Around)(outer:List Env)(s:Shared)(H:Hp)(E:XK):Cx where
 prog:=P
 w:=w
 K:=K
 mg:=mg
 base:=base
 A:=A.deeper (envOfC qual scope s.heap.objs.size f cd)
 N:=N
 s₀:=s
 H₀:=H
 env:=envOfC qual scope s.heap.objs.size f cd
 outer:=outer
 stack:=envOfC qual scope s.heap.objs.size f cd::outer
 ex:=[]
 calm:=true
 fn:=fun _=>true
 pn:=[]
 xe:=fun e s'=>wpAny (model P w) (A.deeper (envOfC qual scope s.heap.objs.size f cd)) (leaving (envOfC qual scope s.heap.objs.size f cd) e) (fun _ s''=>CX outer H s E e s'') (fun e' s''=>CX outer H s E e' s'') s'
theorem Zue {sc:Scope}{n:Nat}{x:Str}(h:sc.names.lookup x=some .cell):∃c,(cellsFrom n sc.names []).lookup x=some c:=by
 have q:=PySem.W.cellsFrom_some sc.names n [] (.inl h)
 exact Option.isSome_iff_exists.mp q
theorem Zyj {CX:CXT}{P:Program}{w:World}{K:Frag}{mg:Str→Option Value}{base:Heap}{N ps:List Str}{qual:Str}{scope:Scope}{f:Addr}{cd:Value}{A:Around}{outer:List Env}{s s1:Shared}{H:Hp}{E:XK}{us:List Value}{vs:List V}
    (S:Zv N ps scope) (hd:A.handled=none) (e0:Xhx P w K mg base A outer s H) (hl:vs.length=ps.length) (r:Jd vs us)
    (x:InCallC s s.heap.objs.size (bindL (envOfC qual scope s.heap.objs.size f cd).kindOf (ps.zip us) fun _=>none) (cellsFrom (s.heap.objs.size+1) scope.names []) (bindC (envOfC qual scope s.heap.objs.size f cd).kindOf (ps.zip us) fun _=>none) s1) :
    Inv (Xek CX P w K mg base N qual scope f cd A outer s H E) [] (start N vs) H s1:=by
  have hpl:ps.length≤N.length:=by have:=congrArg List.length S.pre;rw [length_take] at this;omega
  obtain ⟨h1,tk,rfl,hk⟩:=x.done
  have noA:∀b:Addr,b∉(Xek CX P w K mg base N qual scope f cd A outer s H E).ex:=fun b z=>absurd (show b∈([]:List Addr) from z) (by simp)
  refine ⟨⟨e0.mod,S.kind,rfl,rfl,le_refl _,fun y z c h1 h2=>?_,fun y hy=>?_,fun y c _ h=>?_,fun _=>hd,Around.frames_deeper e0.frames,.inr ⟨rfl,rfl⟩,fun b z=>absurd z (noA b),e0.bs,e0.bsz,fun b _ _=>noA b,fun b z=>absurd z (noA b),e0.funs,e0.frf⟩,
    rfl,e0.bare,Un.kept hk,⟨_,x.toInCall.ns,fun i y v h1 h2 h3=>?_⟩,fun y c h=>⟨_,x.cell y c h⟩,e0.hok.fresh (le_refl _),fun y c h=>?_,fun p hp=>absurd (show p∈([]:List (Addr×Obj)) from hp) (by simp),e0.hok.kept hk,?_⟩
  · exact name_of_addr x.apart (PySem.mem_of_lookup h1) (PySem.mem_of_lookup h2)
  · have hy:scope.names.lookup y=some .cell∨scope.names.lookup y=some .free:=hy
    rcases hy with hy | hy
    · exact Zue hy
    · exact absurd rfl (S.nofree _ (PySem.mem_of_lookup hy))
  · exact le_of_lt (x.above y c (PySem.mem_of_lookup h))
  · have hi:i<vs.length:=by
      unfold start at h2
      by_cases hi:i<vs.length
      · exact hi
      · rw [getElem?_append_right (by simpa using hi)] at h2
        rw [List.getElem?_replicate] at h2
        split at h2<;>cases h2
    have ha:vs[i]?=some v:=by
      unfold start at h2
      rw [getElem?_append_left (by simpa using hi),getElem?_map] at h2
      cases e:vs[i]? with
      | none=>rw [e] at h2;cases h2
      | some a=>rw [e] at h2;cases h2;rfl
    obtain ⟨u,hu,rv⟩:=r.get ha
    have hp:ps[i]?=some y:=by
      rw [← S.pre,List.getElem?_take_of_lt (by omega)];exact h1
    have ndP:ps.Nodup:=by rw [← S.pre];exact S.nd.sublist (List.take_sublist _ _)
    refine ⟨u,rv,?_⟩
    rcases S.par y (mem_of_getElem? hp) with k | k
    · exact .inl ⟨k,Zqx ndP hp hu k⟩
    · obtain ⟨c,e⟩:=Zue (n:=s.heap.objs.size+1) k
      refine .inr ⟨.inl k,c,e,?_⟩
      have q:=x.cell y c e
      rw [Zpc ndP hp hu (by show scope.names.lookup y≠_;rw [k];decide)] at q
      exact q
  · exact e0.hok.fresh (le_of_lt (x.above y c (PySem.mem_of_lookup h)))
  · unfold start
    show _=N.length
    rw [length_append,length_map,length_replicate]
    omega
theorem fn_of {CX:CXT}{P:Program}{w:World}{K:Frag}{mg:Str→Option Value}{base:Heap}{k:Nat}{f:Addr}{name qual:Str}{params:Arguments}{body:List Stmt}{scope:Scope}{dV kV doc pm cdv ct oc:Value}{an od:Option Addr}
    {osl:Array (Option Value)} {N ps:List Str} {sp:Sp} (lk:K.lookup f=some ⟨oc,od,.func (fnOf name qual params body scope dV kV doc pm an cdv ct),osl⟩) (hcd:codeIn K cdv qual=true) (S:Zv N ps scope)
    (len:∀vs H Q E,sp vs H Q E→vs.length=ps.length)
    (hbody:∀(A:Around) (outer:List Env) (s:Shared) (H:Hp) (vs:List V) (Q:VK) (E:XK),Zdx k (A.deeper (envOfC qual scope s.heap.objs.size f cdv))→sp vs H Q E→
      ∃t,PSs (Xek CX P w K mg base N qual scope f cdv A outer s H E) body t∧t {nx:=fun _ H'=>Q .non H',rt:=Q} (start N vs) H) :
    Jx P w K mg base CX (k+1) f (fnOf name qual params body scope dV kV doc pm an cdv ct) ps sp:=by
  refine ⟨len,fun A outer s H args us vs Q E hr e0 hb r hsp=>?_⟩
  have hl:=len _ _ _ _ hsp
  have KX:K.In s.heap:=e0.mod.kin.keeps fun b o e=>(e0.bs b o e).1
  have lim:s.heap.NoLimit:=e0.mod.nolimit.keeps fun b o e=>(e0.bs b o e).1
  have hkind:∀y∈ps.zip us,scope.names.lookup y.1=some .local∨(scope.names.lookup y.1=some .cell∧((cellsFrom (s.heap.objs.size+1) scope.names []).lookup y.1).isSome=true):=fun ⟨n,v⟩ hy=>by
    rcases S.par n (List.of_mem_zip hy).1 with q | q
    · exact .inl q
    · exact .inr ⟨q,PySem.W.cellsFrom_some _ _ _ (.inl q)⟩
  refine codeAny_call_function hr.depth (KX _ _ lk) rfl S.co S.gen rfl (PySem.W.codeRec_of KX hcd) (hb _ _ _ _ ?_)
  refine wpAny_newFunctionEnv_cells S.kind hkind fun env he s1 x=>?_
  subst he
  refine ⟨lim.keeps x.toInCall.keep,codeAny_func ?_⟩
  obtain ⟨t,ht,hq⟩:=hbody A outer s H vs Q E (hr.deeper _) hsp
  have I:Inv (Xek CX P w K mg base N qual scope f cdv A outer s H E) [] (start N vs) H s1:=Zyj S hr.hd e0 hl r x
  refine wpAny_mono (ht [] s1 (start N vs) H _ I hq) (fun fl s' hs=>?_) fun e s' hs=>hs
  have fin:∀{σ':St} {H':Hp} {v:V} {u:Value},Inv (Xek CX P w K mg base N qual scope f cdv A outer s H E) [] σ' H' s'→RelV v u→Q v H'→CE outer P w H s Q u s':=
    fun {σ' H' v u} J rv q=>⟨v,H',J.os,J.bare,J.base,J.hok,rv,q⟩
  cases fl with
  | ret u =>
    obtain ⟨v,σ',H',J,rv,q⟩:=hs
    exact fin J rv q
  | next =>
    obtain ⟨σ',H',J,q⟩:=hs
    exact fin (v:=V.non) (u:=Value.none) J rfl q
  | brk =>
    obtain ⟨_,_,_,q⟩:=hs
    exact False.elim q
  | cont =>
    obtain ⟨_,_,_,q⟩:=hs
    exact False.elim q
section
variable {X:Cx}{x:Str}{p pos:Pos}{e:Expr}{es:List Expr}{t:TA}{id T:String}{r:List V→Hp→VK→Prop}
def tCB (r:List V→Hp→VK→Prop)(t:TA):TE:=fun σ H Q=>t σ H fun vs H1=>r vs H1 Q
theorem Xeu (hc:Zcd X (.builtin id) r)(hg:Gl X x)(hm:X.mg x=none)(hv:bootBuiltins x=some (.builtin id))(ha:PA X (e::es) t)(hn:x≠"__name__":=by decide)(hdb:(x==("__debug__":Str))=false:=by decide)
  (he:starEach (e::es) X.env=(false,eval e X.env)::starEach es X.env:=by rfl) (hpl:(backTo pos (starEach es X.env)).any (·.1)=false:=by rfl):PE X (.Call (.Name x p) (e::es) [] pos) (tCB r t):=by
 intro pins s σ H Q I h
 refine wpAny_Call_Name_kw (Znc I hg hm hv ?_ hn hdb)
 exact PyProof.Rows.callWith_builtin1 (thn (ha pos pins s σ H _ I h) fun us s1 ⟨vs,H1,I1,r1,q1⟩=>hc pins s1 σ H1 vs us Q I1 r1 q1) he hpl
theorem Zxx (hc:Zcd X (.type T) r)(hg:Gl X x)(hm:X.mg x=none)(hv:bootBuiltins x=some (.type T))(ha:PA X (e::es) t)(hn:x≠"__name__":=by decide)(hdb:(x==("__debug__":Str))=false:=by decide)
  (he:starEach (e::es) X.env=(false,eval e X.env)::starEach es X.env:=by rfl) (hpl:(backTo pos (starEach es X.env)).any (·.1)=false:=by rfl):PE X (.Call (.Name x p) (e::es) [] pos) (tCB r t):=by
 intro pins s σ H Q I h
 refine wpAny_Call_Name_kw (Znc I hg hm hv ?_ hn hdb)
 exact PyProof.Rows.callWith_type1 (thn (ha pos pins s σ H _ I h) fun us s1 ⟨vs,H1,I1,r1,q1⟩=>hc pins s1 σ H1 vs us Q I1 r1 q1) he hpl
end
end L2
namespace HT
open PySem PyProof.Rows
noncomputable def lexLt:List Int→List Int→Bool
 | [],[]=>false
 | [],_::_=>true
 | _::_,[]=>false
 | x::xs,y::ys=>if x=y then lexLt xs ys else decide (x<y)
section
open PySem.SeqAt
open PySem.AutoSeq1 (wpAny_loadPart')
open PySem.MeetsSeq PySem.MeetsSeq2 PySem.MeetsSeq3
variable {prog:Program}{w:World}{A:Around}{E:Value→Shared→Prop}{s:Shared}
noncomputable def sIx (n d:Nat):Option Int→Nat
 | none=>d
 | some v=>if v<0 then (v+(n:Int)).toNat else min v.toNat n
theorem clip_eq (v:Int)(n d:Nat):(if v<0 then max (v+(n:Int)) 0 else min v (n:Int))=((sIx n d (some v):Nat):Int):=by
 show (if v<0 then max (v+(n:Int)) 0 else min v (n:Int))=(((if v<0 then (v+(n:Int)).toNat else min v.toNat n):Nat):Int)
 by_cases hv:v<0
 ·simp only [if_pos hv];omega
 ·simp only [if_neg hv];omega
end
end HT
namespace L2
open PySem PySem.Spec PyProof.Rows
noncomputable abbrev TO:=St→Hp→(Option Int→Hp→Prop)→Prop
def PO (X:Cx)(e:Option Expr)(t:TO):Prop:=
 ∀(pins:List (Addr×Obj)) (s:Shared) (σ:St) (H:Hp) (Q:Option Int→Hp→Prop),Inv X pins σ H s→t σ H Q→
  wpAny (model X.prog X.w) X.A (evalPart e X.env) (fun u s'=>∃o H',Inv X pins σ H' s'∧IsPart u o∧Q o H') X.xe s
noncomputable def Zoo:TO:=fun _ H Q=>Q none H
noncomputable def Xdj (t:TE):TO:=fun σ H Q=>t σ H fun x H1=>∃i,x=.int i∧Q (some i) H1
theorem intsAre_of {ns:List Int}:∀{us:List Value},Jd (ns.map V.int) us→IntsAre us ns:=by
 induction ns with
 | nil=>intro us r;rw [map_nil] at r;cases r;exact .nil
 | cons n ns ih =>
  intro us r
  rw [map_cons] at r
  cases r with
  | cons r1 r2 =>
   obtain ⟨t,e⟩:=r1
   subst e
   exact .cons n t (ih r2)
section
variable {X:Cx}{e:Expr}{te:TE}{lo hi:Option Expr}{tl th:TO}{pos p2:Pos}
theorem Xmg:PO X none Zoo:=by
 intro pins s σ H Q I h
 rw [evalPart_none]
 exact wpAny_pure ⟨none,H,I,.none,h⟩
theorem Xjf (h:PE X e te):PO X (some e) (Xdj te):=by
 intro pins s σ H Q I hw
 rw [evalPart_some]
 refine thn (h pins s σ H _ I hw) fun u s1 hz9=>?_
 obtain ⟨x,H1,I1,r1,q1⟩:=hz9
 obtain ⟨i,rfl,q⟩:=q1
 obtain ⟨t,rfl⟩:=r1
 exact ⟨some i,H1,I1,.int i t,q⟩
def SlR (X:Cx)(r:V→Option Int→Option Int→Hp→VK→Prop):Prop:=
 ∀(pins:List (Addr×Obj)) (s:Shared) (σ:St) (H:Hp) (x:V) (v vl vu:Value) (lo hi:Option Int) (sl:Addr) (Q:VK),Inv X pins σ H s→RelV x v→s.heap.IsSliceOf sl vl vu .none→IsPart vl lo→IsPart vu hi→r x lo hi H Q→
  ∃T id,typeLookup (.type T) "__getitem__"=pure (some (.builtin id))∧s.TypeIs v T∧wpAny (model X.prog X.w) X.A (getItem v (.ref sl)) (EP X pins σ Q) X.xe s
def tSl (r:V→Option Int→Option Int→Hp→VK→Prop)(te:TE)(tl th:TO):TE:=fun σ H Q=>te σ H fun x H1=>tl σ H1 fun l H2=>th σ H2 fun u H3=>r x l u H3 Q
theorem Xfu {r:V→Option Int→Option Int→Hp→VK→Prop}(hr:SlR X r)(he:PE X e te)(hl:PO X lo tl)(hu:PO X hi th):PE X (.Subscript e (.Slice lo hi none p2) pos) (tSl r te tl th):=by
 intro pins s σ H Q I h
 refine Subscript_ (thn (he pins s σ H _ I h) fun v s1 hz9=>?_)
 obtain ⟨x,H1,I1,r1,q1⟩:=hz9
 refine wpAny_Slice (thn (hl pins s1 σ H1 _ I1 q1) fun vl s2 ⟨l,H2,I2,pl,q2⟩=>thn (hu pins s2 σ H2 _ I2 q2) fun vu s3 ⟨u,H3,I3,pu,q3⟩=>?_)
 rw [evalPart_none]
 refine wpAny_pure ?_
 have I4:Inv X pins σ H3 {s3 with heap:=s3.heap.push {cls:=.type "slice",data:=.fields #[vl,vu,.none]}}:=I3.kept (t':=s3.toks) fun b ob q=>get?_push_of_some _ q
 obtain ⟨T,id,hT,ht,hg⟩:=hr pins {s3 with heap:=s3.heap.push {cls:=.type "slice",data:=.fields #[vl,vu,.none]}} σ H3 x v vl vu l u s3.heap.objs.size Q I4 r1 (Heap.IsSliceOf.new ..) pl pu q3
 show wpAny (model X.prog X.w) X.A (subscriptTail e (.Slice lo hi none p2) v (.ref s3.heap.objs.size)) (EP X pins σ Q) X.xe {s3 with heap:=s3.heap.push {cls:=.type "slice",data:=.fields #[vl,vu,.none]}}
 exact tail_any (ops:=[.ref s3.heap.objs.size,v]) ht hT hg (by with_unfolding_all rfl)
noncomputable def Xdm (xs:List V)(lo hi:Option Int):List V:=(xs.drop (HT.sIx xs.length 0 lo)).take (HT.sIx xs.length xs.length hi - HT.sIx xs.length 0 lo)
theorem Ztp (xs:List V)(lo hi:Option Int):(Xdm xs lo hi).length≤xs.length:=by
 unfold Xdm
 rw [length_take,List.length_drop]
 omega
end
noncomputable def ixN (n:Nat)(i:Int):Option Nat:=if 0≤i then (if i<n then some i.toNat else none) else if -(n:Int)≤i then some (i+n).toNat else none
noncomputable def atI {α:Type}(xs:List α)(i:Int):Option α:=(ixN xs.length i).bind fun j=>xs[j]?
theorem Zsf {n:Nat}{i:Int}{j:Nat}(h:ixN n i=some j):seqIndex? i n=some j∧j<n∧-(n:Int)≤i∧i<n:=by
 unfold ixN at h
 by_cases h0:0≤i
 ·rw [if_pos h0] at h
  by_cases h1:i<n
  ·rw [if_pos h1] at h
   have e:i.toNat=j:=Option.some.inj h
   exact ⟨by rw [seqIndex_of h0 h1,e],by omega,by omega,h1⟩
  ·rw [if_neg h1] at h;cases h
 ·rw [if_neg h0] at h
  by_cases h1:-(n:Int)≤i
  ·rw [if_pos h1] at h
   have e:(i+n).toNat=j:=Option.some.inj h
   exact ⟨by rw [seqIndex_neg (by omega) h1,e],by omega,h1,by omega⟩
  ·rw [if_neg h1] at h;cases h
theorem Zfw {α:Type}{xs:List α}{i:Int}{v:α}(h:atI xs i=some v):∃j,seqIndex? i xs.length=some j∧xs[j]?=some v∧j<xs.length∧-(xs.length:Int)≤i∧i<xs.length:=by
 unfold atI at h
 cases e:ixN xs.length i with
 | none=>rw [e] at h;cases h
 | some j =>
  rw [e] at h
  obtain ⟨h1,h2,h3,h4⟩:=Zsf e
  exact ⟨j,h1,h,h2,h3,h4⟩
def Zek (b:Expr):Prop:=∀o i,subscripted b false o i=operate [o,i] (getItem o i)
def IxR (X:Cx)(r:R2):Prop:=
 ∀(value slice:Expr) (pins:List (Addr×Obj)) (s:Shared) (σ:St) (H:Hp) (x y:V) (v u:Value) (Q:VK),Inv X pins σ H s→RelV x v→RelV y u→r x y H Q→
  subscripted slice false v u=operate [v,u] (getItem v u)→wpAny (model X.prog X.w) X.A (subscriptTail value slice v u) (EP X pins σ Q) X.xe s
def MtR (X:Cx)(id:String)(r:V→List V→Hp→VK→Prop):Prop:=
 ∀(pins:List (Addr×Obj)) (s:Shared) (σ:St) (H:Hp) (x:V) (xs:List V) (v:Value) (us:List Value) (Q:VK),Inv X pins σ H s→RelV x v→Jd xs us→r x xs H Q→
  wpAny (model X.prog X.w) X.A (call (.builtin id) (v::us)) (EP X pins σ Q) X.xe s
section
variable {X:Cx}{a b:Expr}{ta tb:TE}{pos:Pos}
theorem IxR.or {r r':R2}(h:IxR X r)(h':IxR X r'):IxR X (fun x y H Q=>r x y H Q∨r' x y H Q):=by
 intro value slice pins s σ H x y v u Q I rx ry q hs
 rcases q with q | q
 ·exact h value slice pins s σ H x y v u Q I rx ry q hs
 ·exact h' value slice pins s σ H x y v u Q I rx ry q hs
theorem pe_ix {r:R2}(hr:IxR X r)(ha:PE X a ta)(hb:PE X b tb)(hs:Zek b):PE X (.Subscript a b pos) (tOp r ta tb):=by
 intro pins s σ H Q I h
 exact Subscript_ (binT ha hb I h fun v u s2 x y H2 I2 rx ry q=>hr a b pins s2 σ H2 x y v u Q I2 rx ry q (hs _ _))
noncomputable def rIxL (K:Frag):R2:=fun x y H Q=>∃p xs i v,x=.ref p∧y=.int i∧SqL K H p xs∧atI xs i=some v∧Q v H
noncomputable def rIxT (K:Frag):R2:=fun x y H Q=>∃p xs i v,x=.ref p∧y=.int i∧SqT K H p xs∧atI xs i=some v∧Q v H
noncomputable def rIxS:R2:=fun x y H Q=>∃z i c,x=.str z∧y=.int i∧z.length≤sizeLine∧atI z.cps.toList i=some c∧Q (.str ⟨#[c]⟩) H
theorem Xka:IxR X (rIxL X.K):=by
 intro value slice pins s σ H x y v u Q I rx ry h hs
 obtain ⟨p,xs,i,z,rfl,rfl,hq,he,q⟩:=h
 cases rx
 obtain ⟨t,rfl⟩:=ry
 obtain ⟨its,r,pl,hz⟩:=I.list hq
 obtain ⟨j,h1,h2,h3,h4,h5⟩:=Zfw he
 obtain ⟨w,ew,rw'⟩:=r.get h2
 have hl:=r.length
 have hn:=Zmr
 have fin:EP X pins σ Q w s:=⟨z,H,I,rw',q⟩
 by_cases h0:0≤i
 ·have hj:i.toNat=j:=by
   rw [seqIndex_of h0 h5] at h1
   exact Option.some.inj h1
  exact item_listR pl.isList h0 (by omega) (by rw [hj];simpa using ew) fin hs
 ·have hj:(i+(its.toArray.size:Int)).toNat=j:=by
   rw [seqIndex_neg (by omega) h4] at h1
   rw [size_toArray,← hl]
   exact Option.some.inj h1
  exact subscriptTail_builtinR (x:=w) pl.isList.typeIs slot_list_getitem.lookup
   (wpAny_getItem_list_neg (Q:=fun r s'=>r=w∧EP X pins σ Q r s') pl.isList (by omega) (by rw [size_toArray]<;>omega) (by omega) (by rw [hj];simpa using ew) ⟨rfl,fin⟩) hs
theorem Xsg:IxR X (rIxT X.K):=by
 intro value slice pins s σ H x y v u Q I rx ry h hs
 obtain ⟨p,xs,i,z,rfl,rfl,hq,he,q⟩:=h
 cases rx
 obtain ⟨t,rfl⟩:=ry
 obtain ⟨its,r,pl,hz⟩:=I.tuple hq
 obtain ⟨j,h1,h2,h3,h4,h5⟩:=Zfw he
 obtain ⟨w,ew,rw'⟩:=r.get h2
 have hl:=r.length
 have hn:=Zmr
 have fin:EP X pins σ Q w s:=⟨z,H,I,rw',q⟩
 exact subscriptTail_builtinR (x:=w) pl.typeIs slot_tuple_getitem.lookup
  (getItem_tuple (j:=j) (Q:=fun r s'=>r=w∧EP X pins σ Q r s') pl (by omega) (by omega) (by rw [size_toArray,← hl];exact h1) (by simpa using ew) ⟨rfl,fin⟩) hs
theorem Xpm:IxR X rIxS:=by
  intro value slice pins s σ H x y v u Q I rx ry h hs
  obtain ⟨z,i,c,rfl,rfl,hz,he,q⟩:=h
  obtain ⟨t,rfl⟩:=rx
  obtain ⟨t',rfl⟩:=ry
  obtain ⟨j,h1,h2,h3,h4,h5⟩:=Zfw he
  have hl:z.cps.toList.length=z.length:=by simp [Str.length]
  rw [hl] at h1 h4 h5
  have hn:=Zmr
  exact tail_any (typeIs_str s z t) slot_str_getitem.lookup (getItem_str (c:=c) (by
    have e1:decide (i < -(2 ^ 63:Int))=false:=decide_eq_false (by omega)
    have e2:decide (i≥2 ^ 63)=false:=decide_eq_false (by omega)
    rw [e1,e2,Bool.or_false]) (by rw [h1];simpa using h2) ⟨.str ⟨#[c]⟩,H,I.tok _,⟨_,rfl⟩,q⟩) hs
noncomputable def rIx (K:Frag):R2:=fun x y H Q=>rIxL K x y H Q∨rIxT K x y H Q∨rIxS x y H Q
theorem Zvc:IxR X (rIx X.K):=Xka.or (Xsg.or Xpm)
theorem Zwr (its:List Value)(n j:Nat)(u:Value):Obj.mapSeq (·.setIfInBounds j u) {cls:=.type "list",data:=.seq its.toArray n}={cls:=.type "list",data:=.seq (its.set j u).toArray n}:=by
 simp [Obj.mapSeq]
theorem Inv.lst {pins:List (Addr×Obj)}{σ:St}{H:Hp}{s:Shared}{p:Addr}{xs:List V}(I:Inv X pins σ H s)(h:H p=some (.lst xs)) :
  ∃(its:List Value) (n:Nat),Jd xs its∧s.heap.get? p=some {cls:=.type "list",data:=.seq its.toArray n}∧xs.length≤sizeLine:=by
 obtain ⟨z,its,n,r,e⟩:=I.hok p _ h
 exact ⟨its,n,r,e,z⟩
theorem Inv.lstUpd {pins:List (Addr×Obj)}{σ:St}{H:Hp}{s:Shared}{p:Addr}{xs ys:List V}{its its':List Value}{n n':Nat}{f:Obj→Obj}(I:Inv X pins σ H s)(h:H p=some (.lst xs))
  (ho:s.heap.get? p=some {cls:=.type "list",data:=.seq its.toArray n}) (hf:f {cls:=.type "list",data:=.seq its.toArray n}={cls:=.type "list",data:=.seq its'.toArray n'}) (r:Jd ys its') (hz:ys.length≤sizeLine) (t:Nat) :
  Inv X pins σ (upd H p (.lst ys)) {s with heap:=s.heap.update p f,toks:=t}:=by
 have e:(s.heap.update p f).get? p=some {cls:=.type "list",data:=.seq its'.toArray n'}:=by
  rw [Heap.get?_update_self f ho (by rw [hf]<;>rfl),hf]
 refine I.write (x:=p) (e:=p) (by rw [h];trivial) (.inl rfl) (fun b u hb q=>(Heap.get?_update_other _ _ (Ne.symm hb)).trans q) ⟨_,e⟩ ?_
 exact ⟨hz,its',n',r,e⟩
def Xlq:V→V→V→Hp→(Hp→Prop)→Prop:=fun o i v H Q=>∃p xs k j,o=.ref p∧i=.int k∧H p=some (.lst xs)∧ixN xs.length k=some j∧Q (upd H p (.lst (xs.set j v)))
theorem set_list:PSet X Xlq:=by
 intro pins s σ H o i v ov iv u Q I ro ri rv h
 obtain ⟨p,xs,k,j,rfl,rfl,hp,hj,q⟩:=h
 cases ro
 obtain ⟨t,rfl⟩:=ri
 obtain ⟨its,n,r,ho,hz⟩:=I.lst hp
 obtain ⟨h1,h2,h3,h4⟩:=Zsf hj
 have hl:=r.length
 have hn:=Zmr
 have I':Inv X pins σ (upd H p (.lst (xs.set j v))) {s with heap:=s.heap.update p (Obj.mapSeq (·.setIfInBounds j u))}:=
  I.lstUpd hp ho (Zwr its n j u) (r.set rv j) (by rw [length_set];exact hz) s.toks
 by_cases h0:0≤k
 ·have hk:k.toNat=j:=by
   rw [seqIndex_of h0 h4] at h1
   exact Option.some.inj h1
  exact PySem.W.ki_setAt ho h0 (by omega) (by rw [size_toArray,← hl];exact h4) (by rw [hk];exact ⟨_,I',q⟩)
 ·have hk:(k+(its.toArray.size:Int)).toNat=j:=by
   rw [seqIndex_neg (by omega) h3] at h1
   rw [size_toArray,← hl]
   exact Option.some.inj h1
  exact PySem.W.ki_setBack ho (by omega) (by rw [size_toArray,← hl];exact h3) (by omega) (by rw [hk];exact ⟨_,I',q⟩)
theorem Zpt (lo hi:Option Int)(n:Nat):(sliceBounds lo hi none n).1=((HT.sIx n 0 lo:Nat):Int)∧(sliceBounds lo hi none n).2.1=((HT.sIx n n hi:Nat):Int)∧(sliceBounds lo hi none n).2.2=1:=by
 refine ⟨?_,?_,rfl⟩
 ·cases lo with
  | none=>simp [sliceBounds,HT.sIx]
  | some i =>
   simp only [sliceBounds,HT.sIx,Option.getD_none,show (1:Int) > 0 by decide,if_true]
   by_cases h:i<0
   ·simp only [h,if_true]<;>omega
   ·simp only [h,if_false]<;>omega
 ·cases hi with
  | none=>simp [sliceBounds,HT.sIx]
  | some i =>
   simp only [sliceBounds,HT.sIx,Option.getD_none,show (1:Int) > 0 by decide,if_true]
   by_cases h:i<0
   ·simp only [h,if_true]<;>omega
   ·simp only [h,if_false]<;>omega
theorem Znz (its:List Value)(lo hi:Option Int):slicePick its.toArray lo hi none=((its.drop (HT.sIx its.length 0 lo)).take (HT.sIx its.length its.length hi - HT.sIx its.length 0 lo)).toArray:=by
 obtain ⟨h1,h2,h3⟩:=Zpt lo hi its.toArray.size
 unfold slicePick
 rw [h1,h2,h3]
 simp only [sliceRange_one,pick_run,size_toArray]<;>rfl
def rSlL (K:Frag):V→Option Int→Option Int→Hp→VK→Prop:=fun x lo hi H Q=>∃a xs,x=.ref a∧SqL K H a xs∧∀p,H p=none→Q (.ref p) (upd H p (.lst (Xdm xs lo hi)))
theorem Xjw:SlR X (rSlL X.K):=by
 intro pins s σ H x v vl vu lo hi sl Q I rx hs pl pu h
 obtain ⟨a,xs,rfl,hx,q⟩:=h
 cases rx
 obtain ⟨its,r,ht,hz⟩:=I.list hx
 have hlen:=r.length
 refine ⟨"list",_,slot_list_getitem.lookup,ht.isList.typeIs,?_⟩
 refine wpAny_getItem_list_slice ht.isList hs pl pu .none (by simp) ?_ (by rw [size_toArray]<;>omega)
 rw [Znz,← hlen]
 refine ⟨.ref s.heap.objs.size,_,I.laid (t':=s.toks) (o:=.lst (Xdm xs lo hi)) (fun b ob q=>get?_push_of_some _ q) (le_refl _) ?_,rfl,q _ (I.hok.fresh (le_refl _))⟩
 exact ⟨le_trans (Ztp xs lo hi) hz,_,0,(r.drop (HT.sIx xs.length 0 lo)).take (HT.sIx xs.length xs.length hi - HT.sIx xs.length 0 lo),get?_push_size _ rfl⟩
theorem Zpd:Zcd X (.builtin "len") (fun xs H Q=>∃p ys,xs=[.ref p]∧(SqL X.K H p ys∨SqT X.K H p ys)∧Q (.int ys.length) H):=by
 intro pins s σ H xs us Q I r h
 obtain ⟨p,ys,rfl,hq,q⟩:=h
 obtain ⟨u,rfl,rx⟩:=vals1 r
 cases rx
 have hn:=Zmr
 rcases hq with hq | hq
 ·obtain ⟨its,r',pl,hz⟩:=I.list hq
  have hlen:=r'.length
  exact Calls.call_len_list pl.isList (by simp only [size_toArray]<;>omega) ⟨.int ys.length,H,I.tok _,⟨s.toks+1,by rw [size_toArray,hlen]⟩,q⟩
 ·obtain ⟨its,r',pl,hz⟩:=I.tuple hq
  have hlen:=r'.length
  exact len_tuple pl (by simp only [size_toArray]<;>omega) ⟨.int ys.length,H,I.tok _,⟨s.toks+1,by rw [size_toArray,hlen]⟩,q⟩
theorem Zqc:Zcd X (.builtin "len") (fun xs H Q=>∃z,xs=[.str z]∧z.length≤sizeLine∧Q (.int z.length) H):=by
 intro pins s σ H xs us Q I r h
 obtain ⟨z,rfl,hz,q⟩:=h
 obtain ⟨u,rfl,t,rfl⟩:=vals1 r
 have hn:=Zmr
 exact len_str (by omega) ⟨.int z.length,H,I.tok _,⟨_,rfl⟩,q⟩
theorem Zcd.or {f:Value}{r r':List V→Hp→VK→Prop}(h:Zcd X f r)(h':Zcd X f r'):Zcd X f (fun xs H Q=>r xs H Q∨r' xs H Q):=by
 intro pins s σ H xs us Q I rs q
 rcases q with q | q
 ·exact h pins s σ H xs us Q I rs q
 ·exact h' pins s σ H xs us Q I rs q
theorem Zqm:Zcd X (.type "list") (fun xs H Q=>∃p ys,xs=[.ref p]∧(SqL X.K H p ys∨SqT X.K H p ys)∧∀l,H l=none→Q (.ref l) (upd H l (.lst ys))):=by
 intro pins s σ H xs us Q I r h
 obtain ⟨p,ys,rfl,hq,q⟩:=h
 obtain ⟨u,rfl,rx⟩:=vals1 r
 cases rx
 have fin:∀(its:List Value),Jd ys its→ys.length≤sizeLine→∀(h':Heap) (c':Nat),(∀b o',s.heap.get? b=some o'→h'.get? b=some o')→
   h'.get? s.heap.objs.size=some {cls:=.type "list",dict:=none,data:=.seq its.toArray c',slots:=#[]}→EP X pins σ Q (.ref s.heap.objs.size) {s with heap:=h'}:=fun its r' hz h' c' kp e =>
  ⟨.ref s.heap.objs.size,_,I.laid (t':=s.toks) kp (le_refl _) (show Zax X.prog X.w _ h' _ (.lst ys) from ⟨hz,its,c',r',e⟩),rfl,q _ (I.hok.fresh (le_refl _))⟩
 rcases hq with hq | hq
 ·obtain ⟨its,r',pl,hz⟩:=I.list hq
  have hlen:=r'.length
  obtain ⟨o,ho,hc,n,hd⟩:=pl.isList
  exact call_list_seq p (.inl rfl) ho hc hd (fun h' c' kp e=>fin its r' hz h' c' kp e) (by simp only [size_toArray]<;>omega)
 ·obtain ⟨its,r',pl,hz⟩:=I.tuple hq
  have hlen:=r'.length
  obtain ⟨o,ho,hc,n,hd⟩:=pl
  exact call_list_seq p (.inr rfl) ho hc hd (fun h' c' kp e=>fin its r' hz h' c' kp e) (by simp only [size_toArray]<;>omega)
def tyV (K:Frag)(T:String)(x:V)(H:Hp):Prop:=match x with
 | .str _=>T="str"
 | .int _=>T="int"
 | .ref p=>(T="list"∧∃xs,SqL K H p xs)∨(T="tuple"∧∃o,K.lookup p=some o∧o.cls=.type "tuple"∧o.dict=none)∨
   (T="dict"∧((∃kvs,H p=some (.dK kvs))∨∃kvs,H p=some (.dT kvs)))∨(T="set"∧∃S n,H p=some (.set S n))
 | _=>False
theorem Xrc {pins:List (Addr×Obj)}{σ:St}{H:Hp}{s:Shared}{T:String}{x:V}{v:Value}(I:Inv X pins σ H s)(r:RelV x v)(ty:tyV X.K T x H) :
  s.TypeIs v T∧∀a,v=.ref a→∃ob,s.heap.get? a=some ob∧ob.dict=none:=by
 cases x with
 | str z =>
  obtain ⟨t,rfl⟩:=r
  cases (show T="str" from ty)
  exact ⟨typeIs_str s z t,fun _ e=>nomatch e⟩
 | int i =>
  obtain ⟨t,rfl⟩:=r
  cases (show T="int" from ty)
  exact ⟨typeIs_int s i t,fun _ e=>nomatch e⟩
 | ref p =>
  cases r
  rcases ty with ⟨rfl,xs,hq⟩ | ⟨rfl,o,hk,hc,hd⟩ | ⟨rfl,hk⟩ | ⟨rfl,S,n,hk⟩
  ·obtain ⟨its,_,pl,_⟩:=I.list hq
   refine ⟨pl.isList.typeIs,fun a e=>?_⟩
   cases e
   obtain ⟨o,n,e,c,hd,_⟩:=pl
   exact ⟨o,e,hd⟩
  ·refine ⟨⟨o,I.kIn p o hk,hc⟩,fun a e=>?_⟩
   cases e
   exact ⟨o,I.kIn _ o hk,hd⟩
  ·have z:∃o,s.heap.get? p=some o∧o.ExactDict:=by
    rcases hk with ⟨kvs,hk⟩ | ⟨kvs,hk⟩
    ·obtain ⟨_,_,_,_,o,_,_,e,ex,_⟩:=I.hok p _ hk
     exact ⟨o,e,ex⟩
    ·obtain ⟨_,_,_,_,o,_,_,e,ex,_⟩:=I.hok p _ hk
     exact ⟨o,e,ex⟩
   obtain ⟨o,e,ex⟩:=z
   refine ⟨⟨o,e,ex.1⟩,fun a e2=>?_⟩
   cases e2
   exact ⟨o,e,ex.2.1⟩
  ·obtain ⟨o,_,_,_,e,ex,_⟩:=I.hok p _ hk
   refine ⟨⟨o,e,ex.1⟩,fun a e2=>?_⟩
   cases e2
   exact ⟨o,e,ex.2.1⟩
 | _=>exact False.elim ty
def tBM (K:Frag)(T:String)(r:V→List V→Hp→VK→Prop)(to:TE)(t:TA):TE:=fun σ H Q=>to σ H fun x H1=>tyV K T x H1∧t σ H1 fun xs H2=>r x xs H2 Q
variable {o e:Expr}{es:List Expr}{to:TE}{t:TA}{name:Str}{apos cpos:Pos}{T id:String}{r:V→List V→Hp→VK→Prop}
theorem pe_bm (pa:PlainAttrs T)(slot:Slot T name id)(hty:typeOf (.builtin id)=pure (.type "method_descriptor"))(hm:MtR X id r)(ho:PE X o to)(ha:PA X (e::es) t)
    (hbase:attributeBase o name X.env (eval o X.env)=eval o X.env:=by rfl)
    (hfew:((backTo cpos (starEach (e::es) X.env)).all (fun x=>!x.1)&&(backToKw cpos (keywordEach [] X.env)).all (fun x=>x.1.isSome)
      && decide ((e::es).length+([]:List Keyword).length+(if ([]:List Keyword).isEmpty then 0 else 1)<30))=true:=by rfl)
    (hline:(apos.endLine==cpos.line)=true:=by rfl) (hs:starEach (e::es) X.env=(false,eval e X.env)::starEach es X.env:=by rfl) (hplain:(backTo cpos (starEach es X.env)).any (·.1)=false:=by rfl) :
    PE X (.Call (.Attribute o name apos) (e::es) [] cpos) (tBM X.K T r to t):=by
  intro pins s σ H Q I h
  refine wpAny_Call_method_late hbase hfew hline rfl (thn (ho pins s σ H _ I h) fun v s1 hz9=>?_)
  obtain ⟨x,H1,I1,r1,ty,q1⟩:=hz9
  obtain ⟨h1,h2⟩:=Xrc I1 r1 ty
  refine ⟨T,id,pa,slot,hty,h1,h2,?_⟩
  have hA:=ha cpos pins s1 σ H1 _ I1 q1
  rw [hs] at hA ⊢
  refine Calls.callWith_builtin (by show (false||(backTo cpos (starEach es X.env)).any (·.1))=false;rw [hplain]<;>rfl) (Calls.evalArgs_plain ?_)
  exact thn hA fun us s2 ⟨vs,H2,I2,r2,q2⟩=>hm pins s2 σ H2 x vs v us Q I2 r1 r2 q2
end
def MtM (X:Cx)(id:String)(r:V→List V→Hp→VK→Prop):Prop:=
 ∀(pins:List (Addr×Obj)) (s:Shared) (σ:St) (H:Hp) (x:V) (xs:List V) (v:Value) (us:List Value) (Q:VK),Inv X pins σ H s→RelV x v→Jd xs us→r x xs H Q→
  wpAny (model X.prog X.w) X.A (call (.builtin id) (v::us)) (EP X pins σ Q) X.xe s
theorem Jd.one:∀{x:V} {us:List Value},Jd [x] us→∃u,us=[u]∧RelV x u
 | _,_,.cons r .nil=>⟨_,rfl,r⟩
theorem Jd.zero:∀{us:List Value},Jd [] us→us=[]
 | _,.nil=>rfl
theorem Jd.reverse {xs:List V}{us:List Value}(h:Jd xs us):Jd xs.reverse us.reverse:=by
 induction h with
 | nil=>exact .nil
 | cons r t ih=>rw [reverse_cons,reverse_cons];exact Jd.append ih (.cons r .nil)
theorem Jd.rep {xs:List V}{us:List Value}(h:Jd xs us):∀k:Nat,Jd (List.replicate k xs).flatten (List.replicate k us).flatten
 | 0=>.nil
 | k+1=>by
  rw [replicate_succ,replicate_succ,flatten_cons,flatten_cons]
  exact Jd.append h (Jd.rep h k)
theorem foldl_rep (its:List Value):∀(k:Nat) (acc:List Value),
  List.foldl (fun x1 x2=>x1++x2) acc.toArray (List.replicate k its.toArray)=(acc++(List.replicate k its).flatten).toArray
 | 0,acc=>by simp
 | k+1,acc=>by
  have e:acc.toArray++its.toArray=(acc++its).toArray:=by simp
  have e2:(acc++its)++(List.replicate k its).flatten=acc++(List.replicate (k+1) its).flatten:=by
   rw [replicate_succ,flatten_cons,append_assoc]
  rw [← e2,← foldl_rep its k (acc++its),← e,replicate_succ,foldl_cons]
section
variable {X:Cx}{pins:List (Addr×Obj)}{σ:St}{H:Hp}{s:Shared}{l b:Addr}{xs ys zs:List V}
theorem Inv.lset {its its':List Value}{n:Nat}{f:Array Value→Array Value}{t':Nat}(I:Inv X pins σ H s)(hH:H l=some (.lst xs))
  (e:s.heap.get? l=some {cls:=.type "list",data:=.seq its.toArray n}) (hf:f its.toArray=its'.toArray) (hv:Jd ys its') (hz:ys.length≤sizeLine) :
  Inv X pins σ (upd H l (.lst ys)) {s with heap:=s.heap.update l (Obj.mapSeq f),toks:=t'}:=by
 have q:=PySem.IsL.update e f
 rw [hf] at q
 refine I.write (x:=l) (e:=l) (by rw [hH];exact trivial) (.inl rfl) (fun b' u hb hu=>(Heap.get?_update_other s.heap (Obj.mapSeq f) (Ne.symm hb)).trans hu) ⟨_,q⟩ ?_
 exact ⟨hz,its',_,hv,q⟩
theorem Inv.lnew {its:List Value}{t':Nat}(I:Inv X pins σ H s)(hv:Jd ys its)(hz:ys.length≤sizeLine) :
  Inv X pins σ (upd H s.heap.objs.size (.lst ys)) {s with heap:=s.heap.push {cls:=.type "list",data:=.seq its.toArray},toks:=t'}:=
 I.laid (fun _ _ q=>get?_push_of_some _ q) (le_refl _) ⟨hz,its,0,hv,get?_push_size _ rfl⟩
theorem Inv.fresh (I:Inv X pins σ H s):H s.heap.objs.size=none:=I.hok.fresh (le_refl _)
theorem Inv.lstM (I:Inv X pins σ H s)(hH:H l=some (.lst xs)):xs.length≤sizeLine∧∃(its:List Value) (n:Nat),Jd xs its∧xs.length=its.length∧s.heap.get? l=some {cls:=.type "list",data:=.seq its.toArray n}:=by
 obtain ⟨z,its,n,r,e⟩:=I.hok l _ hH
 exact ⟨z,its,n,r,r.length,e⟩
theorem Zuk {n:Nat}(h:n≤sizeLine):Builtin.List.listTooLong n=false:=by
 unfold Builtin.List.listTooLong
 exact decide_eq_false (by omega)
end
section
variable {X:Cx}
def Zef:V→List V→Hp→VK→Prop:=fun x vs H Q=>∃l xs y,x=.ref l∧vs=[y]∧H l=some (.lst xs)∧xs.length<sizeLine∧Q .non (upd H l (.lst (xs++[y])))
theorem Zlm:MtM X "list.append" Zef:=by
 intro pins s σ H x vs v us Q I rx rv h
 obtain ⟨l,xs,y,rfl,rfl,hH,hz,q⟩:=h
 cases rx
 obtain ⟨u,rfl,ru⟩:=rv.one
 obtain ⟨z,its,n,r,hl,e⟩:=I.lstM hH
 refine call_meets F.slot_list_append ⟨_,e,rfl⟩ F.entry_list_append (F.args_list_append_2 _ _) (PySem.list_append l its.toArray n u (by rw [size_toArray];omega)) ⟨e,?_⟩
 refine ⟨.non,_,I.lset (its':=its++[u]) hH e (by simp) (r.append (.cons ru .nil)) ?_,rfl,q⟩
 rw [length_append,length_singleton]
 omega
def Zsh:V→List V→Hp→VK→Prop:=fun x vs H Q=>∃l b xs zs,x=.ref l∧vs=[.ref b]∧H l=some (.lst xs)∧H b=some (.lst zs)∧xs.length+zs.length≤sizeLine∧Q .non (upd H l (.lst (xs++zs)))
theorem Zzf:MtM X "list.extend" Zsh:=by
 intro pins s σ H x vs v us Q I rx rv h
 obtain ⟨l,b,xs,zs,rfl,rfl,hH,hB,hz,q⟩:=h
 cases rx
 obtain ⟨u,rfl,ru⟩:=rv.one
 cases ru
 obtain ⟨z,its,n,r,hl,e⟩:=I.lstM hH
 obtain ⟨z2,its2,n2,r2,hl2,e2⟩:=I.lstM hB
 have hsz:its.toArray.size+its2.toArray.size≤sizeLine:=by rw [size_toArray,size_toArray];omega
 have hlong:¬(!its.toArray.isEmpty&&Builtin.List.listTooLong (its.toArray.size+its2.toArray.size))=true:=by
  rw [Zuk hsz,Bool.and_false]
  exact Bool.false_ne_true
 refine call_meets F.slot_list_extend ⟨_,e,rfl⟩ F.entry_list_extend (F.args_list_extend_2 _ _)
  (AutoSeq1.list_extend_list_list_0 l its.toArray n b its2.toArray n2 hlong (by rw [size_toArray];omega) (by omega)) ⟨e,e2,?_⟩
 refine ⟨.non,_,I.lset (its':=its++its2) hH e (by simp) (r.append r2) ?_,rfl,q⟩
 rw [length_append]
 omega
noncomputable def rCat:R2:=fun x y H Q=>∃l b xs zs,x=.ref l∧y=.ref b∧H l=some (.lst xs)∧H b=some (.lst zs)∧xs.length+zs.length≤sizeLine∧∀p,H p=none→Q (.ref p) (upd H p (.lst (xs++zs)))
theorem Xsf:OpR X (binaryOp .Add) rCat:=by
 intro pins s σ H x y v u Q I rx ry h
 obtain ⟨l,b,xs,zs,rfl,rfl,hH,hB,hz,q⟩:=h
 cases rx
 cases ry
 obtain ⟨z,its,n,r,hl,e⟩:=I.lstM hH
 obtain ⟨z2,its2,n2,r2,hl2,e2⟩:=I.lstM hB
 refine PySem.P.add_list e e2 ?_ (by rw [size_toArray,size_toArray];omega)
 have ea:its.toArray++its2.toArray=(its++its2).toArray:=by simp
 rw [ea]
 exact ⟨.ref _,_,I.lnew (t':=s.toks) (r.append r2) (by rw [length_append];omega),rfl,q _ I.fresh⟩
noncomputable def rRep:R2:=fun x y H Q=>∃l k xs,x=.ref l∧y=.int k∧H l=some (.lst xs)∧-(2 ^ 63)≤k∧k<2 ^ 63∧xs.length*k.toNat≤sizeLine∧
 ∀p,H p=none→Q (.ref p) (upd H p (.lst (List.replicate k.toNat xs).flatten))
theorem len_rep {α:Type}(xs:List α)(k:Nat):(List.replicate k xs).flatten.length=k*xs.length:=by
 induction k with
 | zero=>simp
 | succ k ih=>rw [replicate_succ,flatten_cons,length_append,ih,Nat.succ_mul,Nat.add_comm]
theorem Xrf:OpR X (binaryOp .Mult) rRep:=by
  intro pins s σ H x y v u Q I rx ry h
  obtain ⟨l,k,xs,rfl,rfl,hH,h1,h2,hz,q⟩:=h
  cases rx
  obtain ⟨t,rfl⟩:=ry
  obtain ⟨z,its,n,r,hl,e⟩:=I.lstM hH
  have hlen:its.toArray.size*k.toNat≤sizeLine:=by rw [size_toArray,← hl];exact hz
  have hcap:¬its.toArray.size*k.toNat > (2 ^ 63 - 1) / 8:=by
    have:(sizeLine:Nat)≤(2 ^ 63 - 1) / 8:=by decide
    omega
  have hfit:¬(!Builtin.List.listFitsIndex k)=true:=by
    rw [fitsIndex_both h1 h2]
    exact Bool.false_ne_true
  have hlong:¬Builtin.List.listTooLong (its.toArray.size*k.toNat)=true:=by
    rw [Zuk hlen]
    exact Bool.false_ne_true
  have hnew:List.foldl (fun x1 x2=>x1++x2) #[] (List.replicate (if its.toArray.isEmpty=true then 0 else k.toNat) its.toArray)=(List.replicate k.toNat its).flatten.toArray:=by
    have f0:∀m:Nat,List.foldl (fun x1 x2=>x1++x2) #[] (List.replicate m its.toArray)=(List.replicate m its).flatten.toArray:=fun m=>by
      have:=foldl_rep its m []
      rw [List.nil_append] at this
      exact this
    rw [f0]
    cases its with
    | nil=>simp
    | cons a r'=>rw [if_neg (by simp)]
  refine wpAny_binaryOp_repeat_ref (T:="list") (U:="int") (by decide) ⟨_,e,rfl⟩ (fun s'=>typeIs_int s' k t) noFill_list_mul F.fills_int_mul F.slot_int_rmul repeat_list F.slot_int_index.lookup
    (call_meets F.slot_int_rmul (typeIs_int s k t) F.entry_int_rmul (F.args_int_rmul_2 _ _) (int___rmul___int_list k t l its.toArray n)
      ⟨e,rfl,⟨_,e,rfl⟩,call_meets F.slot_list_mul ⟨_,e,rfl⟩ F.entry_list_mul (F.args_list_mul_2 _ _) (AutoListH.list___mul___list_int_3 l its.toArray n k t hfit hcap hlong) ⟨e,?_⟩⟩)
  rw [hnew]
  exact ⟨.ref _,_,I.lnew (t':=s.toks) (r.rep k.toNat) (by rw [len_rep,Nat.mul_comm];exact hz),rfl,q _ I.fresh⟩
variable {prog:Program}{w:World}{A:Around}{E:Value→Shared→Prop}{s:Shared}
set_option maxRecDepth 100000 in
end
end L2
namespace Att
open PySem PySem.W PySem.Calls PyProof.Rows
theorem Zll {P:Params}{h:Heap}:∀(ns:List Int) (vs:List Value),WellAll P h vs (ns.map WData.int)→IntsAre vs ns:=by
 intro ns
 induction ns with
 | nil =>
  intro vs w
  rw [map_nil] at w
  cases w
  exact .nil
 | cons n ns ih =>
  intro vs w
  rw [map_cons] at w
  cases w with
  | cons a b =>
   cases a
   exact .cons _ _ (ih _ b)
theorem Zzt {l:OpenLaw}{n:Nat}(hn:l.most=some n){P:Params}{h:Heap}{args:List WData}{vals:List Value}
  (hpre:l.row.toRowW.claim.pre args=true) (hwl:WellAll P h vals args) :
  ∃a vs ns,vals=[Value.ref a]∧args=[WData.list (ns.map WData.int)]∧h.get? a=some {cls:=.type "list",data:=.seq vs.toArray}∧IntsAre vs ns∧ns.length≤n:=by
 have hsh:WShape.hasAll [] args [.list .int]=true:=(pre_splitW hpre).1
 have hc:l.pre.holds [] {args:=args}=true:=(pre_splitW hpre).2
 obtain ⟨d,r,rfl,h1,h2⟩:=hasAllW_cons hsh
 obtain rfl:=hasAllW_nil h2
 obtain ⟨xs,rfl,h3⟩:=hasW_list h1
 obtain ⟨ns,rfl⟩:=items_int h3
 have hlen:ns.length≤n:=by
  unfold OpenLaw.pre at hc
  have h4:(WTm.not (.lt (.lit (.int (n:Int))) (.len (.arg 0)))).holds [] {args:=[.list (ns.map .int)]}=true:=by
   have h4:=(holds_andW hc).1
   rw [hn] at h4
   exact h4
  have h5:=condW_of h4 (w_not (w_lt w_lit (w_len_list (w_arg rfl))))
  rw [length_map] at h5
  refine Nat.le_of_not_lt fun q=>?_
  have q':(n:Int)<((ns.length:Nat):Int):=by omega
  first
   | (rw [decide_eq_true q'] at h5;exact absurd h5 (by decide))
   | (simp at h5;omega)
 cases hwl with
 | cons w1 w2 =>
  cases w2
  cases w1 with
  | list ho hall=>exact ⟨_,_,ns,rfl,rfl,ho,Zll ns _ hall,hlen⟩
theorem Zyv (l:OpenLaw)(args:List WData):l.row.toRowW.claim.post args (.bool true) args=true:=
 postW_of (r:=l.row.toRowW) (X:=(true==true))
  (show WShape.has [] (.bool true) .bool=true by first | rfl | decide | simp [WShape.has,WShape.arms,WShape.armsAll])
  (show (WTm.eq .res (.lit (.bool true))).value [] {args:=args,res:=some (.bool true),after:=args}=some (.bool (true==true)) from w_eq_bool (w_res rfl) w_lit) rfl
theorem attach_call {l:OpenLaw}{n:Nat}{q:Program}{loose:List Str}{XP:(Str→Option Value)→Heap→Prop}{YP:World→Heap→Prop}{d:DefRec}
    (hn:l.most=some n) (hdf:d.params.defaults=[])
    (call:∀(w:World) (s₀ s₁:Shared) (mg mb:Str→Option Value) (fa:Addr) (o:Obj) (pm cd doc:Value) (a:Addr) (vs:List Value) (ns:List Int),
      Ground q loose [] XP w s₀ mg mb s₁.heap→YP w s₁.heap→
      s₁.heap.get? fa=some o→o.data=.func (docDef d.name d.params d.body d.scope pm cd doc)→s₁.heap.CodeRec cd d.name→mg d.name=some (.ref fa)→
      s₁.heap.get? a=some {cls:=.type "list",data:=.seq vs.toArray}→IntsAre vs ns→ns.length≤n→s₁.gens=#[]→
      codeAny (model l.prog w) callerA (.call (.ref fa) ⟨[.ref a],[]⟩) (fun r s'=>r=.ok (.ret (.bool true))∧OldK s₁.heap s'.heap∧s'.os=s₁.os∧AllBare s'.gens) s₁) :
    WalkO q loose XP YP l.row.toRowW d [] (fun f vs=>PySem.call f vs):=by
  intro w s₀ s₁ mg mb G Y fa o pm cd doc dV kV ho hd hcd hD hmg hg args vals as hpre hlay hrd hwl hlo
  obtain rfl:dV=.none:=Dflts.none hD hdf
  obtain rfl:kV=.none:=Dflts.noKw hD
  obtain ⟨a,vs,ns,rfl,rfl,hobj,hints,hlen⟩:=Zzt hn hpre hwl
  refine enter_call (codeAny_mono (call w s₀ s₁ mg mb fa o pm cd doc a vs ns G Y ho (fd_plain hd) hcd hmg hobj hints hlen hg) fun r s' hq=>?_)
  obtain ⟨rfl,h2,h3,h4⟩:=hq
  exact ⟨.inl ⟨.bool true,.bool true,[],rfl,fun _=>rfl,.bool true,Zyv l _,fun _=>⟨List.Pairwise.nil,fun _ hm=>(nomatch hm)⟩⟩,h2,h3,h4⟩
section
variable {prog:Program}{w:World}{A:Around}{E:Value→Shared→Prop}{s:Shared}{K:Frag}
end
end Att
namespace L2
open PySem PySem.Spec PyProof.Rows
theorem Zrb:∀{vs:List Value} {ns:List Int},IntsAre vs ns→Jd (ns.map V.int) vs
 | _,_,.nil=>.nil
 | _,_,.cons n t h=>.cons ⟨t,rfl⟩ (Zrb h)
def Only (H:Hp):Prop:=∀b,H b=none∨∃o xs,H b=some (.frz o (.lst xs))
theorem Xdu {P:Program}{w:World}{K:Frag}{mg mb:Str→Option Value}{CX:CXT}{k:Nat}{fa a:Addr}{fd:FuncData}{x:Str}{sp:Sp}{s₁:Shared}{vs:List Value}{ns:List Int}
    (KX:K.In s₁.heap) (hns:s₁.heap.Ns mainGlobals mg) (hb:s₁.heap.Ns builtinsNs mb) (hbb:∀x:Str,x≠"__name__"→mb x=bootBuiltins x) (hlim:s₁.heap.NoLimit) (hg:s₁.gens=#[])
    (ha:s₁.heap.get? a=some {cls:=.type "list",data:=.seq vs.toArray}) (hi:IntsAre vs ns) (hl:ns.length≤sizeLine) (hr:Zdx k callerA)
    (F:∀base:Heap,K.In base→base.Ns mainGlobals mg→Jx P w K mg base CX k fa fd [x] sp) (hbind:∀(s:Shared) (u:Value),BindsTo s fd ⟨[u],[]⟩ [(x,u)])
    (hsp:∀H:Hp,Only H→SqL K H a (ns.map V.int)→sp [.ref a] H (fun v _=>v=.bl true) fun _ _ _=>False)
    (hCX:∀H e s',CX [] H s₁ (fun _ _ _=>False) e s'→False) :
    codeAny (model P w) callerA (.call (.ref fa) ⟨[.ref a],[]⟩) (fun r s'=>r=.ok (.ret (.bool true))∧OldK s₁.heap s'.heap∧s'.os=s₁.os∧AllBare s'.gens) s₁:=by
  have rv:=Zrb hi
  have lenV:=hi.length
  have core:∀H:Hp,Only H→SqL K H a (ns.map V.int)→HOk P w H s₁.heap→(∀b,H b≠none→b=a)→(H a≠none→K.lookup a=none)→
      codeAny (model P w) callerA (.call (.ref fa) ⟨[.ref a],[]⟩) (fun r s'=>r=.ok (.ret (.bool true))∧OldK s₁.heap s'.heap∧s'.os=s₁.os∧AllBare s'.gens) s₁:=by
    intro H hO hS hok hA hK
    have base_of:∀{b:Addr} {o:Obj},s₁.heap.get? b=some o→H b=none→(Xej s₁.heap H).get? b=some o:=fun e n=>Xgt e n
    have noA:∀{b:Addr} {o:Obj} {es:Array DictEntry} {ep:Nat},s₁.heap.get? b=some o→o.data=.dict es ep→H b=none:=fun {b o es ep} e d=>by
      cases q:H b with
      | none=>rfl
      | some u =>
        have e':b=a:=hA b (by rw [q];simp)
        subst e'
        rw [ha] at e;cases e
        have d':Data.seq vs.toArray _=Data.dict es ep:=d
        cases d'
    have nsK:∀{b:Addr} {m:Str→Option Value},s₁.heap.Ns b m→(Xej s₁.heap H).Ns b m:=fun {b m} ⟨o,es,ep,e,d,r⟩=>⟨o,es,ep,base_of e (noA e d),d,r⟩
    have hKb:K.In (Xej s₁.heap H):=fun b o e=>base_of (KX b o e) (by
      cases q:H b with
      | none=>rfl
      | some u =>
        have e':b=a:=hA b (by rw [q];simp)
        subst e'
        rw [hK (by rw [q];simp)] at e;cases e)
    have hM:Mod K mg (Xej s₁.heap H):=⟨hKb,nsK hns,⟨mb,nsK hb,hbb⟩,let ⟨mc,h1,h2⟩:=hlim;⟨mc,nsK h1,h2⟩⟩
    have e0:Xhx P w K mg (Xej s₁.heap H) callerA [] s₁ H:=⟨rfl,hM,fun b o e=>Xkj e,Nat.le_of_eq (Xbx _ _),trivial,fun b hb=>absurd (show b∈([]:List Addr) from hb) (by simp),hok,.of_eq hg⟩
    refine codeAny_mono ((F _ hKb (nsK hns)).run callerA [] s₁ H ⟨[.ref a],[]⟩ [.ref a] [.ref a] _ _ hr e0 (hbind s₁ (.ref a)) (.cons rfl .nil) (hsp H hO hS)) fun r s' h=>?_
    cases r with
    | error e=>exact (hCX H e s' h).elim
    | ok fl =>
      cases fl with
      | next=>exact False.elim h
      | brk=>exact False.elim h
      | cont=>exact False.elim h
      | ret u =>
        obtain ⟨v,H',os,bare,un,hok',r',q⟩:=h
        have q':v=.bl true:=q
        subst q'
        obtain rfl:u=Value.bool true:=r'
        refine ⟨rfl,OldK.of_keep fun b o e=>?_,os,bare⟩
        cases q:H b with
        | none=>exact un.keep b o e q (by intro z;exact absurd (show b∈([]:List Addr) from z) (by simp)) (by simp)
        | some u =>
          rcases hO b with z | ⟨ob,xs,z⟩
          · rw [q] at z;cases z
          · have z2:=un.frzs b ob _ z
            obtain ⟨e1,_⟩:=hok b _ z
            obtain ⟨e2,_⟩:=hok' b _ z2
            rw [e] at e1;cases e1
            exact e2
  cases hk:K.lookup a with
  | some o =>
    have e:=KX a o hk
    rw [ha] at e
    cases e
    refine core (fun _=>none) (fun _=>.inl rfl) (.inr ⟨_,vs.toArray,_,hk,rfl,rfl,rfl,by rw [size_toArray,lenV];exact hl,by simpa using rv⟩) (fun b u z=>by have z':(none:Option HO)=some u:=z;cases z') (fun b z=>absurd rfl z) fun z=>absurd rfl z
  | none =>
    refine core (fun b=>if b=a then some (.frz {cls:=.type "list",data:=.seq vs.toArray} (.lst (ns.map V.int))) else none) (fun b=>?_) (.inl (.inr ⟨{cls:=.type "list",data:=.seq vs.toArray},if_pos rfl⟩)) (fun b u z=>?_) (fun b z=>?_) fun _=>hk
    · by_cases hb:b=a
      · exact .inr ⟨_,_,if_pos hb⟩
      · exact .inl (if_neg hb)
    · by_cases hb:b=a
      · have z':=(if_pos hb).symm.trans z
        cases z'
        subst hb
        exact ⟨ha,by rw [length_map];exact hl,vs,_,rv,ha⟩
      · have z':=(if_neg hb).symm.trans z
        cases z'
    · by_cases hb:b=a
      · exact hb
      · exact absurd (if_neg hb) z
noncomputable abbrev KOf {K:Frag}{h:Heap}(_:K.In h):Frag:=K
theorem Xmj {l:PySem.W.OpenLaw}{n k:Nat}{q:Program}{loose:List Str}{XP:(Str→Option Value)→Heap→Prop}{YP:World→Heap→Prop}{d:DefRec}{K:Params→Frag}{CX:World→CXT}{sp:World→Sp}{x:Str}
    (hn:l.most=some n) (hn2:n≤sizeLine) (hdf:d.params.defaults=[]) (hr:Zdx k callerA)
    (hY:∀(w:World) (h:Heap),YP w h→(K w.params).In h)
    (F:∀(w:World) (mg:Str→Option Value) (fa:Addr) (h:Heap),(K w.params).In h→h.Ns mainGlobals mg→mg d.name=some (.ref fa)→
      ∃fd:FuncData,(∀(s:Shared) (u:Value),BindsTo s fd ⟨[u],[]⟩ [(x,u)])∧
        ∀base:Heap,(K w.params).In base→base.Ns mainGlobals mg→Jx l.prog w (K w.params) mg base (CX w) k fa fd [x] (sp w))
    (hsp:∀(w:World) (H:Hp) (a:Addr) (ns:List Int),ns.length≤n→Only H→SqL (K w.params) H a (ns.map V.int)→sp w [.ref a] H (fun v _=>v=.bl true) fun _ _ _=>False)
    (hCX:∀(w:World) (H:Hp) (s:Shared) (e:Value) (s':Shared),CX w [] H s (fun _ _ _=>False) e s'→False) :
    PySem.W.WalkO q loose XP YP l.row.toRowW d [] (fun f vs=>PySem.call f vs):=by
  refine Att.attach_call hn hdf fun w s₀ s₁ mg mb fa o pm cd doc a vs ns G Y ho hd hcd hmg hobj hints hlen hg=>?_
  have KX:=hY w _ Y
  obtain ⟨fd,hb,hF⟩:=F w mg fa _ KX G.T.g hmg
  exact Xdu KX G.T.g G.T.b G.T.builtins G.T.nolimit hg hobj hints (le_trans hlen hn2) hr hF hb (fun H hO hS=>hsp w H a ns hlen hO hS) fun H e s'=>hCX w H s₁ e s'
noncomputable def inClass (s:Stmt)(j:Nat):Stmt:=match s with
 | .ClassDef _ _ _ body _ _ _ _ _ _ _=>body.getD j (.Pass ⟨0,0,0,0⟩)
 | _=>.Pass ⟨0,0,0,0⟩
noncomputable def Zel (s:Stmt):Arguments:=match s with
 | .FunctionDef _ a _ _ _ _ _ _ _ _=>a
 | _=>{posonlyargs:=[],args:=[],vararg:=none,kwonlyargs:=[],kw_defaults:=[],kwarg:=none,defaults:=[]}
noncomputable def Zbl (s:Stmt):List Stmt:=match s with
 | .FunctionDef _ _ b _ _ _ _ _ _ _=>b
 | _=>[]
noncomputable def Zm (s:Stmt):Scope:=match s with
 | .FunctionDef _ _ _ _ _ _ sc _ _ _=>sc
 | _=>{kind:=.function,names:=[],isGenerator:=false,isCoroutine:=false}
noncomputable abbrev CX0:CXT:=fun _ _ _ _ _ _=>False
noncomputable abbrev E0:XK:=fun _ _ _=>False
theorem Xk {X:Cx}:Zbp CX0 X E0:=fun _ _ _ _ _ _ _ h=>h.elim
structure Fun (K:Frag)(x qual:Str)(st:Stmt)(f:Addr)(fd:FuncData):Prop where
 ex:∃(oc:Value) (od:Option Addr) (kV doc pm:Value) (an:Option Addr) (cdv ct:Value) (osl:Array (Option Value)),
  fd=fnOf x qual (Zel st) (Zbl st) (Zm st) .none kV doc pm an cdv ct∧K.lookup f=some ⟨oc,od,.func fd,osl⟩∧codeIn K cdv qual=true
 kp:keepIn K (.ref f)=true
section
variable {P:Program}{w:World}{K:Frag}{mg:Str→Option Value}{base:Heap}
theorem Fun.ok {x qual:Str}{st:Stmt}{f:Addr}{fd:FuncData}{N ps:List Str}{k:Nat}{sp:Sp}(F:Fun K x qual st f fd)(S:Zv N ps (Zm st))(len:∀vs H Q E,sp vs H Q E→vs.length=ps.length)
    (hbody:∀(cdv:Value) (A:Around) (outer:List Env) (s:Shared) (H:Hp) (vs:List V) (Q:VK) (E:XK),Zdx k (A.deeper (envOfC qual (Zm st) s.heap.objs.size f cdv))→sp vs H Q E→
      ∃t,PSs (Xek CX0 P w K mg base N qual (Zm st) f cdv A outer s H E).nox (Zbl st) t∧t {nx:=fun _ H'=>Q .non H',rt:=Q} (start N vs) H):Jx P w K mg base CX0 (k+1) f fd ps sp:=by
  obtain ⟨oc,od,kV,doc,pm,an,cdv,ct,osl,rfl,lk,hcd⟩:=F.ex
  refine fn_of lk hcd S len fun A outer s H vs Q E hr hsp=>?_
  obtain ⟨t,h,q⟩:=hbody cdv A outer s H vs Q E hr hsp
  exact ⟨t,h.nox,q⟩
theorem Fun.binds {x qual:Str}{st:Stmt}{f:Addr}{fd:FuncData}{ps:List Str}(F:Fun K x qual st f fd)
  (h:∀(kV doc pm:Value) (an:Option Addr) (cdv ct:Value) (us:List Value),us.length=ps.length→bindArgs (fnOf x qual (Zel st) (Zbl st) (Zm st) .none kV doc pm an cdv ct) ⟨us,[]⟩=pure (ps.zip us)):Binds K fd ps []:=by
 obtain ⟨oc,od,kV,doc,pm,an,cdv,ct,osl,rfl,lk,hcd⟩:=F.ex
 exact .all (h kV doc pm an cdv ct)
theorem Xu {x qual:Str}{st:Stmt}{f:Addr}{oc:Value}{od an:Option Addr}{osl:Array (Option Value)}{kV doc pm cdv ct:Value}(l:K.lookup f=some ⟨oc,od,.func (fnOf x qual (Zel st) (Zbl st) (Zm st) .none kV doc pm an cdv ct),osl⟩)
  (c:codeIn K cdv qual=true) (k:keepIn K (.ref f)=true):Fun K x qual st f (fnOf x qual (Zel st) (Zbl st) (Zm st) .none kV doc pm an cdv ct):=⟨⟨oc,od,kV,doc,pm,an,cdv,ct,osl,rfl,l,c⟩,k⟩
variable {X:Cx}
theorem pv (i:Nat){x:Str}{pos:Pos}(hN:X.N[i]?=some x:=by rfl)(hv:autoParam (Vis X.env.scope x) aT3._auto_1)(hd:(x==("__debug__":Str))=false:=by decide)
  (hcd:(x==("__classdict__":Str))=false:=by decide):PE X (.Name x pos) (Zdb i):=Xqm hN hv hd hcd
end
def Xx (H H':Hp):Prop:=∀b o,H b=some o→H' b=some o
theorem Xx.refl (H:Hp):Xx H H:=fun _ _ h=>h
theorem Xx.trans {H H1 H2:Hp}(a:Xx H H1)(b:Xx H1 H2):Xx H H2:=fun c o h=>b c o (a c o h)
theorem Xx.free {H H':Hp}(e:Xx H H'){l:Addr}(h:H' l=Option.none):H l=Option.none:=by
 cases q:H l with
 | none=>rfl
 | some o =>
  rw [e l o q] at h
  cases h
theorem Xa {a b:Expr}{op:Operator}{pos:Pos}{es:List Expr}{env:Env}:starEach (.BinOp a op b pos::es) env=(false,eval (.BinOp a op b pos) env)::starEach es env:=rfl
theorem Ze {c:Const}{k:Nat}{pos:Pos}{es:List Expr}{env:Env}:starEach (.Constant c k pos::es) env=(false,eval (.Constant c k pos) env)::starEach es env:=rfl
theorem Za {x:Str}{pos:Pos}{es:List Expr}{env:Env}:starEach (.Name x pos::es) env=(false,eval (.Name x pos) env)::starEach es env:=rfl
theorem Yi {a b:Expr}{pos:Pos}{es:List Expr}{env:Env}:starEach (.Subscript a b pos::es) env=(false,eval (.Subscript a b pos) env)::starEach es env:=rfl
theorem Xf {a:Expr}{as:List Expr}{ks:List Keyword}{pos:Pos}{es:List Expr}{env:Env}:starEach (.Call a as ks pos::es) env=(false,eval (.Call a as ks pos) env)::starEach es env:=rfl
theorem Zjm {as:List Expr}{pos:Pos}{es:List Expr}{env:Env}:starEach (.List as pos::es) env=(false,eval (.List as pos) env)::starEach es env:=rfl
theorem Zes {as:List Expr}{k:Nat}{pos:Pos}{es:List Expr}{env:Env}:starEach (.Tuple as k pos::es) env=(false,eval (.Tuple as k pos) env)::starEach es env:=rfl
theorem Xe {a:Expr}{x:Str}{pos:Pos}{es:List Expr}{env:Env}:starEach (.Attribute a x pos::es) env=(false,eval (.Attribute a x pos) env)::starEach es env:=rfl
theorem Zgz {a:Expr}{gs:List Comprehension}{sc:Scope}{pos:Pos}{es:List Expr}{env:Env}:starEach (.ListComp a gs sc pos::es) env=(false,eval (.ListComp a gs sc pos) env)::starEach es env:=rfl
theorem Zbi {a b:Expr}{pos:Pos}:Zek (.Subscript a b pos):=fun _ _=>rfl
theorem Zp {x:Str}{pos:Pos}:Zek (.Name x pos):=fun _ _=>rfl
theorem Zn {c:Const}{k:Nat}{pos:Pos}:Zek (.Constant c k pos):=fun _ _=>rfl
theorem plain_bin {a b:Expr}{op:Operator}{pos:Pos}:Zek (.BinOp a op b pos):=fun _ _=>rfl
theorem Zcp {a:Expr}{op:UnaryOp}{pos:Pos}:Zek (.UnaryOp op a pos):=fun _ _=>rfl
noncomputable def Xgz:R2:=fun x y H Q=>rI0 (fun i j=>.int (i+j)) x y H Q∨(∃i j,x=.str i∧y=.str j∧i.length+j.length≤sizeLine∧Q (.str (i++j)) H)∨rCat x y H Q
noncomputable def Xeg:R2:=fun x y H Q=>rI Xor (fun i j=>.int (i*j)) x y H Q∨rRep x y H Q
def Xst (_ j:Int):Prop:=0<j∧j<2 ^ 200
section
variable {X:Cx}
theorem Zx:OpR X (binaryOp .Add) Xgz:=Xqn.or (Zxo.or Xsf)
theorem Ys:OpR X (binaryOp .Mult) Xeg:=Xtu.or Xrf
theorem log2_small {j:Int}(h1:0<j)(h2:j<2 ^ 200):j.natAbs.log2<9000:=by
 have h3:j.natAbs<2 ^ 200:=by omega
 exact Nat.lt_trans ((Nat.log2_lt (by omega)).mpr h3) (by decide)
theorem Zuq:OpR X (binaryOp .FloorDiv) (rI Xst fun i j=>.int (i / j)):=opI fun i j _ _ _ _ _ hc q=>by
 have h1:(0:Int)<j:=hc.1
 have h2:j<2 ^ 200:=hc.2
 exact floordiv_int (by omega) (by rw [Int.fdiv_eq_ediv_of_nonneg i (by omega)];exact q) (.inl (PyProof.noPylong_of_log2 (log2_small h1 h2)))
end
mutual
inductive Dn (K:Frag)(H:Hp):V→PyData→Prop
 | non:Dn K H .non .none
 | bl (b:Bool):Dn K H (.bl b) (.bool b)
 | int (i:Int):Dn K H (.int i) (.int i)
 | str (x:Str):Dn K H (.str x) (.str x)
 | lst {a:Addr} {xs:List V} {ds:List PyData}:SqL K H a xs→DnA K H xs ds→Dn K H (.ref a) (.list ds)
 | tup {a:Addr} {xs:List V} {ds:List PyData}:SqT K H a xs→DnA K H xs ds→Dn K H (.ref a) (.tuple ds)
inductive DnA (K:Frag)(H:Hp):List V→List PyData→Prop
 | nil:DnA K H [] []
 | cons {x:V} {d:PyData} {xs:List V} {ds:List PyData}:Dn K H x d→DnA K H xs ds→DnA K H (x::xs) (d::ds)
end
section
variable {X:Cx}{pins:List (Addr×Obj)}{σ:St}{H:Hp}{s:Shared}
mutual
theorem Dn.reads (I:Inv X pins σ H s):∀{x:V} {d:PyData} {u:Value},Dn X.K H x d→RelV x u→∃as,Reads s.heap u d as
 | _,_,_,.non,r=>by cases (show _=Value.none from r);exact ⟨_,.none⟩
 | _,_,_,.bl b,r=>by cases (show _=Value.bool b from r);exact ⟨_,.bool b⟩
 | _,_,_,.int i,r=>by obtain ⟨t,q⟩:=(show ∃t,_=Value.int i t from r);cases q;exact ⟨_,.int i t⟩
 | _,_,_,.str x,r=>by obtain ⟨t,q⟩:=(show ∃t,_=Value.str x t from r);cases q;exact ⟨_,.str x t⟩
 | _,_,_,.lst (a:=a) h ra,r=>by
  cases (show _=Value.ref a from r)
  obtain ⟨its,rv,pl,_⟩:=I.list h
  obtain ⟨as,q⟩:=DnA.reads I ra rv
  obtain ⟨o,ho,hc,n,hd⟩:=pl.isList
  exact ⟨_,.list ho hc hd q⟩
 | _,_,_,.tup (a:=a) h ra,r=>by
  cases (show _=Value.ref a from r)
  obtain ⟨its,rv,pl,_⟩:=I.tuple h
  obtain ⟨as,q⟩:=DnA.reads I ra rv
  obtain ⟨o,ho,hc,n,hd⟩:=pl
  exact ⟨_,.tuple ho hc hd q⟩
theorem DnA.reads (I:Inv X pins σ H s):∀{xs:List V} {ds:List PyData} {us:List Value},DnA X.K H xs ds→Jd xs us→∃as,ReadsAll s.heap us ds as
 | _,_,_,.nil,.nil=>⟨_,.nil⟩
 | _,_,_,.cons h ra,.cons r rs=>by
  obtain ⟨as,q⟩:=Dn.reads I h r
  obtain ⟨bs,q'⟩:=DnA.reads I ra rs
  exact ⟨_,.cons q q'⟩
end
end
noncomputable def rEqD (K:Frag):R2:=fun x y H Q=>∃dx dy,Dn K H x dx∧Dn K H y dy∧SeqAt.shaped dx=true∧SeqAt.shaped dy=true∧Q (.bl (PyData.eqv dx dy)) H
noncomputable def rNeD (K:Frag):R2:=fun x y H Q=>∃dx dy,Dn K H x dx∧Dn K H y dy∧SeqAt.shaped dx=true∧SeqAt.shaped dy=true∧Q (.bl (!PyData.eqv dx dy)) H
noncomputable def Zrh (K:Frag):R2:=fun x y H Q=>rEq x y H Q∨rEqD K x y H Q
noncomputable def Zxt (K:Frag):R2:=fun x y H Q=>rNe x y H Q∨rNeD K x y H Q
section
variable {X:Cx}
theorem Xpc (hu:X.A.units+64<cLine):OpR X (compareOp .Eq) (rEqD X.K):=by
 intro pins s σ H x y v u Q I rx ry h
 obtain ⟨dx,dy,h1,h2,s1,s2,q⟩:=h
 obtain ⟨as,ra⟩:=h1.reads I rx
 obtain ⟨bs,rb⟩:=h2.reads I ry
 exact eq_dataH ra rb s1 s2 hu ⟨.bl _,H,I,rfl,q⟩
theorem Xtp (hu:X.A.units+64<cLine):OpR X (compareOp .NotEq) (rNeD X.K):=by
 intro pins s σ H x y v u Q I rx ry h
 obtain ⟨dx,dy,h1,h2,s1,s2,q⟩:=h
 obtain ⟨as,ra⟩:=h1.reads I rx
 obtain ⟨bs,rb⟩:=h2.reads I ry
 exact ne_dataH ra rb s1 s2 hu ⟨.bl _,H,I,rfl,q⟩
theorem Zcj (hu:X.A.units+64<cLine):OpR X (compareOp .Eq) (Zrh X.K):=op_eq.or (Xpc hu)
theorem Zfb (hu:X.A.units+64<cLine):OpR X (compareOp .NotEq) (Zxt X.K):=op_ne.or (Xtp hu)
end
def Zae (K:Frag):List V→Hp→VK→Prop:=fun xs H Q=>(∃p ys,xs=[.ref p]∧(SqL K H p ys∨SqT K H p ys)∧Q (.int ys.length) H)∨∃z,xs=[.str z]∧z.length≤sizeLine∧Q (.int z.length) H
def rSum (K:Frag):List V→Hp→VK→Prop:=fun xs H Q=>∃(p:Addr) (ns:List Int),xs=[.ref p]∧SqL K H p (ns.map V.int)∧Q (.int ns.sum) H
noncomputable def Ztg (lo:Int)(n:Nat):List V:=(List.range n).map fun (k:Nat)=>V.int (lo+(k:Int))
def Zry (K:Frag):List V→Hp→VK→Prop:=fun xs H Q=>(∃p ys,xs=[.ref p]∧(SqL K H p ys∨SqT K H p ys)∧∀l,H l=none→Q (.ref l) (upd H l (.lst ys)))∨
 ∃p i j,xs=[.ref p]∧H p=some (.rng i j)∧-(2 ^ 62)≤i∧i<2 ^ 62∧-(2 ^ 62)≤j∧j<2 ^ 62∧(j - i).toNat≤1000000∧∀l,H l=none→Q (.ref l) (upd H l (.lst (Ztg i (j - i).toNat)))
section
variable {X:Cx}
theorem Xi:Zcd X (.builtin "len") (Zae X.K):=Zpd.or Zqc
theorem Xec (hc:X.calm=true):Zcd X (.builtin "sum") (rSum X.K):=by
 intro pins s σ H xs us Q I r h
 obtain ⟨p,ns,rfl,hq,q⟩:=h
 obtain ⟨u,rfl,rx⟩:=vals1 r
 cases rx
 obtain ⟨its,rv,pl,hz⟩:=I.list hq
 have hi:IntsAre its ns:=intsAre_of rv
 obtain ⟨xs,hxs⟩:=hi.allInts.items
 have hn:numsOf its.toArray.toList=ns:=by rw [show its.toArray.toList=its from rfl,hi.numsOf]
 have hl:=pl.isList
 rw [hxs] at hl hn
 rw [nums_intItems] at hn
 refine sum_intListG (I.ok.hd hc) hl fun h' tk t' hk=>⟨.int ns.sum,H,I.kept hk,⟨t',?_⟩,q⟩
 rw [preSum_eq,take_of_length_le (by simp),hn]
theorem Zoh (hc:X.calm=true):Zcd X (.type "list") (fun xs H Q=>∃p i j,xs=[.ref p]∧H p=some (.rng i j)∧-(2 ^ 62)≤i∧i<2 ^ 62∧-(2 ^ 62)≤j∧j<2 ^ 62∧(j - i).toNat≤1000000∧
    ∀l,H l=none→Q (.ref l) (upd H l (.lst (Ztg i (j - i).toNat)))):=by
  intro pins s σ H xs us Q I r h
  obtain ⟨p,i,j,rfl,hH,h1,h2,h3,h4,h5,q⟩:=h
  obtain ⟨u,rfl,rx⟩:=vals1 r
  cases rx
  obtain ⟨t,u,v,e⟩:=I.hok p _ hH
  have en:Builtin.Range.rangeSize i j 1=(((j - i).toNat:Nat):Int):=by rw [rangeSize_one];split<;>omega
  refine call_list_range (n:=(j - i).toNat) (I.ok.hd hc) e (small_one h1 h2 h3 h4) en (le_trans h5 (by decide)) fun h' tk acc' c' hk hg hit=>?_
  refine ⟨.ref s.heap.objs.size,_,I.laid (t':=tk) hk (le_refl _) (show Zax X.prog X.w _ h' _ (.lst (Ztg i (j - i).toNat)) from ⟨?_,acc'.toList,c',?_,?_⟩),rfl,q _ I.fresh⟩
  · unfold Ztg
    rw [length_map,length_range]
    exact le_trans h5 (by decide)
  · obtain ⟨hsz,hv⟩:=hit
    have key:∀(k:Nat) (l:List Value) (lo:Int),l.length=k→(∀(m:Nat) (v:Value),l[m]?=some v→∃t,v=Value.int (lo+(m:Int)) t)→Jd (Ztg lo k) l:=by
      intro k
      induction k with
      | zero =>
        intro l lo hl _
        rw [List.length_eq_zero_iff.mp hl]
        exact .nil
      | succ k ih =>
        intro l lo hl hv
        cases l with
        | nil=>simp at hl
        | cons x l =>
          obtain ⟨t,e⟩:=hv 0 x (by simp)
          have er:Ztg lo (k+1)=V.int lo::Ztg (lo+1) k:=by
            unfold Ztg
            rw [List.range_succ_eq_map,map_cons,map_map]
            congr 1
            · simp
            · apply List.map_congr_left
              intro m _
              show V.int (lo+((m+1:Nat):Int))=V.int (lo+1+(m:Int))
              congr 1
              omega
          rw [er]
          refine .cons ⟨t,?_⟩ (ih l (lo+1) (by simpa using hl) fun m v hm=>?_)
          · rw [e]
            congr 1
            simp
          · obtain ⟨t',e'⟩:=hv (m+1) v (by simpa using hm)
            refine ⟨t',?_⟩
            rw [e']
            congr 1
            omega
    refine key _ _ i (by simpa using hsz) fun m v hm=>?_
    obtain ⟨t,e⟩:=hv m v (by simpa using hm)
    exact ⟨t,by rw [e];congr 1;omega⟩
  · simpa using hg
theorem Zhw (hc:X.calm=true):Zcd X (.type "list") (Zry X.K):=Zqm.or (Zoh hc)
def tRev (K:Frag)(te ts:TE):TE:=fun σ H Q=>te σ H fun x H1=>ts σ H1 fun y H2=>∃a xs,x=.ref a∧y=.int (-1)∧SqL K H2 a xs∧∀p,H2 p=none→Q (.ref p) (upd H2 p (.lst xs.reverse))
theorem Xsx {e st:Expr}{te ts:TE}{pos p2:Pos}(he:PE X e te)(hst:PE X st ts):PE X (.Subscript e (.Slice none none (some st) p2) pos) (tRev X.K te ts):=by
 intro pins s σ H Q I h
 refine Subscript_ (thn (he pins s σ H _ I h) fun v s1 hz9=>?_)
 obtain ⟨x,H1,I1,r1,q1⟩:=hz9
 refine wpAny_Slice ?_
 rw [evalPart_none]
 refine wpAny_pure (wpAny_pure ?_)
 rw [evalPart_some]
 refine thn (hst pins s1 σ H1 _ I1 q1) fun vk s3 hz9=>?_
 obtain ⟨y,H3,I3,r3,a,xs,ex,ey,hx,q3⟩:=hz9
 subst ex ey
 obtain ⟨tk,rfl⟩:=r3
 cases r1
 have I4:Inv X pins σ H3 {s3 with heap:=s3.heap.push {cls:=.type "slice",data:=.fields #[.none,.none,.int (-1) tk]}}:=I3.kept (t':=s3.toks) fun b ob q=>get?_push_of_some _ q
 obtain ⟨its,r,ht,hz⟩:=I4.list hx
 have hlen:=r.length
 show wpAny (model X.prog X.w) X.A (subscriptTail e (.Slice none none (some st) p2) (.ref a) (.ref s3.heap.objs.size)) (EP X pins σ Q) X.xe {s3 with heap:=s3.heap.push {cls:=.type "slice",data:=.fields #[.none,.none,.int (-1) tk]}}
 refine tail_any (ops:=[.ref a,.ref s3.heap.objs.size]) ht.isList.typeIs slot_list_getitem.lookup ?_ (by with_unfolding_all rfl)
 refine wpAny_getItem_list_slice ht.isList (Heap.IsSliceOf.new ..) .none .none (.int (-1) tk) (by simp) ?_ (by rw [size_toArray]<;>omega)
 rw [PySem.W.krv_pick]
 refine ⟨.ref _,_,I4.laid (t':=s3.toks) (o:=.lst xs.reverse) (fun b ob q=>get?_push_of_some _ q) (le_refl _) ?_,rfl,q3 _ (I4.hok.fresh (le_refl _))⟩
 exact ⟨by rw [List.length_reverse];exact hz,_,0,r.reverse,get?_push_size _ rfl⟩
end
structure Def (P:Program)(w:World)(K:Frag)(mg:Str→Option Value)(base:Heap)(CX:CXT)(k:Nat)(x:Str)(ps:List Str)(sp:Sp):Prop where
 ex:∃f fd,mg x=some (.ref f)∧keepIn K (.ref f)=true∧Binds K fd ps []∧Jx P w K mg base CX k f fd ps sp
theorem Xed {X:Cx}{CX:CXT}{k:Nat}{ps:List Str}{sp:Sp}{E:XK}{x:Str}{p pos:Pos}{e:Expr}{es:List Expr}{t:TA}(D:Def X.prog X.w X.K X.mg X.base CX k x ps sp)(hr:Zdx k X.A)(hg:Gl X x)(hx:Zbp CX X E)
  (ha:PA X (e::es) t) (hdb:(x==("__debug__":Str))=false:=by decide) (he:starEach (e::es) X.env=(false,eval e X.env)::starEach es X.env:=by rfl) (hpl:(backTo pos (starEach es X.env)).any (·.1)=false:=by rfl) :
  PE X (.Call (.Name x p) (e::es) [] pos) (Zxl sp [] E t):=by
 obtain ⟨f,fd,m,kp,b,F⟩:=D.ex
 exact Xkr F hr hg m kp b .nil hx ha hdb he hpl
section
variable {σ:St}{H:Hp}{Q:VK}{D:Ends}{K:Frag}
theorem rd_I {C:Int→Int→Prop}{g:Int→Int→V}{i j:Int}(c:C i j)(q:Q (g i j) H):rI C g (.int i) (.int j) H Q:=⟨i,j,rfl,rfl,c,q⟩
theorem rd_I0 {g:Int→Int→V}{i j:Int}(q:Q (g i j) H):rI0 g (.int i) (.int j) H Q:=⟨i,j,rfl,rfl,q⟩
theorem rd_U {g:Int→V}{i:Int}(q:Q (g i) H):rU g (.int i) H Q:=⟨i,rfl,q⟩
theorem Xpi {i j:Int}(q:Q (.int (i+j)) H):Xgz (.int i) (.int j) H Q:=.inl ⟨i,j,rfl,rfl,q⟩
theorem Xrw {i j:Int}(c:Xor i j)(q:Q (.int (i*j)) H):Xeg (.int i) (.int j) H Q:=.inl ⟨i,j,rfl,rfl,c,q⟩
theorem Xnr {sp:Sp}{E:XK}{t:TA}(q:t σ H fun vs H1=>sp vs H1 Q E):Zxl sp [] E t σ H Q:=by
 show t σ H fun vs H1=>sp (vs++[]) H1 Q E
 have e:(fun vs H1=>sp (vs++[]) H1 Q E)=fun vs H1=>sp vs H1 Q E:=by
  funext vs H1
  rw [append_nil]
 rw [e]
 exact q
theorem Xpx {p:Addr}{xs:List V}{i:Int}{v:V}(h:SqL K H p xs)(e:atI xs i=some v)(q:Q v H):rIx K (.ref p) (.int i) H Q:=.inl ⟨p,xs,i,v,rfl,rfl,h,e,q⟩
theorem Xtr {p:Addr}{xs:List V}{i:Int}{v:V}(h:SqT K H p xs)(e:atI xs i=some v)(q:Q v H):rIx K (.ref p) (.int i) H Q:=.inr (.inl ⟨p,xs,i,v,rfl,rfl,h,e,q⟩)
theorem Xar {p:Addr}{ys:List V}(h:SqL K H p ys)(q:Q (.int ys.length) H):Zae K [.ref p] H Q:=.inl ⟨p,ys,rfl,.inl h,q⟩
theorem Xku {p:Addr}{ys:List V}(h:SqT K H p ys)(q:Q (.int ys.length) H):Zae K [.ref p] H Q:=.inl ⟨p,ys,rfl,.inr h,q⟩
theorem Xlm {z:Str}(h:z.length≤sizeLine)(q:Q (.int z.length) H):Zae K [.str z] H Q:=.inr ⟨z,rfl,h,q⟩
theorem Xhi {l:Addr}{xs:List V}{y:V}(h:H l=some (.lst xs))(hz:xs.length<sizeLine)(q:Q .non (upd H l (.lst (xs++[y])))):Zef (.ref l) [y] H Q:=⟨l,xs,y,rfl,rfl,h,hz,q⟩
theorem Xie {a:Addr}{xs:List V}{lo hi:Option Int}(h:SqL K H a xs)(q:∀p,H p=none→Q (.ref p) (upd H p (.lst (Xdm xs lo hi)))):rSlL K (.ref a) lo hi H Q:=⟨a,xs,rfl,h,q⟩
theorem Xty {a b:Addr}{xs zs:List V}(h1:H a=some (.lst xs))(h2:H b=some (.lst zs))(hz:xs.length+zs.length≤sizeLine)(q:∀p,H p=none→Q (.ref p) (upd H p (.lst (xs++zs)))):Xgz (.ref a) (.ref b) H Q:=
 .inr (.inr ⟨a,b,xs,zs,rfl,rfl,h1,h2,hz,q⟩)
theorem Xtd {l:Addr}{k:Int}{xs:List V}(h:H l=some (.lst xs))(h1:-(2 ^ 63)≤k)(h2:k<2 ^ 63)(hz:xs.length*k.toNat≤sizeLine)(q:∀p,H p=none→Q (.ref p) (upd H p (.lst (List.replicate k.toNat xs).flatten))):Xeg (.ref l) (.int k) H Q:=
 .inr ⟨l,k,xs,rfl,rfl,h,h1,h2,hz,q⟩
theorem Xrb {p:Addr}{ns:List Int}(h:SqL K H p (ns.map V.int))(q:Q (.int ns.sum) H):rSum K [.ref p] H Q:=⟨p,ns,rfl,h,q⟩
theorem Xcw {p:Addr}{ys:List V}(h:SqL K H p ys)(q:∀l,H l=none→Q (.ref l) (upd H l (.lst ys))):Zry K [.ref p] H Q:=.inl ⟨p,ys,rfl,.inl h,q⟩
theorem Xge {p:Addr}{i j:Int}(h:H p=some (.rng i j))(h1:-(2 ^ 62)≤i)(h2:i<2 ^ 62)(h3:-(2 ^ 62)≤j)(h4:j<2 ^ 62)(h5:(j - i).toNat≤1000000)(q:∀l,H l=none→Q (.ref l) (upd H l (.lst (Ztg i (j - i).toNat)))):Zry K [.ref p] H Q:=
 .inr ⟨p,i,j,rfl,h,h1,h2,h3,h4,h5,q⟩
end
structure QE (X:Cx)(e:Expr)(t:TE):Prop where
 out:PE X e t
structure QT (X:Cx)(e:Expr)(t:TT):Prop where
 out:PT X e t
structure QW (X:Cx)(e:Expr)(t:TT):Prop where
 out:PW X e t
structure QA (X:Cx)(es:List Expr)(t:TA):Prop where
 out:PA X es t
structure QO (X:Cx)(e:Option Expr)(t:TO):Prop where
 out:PO X e t
structure QG (X:Cx)(e:Expr)(t:TG):Prop where
 out:PG X e t
structure QGs (X:Cx)(es:List Expr)(t:TGs):Prop where
 out:PGs X es t
structure QI (X:Cx)(tg iter:Expr)(wi:TI):Prop where
 out:PI X tg iter wi
structure QS (X:Cx)(st:Stmt)(t:TS):Prop where
 out:PS X st t
structure QSs (X:Cx)(st:List Stmt)(t:TS):Prop where
 out:PSs X st t
section
variable {X:Cx}{a b c e st o tg iter:Expr}{rest es:List Expr}{ta tb tc te ts to:TE}{tA tB':TT}{t:TA}{pos p p2 apos cpos:Pos}
theorem Xoy {i:Int}{j:Nat}:QE X (.Constant (.int i) j pos) (tC (.int i)):=⟨Xtx⟩
theorem qe_bl {i:Bool}{j:Nat}:QE X (.Constant (.bool i) j pos) (tC (.bl i)):=⟨pe_bl⟩
theorem Xsr {j:Nat}:QE X (.Constant .none j pos) (tC .non):=⟨Xsy⟩
theorem Xpe {x:Str}{j:Nat}:QE X (.Constant (.str x) j pos) (tC (.str x)):=⟨Xsh⟩
theorem qv (i:Nat){x:Str}(hN:X.N[i]?=some x:=by rfl)(hv:autoParam (Vis X.env.scope x) aT3._auto_1)(hd:(x==("__debug__":Str))=false:=by decide)
  (hcd:(x==("__classdict__":Str))=false:=by decide):QE X (.Name x pos) (Zdb i):=⟨pv i hN hv hd hcd⟩
theorem Xml {x:Str}{v:V}{u:Value}(hg:Gl X x)(hm:X.mg x=some u)(r:RelV v u)(hd:(x==("__debug__":Str))=false:=by decide):QE X (.Name x pos) (tC v):=⟨Xmw hg hm r hd⟩
theorem qe_op {op:Operator}{r:R2}(ho:OpR X (binaryOp op) r)(ha:QE X a ta)(hb:QE X b tb):QE X (.BinOp a op b pos) (tOp r ta tb):=⟨pe_op ho ha.out hb.out⟩
theorem qe_un {op:UnaryOp}{r:V→Hp→VK→Prop}(ho:UnR X (unaryOp op) r)(ha:QE X a ta):QE X (.UnaryOp op a pos) (tUn r ta):=⟨pe_un ho ha.out⟩
theorem Xlw {op:CmpOp}{r:R2}(ho:OpR X (compareOp op) r)(ha:QE X a ta)(hb:QE X b tb)(hm:behindInMarks op b=false):QE X (.Compare a [op] [b] pos) (tOp r ta tb):=⟨Xmn ho ha.out hb.out hm⟩
theorem Xbe {op:CmpOp}{r:R2}(ho:OpR X (compareOp op) r)(ha:QE X a ta)(hb:QE X b tb)(hm:behindInMarks op b=false):QT X (.Compare a [op] [b] pos) (Zxi (tOp r ta tb)):=⟨Xjn ho ha.out hb.out hm⟩
theorem Xqp {op:BoolOp}(h:QE X a ta):QE X (.BoolOp op [a] pos) ta:=⟨Xro h.out⟩
theorem Xrj (ha:QE X a ta)(hb:QE X (.BoolOp .And (b::rest) pos) tb):QE X (.BoolOp .And (a::b::rest) pos) (Xdv ta tb):=⟨Xqq ha.out hb.out⟩
theorem Xfl (hc:QT X c tA)(ha:QE X a ta)(hb:QE X b tb):QE X (.IfExp c a b pos) (tIf tA ta tb):=⟨Xdn hc.out ha.out hb.out⟩
theorem Xrv (h:QE X e te)(he:∀whole,isTrue e X.env whole=(do let v ← whole;standAt e.pos;holding [v] (truthy v)):=by intro _;rfl):QT X e (tB te):=⟨Xri h.out he⟩
theorem Xtf (ha:QT X a tA):QT X (.UnaryOp .Not a pos) (tNot tA):=⟨Xtj ha.out⟩
theorem Xnn (ha:QT X a tA):QW X (.BoolOp .And [a] pos) tA:=⟨Xnh ha.out⟩
theorem Xtg (ha:QT X a tA):QW X (.BoolOp .Or [a] pos) tA:=⟨Xrx ha.out⟩
theorem Xov (ha:QT X a tA)(hb:QW X (.BoolOp .And (b::rest) pos) tB'):QW X (.BoolOp .And (a::b::rest) pos) (tAnd tA tB'):=⟨Xud ha.out hb.out⟩
theorem qw_or (ha:QT X a tA)(hb:QW X (.BoolOp .Or (b::rest) pos) tB'):QW X (.BoolOp .Or (a::b::rest) pos) (tOr tA tB'):=⟨pw_or ha.out hb.out⟩
theorem qt_w (h:QW X a tA):QT X a tA:=⟨h.out.pt⟩
theorem Zvh:QA X [] Zvr:=⟨Xic⟩
theorem Zkp (ha:QE X e te)(hr:QA X es t)(hs:starEach (e::es) X.env=(false,eval e X.env)::starEach es X.env):QA X (e::es) (Zhz te t):=⟨Zzr ha.out hr.out hs⟩
theorem Xhj {x1:Nat}(h:QA X es t):QE X (.Tuple es x1 pos) (Xte t):=⟨Xqz h.out⟩
theorem Xiv (h:QA X es t):QE X (.List es pos) (Xoo t):=⟨Xoz h.out⟩
theorem Xfq {r:R2}(hr:IxR X r)(ha:QE X a ta)(hb:QE X b tb)(hs:Zek b):QE X (.Subscript a b pos) (tOp r ta tb):=⟨pe_ix hr ha.out hb.out hs⟩
theorem Xjp:QO X none Zoo:=⟨Xmg⟩
theorem Xnm (h:QE X e te):QO X (some e) (Xdj te):=⟨Xjf h.out⟩
theorem Xef {r:V→Option Int→Option Int→Hp→VK→Prop}{lo hi:Option Expr}{tl th:TO}(hr:SlR X r)(he:QE X e te)(hl:QO X lo tl)(hu:QO X hi th):QE X (.Subscript e (.Slice lo hi none p2) pos) (tSl r te tl th):=⟨Xfu hr he.out hl.out hu.out⟩
theorem Xpv (he:QE X e te)(hst:QE X st ts):QE X (.Subscript e (.Slice none none (some st) p2) pos) (tRev X.K te ts):=⟨Xsx he.out hst.out⟩
theorem Xgr {CX:CXT}{k:Nat}{ps:List Str}{sp:Sp}{E:XK}{x:Str}(D:Def X.prog X.w X.K X.mg X.base CX k x ps sp)(hr:Zdx k X.A)(hg:Gl X x)(hx:Zbp CX X E)
  (ha:QA X (e::es) t) (hdb:(x==("__debug__":Str))=false:=by decide) (he:starEach (e::es) X.env=(false,eval e X.env)::starEach es X.env:=by rfl) (hpl:(backTo pos (starEach es X.env)).any (·.1)=false:=by rfl) :
  QE X (.Call (.Name x p) (e::es) [] pos) (Zxl sp [] E t):=⟨Xed D hr hg hx ha.out hdb he hpl⟩
theorem Xes {x:Str}{id:String}{r:List V→Hp→VK→Prop}(hc:Zcd X (.builtin id) r)(hg:Gl X x)(hm:X.mg x=none)(hv:bootBuiltins x=some (.builtin id))(ha:QA X (e::es) t)(hn:x≠"__name__":=by decide)(hdb:(x==("__debug__":Str))=false:=by decide)
  (he:starEach (e::es) X.env=(false,eval e X.env)::starEach es X.env:=by rfl) (hpl:(backTo pos (starEach es X.env)).any (·.1)=false:=by rfl):QE X (.Call (.Name x p) (e::es) [] pos) (tCB r t):=⟨Xeu hc hg hm hv ha.out hn hdb he hpl⟩
theorem Zzz {x:Str}{T:String}{r:List V→Hp→VK→Prop}(hc:Zcd X (.type T) r)(hg:Gl X x)(hm:X.mg x=none)(hv:bootBuiltins x=some (.type T))(ha:QA X (e::es) t)(hn:x≠"__name__":=by decide)(hdb:(x==("__debug__":Str))=false:=by decide)
  (he:starEach (e::es) X.env=(false,eval e X.env)::starEach es X.env:=by rfl) (hpl:(backTo pos (starEach es X.env)).any (·.1)=false:=by rfl):QE X (.Call (.Name x p) (e::es) [] pos) (tCB r t):=⟨Zxx hc hg hm hv ha.out hn hdb he hpl⟩
theorem Xjh {name:Str}{T id:String}{r:V→List V→Hp→VK→Prop}(pa:PlainAttrs T)(slot:Slot T name id)(hty:typeOf (.builtin id)=pure (.type "method_descriptor"))(hm:MtR X id r)(ho:QE X o to)(ha:QA X (e::es) t)
    (hbase:attributeBase o name X.env (eval o X.env)=eval o X.env:=by rfl)
    (hfew:((backTo cpos (starEach (e::es) X.env)).all (fun x=>!x.1)&&(backToKw cpos (keywordEach [] X.env)).all (fun x=>x.1.isSome)
      && decide ((e::es).length+([]:List Keyword).length+(if ([]:List Keyword).isEmpty then 0 else 1)<30))=true:=by rfl)
    (hline:(apos.endLine==cpos.line)=true:=by rfl) (hs:starEach (e::es) X.env=(false,eval e X.env)::starEach es X.env:=by rfl) (hplain:(backTo cpos (starEach es X.env)).any (·.1)=false:=by rfl) :
    QE X (.Call (.Attribute o name apos) (e::es) [] cpos) (tBM X.K T r to t):=⟨pe_bm pa slot hty hm ho.out ha.out hbase hfew hline hs hplain⟩
theorem Znx {i:Nat}{x:Str}(hN:X.N.Nodup)(hi:X.N[i]?=some x)(hx:Loc X.env.scope x)(hf:autoParam (X.fn x=true∨X.env.scope.names.lookup x=some .local) aT0._auto_1):QG X (.Name x pos) (Zbn i):=⟨Xni hN hi hx hf⟩
theorem Xtq {k:Nat}{tt:TGs}{n:Nat}(hc:X.calm=true)(h:QGs X es tt)(hn:(assignEach es X.env).length=n:=by rfl)(hst:(assignEach es X.env).findIdx? (·.1)=none:=by rfl):QG X (.Tuple es k pos) (Zjb X.K n tt):=⟨Xsu hc h.out hn hst⟩
theorem Xnw:QGs X [] gNil:=⟨Xkv⟩
theorem Xgn {tt:TG}{u:TGs}(h1:QG X e tt)(h2:QGs X es u)(hs:(assignEach (e::es) X.env).map (·.2)=assign e X.env::(assignEach es X.env).map (·.2):=by rfl):QGs X (e::es) (Xco tt u):=⟨Xee h1.out h2.out hs⟩
theorem Xjg (hl:QE X e te):QI X tg e (Xff X.K te):=⟨Xkf hl.out⟩
theorem Xbo (hg:Gl X "range")(hm:X.mg "range"=none)(ha:QA X [a] t)(hs:starEach [a] X.env=[(false,eval a X.env)]:=by rfl):QI X tg (.Call (.Name "range" p) [a] [] pos) (Xfp t):=⟨Xbz hg hm ha.out hs⟩
theorem Zyr (hg:Gl X "range")(hm:X.mg "range"=none)(ha:QA X [a,b] t)(hs:starEach [a,b] X.env=[(false,eval a X.env),(false,eval b X.env)]:=by rfl)(hs2:starEach [b] X.env=[(false,eval b X.env)]:=by rfl):QI X tg (.Call (.Name "range" p) [a,b] [] pos) (Xcp t):=⟨Zzv hg hm ha.out hs hs2⟩
variable {s1:Stmt}{ss body other:List Stmt}{u v:TS}{pos':Pos}
theorem Xbh:QSs X [] Zwa:=⟨Xmm⟩
theorem Zvu (h1:QS X s1 u)(h2:QSs X ss v):QSs X (s1::ss) (Xoq u v):=⟨Xdb h1.out h2.out⟩
theorem Zol (h1:QS X s1 u):QSs X [s1] u:=⟨Xjl h1.out⟩
theorem Xdi:QS X s1 Zml:=⟨Xhe⟩
theorem Zlj (he:QE X e te)(hs:swapsWith e none pos.line X.env=pure false:=by rfl):QS X (.Expr e pos) (Zja te):=⟨Xnv he.out hs⟩
theorem Xhk (he:QE X e te):QS X (.Return (some e) pos) (Xos te):=⟨Xsa he.out⟩
theorem Xrd (hc:QT X c tA)(ha:QSs X body u)(hb:QSs X other v):QS X (.If c body other pos) (Xoj tA u v):=⟨ps_if hc.out ha.out hb.out⟩
theorem Zzc {g:TG}(he:QE X e te)(hg:QG X tg g)(hs:swapsWithSole [tg] e pos.line X.env=pure false:=by rfl)(hw:swappedStores [tg] e X.env=pure none:=by rfl)(h1:(assignEach [tg] X.env).map (·.2)=[assign tg X.env]:=by rfl):QS X (.Assign [tg] e pos) (Zmf te g):=⟨Xta he.out hg.out hs hw h1⟩
theorem Zua {i:Nat}{x:Str}(hN:X.N.Nodup)(hi:X.N[i]?=some x)(hx:Loc X.env.scope x)(he:QE X e te)(hs:swapsWith e (some (.Name x pos')) pos.line X.env=pure false:=by rfl)(hf:autoParam (X.fn x=true∨X.env.scope.names.lookup x=some .local) aT0._auto_1) :
  QS X (.Assign [.Name x pos'] e pos) (Zmf te (Zbn i)):=⟨Xql hN hi hx he.out hs hf⟩
theorem Xrr {wi:TI}{g:TG}(hp:PassesOwn (model X.prog X.w) X.A X.env X.xe)(hc:X.calm=true)(hi:QI X tg iter wi)(hg:QG X tg g)(hb:QSs X body u)(hs:∀x,foldedSetIterable iter X.env x=pure x:=by intro _;rfl):QS X (.For tg iter body [] pos) (tFor wi g u):=⟨Xpw hp hc hi.out hg.out hb.out hs⟩
end
theorem Fun.okQ {P:Program}{w:World}{K:Frag}{mg:Str→Option Value}{base:Heap}{x qual:Str}{st:Stmt}{f:Addr}{fd:FuncData}{N ps:List Str}{k:Nat}{sp:Sp}(F:Fun K x qual st f fd)(S:Zv N ps (Zm st))(len:∀vs H Q E,sp vs H Q E→vs.length=ps.length)
    (hbody:∀(cdv:Value) (A:Around) (outer:List Env) (s:Shared) (H:Hp) (vs:List V) (Q:VK) (E:XK),Zdx k (A.deeper (envOfC qual (Zm st) s.heap.objs.size f cdv))→sp vs H Q E→
      ∃t,QSs (Xek CX0 P w K mg base N qual (Zm st) f cdv A outer s H E).nox (Zbl st) t∧t {nx:=fun _ H'=>Q .non H',rt:=Q} (start N vs) H):Jx P w K mg base CX0 (k+1) f fd ps sp:=
  F.ok S len fun cdv A outer s H vs Q E hr h=>by
    obtain ⟨t,ht,q⟩:=hbody cdv A outer s H vs Q E hr h
    exact ⟨t,ht.out,q⟩
@[reducible] noncomputable def Cx.blk (X:Cx)(N2:List Str)(x:Str)(sc:Scope)(cl:List (Str×Addr))(C:Addr)(s0:Shared)(H0:Hp)(fp:List Addr):Cx:=
 {X with N:=N2++[x],s₀:=s0,H₀:=H0,env:=compEnvC sc cl C X.env,outer:=X.stack,ex:=fp,fn:=fun _=>false,pn:=[],xe:=fun _ _=>False}
structure BlkOk (sc esc:Scope)(x:Str)(N N2:List Str):Prop where
 kind:sc.kind=.function
 cell:∀y∈sc.names,y.2≠.cell
 loc:∀y∈sc.names,y.2=.local→sc.names.lookup y.1=some .local
 own:sc.names.lookup x=some .local
 free:∀y∈sc.names,y.2=.free→esc.names.lookup y.1=some .cell∨esc.names.lookup y.1=some .free
 out:∀y∈N2,sc.names.lookup y≠some .local
 nd:N.Nodup
 nd2:N2.Nodup
 len:N2.length=N.length
 ren:∀p∈N.zip N2,p.2=p.1∨sc.names.lookup p.2=none
theorem lookup_mem {l:List (Str×NameKind)}{y:Str}{k:NameKind}(h:(y,k)∈l):l.lookup y≠none:=by
 induction l with
 | nil=>simp at h
 | cons p r ih =>
  obtain ⟨n,k'⟩:=p
  cases hy:y==n with
  | true=>rw [lookup_cons,hy];simp
  | false =>
   rw [lookup_cons,hy]
   rcases List.mem_cons.mp h with e | e
   ·cases e
    simp at hy
   ·exact ih e
noncomputable def Jt (cells:List (Str×Addr)):List (Str×NameKind)→List (Str×Addr)→List (Str×Addr)
 | [],cs=>cs
 | (n,k)::r,cs=>Jt cells r (if k=.free then (n,(cells.lookup n).getD 0)::cs else cs)
theorem Zfd {sc:Scope}{env:Env}(h:∀y∈sc.names,y.2=.free→∃c,env.cells.lookup y.1=some c):closureFor sc env=pure (Jt env.cells sc.names []):=by
  unfold closureFor
  generalize sc.names=l at h ⊢
  have key:∀(l:List (Str×NameKind)) (cs:List (Str×Addr)),(∀y∈l,y.2=.free→∃c,env.cells.lookup y.1=some c)→
      (forIn l cs fun (y:Str×NameKind) (r:List (Str×Addr))=>(do
        let (name,kind):=y
        if kind==.free then
          let c ← cellOf env name
          pure (ForInStep.yield ((name,c)::r))
        else pure (ForInStep.yield r):Sem (ForInStep (List (Str×Addr)))))=pure (Jt env.cells l cs):=by
    intro l
    induction l with
    | nil=>intro cs _;rfl
    | cons y r ih =>
      intro cs hy
      obtain ⟨n,k⟩:=y
      rw [List.forIn_cons]
      have hr:∀y∈r,y.2=.free→∃c,env.cells.lookup y.1=some c:=fun y h'=>hy y (mem_cons_of_mem _ h')
      by_cases hk:k=.free
      · subst hk
        obtain ⟨c,hc⟩:=hy _ mem_cons_self rfl
        have e:cellOf env n=pure c:=by unfold cellOf;rw [show env.cells.lookup n=some c from hc]
        simp only [beq_self_eq_true,if_true,e]
        rw [Jt,if_pos rfl,show env.cells.lookup n=some c from hc]
        exact ih _ hr
      · have hb:(k==NameKind.free)=false:=by simpa using hk
        rw [Jt,if_neg hk]
        simp only [hb,if_false,Bool.false_eq_true]
        exact ih _ hr
  have q:=key l [] h
  exact (congrArg (fun z:Sem (List (Str×Addr))=>z >>= fun r=>pure r) q).trans rfl
theorem Zqk {cells:List (Str×Addr)}:∀{l:List (Str×NameKind)} {cs:List (Str×Addr)} {y:Str} {c:Addr},(∀z∈l,z.2=.free→∃c,cells.lookup z.1=some c)→(∀c,cs.lookup y=some c→cells.lookup y=some c)→
  (Jt cells l cs).lookup y=some c→cells.lookup y=some c
 | [],_,_,_,_,h0,h=>h0 _ h
 | (n,k)::r,cs,y,c,hl,h0,h=>by
  rw [Jt] at h
  refine Zqk (l:=r) (fun z hz=>hl z (mem_cons_of_mem _ hz)) (fun c' hc'=>?_) h
  by_cases hk:k=.free
  ·rw [if_pos hk] at hc'
   obtain ⟨c0,e0⟩:=hl _ mem_cons_self hk
   cases hy:y==n with
   | true =>
    have e:y=n:=by simpa using hy
    subst e
    rw [lookup_cons,hy] at hc'
    have e1:(cells.lookup y).getD 0=c':=by simpa using hc'
    have e2:cells.lookup y=some c0:=e0
    rw [e2] at e1 ⊢
    simpa using e1
   | false =>
    rw [lookup_cons,hy] at hc'
    exact h0 _ hc'
  ·rw [if_neg hk] at hc'
   exact h0 _ hc'
theorem Zoz {cells:List (Str×Addr)}:∀{l:List (Str×NameKind)} {cs:List (Str×Addr)} {y:Str},(∃c,cs.lookup y=some c)→∃c,(Jt cells l cs).lookup y=some c
 | [],_,_,h=>h
 | (n,k)::r,cs,y,h=>by
  rw [Jt]
  refine Zoz ?_
  split
  ·cases hy:y==n with
   | true=>exact ⟨_,by rw [lookup_cons,hy]⟩
   | false=>rw [lookup_cons,hy];exact h
  ·exact h
theorem Zoi {cells:List (Str×Addr)}:∀{l:List (Str×NameKind)} {cs:List (Str×Addr)} {y:Str},(y,NameKind.free)∈l→∃c,(Jt cells l cs).lookup y=some c
 | (n,k)::r,cs,y,h=>by
  rw [Jt]
  rcases List.mem_cons.mp h with e | e
  ·cases e
   refine Zoz ?_
   rw [if_pos rfl]
   exact ⟨_,by rw [lookup_cons,beq_self_eq_true]⟩
  ·exact Zoi e
theorem Zen {env:Env}:∀{names:List (Str×NameKind)} {y:Str} {k:NameKind},(∀z∈names,z.2≠.cell)→(k=.cell∨k=.free)→
  (names.map fun (n,k)=>if (k==NameKind.free&&env.scope.kind==.function&&env.kindOf n==some .cell) then (n,NameKind.cell) else (n,k)).lookup y=some k→(y,NameKind.free)∈names
 | [],_,_,_,_,hz=>by simp at hz
 | (n,k0)::r,y,k,hc,hk,h=>by
  rw [map_cons] at h
  cases hy:y==n with
  | true =>
   have e:y=n:=by simpa using hy
   subst e
   by_cases hf:k0=.free
   ·subst hf;exact mem_cons_self
   ·have hb:(k0==NameKind.free)=false:=by simpa using hf
    simp only [hb,Bool.false_and,Bool.false_eq_true,if_false,lookup_cons,beq_self_eq_true] at h
    have e1:k0=k:=by simpa using h
    subst e1
    rcases hk with z | z
    ·exact absurd z (hc _ mem_cons_self)
    ·exact absurd z hf
  | false =>
   refine mem_cons_of_mem _ (Zen (env:=env) (k:=k) (fun z hz=>hc z (mem_cons_of_mem _ hz)) hk ?_)
   by_cases hc':(k0==NameKind.free&&env.scope.kind==.function&&env.kindOf n==some .cell)=true
   ·simp only [hc',if_true,lookup_cons,hy] at h
    exact h
   ·simp only [hc',Bool.false_eq_true,if_false,lookup_cons,hy] at h
    exact h
theorem Zkc {env:Env}:∀{names:List (Str×NameKind)} {y:Str},
  (names.map fun (n,k)=>if (k==NameKind.free&&env.scope.kind==.function&&env.kindOf n==some .cell) then (n,NameKind.cell) else (n,k)).lookup y=some .local→names.lookup y=some .local
 | [],_,h=>by simp at h
 | (n,kn)::r,y,h=>by
  rw [map_cons] at h
  cases hy:y==n with
  | true =>
   rw [lookup_cons,hy]
   by_cases hc:(kn==NameKind.free&&env.scope.kind==.function&&env.kindOf n==some .cell)=true
   ·simp only [hc,if_true,lookup_cons,hy] at h
    cases h
   ·simp only [hc,Bool.false_eq_true,if_false,lookup_cons,hy] at h
    exact h
  | false =>
   rw [lookup_cons,hy]
   refine Zkc (env:=env) ?_
   by_cases hc:(kn==NameKind.free&&env.scope.kind==.function&&env.kindOf n==some .cell)=true
   ·simp only [hc,if_true,lookup_cons,hy] at h
    exact h
   ·simp only [hc,Bool.false_eq_true,if_false,lookup_cons,hy] at h
    exact h
section
variable {s:Shared}{R:Result→Shared→Prop}{A:Around}{P:Program}{w:World}
noncomputable def Xcl (ifs:List Expr)(env:Env):Sem Bool:=forIn ifs true fun c r=>if r=true then do let ok ← isTrue c env (eval c env);pure (ForInStep.yield ok) else pure (ForInStep.yield r)
theorem Zwq {elt tg iter:Expr}{ifs:List Expr}{scope:Scope}{pos:Pos}{it ac:Value}{env:Env}(W:Nat→Shared→Prop)
    (turn:∀n s,W n s→wpAny (model P w) A (pyNext it) (fun r s₁=>match r with
      | none=>R (.ok .next) s₁
      | some v=>wpAny (model P w) A (letOwnedTupleGo tg it v) (fun _ s₁'=>wpAny (model P w) A (assign tg env v) (fun _ s₂ =>
          wpAny (model P w) A (Xcl ifs env) (fun ok s₃ =>
            if ok=true then wpAny (model P w) A (eval elt env) (fun z s₄ =>
              wpAny (model P w) A (call (.builtin "list.append") [ac,z]) (fun _ s₅=>∃m,m<n∧W m s₅) (fun _ _=>False) s₄) (fun _ _=>False) s₃
            else ∃m,m<n∧W m s₃) (fun _ _=>False) s₂) (fun _ _=>False) s₁') (fun _ _=>False) s₁) (fun _ _=>False) s)
    (n:Nat) (h:W n s) :
    codeAny (model P w) A (.compLoop (.ListComp elt [⟨tg,iter,ifs,0⟩] scope pos) 0 it ac env) R s:=by
  refine codeAny_loop rfl W (fun n s hI=>?_) n h
  show wpAny _ A ((compTurn (.ListComp elt [⟨tg,iter,ifs,0⟩] scope pos) 0 it ac env).onRaise (fun z=>do noteFrame z env;theTreesLotGoes z)) _ _ s
  refine wpAny_noted ?_
  rw [compTurn_list]
  refine wpAny_bind (wpAny_standAt (wpAny_bind (wpAny_mono (turn n s hI) (fun r s₁ h₁=>?_) fun _ _ h'=>h'.elim)))
  cases r with
  | none=>exact wpAny_pure h₁
  | some v =>
    refine wpAny_bind (wpAny_mono h₁ (fun _ s₁' h₁'=>?_) fun _ _ h'=>h'.elim)
    refine wpAny_bind (wpAny_mono h₁' (fun _ s₂ h₂=>wpAny_bind (wpAny_mono h₂ (fun ok s₃ h₃=>?_) fun _ _ h'=>h'.elim)) fun _ _ h'=>h'.elim)
    cases ok with
    | false=>exact wpAny_pure (And.intro rfl h₃)
    | true =>
      exact wpAny_bind (wpAny_bind (wpAny_mono h₃ (fun x s₄ h₄=>wpAny_bind (wpAny_mono h₄ (fun _ s₅ h₅=>wpAny_pure (wpAny_pure ⟨rfl,h₅⟩)) fun _ _ h'=>h'.elim)) fun _ _ h'=>h'.elim))
end
def PIf (X:Cx)(ifs:List Expr)(t:TT):Prop:=
 ∀(pins:List (Addr×Obj)) (s:Shared) (σ:St) (H:Hp) (Q:Bool→Hp→Prop),Inv X pins σ H s→t σ H Q→wpAny (model X.prog X.w) X.A (Xcl ifs X.env) (TP X pins σ Q) X.xe s
def tYes:TT:=fun _ H Q=>Q true H
theorem Xmc {X:Cx}:PIf X [] tYes:=fun _ _ _ H _ I h=>wpAny_pure ⟨H,I,h⟩
theorem Xmd {X:Cx}{c:Expr}{t:TT}(h:PT X c t):PIf X [c] t:=fun pins s σ H Q I hw=>wpAny_tests_one (h pins s σ H Q I hw)
section
variable {X:Cx}{elt iter:Expr}{x:Str}{px pos:Pos}{ifs:List Expr}{sc:Scope}{N2:List Str}{wi:TI}{tc:TT}{te:TE}
end
structure QIf (X:Cx)(ifs:List Expr)(t:TT):Prop where
 out:PIf X ifs t
section
variable {X:Cx}{elt iter c:Expr}{x:Str}{px pos:Pos}{ifs:List Expr}{sc esc:Scope}{N N2:List Str}{wi:TI}{tc:TT}{te:TE}
theorem Xke:QIf X [] tYes:=⟨Xmc⟩
theorem Xbm (h:QT X c tc):QIf X [c] tc:=⟨Xmd h.out⟩
end
section
variable {K:Frag}{a D:Addr}{xs:List V}{tc:TT}{te:TE}{σ:St}{H:Hp}{Q:VK}{R:Hp→Prop}
end
@[reducible] noncomputable def Cx.blkN (X:Cx)(N2 xs:List Str)(sc:Scope)(cl:List (Str×Addr))(C:Addr)(s0:Shared)(H0:Hp)(fp:List Addr):Cx:=
 {X with N:=N2++xs,s₀:=s0,H₀:=H0,env:=compEnvC sc cl C X.env,outer:=X.stack,ex:=fp,fn:=fun _=>false,pn:=[],xe:=fun _ _=>False}
structure Xei (sc esc:Scope)(xs N N2:List Str):Prop where
 kind:sc.kind=.function
 cell:∀y∈sc.names,y.2≠.cell
 loc:∀y∈sc.names,y.2=.local→sc.names.lookup y.1=some .local
 free:∀y∈sc.names,y.2=.free→esc.names.lookup y.1=some .cell∨esc.names.lookup y.1=some .free
 out:∀y∈N2,sc.names.lookup y≠some .local
 nd:N.Nodup
 len:N2.length=N.length
 ren:∀p∈N.zip N2,p.2=p.1∨sc.names.lookup p.2=none
def Zgs (k:Nat)(g:TG)(wi:TI)(tc:TT)(te:TE):TE:=fun σ H Q=>wi σ H fun J H1=>∀D,H1 D=none→∃W:Nat→Nat→Hp→Prop,(∃m,W 0 m (upd H1 D (.lst [])))∧∀i m H,W i m H→
  (J.stop i H∧Q (.ref D) H)∨(J.go i H∧∃N:Hp→Prop,(∀H',N H'→∃m',m'<m∧W (i+1) m' H')∧∀x H',J.yld i H x H'→∀os:St,os.length=k→g x (σ++os) H' fun σ' Hg=>(∃os',os'.length=k∧σ'=σ++os')∧tc σ' Hg fun b H2 =>
    if b=true then te σ' H2 fun v H3=>∃ys,H3 D=some (.lst ys)∧ys.length<sizeLine∧N (upd H3 D (.lst (ys++[v])))
    else N H2)
section
variable {X:Cx}{elt iter tg:Expr}{xs:List Str}{pos:Pos}{g:TG}{ifs:List Expr}{sc:Scope}{N2:List Str}{wi:TI}{tc:TT}{te:TE}
theorem Zwf {pins:List (Addr×Obj)}{σ:St}{H:Hp}{s s1:Shared}{fp:List Addr}{h':Heap}{m:Str→Option Value}{tk:Nat}(B:Xei sc X.env.scope xs X.N N2)(I:Inv X pins σ H s)(hf:∀b∈fp,Xbd X pins H b)
    (hfl:∀b∈fp,b<s.heap.objs.size) (hn:h'.Ns s.heap.objs.size m) (hk:∀b o,s.heap.get? b=some o→h'.get? b=some o) (e1:s1={s with heap:=h',toks:=tk}) :
    Inv (X.blkN N2 xs sc (Jt X.env.cells sc.names []) s.heap.objs.size s H fp) [] (σ++List.replicate xs.length none) H s1:=by
  subst e1
  have hcl:∀y∈sc.names,y.2=.free→∃c,X.env.cells.lookup y.1=some c:=fun y hy hf=>I.ok.has y.1 (B.free y hy hf)
  have look:∀y c,(Jt X.env.cells sc.names []).lookup y=some c→X.env.cells.lookup y=some c:=fun y c h=>Zqk hcl (fun _ z=>by simp at z) h
  have isfree:∀y,(relabel sc X.env).names.lookup y=some .cell∨(relabel sc X.env).names.lookup y=some .free→(y,NameKind.free)∈sc.names:=fun y hy=>by
    rcases hy with hy | hy
    · exact Zen (env:=X.env) B.cell (.inl rfl) hy
    · exact Zen (env:=X.env) B.cell (.inr rfl) hy
  refine ⟨⟨I.ok.mod,B.kind,I.ok.glob,I.ok.blt,le_refl _,fun y z c h1 h2=>I.ok.inj y z c (look y c h1) (look z c h2),fun y hy=>Zoi (isfree y hy),fun _ _ h=>(by cases h),I.ok.hd,I.ok.frames,.inl rfl,fun b hb=>?_,fun b o e=>?_,le_trans I.ok.bsz I.sz,fun b o e hb=>?_,fun b hb hs=>?_,I.stack,I.stkFree⟩,
    rfl,I.bare,Un.kept hk,⟨_,hn,fun i y v h1 h2 h3=>?_⟩,fun y c h=>?_,I.hok.fresh (le_refl _),fun y c h=>I.freeC y c (look y c h),fun p hp=>absurd (show p∈([]:List (Addr×Obj)) from hp) (by simp),I.hok.kept hk,?_⟩
  · exact ⟨ne_of_lt (hfl b hb),fun y c h=>(hf b hb).2.2.2.2.1 y c (look y c h)⟩
  · exact I.bs b o e
  · rcases (hf b hb).2.2.2.1 with z | z
    · exact I.ok.noex b o e z
    · exact absurd (lt_of_lt_of_le (lt_size e) (le_trans I.ok.bsz z)) (lt_irrefl _)
  · rcases List.mem_cons.mp (I.stkSub b hs) with z | z
    · exact (hf b hb).2.1 z
    · exact (hf b hb).2.2.1 z
  · have hlen:=I.len
    have hl2:=B.len
    have h1:(N2++xs)[i]?=some y:=h1
    have h2:(σ++List.replicate xs.length none)[i]?=some (some v):=h2
    have hi:i<X.N.length:=by
      by_cases hi:i<X.N.length
      · exact hi
      · rw [getElem?_append_right (by omega)] at h2
        have hm:=mem_of_getElem? h2
        rw [mem_replicate] at hm
        exact absurd hm.2 (by intro z;cases z)
    rw [getElem?_append_left (by omega)] at h1
    rw [getElem?_append_left (by omega)] at h2
    have h3':(relabel sc X.env).names.lookup y=some .cell∨(relabel sc X.env).names.lookup y=some .free:=by
      rcases h3 with z | z
      · exact absurd (Zkc (env:=X.env) z) (B.out y (mem_of_getElem? h1))
      · exact z
    have hfr:=isfree y h3'
    have h1:X.N[i]?=some y:=by
      obtain ⟨z,hz⟩:∃z,X.N[i]?=some z:=⟨X.N[i],getElem?_eq_getElem hi⟩
      rcases B.ren (z,y) (mem_of_getElem? (List.getElem?_zip_eq_some.mpr ⟨hz,h1⟩)) with e | e
      · rw [hz,show y=z from e]
      · exact absurd e (lookup_mem hfr)
    obtain ⟨m3,hn3,hl3⟩:=I.loc
    have hv:X.env.scope.names.lookup y=some .cell∨X.env.scope.names.lookup y=some .free:=B.free (y,.free) hfr rfl
    obtain ⟨u,ru,lk⟩:=hl3 i y v h1 h2 (.inr hv)
    refine ⟨u,ru,.inr ⟨h3',?_⟩⟩
    rcases lk with ⟨k1,_⟩ | ⟨k1,c,ec,zc⟩
    · rcases hv with q | q
      · rw [show X.env.kindOf y=X.env.scope.names.lookup y from rfl,q] at k1
        cases k1
      · rw [show X.env.kindOf y=X.env.scope.names.lookup y from rfl,q] at k1
        cases k1
    · obtain ⟨c',e'⟩:=Zoi (cells:=X.env.cells) (cs:=[]) hfr
      have e2:=look y c' e'
      rw [ec] at e2
      cases e2
      obtain ⟨o,ho,hd⟩:=zc
      exact ⟨c,e',o,hk _ _ ho,hd⟩
  · obtain ⟨v,o,ho,hd⟩:=I.cell y c (look y c h)
    exact ⟨v,o,hk _ _ ho,hd⟩
  · show (σ++List.replicate xs.length none).length=(N2++xs).length
    rw [length_append,length_append,I.len,B.len,length_replicate]
theorem Zuf {pins:List (Addr×Obj)}{σ:St}{H2:Hp}{s2:Shared}{it:Addr}{fp:List Addr}{tn:Nat→Heap→Prop}{J:It}{Q:VK}{E:Value→Shared→Prop}{RR:Value→Addr→Result→Shared→Prop}(hc:X.calm=true)(B:Xei sc X.env.scope xs X.N N2)
    (hg:∀cl C s0 H0 fp,PG (X.blkN N2 xs sc cl C s0 H0 fp) tg g) (ht:∀cl C s0 H0 fp,PIf (X.blkN N2 xs sc cl C s0 H0 fp) ifs tc) (he:∀cl C s0 H0 fp,PE (X.blkN N2 xs sc cl C s0 H0 fp) elt te)
    (I2:Inv X pins σ H2 s2) (T:Turn X.prog X.w X.K tg J fp it tn) (st2:tn 0 s2.heap) (f2:∀b∈fp,Xbd X pins H2 b)
    (hw:∀D,H2 D=none→∃W:Nat→Nat→Hp→Prop,(∃m,W 0 m (upd H2 D (.lst [])))∧∀i m H,W i m H→
      (J.stop i H∧Q (.ref D) H)∨(J.go i H∧∃N:Hp→Prop,(∀H',N H'→∃m',m'<m∧W (i+1) m' H')∧∀x H',J.yld i H x H'→∀os:St,os.length=xs.length→g x (σ++os) H' fun σ' Hg=>(∃os',os'.length=xs.length∧σ'=σ++os')∧tc σ' Hg fun b H2 =>
        if b=true then te σ' H2 fun v H3=>∃ys,H3 D=some (.lst ys)∧ys.length<sizeLine∧N (upd H3 D (.lst (ys++[v])))
        else N H2))
    (fin:∀(D C:Addr) (H':Hp) (s':Shared) (m:Str→Option Value),Inv X pins σ H' s'→s'.heap.Ns C m→Xbd X pins H' C→Q (.ref D) H'→RR (.ref D) C (.ok .next) s') :
    wpAny (model X.prog X.w) X.A (newList []) (fun acc s₃=>wpAny (model X.prog X.w) X.A (newFunctionEnv sc X.env.globals (Jt X.env.cells sc.names []) [] X.env.qual none .none (some X.env)) (fun cenv s₄ =>
      codeAny (model X.prog X.w) X.A (.compStart (.ListComp elt [⟨tg,iter,ifs,0⟩] sc pos) 0 (.ref it) acc {cenv with scope:=relabel sc X.env}) (RR acc cenv.locals) s₄) E s₃) E s2:=by
  refine wpAny_newObj_type (wpAny_newFunctionEnv B.cell (by intro y hy;simp at hy) (fun h₁ hns₁ hsb₁=>?_) B.kind)
  have hD:H2 s2.heap.objs.size=none:=I2.fresh
  obtain ⟨W,⟨m0,w0⟩,turn⟩:=hw _ hD
  have I3:Inv X pins σ (upd H2 s2.heap.objs.size (.lst [])) {s2 with heap:=s2.heap.push {cls:=.type "list",data:=.seq ([]:List Value).toArray}}:=I2.lnew (its:=[]) (t':=s2.toks) .nil (zero_le _)
  have fne:∀b∈fp,b<s2.heap.objs.size:=fun b hb=>by
    obtain ⟨o,ho,_⟩:=T.obj _ _ st2 b hb
    exact lt_size ho
  generalize hs3:({s2 with heap:=s2.heap.push {cls:=.type "list",data:=.seq ([]:List Value).toArray}}:Shared)=s3 at I3
  have hs3h:s3.heap=s2.heap.push {cls:=.type "list",data:=.seq ([]:List Value).toArray}:=by rw [← hs3]
  have f3:∀b∈fp,Xbd X pins (upd H2 s2.heap.objs.size (.lst [])) b:=fun b hb=>⟨by rw [Xb (ne_of_lt (fne b hb))];exact (f2 b hb).1,(f2 b hb).2⟩
  have fl3:∀b∈fp,b<s3.heap.objs.size:=fun b hb=>by
    rw [hs3h,size_push]
    exact Nat.lt_succ_of_lt (fne b hb)
  have keep3:∀b o,s3.heap.get? b=some o→h₁.get? b=some o:=fun b o e=>by
    rw [hs3h] at e
    refine hsb₁.extBut b o ?_ (get?_push_of_some _ e)
    exact ne_of_lt (lt_size e)
  have hns3:h₁.Ns s3.heap.objs.size (fun z=>([]:List (Str×Value)).reverse.lookup z):=by
    rw [hs3h]
    exact hns₁
  have I4:=Zwf (xs:=xs) (sc:=sc) (s1:={s3 with heap:=h₁,toks:=s3.toks+([]:List (Str×Value)).length}) B I3 f3 fl3 hns3 keep3 rfl
  have st4:tn 0 h₁:=T.keep _ _ _ st2 fun b hb o e=>keep3 b o (by rw [hs3h];exact get?_push_of_some _ e)
  have stat:∀{H':Hp},(∀b∈fp,H' b=none)→∀b∈fp,Xbd (X.blkN N2 xs sc (Jt X.env.cells sc.names []) s3.heap.objs.size s3 (upd H2 s2.heap.objs.size (.lst [])) fp) [] H' b:=fun hn b hb =>
    ⟨hn b hb,(I4.ok.exf b hb).1,I4.ok.exfs b hb,.inl hb,(I4.ok.exf b hb).2,fun p hp=>absurd (show p∈([]:List (Addr×Obj)) from hp) (by simp)⟩
  have loop:∀s4:Shared,s4={s3 with heap:=h₁,toks:=s3.toks+([]:List (Str×Value)).length}→
      codeAny (model X.prog X.w) X.A (.compLoop (.ListComp elt [⟨tg,iter,ifs,0⟩] sc pos) 0 (.ref it) (.ref s2.heap.objs.size) (compEnvC sc (Jt X.env.cells sc.names []) s3.heap.objs.size X.env)) (RR (.ref s2.heap.objs.size) s3.heap.objs.size) s4:=by
    rintro s4 rfl
    refine Zwq (fun n s'=>∃(i:Nat) (o:St) (H':Hp),o.length=xs.length∧Inv (X.blkN N2 xs sc (Jt X.env.cells sc.names []) s3.heap.objs.size s3 (upd H2 s2.heap.objs.size (.lst [])) fp) [] (σ++o) H' s'∧tn i s'.heap∧(∀b∈fp,H' b=none)∧W i n H') ?_ m0
      ⟨0,List.replicate xs.length none,_,by simp,I4,st4,fun b hb=>(f3 b hb).1,w0⟩
    rintro n s5 ⟨i,o,H5,ol5,I5,st5,fr5,w5⟩
    rcases turn i n H5 w5 with ⟨stop,qn⟩ | ⟨go,N,hN,step⟩
    · refine thn (T.done (X.blkN N2 xs sc (Jt X.env.cells sc.names []) s3.heap.objs.size s3 (upd H2 s2.heap.objs.size (.lst [])) fp) rfl rfl rfl hc i [] s5 (σ++o) H5 _ I5 (stat fr5) st5 stop) fun r s6 ⟨hr,I6⟩=>?_
      subst hr
      obtain ⟨m6,hn6,_⟩:=I6.loc
      refine fin _ _ H5 s6 m6 ?_ hn6 (I3.fpOk (le_refl _) I6.free) qn
      exact I3.call' (ch:=fp) I6.os I6.base I6.hok I6.bare fun b hb=>⟨(f3 b hb).2.2.2.1,(f3 b hb).2.1,(f3 b hb).2.2.2.2.1,(f3 b hb).2.2.2.2.2⟩
    · refine thn (T.item (X.blkN N2 xs sc (Jt X.env.cells sc.names []) s3.heap.objs.size s3 (upd H2 s2.heap.objs.size (.lst [])) fp) rfl rfl rfl hc i [] s5 (σ++o) H5 _ I5 (stat fr5) st5 go) fun r s6 ⟨u,hr,h6⟩=>?_
      subst hr
      refine thn h6 fun _ s7 hz9=>?_
      obtain ⟨v,H7,I7,r7,y7,st7,fr7⟩:=hz9
      have I7':=I7.pinned (stat fr7) (T.obj _ _ st7)
      refine thn (hg _ _ _ _ _ _ s7 _ H7 v u _ I7' r7 (step v H7 y7 o ol5)) fun _ s8 ⟨σ8,H8,I8,⟨os',ol8,e8⟩,q8⟩=>?_
      subst e8
      have again:∀{H9:Hp} {s9:Shared},Inv (X.blkN N2 xs sc (Jt X.env.cells sc.names []) s3.heap.objs.size s3 (upd H2 s2.heap.objs.size (.lst [])) fp) ([]++Zqv fp s7.heap) (σ++os') H9 s9→N H9→
          ∃m,m<n∧∃(i:Nat) (o:St) (H':Hp),o.length=xs.length∧Inv (X.blkN N2 xs sc (Jt X.env.cells sc.names []) s3.heap.objs.size s3 (upd H2 s2.heap.objs.size (.lst [])) fp) [] (σ++o) H' s9∧tn i s9.heap∧(∀b∈fp,H' b=none)∧W i m H':=fun {H9 s9} I9 n9=>by
        obtain ⟨m',hm,w9⟩:=hN H9 n9
        refine ⟨m',hm,i+1,os',H9,ol8,I9.unpinned,T.keep _ _ _ st7 fun b hb o e=>(I9.pin (b,o) (mem_append_right _ (mem_append_right _ (Zet hb e)))).1,fun b hb=>?_,w9⟩
        obtain ⟨o,e,d⟩:=T.obj _ _ st7 b hb
        exact (I9.pin (b,o) (mem_append_right _ (mem_append_right _ (Zet hb e)))).2.1
      refine thn (ht _ _ _ _ _ _ s8 _ H8 _ I8 q8) fun ok s9 ⟨H9,I9,q9⟩=>?_
      cases ok with
      | false =>
        rw [if_neg Bool.false_ne_true] at q9 ⊢
        exact again I9 q9
      | true =>
        rw [if_pos rfl] at q9 ⊢
        refine thn (he _ _ _ _ _ _ s9 _ H9 _ I9 q9) fun ue s10 hz9=>?_
        obtain ⟨ve,H10,I10,r10,ys,hy,hz,q10⟩:=hz9
        refine thn (Zlm _ s10 _ H10 (.ref s2.heap.objs.size) [ve] (.ref s2.heap.objs.size) [ue] (fun _ H'=>N H') I10 rfl (.cons r10 .nil) ⟨_,ys,ve,rfl,rfl,hy,hz,q10⟩) fun _ s11 hz9=>?_
        obtain ⟨_,H11,I11,_,q11⟩:=hz9
        exact again I11 q11
  have fin':codeAny (model X.prog X.w) X.A (.compStart (.ListComp elt [⟨tg,iter,ifs,0⟩] sc pos) 0 (.ref it) (.ref s2.heap.objs.size) (compEnvC sc (Jt X.env.cells sc.names []) s3.heap.objs.size X.env)) (RR (.ref s2.heap.objs.size) s3.heap.objs.size) {s3 with heap:=h₁,toks:=s3.toks+([]:List (Str×Value)).length}:=
    codeAny_compStart_list (loop _ rfl) (T.self _ 0 _ _ _ st4 (loop _ rfl))
  exact fin'
theorem Xfi (hc:X.calm=true)(B:Xei sc X.env.scope xs X.N N2)(hi:PI X tg iter wi)(hg:∀cl C s0 H0 fp,PG (X.blkN N2 xs sc cl C s0 H0 fp) tg g)(ht:∀cl C s0 H0 fp,PIf (X.blkN N2 xs sc cl C s0 H0 fp) ifs tc)(he:∀cl C s0 H0 fp,PE (X.blkN N2 xs sc cl C s0 H0 fp) elt te)
  (hs:∀v,foldedSetIterable iter X.env v=pure v:=by intro _;rfl):PE X (.ListComp elt [⟨tg,iter,ifs,0⟩] sc pos) (Zgs xs.length g wi tc te):=by
 intro pins s σ H Q I h
 rw [eval_ListComp]
 have hcl:∀y∈sc.names,y.2=.free→∃c,X.env.cells.lookup y.1=some c:=fun y hy hf=>I.ok.has y.1 (B.free y hy hf)
 refine wpAny_comprehension_free (use:=none) rfl hs (Zfd hcl) B.kind B.loc (thn (hi pins s σ H _ I h) fun v s1 h1=>thn h1 fun itv s2 h2=>?_)
 obtain ⟨it,fp,tn,J,H2,e,I2,T,st2,f2,hw⟩:=h2
 subst e
 refine Zuf (RR:=fun acc C=>compPost (model X.prog X.w) X.A X.xe none (EP X pins σ Q) acc C) hc B hg ht he I2 T st2 f2 hw ?_
 intro D C H' s' m I' hn hC q
 obtain ⟨c0,c1,c2,c3,c4,c5⟩:=hC
 refine ⟨m,hn,fun h'' hs''=>⟨.ref D,H',?_,rfl,q⟩⟩
 exact I'.turned (t':=s'.toks) (fun b o hb e=>hs''.extBut b o hb e) c0 c1 c3 c4 c5
theorem Xfd {i:Nat}{y:Str}{py spos:Pos}(hc:X.calm=true)(B:Xei sc X.env.scope xs X.N N2)(hi:PI X tg iter wi)(hg:∀cl C s0 H0 fp,PG (X.blkN N2 xs sc cl C s0 H0 fp) tg g)(ht:∀cl C s0 H0 fp,PIf (X.blkN N2 xs sc cl C s0 H0 fp) ifs tc)(he:∀cl C s0 H0 fp,PE (X.blkN N2 xs sc cl C s0 H0 fp) elt te)
    (hy:X.N[i]?=some y) (hl:X.env.scope.names.lookup y=some .local) (hsw:swapsWith (.ListComp elt [⟨tg,iter,ifs,0⟩] sc pos) (some (.Name y py)) spos.line X.env=pure true:=by rfl)
    (hs:∀v,foldedSetIterable iter X.env v=pure v:=by intro _;rfl):PS X (.Assign [.Name y py] (.ListComp elt [⟨tg,iter,ifs,0⟩] sc pos) spos) (Zmf (Zgs xs.length g wi tc te) (Zbn i)):=by
  intro pins s σ H D I h
  have hx:=exec_Assign_Name_used (env:=X.env) _ _ _ _ hsw
  rw [hx]
  refine wpAny_bind (wpAny_standAt ?_)
  refine wpAny_bind ?_
  show wpAny _ X.A (do let _ ← comprehension (.ListComp elt [⟨tg,iter,ifs,0⟩] sc pos) sc X.env _ (newList []) false (eval iter X.env) (some (assign (.Name y py) X.env))) _ _ s
  have hcl:∀y∈sc.names,y.2=.free→∃c,X.env.cells.lookup y.1=some c:=fun y hy hf=>I.ok.has y.1 (B.free y hy hf)
  refine wpAny_bind (wpAny_mono (wpAny_comprehension_free (use:=some (assign (.Name y py) X.env)) (Q:=fun _ s'=>SP X pins D .next s') rfl hs (Zfd hcl) B.kind B.loc
    (thn (hi pins s σ H _ I h) fun v s1 h1=>thn h1 fun itv s2 h2=>?_)) (fun _ s' hq=>wpAny_pure (wpAny_pure hq)) fun _ _ e=>e)
  obtain ⟨it,fp,tn,J,H2,e,I2,T,st2,f2,hw⟩:=h2
  subst e
  refine Zuf (Q:=fun v H1=>Zbn i v σ H1 D.nx) (RR:=fun acc C=>compPost (model X.prog X.w) X.A X.xe (some (assign (.Name y py) X.env)) (fun _ s'=>SP X pins D .next s') acc C) hc B hg ht he I2 T st2 f2 hw ?_
  intro E C H' s' m I' hn hC q
  obtain ⟨c0,c1,c2,c3,c4,c5⟩:=hC
  show wpAny _ X.A (assign (.Name y py) X.env (.ref E)) _ _ _
  refine wpAny_assign_Name (Zqw (v:=.ref E) I' B.nd hy (.inl hl) rfl (fun s8 I8 ⟨a,sb,ha⟩=>?_) (.inr hl))
  have hCa:C≠a:=by
    rcases ha with z | z
    · rw [z];exact c1
    · exact fun z'=>c4 _ _ z z'.symm
  refine ⟨m,hn.sameBut sb hCa,fun h'' hs''=>⟨_,H',?_,q⟩⟩
  exact I8.turned (t':=s8.toks) (fun b o hb e=>hs''.extBut b o hb e) c0 c1 c3 c4 c5
end
section
variable {X:Cx}{elt iter c tg:Expr}{xs:List Str}{pos:Pos}{ifs:List Expr}{sc esc:Scope}{N N2:List Str}{wi:TI}{tc:TT}{te:TE}{g:TG}
theorem Zug (esc:Scope)(N N2 xs:List Str)(B:Xei sc esc xs N N2)(hi:QI X tg iter wi)(hg:∀cl C s0 H0 fp,QG (X.blkN N2 xs sc cl C s0 H0 fp) tg g)(ht:∀cl C s0 H0 fp,QIf (X.blkN N2 xs sc cl C s0 H0 fp) ifs tc)(he:∀cl C s0 H0 fp,QE (X.blkN N2 xs sc cl C s0 H0 fp) elt te)
  (hesc:X.env.scope=esc:=by rfl) (hN:X.N=N:=by rfl) (hc:X.calm=true:=by rfl) (hs:∀v,foldedSetIterable iter X.env v=pure v:=by intro _;rfl):QE X (.ListComp elt [⟨tg,iter,ifs,0⟩] sc pos) (Zgs xs.length g wi tc te):=by
 subst hesc hN
 exact ⟨Xfi hc B hi.out (fun cl C s0 H0 fp=>(hg cl C s0 H0 fp).out) (fun cl C s0 H0 fp=>(ht cl C s0 H0 fp).out) (fun cl C s0 H0 fp=>(he cl C s0 H0 fp).out) hs⟩
theorem Xdy {i:Nat}{y:Str}{py spos:Pos}(esc:Scope)(N N2 xs:List Str)(B:Xei sc esc xs N N2)(hy:N[i]?=some y)(hl:esc.names.lookup y=some .local)(hi:QI X tg iter wi)(hg:∀cl C s0 H0 fp,QG (X.blkN N2 xs sc cl C s0 H0 fp) tg g)(ht:∀cl C s0 H0 fp,QIf (X.blkN N2 xs sc cl C s0 H0 fp) ifs tc)(he:∀cl C s0 H0 fp,QE (X.blkN N2 xs sc cl C s0 H0 fp) elt te)
  (hesc:X.env.scope=esc:=by rfl) (hN:X.N=N:=by rfl) (hc:X.calm=true:=by rfl) (hsw:swapsWith (.ListComp elt [⟨tg,iter,ifs,0⟩] sc pos) (some (.Name y py)) spos.line X.env=pure true:=by rfl)
  (hs:∀v,foldedSetIterable iter X.env v=pure v:=by intro _;rfl):QS X (.Assign [.Name y py] (.ListComp elt [⟨tg,iter,ifs,0⟩] sc pos) spos) (Zmf (Zgs xs.length g wi tc te) (Zbn i)):=by
 subst hesc hN
 exact ⟨Xfd hc B hi.out (fun cl C s0 H0 fp=>(hg cl C s0 H0 fp).out) (fun cl C s0 H0 fp=>(ht cl C s0 H0 fp).out) (fun cl C s0 H0 fp=>(he cl C s0 H0 fp).out) hy hl hsw hs⟩
end
theorem Zzd (bt:Nat→Nat→Bool):∀k,argBest bt k≤k
 | 0=>le_refl _
 | k+1=>by
  rw [argBest]
  have:=Zzd bt k
  split<;>omega
theorem Zvw (val:Nat→Int):∀k j,j≤k→val j≤val (argBest (fun i j=>decide (val i > val j)) k)
 | 0,j,h=>by
  have e:j=0:=by omega
  subst e
  exact Int.le_refl _
 | k+1,j,h=>by
  have ih:=Zvw val k
  rw [argBest]
  by_cases c:val (k+1) > val (argBest (fun i j=>decide (val i > val j)) k)
  ·rw [if_pos (by simpa using c)]
   by_cases e:j=k+1
   ·subst e;exact Int.le_refl _
   ·have:=ih j (by omega)
    omega
  ·rw [if_neg (by simpa using c)]
   by_cases e:j=k+1
   ·subst e
    omega
   ·exact ih j (by omega)
def Xrp (K:Frag):List V→Hp→VK→Prop:=fun xs H Q=>∃p ns,xs=[.ref p]∧SqL K H p (ns.map V.int)∧ns≠[]∧∀m,m∈ns→(∀n∈ns,n≤m)→Q (.int m) H
def Zsc (K:Frag):List V→Hp→VK→Prop:=fun xs H Q=>(∃i j,xs=[.int i,.int j]∧Q (.int (if j > i then j else i)) H)∨Xrp K xs H Q
section
variable {X:Cx}
theorem Zye (hc:X.calm=true):Zcd X (.builtin "max") (Xrp X.K):=by
 intro pins s σ H xs us Q I r h
 obtain ⟨p,ns,rfl,hq,hne,q⟩:=h
 obtain ⟨u,rfl,rx⟩:=vals1 r
 cases rx
 obtain ⟨its,rv,pl,hz⟩:=I.list hq
 have hi:IntsAre its ns:=intsAre_of rv
 obtain ⟨xs,hxs⟩:=hi.allInts.items
 have hn:numsOf its.toArray.toList=ns:=by rw [show its.toArray.toList=its from rfl,hi.numsOf]
 have hl:=pl.isList
 rw [hxs] at hl hn
 rw [nums_intItems] at hn
 have hsz:xs.size=ns.length:=by rw [← hn];simp
 have h0:0<ns.length:=List.length_pos_iff.mpr hne
 have val:∀i,i<ns.length→numAt xs i=ns.getD i 0:=fun i hi=>by
  rw [← hn]
  have:i<xs.size:=by omega
  simp [numAt,List.getD,this]
 refine max_intList (I.ok.hd hc) hl (by omega) fun v h' tk hv hk=>?_
 obtain ⟨tk',rfl⟩:=intItems_at hv
 have hb:=Zzd (fun i j=>decide (numAt xs i > numAt xs j)) (xs.size - 1)
 have hlt:argBest (fun i j=>decide (numAt xs i > numAt xs j)) (xs.size - 1)<ns.length:=by omega
 refine ⟨.int (numAt xs (argBest (fun i j=>decide (numAt xs i > numAt xs j)) (xs.size - 1))),H,I.kept hk,⟨tk',rfl⟩,q _ ?_ fun n hn'=>?_⟩
 ·rw [val _ hlt]
  have e:ns.getD (argBest (fun i j=>decide (numAt xs i > numAt xs j)) (xs.size - 1)) 0=ns[argBest (fun i j=>decide (numAt xs i > numAt xs j)) (xs.size - 1)]:=by simp [List.getD,hlt]
  rw [e]
  exact getElem_mem hlt
 ·obtain ⟨j,hj,e⟩:=List.mem_iff_getElem.mp hn'
  have q1:=Zvw (numAt xs) (xs.size - 1) j (by omega)
  rw [val j hj] at q1
  have e2:ns.getD j 0=ns[j]:=by simp [List.getD,hj]
  rw [e2,e] at q1
  exact q1
theorem Zkt (hc:X.calm=true):Zcd X (.builtin "max") (Zsc X.K):=(Zyn hc).or (Zye hc)
variable {σ:St}{H:Hp}{Q:VK}{D:Ends}{K:Frag}
theorem Xkc {i j:Int}(q:Q (.int (if j > i then j else i)) H):Zsc K [.int i,.int j] H Q:=.inl ⟨i,j,rfl,q⟩
theorem Xng {p:Addr}{ns:List Int}(h:SqL K H p (ns.map V.int))(hne:ns≠[])(q:∀m,m∈ns→(∀n∈ns,n≤m)→Q (.int m) H):Zsc K [.ref p] H Q:=.inr ⟨p,ns,rfl,h,hne,q⟩
variable {a b c e o i':Expr}{to ti te:TE}{tc:TT}{pos p2 apos cpos:Pos}{body:List Stmt}{tb:TS}
theorem Xfv (hp:PassesOwn (model X.prog X.w) X.A X.env X.xe)(hc:QT X c tc)(hb:QSs X body tb):QS X (.While c body [] pos) (Zts tc tb):=⟨Xgy hp hc.out hb.out⟩
theorem Xqe {i:Nat}{x:Str}{op:Operator}{tp:TIp}{pos':Pos}(hN:X.N.Nodup)(hi:X.N[i]?=some x)(hx:Loc X.env.scope x)(he:QE X e te)(ho:PIp X op tp)(hf:autoParam (X.fn x=true∨X.env.scope.names.lookup x=some .local) aT0._auto_1) :
  QS X (.AugAssign (.Name x pos') op e pos) (tAug i te tp):=⟨Xph hN hi hx he.out ho hf⟩
theorem Xij {t:TSet}(ho:QE X o to)(hi:QE X i' ti)(hs:PSet X t)
    (ha:∀v,assign (.Subscript o i' pos) X.env v=(do
      let ov ← holding [v] (eval o X.env)
      let iv ← holding [v,ov] (eval i' X.env)
      standAt pos
      holding [v,ov,iv] (setItem ov iv v)
      release [v,ov,iv] []):=by intro _;rfl):QG X (.Subscript o i' pos) (Zdy to ti t):=⟨Xqs ho.out hi.out hs ha⟩
end
theorem Xln:typeLookup (.type "list_reverseiterator") "__len__"=pure none:=by rw [typeLookup_type,builtinLookup_eq_fast];kernel_rfl
theorem Xfk:typeLookup (.type "list_reverseiterator") "__length_hint__"=pure (some (.builtin "list_reverseiterator.__length_hint__")):=by rw [typeLookup_type,builtinLookup_eq_fast];kernel_rfl
section
variable {s:Shared}{E:Value→Shared→Prop}{A:Around}{P:Program}{w:World}
theorem Xgo {it l:Addr}{i:Int}{Q:Bool→Shared→Prop}(hit:s.heap.IsRevIter it l i)(h:Q false s):wpAny (model P w) A (Builtin.List.listLengthHint (.ref it)) Q E s:=by
 delta Builtin.List.listLengthHint
 refine wpAny_bind (wpAny_specialOf hit.typeIs Xln ?_)
 refine wpAny_ite_split (fun z=>absurd z (by decide +kernel)) fun _=>?_
 refine wpAny_ite_split (fun z=>absurd z (by decide +kernel)) fun _=>?_
 refine wpAny_bind (wpAny_specialOf hit.typeIs Xfk ?_)
 generalize hid:("list_reverseiterator.__length_hint__":String)=id0
 wp_delta
 rw [show splitId id0=some ("list_reverseiterator","__length_hint__") from by subst hid;decide +kernel]
 subst hid
 refine wpAny_bind (wpAny_isInstance (T:="list_reverseiterator") (b:=true) hit.typeIs (by rw [isSubtype_type];kernel_rfl) ?_)
 refine wpAny_ite_split (fun z=>absurd z (by decide)) fun _=>?_
 refine wpAny_ite_split (fun _=>?_) fun z=>absurd (by decide +kernel) z
 refine wpAny_ite_split (fun z=>absurd z (by decide +kernel)) fun _=>?_
 exact wpAny_pure h
theorem Zxp {R:Result→Shared→Prop}{it l:Addr}{items:Array Value}(hh:A.handled=none)(hit:s.heap.IsRevIter it l ((items.size:Int) - 1))(hl:s.heap.IsList l items)(hne:l≠it)(hn:items.size≤sizeLine)(S:Addr)(res:Value)(c₀:Nat)
    (hN:s.heap.get? S=some {cls:=.type "list",data:=.seq #[] c₀}) (hSi:S≠it) (hSl:S≠l)
    (hR:∀h' tk acc' c',(∀b o,b≠S→b≠it→s.heap.get? b=some o→h'.get? b=some o)→h'.get? S=some {cls:=.type "list",dict:=none,data:=.seq acc' c',slots:=#[]}→
      ItemsOf (fun i v=>items[items.size - 1 - i]?=some v) acc' items.size→R (.ok (.ret res)) {s with heap:=h',toks:=tk}) :
    wpAny (model P w) A.in1 (Builtin.List.listExtendWith (.ref S) (.ref it) res)
      (fun fi s1=>match fi with | .done fl=>R (.ok fl) s1 | .again cd=>cd.quiet=true∧codeAny (model P w) A cd R s1) (fun ev s1=>R (.error ev) s1) s:=by
  have W:=(Walks.listRev (prog:=P) (w:=w) (A:=A.in1) hh it l hne items).toS
  have key:codeAny (model P w) A (.builtin "list.extend.loop" ⟨[.ref S,.ref it,res],[]⟩) R s:=by
    refine codeAny_extend_loopS W hn S (by simp [hSi,hSl]) res items.size 0 s #[] c₀ rfl (zero_le _) ⟨zero_le _,by simpa using hit,hl⟩ hN (ItemsOf.nil _) fun s' acc' c' hm hN1 hacc=>?_
    rw [Moved.eq_with hm]
    exact hR s'.heap s'.toks acc' c' (fun b o hb hbi e=>hm.heap b o (by simp [hb,hbi]) e) hN1 hacc
  delta Builtin.List.listExtendWith
  refine wpAny_bind (wpAny_typeOf (T:="list_reverseiterator") hit.typeIs ?_)
  have h1:Builtin.List.listSameRef (.ref S) (.ref it)=false:=by simp [Builtin.List.listSameRef,hSi]
  have h2:(Value.type "list_reverseiterator"==Value.type "list")=false:=by decide
  have h3:(Value.type "list_reverseiterator"==Value.type "tuple")=false:=by decide
  simp only [h1,h2,h3,Bool.or_false,if_false,Bool.false_eq_true]
  refine wpAny_bind (wpAny_pyIter_revIter hit ?_)
  refine wpAny_bind (wpAny_holding (Xgo hit ?_))
  exact wpAny_ite_split (fun z=>absurd z (by decide +kernel)) (fun _=>wpAny_pure ⟨plainId_quiet F.plain_extend_loop _,key⟩)
theorem Zok {Q:Value→Shared→Prop}{it l:Addr}{items:Array Value}(hh:A.handled=none)(hit:s.heap.IsRevIter it l ((items.size:Int) - 1))(hl:s.heap.IsList l items)(hne:l≠it)(hn:items.size≤sizeLine)
    (hQ:∀h' tk acc' c',(∀b o,b≠it→s.heap.get? b=some o→h'.get? b=some o)→h'.get? s.heap.objs.size=some {cls:=.type "list",dict:=none,data:=.seq acc' c',slots:=#[]}→
      ItemsOf (fun i v=>items[items.size - 1 - i]?=some v) acc' items.size→Q (.ref s.heap.objs.size) {s with heap:=h',toks:=tk}) :
    wpAny (model P w) A (call (.type "list") [.ref it]) Q E s:=by
  have hit0:=hit
  obtain ⟨oi,hoi,_⟩:=id hit
  obtain ⟨ol,hol,_⟩:=id hl
  have hi:it<s.heap.objs.size:=lt_size hoi
  have hLl:l<s.heap.objs.size:=lt_size hol
  refine callType_codes (Q₁:=fun ob z=>ob=.ref s.heap.objs.size∧z={s with heap:=s.heap.push {cls:=.type "list",data:=.seq #[]}}) F.called_list (F.typeCall_list_1 _) F.entry_list_init
    (code_list_new _ ⟨rfl,rfl⟩) fun ob z h1=>?_
  obtain ⟨rfl,rfl⟩:=h1
  have hN:(s.heap.push {cls:=.type "list",data:=.seq #[]}).get? s.heap.objs.size=some {cls:=.type "list",data:=.seq #[]}:=get?_push_size _ rfl
  refine ⟨⟨_,hN,rfl⟩,F.args_list_init_2 _ _,?_⟩
  show wpAny _ _ (do let old ← Builtin.List.listItems (.ref s.heap.objs.size);Builtin.List.listUpdate (.ref s.heap.objs.size) (fun _=>#[]);letGo old.toList.reverse;Builtin.List.listExtendWith (.ref s.heap.objs.size) (.ref it) .none) _ _ _
  refine wpAny_bind ?_
  unfold Builtin.List.listItems
  refine wpAny_bind (wpAny_seqItems hN rfl (wpAny_pure ?_))
  show wpAny _ _ (updateSeq s.heap.objs.size (fun _=>#[]) >>= fun _=>letGo (#[]:Array Value).toList.reverse >>= fun _=>Builtin.List.listExtendWith (.ref s.heap.objs.size) (.ref it) .none) _ _ _
  refine wpAny_bind (wpAny_updateSeq hN rfl ?_)
  have hN2:=Heap.get?_update_self (Obj.mapSeq (fun _=>(#[]:Array Value))) hN rfl
  have oth:∀b o,b≠s.heap.objs.size→s.heap.get? b=some o→((s.heap.push {cls:=.type "list",data:=.seq #[]}).update s.heap.objs.size (Obj.mapSeq (fun _=>(#[]:Array Value)))).get? b=some o:=
    fun b o hb e=>(Heap.get?_update_other _ _ (Ne.symm hb)).trans (get?_push_of_some _ e)
  refine wpAny_bind (wpAny_letGo ?_)
  refine Zxp (A:=A.in1) hh (hit0.at fun o e=>oth it o (ne_of_lt hi) e) (hl.at fun o e=>oth l o (ne_of_lt hLl) e) hne hn _ .none _ hN2 (Nat.ne_of_gt hi) (Nat.ne_of_gt hLl) fun h' tk acc' c' hk hN1 hacc=>?_
  exact ⟨rfl,hQ h' tk acc' c' (fun b o hb e=>hk b o (ne_of_lt (lt_size e)) hb (oth b o (ne_of_lt (lt_size e)) e)) hN1 hacc⟩
end
section
variable {X:Cx}{e:Expr}{te:TE}{p p' pos pos':Pos}
def Xfy (K:Frag)(te:TE):TE:=fun σ H Q=>Zhz te Zvr σ H fun vs H1=>∃a xs,vs=[.ref a]∧SqL K H1 a xs∧∀r,H1 r=none→Q (.ref r) (upd H1 r (.lst xs.reverse))
theorem Xme (hc:X.calm=true)(hg:Gl X "list")(hm:X.mg "list"=none)(hg':Gl X "reversed")(hm':X.mg "reversed"=none)(he:PE X e te)(hs2:starEach [e] X.env=(false,eval e X.env)::starEach [] X.env) :
  PE X (.Call (.Name "list" p) [.Call (.Name "reversed" p') [e] [] pos'] [] pos) (Xfy X.K te):=by
 intro pins s σ H Q I h
 refine wpAny_Call_Name_kw (Znc I hg hm boot_list ?_ (by decide) (by decide))
 refine PyProof.Rows.callWith_type1 ?_ Xf rfl
 rw [Xf]
 show wpAny _ _ (spliced ((false,eval (.Call (.Name "reversed" p') [e] [] pos') X.env)::backTo pos (starEach [] X.env))) _ _ s
 refine Calls.spliced_cons ?_
 refine wpAny_Call_Name_kw (Znc I hg' hm' boot_reversed ?_ (by decide) (by decide))
 refine PyProof.Rows.callWith_type1 (thn (Zzr he Xic hs2 pos' pins s σ H _ I h) fun us s1 hz9=>?_) hs2 rfl
 obtain ⟨vs,H1,I1,r1,q1⟩:=hz9
 obtain ⟨a,xs,rfl,hq,q⟩:=q1
 obtain ⟨u,rfl,rx⟩:=vals1 r1
 cases rx
 obtain ⟨its,rv,pl,hz⟩:=I1.list hq
 have hlen:=rv.length
 have hl:=pl.isList
 obtain ⟨oa,hoa,_⟩:=id hl
 have ha:a<s1.heap.objs.size:=lt_size hoa
 refine call_reversed_list hl (Calls.spliced_nil ?_)
 refine Zok (it:=s1.heap.objs.size) (l:=a) (items:=its.toArray) (I1.ok.hd hc) ⟨_,get?_push_size _ rfl,rfl,rfl⟩ (hl.push _) (ne_of_lt ha) (by rw [size_toArray];omega) fun h' tk acc' c' hk hN1 hacc=>?_
 have hsz:(s1.heap.push (revObj a ((its.toArray.size:Int) - 1))).objs.size=s1.heap.objs.size+1:=size_push ..
 have hle:s1.heap.objs.size≤(s1.heap.push (revObj a ((its.toArray.size:Int) - 1))).objs.size:=by rw [hsz];exact Nat.le_succ _
 have hk1:∀b o,s1.heap.get? b=some o→h'.get? b=some o:=fun b o e=>hk b o (ne_of_lt (lt_size e)) (get?_push_of_some _ e)
 have hrev:acc'.toList=its.reverse:=by
  obtain ⟨h1,h2⟩:=hacc
  have h0:acc'.size=its.length:=h1.trans (size_toArray ..)
  refine List.ext_getElem? fun j=>?_
  by_cases hj:j<its.length
  ·have hj':j<acc'.size:=by omega
   have e1:=h2 j acc'[j] (Array.getElem?_eq_getElem hj')
   have e2:its.toArray[its.toArray.size - 1 - j]?=its[its.length - 1 - j]?:=by simp
   rw [Array.getElem?_toList,Array.getElem?_eq_getElem hj',List.getElem?_reverse hj,← e2]
   exact e1.symm
  ·rw [getElem?_eq_none (by simp;omega),getElem?_eq_none (by simp;omega)]
 refine ⟨.ref _,_,I1.laid (o:=.lst xs.reverse) (t':=tk) hk1 hle ?_,rfl,q _ (I1.hok.fresh hle)⟩
 refine ⟨by rw [List.length_reverse];exact hz,acc'.toList,c',?_,?_⟩
 ·rw [hrev]
  exact rv.reverse
 ·rw [hN1]
theorem Xjk (hg:Gl X "list")(hm:X.mg "list"=none)(hg':Gl X "reversed")(hm':X.mg "reversed"=none)(he:QE X e te)(hs2:starEach [e] X.env=(false,eval e X.env)::starEach [] X.env)(hc:X.calm=true:=by rfl) :
  QE X (.Call (.Name "list" p) [.Call (.Name "reversed" p') [e] [] pos'] [] pos) (Xfy X.K te):=⟨Xme hc hg hm hg' hm' he.out hs2⟩
variable {σ:St}{H:Hp}{Q:VK}{K:Frag}
end
theorem range_any (bs:List Bool):(List.range bs.length).any (fun i=>bs.getD i false)=bs.any id:=by
 refine Bool.eq_iff_iff.mpr ⟨fun h=>List.any_eq_true.mpr ?_,fun h=>List.any_eq_true.mpr ?_⟩
 all_goals obtain ⟨i,hi,h⟩:=List.any_eq_true.mp h
 ·have hl:i<bs.length:=List.mem_range.mp hi
  refine ⟨bs[i],getElem_mem hl,?_⟩
  simpa [List.getD,hl] using h
 ·obtain ⟨j,hj,e⟩:=List.mem_iff_getElem.mp hi
  refine ⟨j,List.mem_range.mpr hj,?_⟩
  have e2:bs.getD j false=bs[j]:=by simp [List.getD,hj]
  rw [e2,e]
  exact h
def Xet (K:Frag):List V→Hp→VK→Prop:=fun xs H Q=>∃(p:Addr) (bs:List Bool),xs=[.ref p]∧SqL K H p (bs.map V.bl)∧Q (.bl (bs.any id)) H
section
variable {X:Cx}
theorem Xub {prog:Program}{w:World}{A:Around}{bs:List Bool}{its:List Value}(rv:Jd (bs.map V.bl) its):TruthOf prog w A (fun i v=>its.toArray[i]?=some v) (fun i=>bs.getD i false):=by
  intro i v s Q E hv hQ
  have hl:=rv.length
  rw [length_map] at hl
  have hv':its[i]?=some v:=by simpa using hv
  have hi:i<its.length:=(List.getElem?_eq_some_iff.mp hv').1
  obtain ⟨u,e,ru⟩:=rv.get (i:=i) (x:=V.bl (bs.getD i false)) (by
    rw [getElem?_map,getElem?_eq_getElem (by omega)]
    simp [List.getD,show i<bs.length by omega])
  rw [hv'] at e
  cases e
  cases (show v=Value.bool (bs.getD i false) from ru)
  exact wpAny_truthy_bool hQ
theorem Zzs (hc:X.calm=true):Zcd X (.builtin "any") (Xet X.K):=by
 intro pins s σ H xs us Q I r h
 obtain ⟨p,bs,rfl,hq,q⟩:=h
 obtain ⟨u,rfl,rx⟩:=vals1 r
 cases rx
 obtain ⟨its,rv,pl,hz⟩:=I.list hq
 have hl:=pl.isList
 have hlen:=rv.length
 rw [length_map] at hlen
 obtain ⟨oa,hoa,_⟩:=id hl
 have hlt:p<s.heap.objs.size:=lt_size hoa
 refine call_any_walk (wpAny_pyIter_list pl.isList ⟨_,_,_,_,_,_,fun i=>bs.getD i false,rfl,Walks.list (A:=X.A.in1) (I.ok.hd hc) s.heap.objs.size p (ne_of_lt hlt) its.toArray,⟨⟨_,get?_push_size _ rfl,rfl,rfl⟩,hl.push _⟩,Xub rv,fun h' tk hk=>⟨.bl (bs.any id),H,I.kept (old_kept hk),?_,q⟩⟩)
 show Value.bool _=Value.bool _
 rw [size_toArray,← hlen,range_any]
variable {H:Hp}{Q:VK}{K:Frag}
theorem Xle {p:Addr}{bs:List Bool}(h:SqL K H p (bs.map V.bl))(q:Q (.bl (bs.any id)) H):Xet K [.ref p] H Q:=⟨p,bs,rfl,h,q⟩
end
noncomputable def rInD (K:Frag)(neg:Bool):R2:=fun x y H Q=>∃d xs,Dn K H y (.list xs)∧Dn K H x d∧PyData.canLayAll0 xs=true∧d.canLay0=true∧d.depth≤20∧Q (.bl (if neg then !(xs.any fun z=>PyData.eqv z d) else xs.any fun z=>PyData.eqv z d)) H
noncomputable def rIsA (neg:Bool):R2:=fun x y H Q=>(y=.non∧Q (.bl (if neg then !decide (x=.non) else decide (x=.non))) H)∨∃b c,x=.bl b∧y=.bl c∧Q (.bl (if neg then !(b==c) else b==c)) H
section
variable {X:Cx}
theorem Xcc (hu:X.A.units+64<cLine):OpR X (compareOp .NotIn) (rInD X.K true):=by
 intro pins s σ H x y v u Q I rx ry h
 obtain ⟨d,xs,h1,h2,c1,c2,dd,q⟩:=h
 obtain ⟨as,ra⟩:=h1.reads I ry
 obtain ⟨bs,rb⟩:=h2.reads I rx
 exact SeqAt.notIn_list_reads ra rb c1 c2 (by have:=Nat.min_le_right (PyData.depthAll xs) d.depth;omega) ⟨.bl _,H,I,rfl,q⟩
theorem Zzy:OpR X (compareOp .Is) (rIsA false):=by
 intro pins s σ H x y v u Q I rx ry h
 rcases h with ⟨rfl,q⟩ | ⟨b,c,rfl,rfl,q⟩
 ·exact Xsi pins s σ H x .non v u Q I rx ry ⟨rfl,q⟩
 ·cases (show v=Value.bool b from rx)
  cases (show u=Value.bool c from ry)
  refine wpAny_is_plain (by cases b<;>cases c<;>rfl) ⟨.bl (b==c),H,I,?_,q⟩
  cases b<;>cases c<;>rfl
variable {H:Hp}{Q:VK}{K:Frag}
end
noncomputable def Dk {α:Type}:Sem α→Prop
 | .pure _=>True
 | .raise _=>True
 | .unsupported _=>True
 | .finish _=>True
 | .rule _ k=>Dk (k ())
 | .at _ k=>Dk (k ())
 | .load _ _ k=>∀o,Dk (k o)
 | .update _ _ f k=>(∀o:Obj,o.isFreed=false→(f o).isFreed=false∧(f o).dict=o.dict)∧Dk (k ())
 | .alloc _ k=>∀a,Dk (k a)
 | .loadIfAlive _ k=>∀o,Dk (k o)
 | .point _ k=>Dk (k ())
 | .fresh k=>∀a,Dk (k a)
 | .ask k=>∀a,Dk (k a)
 | .choose _ _ k=>∀a,Dk (k a)
 | .os _ _ k=>∀a,Dk (k a)
 | .handled _ k=>∀a,Dk (k a)
 | .stack k=>∀a,Dk (k a)
 | .thread k=>∀a,Dk (k a)
 | .register _ _=>False
 | .call ..=>False
 | .newGen ..=>False
 | .genState ..=>False
 | .resume ..=>False
 | .yield ..=>False
 | .fork ..=>False
 | .await ..=>False
section
variable {X:Cx}{pins:List (Addr×Obj)}{σ:St}{H H':Hp}{s:Shared}{h':Heap}
end
section
variable {X:Cx}{pins:List (Addr×Obj)}{σ:St}{H:Hp}{s:Shared}
structure Kept (X:Cx)(own:List Addr)(h h':Heap):Prop where
 st:(hideAll h (own++frs X.stack)).StaysIn h'
 fr:h'.FunFrames (hideAll h (own++frs X.stack)) X.stack
 up:h.UpToSlots h'
end
noncomputable abbrev bmV:List Value:=[.type "ValueError",.type "Exception",.type "BaseException",.type "object"]
section
variable {X:Cx}{pins:List (Addr×Obj)}{σ:St}{H:Hp}{s:Shared}
noncomputable def exO (e:Addr)(cls:Value)(dx:Option Addr):HO:=.ext fun h=>∃o vs,h.get? e=some o∧o.cls=cls∧o.data=.fields vs∧o.dict=dx
noncomputable abbrev Cx.hand (X:Cx)(e:Addr):Cx:={X with A:=X.A.mark (some (.ref e)),calm:=false,xe:=fun _ _=>False}
end
end L2
namespace L2
open PySem PySem.Spec
section
variable {prog:Program}{w:World}{A:Around}{E:Value→Shared→Prop}{h:Heap}{g:Array GenState}{d:Drawn}{t:Nat}{os:OsState}{a C:Addr}{o:Obj}{vs:Array Value}
open PySem.W (Looks)
end
end L2
namespace L2
open PySem PySem.Spec PyProof.Rows
noncomputable abbrev TJ:=St→Hp→(Hp→Prop)→Prop
def PJ (X:Cx)(es:List Expr)(t:TJ):Prop:=
 ∀(out:Str) (pins:List (Addr×Obj)) (s:Shared) (σ:St) (H:Hp) (Q:VK),Inv X pins σ H s→out.length+2000*es.length≤sizeLine→t σ H (fun H1=>∀z,Q (.str z) H1)→
  wpAny (model X.prog X.w) X.A (joinParts out (evalEach es X.env)) (EP X pins σ Q) X.xe s
structure QJ (X:Cx)(es:List Expr)(t:TJ):Prop where
 out:PJ X es t
section
variable {X:Cx}{a b e:Expr}{es:List Expr}{te:TE}{t:TJ}{pos:Pos}
end
end L2
namespace L2
open PySem PySem.Spec PyProof.Rows
open PySem.W (Looks)
structure ErrIn (K:Frag)(C:Addr):Prop where
 exc:PySem.W.excIn K C bmV "ValueError.__new__"=true
 ty:typeIn K (.ref C)=some (.type "type")
 cl:∃c,clsIn K C=some c
 ga:findIn K (.ref C) "__getattribute__"=some (some (.builtin "BaseException.__getattribute__"))
 ge:findIn K (.ref C) "__getattr__"=some none
 lk:findIn K (.ref C) "__class__"=some (some (.builtin "object.__class__"))
 so:subIn K (.ref C) (.type "object")=some true
 sb:subIn K (.ref C) (.type "BaseException")=some true
 se:subIn K (.ref C) (.ref C)=some true
section
variable {K:Frag}{C D e:Addr}{b:Bool}
structure ErrK (K:Frag)(C:Addr):Prop where
 ob:∃dd cd sl,K.lookup C=some ⟨.type "type",dd,.cls cd,sl⟩
 ty:typeIn K (.ref C)=some (.type "type")
 cl:∃c,clsIn K C=some c
 ga:findIn K (.ref C) "__getattribute__"=some (some (.builtin "BaseException.__getattribute__"))
 ge:findIn K (.ref C) "__getattr__"=some none
 lk:findIn K (.ref C) "__class__"=some (some (.builtin "object.__class__"))
 so:subIn K (.ref C) (.type "object")=some true
 sb:subIn K (.ref C) (.type "BaseException")=some true
 se:subIn K (.ref C) (.ref C)=some true
variable {X:Cx}
end
section
variable {σ:St}{H:Hp}{Q:VK}{D:Ends}{K:Frag}
variable {X:Cx}{a b c d:Expr}{ta tb tc td:TE}{pos:Pos}
end
section
variable {X:Cx}{e:Expr}{es:List Expr}{t:TA}{np cpos pos hpos:Pos}
end
end L2
namespace L2
open PySem PySem.Spec PyProof.Rows
structure Pl (n:Nat)(x:Str):Prop where
 len:x.length≤n
 asc:∀c∈x.cps.toList,c<128
section
variable {X:Cx}{e:Expr}{te:TE}{pos:Pos}
end
section
variable {κ:Type}[DecidableEq κ]
noncomputable def Zuy (kvs:List (κ×V))(k:κ):Option V:=(kvs.find? fun kv=>decide (kv.1=k)).map (·.2)
noncomputable def putK (kvs:List (κ×V))(k:κ)(v:V):List (κ×V):=
 if (kvs.any fun kv=>decide (kv.1=k))=true then kvs.map (fun kv=>if kv.1=k then (kv.1,v) else kv) else kvs++[(k,v)]
theorem Zjg {p:κ×V}{r:List (κ×V)}{k:κ}(e:p.1=k):Zuy (p::r) k=some p.2:=by simp [Zuy,find?_cons,e]
theorem Zje {p:κ×V}{r:List (κ×V)}{k:κ}(e:¬p.1=k):Zuy (p::r) k=Zuy r k:=by simp [Zuy,find?_cons,e]
theorem Ztw (k:κ):∀kvs:List (κ×V),(kvs.any fun kv=>decide (kv.1=k))=(Zuy kvs k).isSome
 | []=>rfl
 | p::r=>by
  rw [any_cons]
  by_cases e:p.1=k
  ·simp only [Zjg e,decide_eq_true e,Bool.true_or,Option.isSome_some]
  ·rw [Zje e,decide_eq_false e,Bool.false_or];exact Ztw k r
theorem Zkb (kvs:List (κ×V))(k:κ)(v:V):(putK kvs k v).length≤kvs.length+1:=by
 unfold putK
 split
 ·rw [length_map];omega
 ·rw [length_append,length_cons,length_nil];omega
theorem Zow.isSome_eq {o:Option V}{u:Option Value}(r:Zow o u):o.isSome=u.isSome:=by
 cases o with
 | none=>cases u with
  | none=>rfl
  | some _=>exact (show False from r).elim
 | some _=>cases u with
  | none=>exact (show False from r).elim
  | some _=>rfl
theorem Zow.getD {o:Option V}{u:Option Value}{d:V}{d':Value}(r:Zow o u)(rd:RelV d d'):RelV (o.getD d) (u.getD d'):=by
 cases o with
 | none=>cases u with
  | none=>exact rd
  | some _=>exact (show False from r).elim
 | some _=>cases u with
  | none=>exact (show False from r).elim
  | some _=>exact r
theorem KV.val {kvs:List (κ×V)}{vs:List (κ×Value)}(r:KV kvs vs)(k:κ):Zow (Zuy kvs k) (valueAt vs k):=by
 unfold KV at r
 induction r with
 | nil=>exact True.intro
 | @cons p q ps qs h t ih =>
  obtain ⟨h1,h2⟩:=h
  by_cases e:p.1=k
  ·have e':q.1=k:=h1.symm.trans e
   have b:valueAt (q::qs) k=some q.2:=by simp [valueAt,find?_cons,e']
   rw [Zjg e,b];exact h2
  ·have e':¬q.1=k:=fun z=>e (h1.trans z)
   have b:valueAt (q::qs) k=valueAt qs k:=by simp [valueAt,find?_cons,e']
   rw [Zje e,b];exact ih
theorem KV.any {kvs:List (κ×V)}{vs:List (κ×Value)}(r:KV kvs vs)(k:κ):(kvs.any fun kv=>decide (kv.1=k))=vs.any fun kv=>decide (kv.1=k):=by
 unfold KV at r
 induction r with
 | nil=>rfl
 | cons h t ih=>rw [any_cons,any_cons,ih,h.1]
theorem KV.repl {kvs:List (κ×V)}{vs:List (κ×Value)}(r:KV kvs vs)(k:κ){y:V}{u:Value}(ry:RelV y u) :
  KV (kvs.map fun kv=>if kv.1=k then (kv.1,y) else kv) (vs.map fun kv=>if kv.1=k then (kv.1,u) else kv):=by
 unfold KV at r ⊢
 induction r with
 | nil=>exact .nil
 | @cons p q ps qs h t ih =>
  rw [map_cons,map_cons]
  refine .cons ?_ ih
  obtain ⟨h1,h2⟩:=h
  by_cases e:p.1=k
  ·rw [if_pos e,if_pos (h1.symm.trans e)];exact ⟨h1,ry⟩
  ·rw [if_neg e,if_neg (fun z=>e (h1.trans z))];exact ⟨h1,h2⟩
theorem KV.put {kvs:List (κ×V)}{vs:List (κ×Value)}(r:KV kvs vs)(k:κ){y:V}{u:Value}(ry:RelV y u):KV (putK kvs k y) (stored vs k u):=by
 unfold putK stored
 rw [r.any k]
 by_cases e:(vs.any fun kv=>decide (kv.1=k))=true
 ·rw [if_pos e,if_pos e];exact r.repl k ry
 ·rw [if_neg e,if_neg e];exact Paired.snoc r ⟨rfl,ry⟩
theorem KV.length {kvs:List (κ×V)}{vs:List (κ×Value)}(r:KV kvs vs):kvs.length=vs.length:=Paired.length r
end
theorem Xga {P:Program}{w:World}{k:Key}{u:Value}(r:RelV (kV k) u):(Ja P w).is k u=true:=by
 cases k with
 | inl i=>obtain ⟨t,e⟩:=(show ∃t,u=Value.int i t from r);subst e;exact Zte P w i t
 | inr x=>obtain ⟨t,e⟩:=(show ∃t,u=Value.str x t from r);subst e;exact Zsq P w x t
theorem Zpb {P:Program}{w:World}:∀{ks:List Key} {us:List Value},Jd (ks.map kV) us→ItemsAre (Ja P w) ks us
 | [],_,r=>by rw [map_nil] at r;cases r;exact .nil
 | k::ks,_,r=>by
  rw [map_cons] at r
  cases r with
  | cons h t=>exact .cons (Xga h) (Zpb t)
noncomputable abbrev KT (H:Hp):List (List Key×V)→List (List Key×Addr×Value)→Prop:=Paired fun p q=>p.1=q.1∧H q.2.1=some (.tup (p.1.map kV))∧RelV p.2 q.2.2
theorem KT.val {H:Hp}{kvs:List (List Key×V)}{xs:List (List Key×Addr×Value)}(r:KT H kvs xs)(k:List Key):Zow (Zuy kvs k) ((atKey xs k).map (·.2)):=by
 induction r with
 | nil=>exact True.intro
 | @cons p q ps qs h t ih =>
  obtain ⟨h1,_,h2⟩:=h
  by_cases e:p.1=k
  ·have e':q.1=k:=h1.symm.trans e
   have b:atKey (q::qs) k=some q.2:=by simp [atKey,find?_cons,e']
   rw [Zjg e,b];exact h2
  ·have e':¬q.1=k:=fun z=>e (h1.trans z)
   have b:atKey (q::qs) k=atKey qs k:=by simp [atKey,find?_cons,e']
   rw [Zje e,b];exact ih
theorem KT.repl {H:Hp}{kvs:List (List Key×V)}{xs:List (List Key×Addr×Value)}(r:KT H kvs xs)(k:List Key){y:V}{u:Value}(ry:RelV y u) :
  KT H (kvs.map fun kv=>if kv.1=k then (kv.1,y) else kv) (xs.map (putAt k u)):=by
 induction r with
 | nil=>exact .nil
 | @cons p q ps qs h t ih =>
  rw [map_cons,map_cons]
  refine .cons ?_ ih
  obtain ⟨h1,h2,h3⟩:=h
  unfold putAt
  by_cases e:p.1=k
  ·rw [if_pos e,if_pos (h1.symm.trans e)];exact ⟨h1,h2,ry⟩
  ·rw [if_neg e,if_neg (fun z=>e (h1.trans z))];exact ⟨h1,h2,h3⟩
theorem KT.put {H:Hp}{kvs:List (List Key×V)}{xs:List (List Key×Addr×Value)}(r:KT H kvs xs)(k:List Key){b:Addr}{y:V}{u:Value}(hb:H b=some (.tup (k.map kV)))(ry:RelV y u) :
  KT H (putK kvs k y) (storedH xs k b u):=by
 have e:(kvs.any fun kv=>decide (kv.1=k))=(atKey xs k).isSome:=by
  rw [Ztw,(r.val k).isSome_eq,Option.isSome_map]
 unfold putK storedH
 rw [e]
 by_cases q:(atKey xs k).isSome=true
 ·rw [if_pos q,if_pos q];exact r.repl k ry
 ·rw [if_neg q,if_neg q];exact Paired.snoc r ⟨rfl,hb,ry⟩
theorem KT.keeps {H H':Hp}{kvs:List (List Key×V)}{xs:List (List Key×Addr×Value)}(r:KT H kvs xs)(ht:∀b ys,H b=some (.tup ys)→H' b=some (.tup ys)):KT H' kvs xs:=
 Paired.mapP r fun _ _ z=>⟨z.1,ht _ _ z.2.1,z.2.2⟩
section
variable {P:Program}{w:World}{H:Hp}{h:Heap}{a:Addr}
theorem Xqw {u:HO}(ok:HOk P w H h)(e:Rd H a u):Zax P w H h a u:=e.ok ok
theorem Zyc {kvs:List (Key×V)}(ok:HOk P w H h)(e:Rd H a (.dK kvs)):kvs.length≤sizeLine∧(a==sysModules)=false∧∃vs,KV kvs vs∧h.DictOf (Ja P w) a vs:=
 show Zax P w H h a (.dK kvs) from Xqw ok e
theorem Xqk {kvs:List (Key×V)}(ok:HOk P w H h)(e:H a=some (.dK kvs)):kvs.length≤sizeLine∧(a==sysModules)=false∧∃vs,KV kvs vs∧h.DictOf (Ja P w) a vs:=Zyc ok (.inl e)
theorem Zuj {ks:List Key}(ok:HOk P w H h)(e:H a=some (.tup (ks.map kV))):(tupleKind (Ja P w)).is h ks a:=by
 obtain ⟨_,its,r,o,h1,h2,n,h3⟩:=(show Zax P w H h a (.tup (ks.map kV)) from ok a _ e)
 exact ⟨o,its.toArray,n,h1,h2,h3,by simpa using Zpb r⟩
theorem Xbn {kvs:List (List Key×V)}(ok:HOk P w H h)(e:Rd H a (.dT kvs)):kvs.length≤sizeLine∧(a==sysModules)=false∧
  ∃xs,KT H kvs xs∧h.DictOfH (tupleKind (Ja P w)) a xs:=by
 obtain ⟨z,y,xs,r,o,es,ep,h1,h2,h3,h4,h5⟩:=(show Zax P w H h a (.dT kvs) from Xqw ok e)
 refine ⟨z,y,xs,r,o,es,ep,h1,h2,h3,h4,fun x hx=>?_,h5⟩
 have all:∀{l:List (List Key×V)} {m:List (List Key×Addr×Value)},KT H l m→∀x∈m,(tupleKind (Ja P w)).is h x.1 x.2.1:=by
  intro l m q
  induction q with
  | nil=>intro x hx;exact nomatch hx
  | @cons p q ps qs hq t ih =>
   intro x hx
   rcases List.mem_cons.mp hx with e | hx
   ·subst e
    exact Zuj ok (by rw [← hq.1];exact hq.2.1)
   ·exact ih x hx
 exact all r x hx
theorem dt_of {kvs:List (List Key×V)}(ok:HOk P w H h)(e:H a=some (.dT kvs)):kvs.length≤sizeLine∧(a==sysModules)=false∧
  ∃xs,KT H kvs xs∧h.DictOfH (tupleKind (Ja P w)) a xs:=Xbn ok (.inl e)
end
def Xiw (H:Hp)(a:Addr)(y:V)(r:Option V):Prop:=
 (∃kvs k,Rd H a (.dK kvs)∧y=kV k∧r=Zuy kvs k)∨∃kvs k b,Rd H a (.dT kvs)∧y=.ref b∧H b=some (.tup (k.map kV))∧r=Zuy kvs k
def Xol (H:Hp)(a:Addr)(y v:V)(H':Hp):Prop:=
 (∃kvs k,H a=some (.dK kvs)∧y=kV k∧kvs.length<sizeLine∧H'=upd H a (.dK (putK kvs k v)))∨
 ∃kvs k b,H a=some (.dT kvs)∧y=.ref b∧H b=some (.tup (k.map kV))∧kvs.length<sizeLine∧H'=upd H a (.dT (putK kvs k v))
theorem Xiw.k {H:Hp}{a:Addr}{kvs:List (Key×V)}{k:Key}(e:H a=some (.dK kvs)):Xiw H a (kV k) (Zuy kvs k):=.inl ⟨kvs,k,.inl e,rfl,rfl⟩
theorem Xol.k {H:Hp}{a:Addr}{kvs:List (Key×V)}{k:Key}{v:V}(e:H a=some (.dK kvs))(hl:kvs.length<sizeLine):Xol H a (kV k) v (upd H a (.dK (putK kvs k v))):=.inl ⟨kvs,k,e,rfl,hl,rfl⟩
section
variable {X:Cx}{pins:List (Addr×Obj)}{σ:St}{H:Hp}{s:Shared}{a:Addr}{y v:V}{u r:Value}{o:Option V}{A:Around}{E:Value→Shared→Prop}
theorem Inv.big (I:Inv X pins σ H s):sysModules<s.heap.objs.size:=by
 have h:mainGlobals<s.heap.objs.size:=(I.mod.glob.keeps I.bk).lt
 exact Nat.lt_trans (by decide) h
theorem Xbj {Q:Value→Shared→Prop}(hu:A.units+1<cLine)(I:Inv X pins σ H s)(g:Xiw H a y (some v))(ry:RelV y u)(h:∀w' s',Inv X pins σ H s'→RelV v w'→Q w' s') :
  wpAny (model X.prog X.w) A (getItem (.ref a) u) Q E s:=by
 rcases g with ⟨kvs,k,e,ey,l⟩ | ⟨kvs,k,b,e,ey,eb,l⟩
 ·subst ey
  obtain ⟨z,hd,vs,rel,dd⟩:=Zyc I.hok e
  obtain ⟨w',hw,rw'⟩:=Zow.some_of (v:=v) (o:=valueAt vs k) (by rw [l];exact rel.val k)
  exact wpAny_getItem_of (Xga ry) dd.mapOf hw (h w' _ (I.tok _) rw')
 ·subst ey
  cases (show u=Value.ref b from ry)
  obtain ⟨z,hd,xs,rel,dd⟩:=Xbn I.hok e
  obtain ⟨w',hw,rw'⟩:=Zow.some_of (v:=v) (o:=(atKey xs k).map (·.2)) (by rw [l];exact rel.val k)
  obtain ⟨p,hp,hp2⟩:=Option.map_eq_some_iff.mp hw
  refine wpAny_getItem_heap (tupleKind_room_in1 hu) (Zuj I.hok eb) dd hp ?_
  rw [hp2]
  exact h w' _ (I.tok _) rw'
theorem Zyu {h':Heap}{t':Nat}{ob:HO}(I:Inv X pins σ H s)(mu:Mut (H a))(hs:Heap.SameBut a s.heap h')(he:∃q,h'.get? a=some q)(new:Zax X.prog X.w (upd H a ob) h' a ob) :
  Inv X pins σ (upd H a ob) {s with heap:=h',toks:=t'}:=
 I.write (x:=a) (e:=a) mu (.inl rfl) (fun b q hb z=>(hs.2 b hb).trans z) he new
theorem Xsk {P:Program}{w:World}{H':Hp}{h':Heap}{kvs:List (Key×V)}{vs:List (Key×Value)}(z:kvs.length≤sizeLine)(hd:(a==sysModules)=false)(rel:KV kvs vs)(dd:h'.DictOf (Ja P w) a vs) :
  Zax P w H' h' a (.dK kvs):=⟨z,hd,vs,rel,dd⟩
theorem Xce {H':Hp}{Q:Unit→Shared→Prop}(hu:A.units+1<cLine)(I:Inv X pins σ H s)(g:Xol H a y v H')(ry:RelV y u)(rv:RelV v r)(h:∀s',Inv X pins σ H' s'→Q () s') :
  wpAny (model X.prog X.w) A (setItem (.ref a) u r) Q E s:=by
 rcases g with ⟨kvs,k,e,ey,l,eH⟩ | ⟨kvs,k,b,e,ey,eb,l,eH⟩
 ·subst ey eH
  obtain ⟨z,hd,vs,rel,dd⟩:=Xqk I.hok e
  have hz:vs.length≤sizeLine:=by rw [← rel.length];exact z
  have hl:(putK kvs k v).length≤sizeLine:=by have:=Zkb kvs k v;omega
  refine wpAny_setItem_pairs (hsz:=hz) (Xga ry) dd fun h' dd' hs=>h _ ?_
  have he:∃q,h'.get? a=some q:=let ⟨q,_,_,hq,_⟩:=dd';⟨q,hq⟩
  exact Zyu I (by rw [e];exact True.intro) hs he (Xsk hl hd (rel.put k rv) dd')
 ·subst ey eH
  cases (show u=Value.ref b from ry)
  obtain ⟨z,hd,xs,rel,dd⟩:=dt_of I.hok e
  have hz:xs.length≤sizeLine:=by rw [← Paired.length rel];exact z
  have hl:(putK kvs k v).length≤sizeLine:=by have:=Zkb kvs k v;omega
  refine wpAny_setItem_heap (hsz:=hz) (tupleKind_room_in1 hu) (Zuj I.hok eb) dd fun h' dd' hs=>h _ ?_
  obtain ⟨q,es,ep,hq,h2,h3,h4,_,h5⟩:=dd'
  refine Zyu I (by rw [e];exact True.intro) hs ⟨q,hq⟩ ⟨hl,hd,_,(rel.put k eb rv).keeps fun c ys ec=>?_,q,es,ep,hq,h2,h3,h4,h5⟩
  rw [Xb (ne_of ec e (fun z=>nomatch z))]
  exact ec
end
section
variable {X:Cx}{pins:List (Addr×Obj)}{σ:St}{H:Hp}{s:Shared}{a:Addr}{kvs:List (Key×V)}{k:Key}{u:Value}{A:Around}{E:Value→Shared→Prop}
end
def Xok (i:Expr):Prop:=∀ov iv,subscripted i false ov iv=operate [ov,iv] (getItem ov iv)
theorem Xls {prog:Program}{w:World}{A:Around}{E:Value→Shared→Prop}{s:Shared}{env:Env}{value slice:Expr}{pos:Pos}{T id:String}{Q:Value→Shared→Prop}
  (hl:typeLookup (.type T) "__getitem__"=pure (some (.builtin id))) (hs:Xok slice)
  (h:wpAny (model prog w) A (eval value env) (fun o s₁=>wpAny (model prog w) A (eval slice env) (fun i s₂=>s₂.TypeIs o T∧wpAny (model prog w) A (getItem o i) Q E s₂) E s₁) E s) :
  wpAny (model prog w) A (eval (.Subscript value slice pos) env) Q E s:=by
 refine Subscript_ (wpAny_mono h (fun o s₁ h₁=>wpAny_mono h₁ (fun i s₂ h₂=>?_) fun _ _ x=>x) fun _ _ x=>x)
 obtain ⟨hT,h₂⟩:=h₂
 unfold subscriptTail
 refine wpAny_bind ?_
 rw [getitemInPython_of_ne hT.not_modules]
 refine wpAny_bind (wpAny_specialOf hT hl ?_)
 have fin:wpAny (model prog w) A (subscripted slice false o i) (fun r s₃=>wpAny (model prog w) A (letTemporaryGo value o r >>= fun _=>pure r) Q E s₃) E s₂:=by
  rw [hs o i]
  exact wpAny_operating (wpAny_mono h₂ (fun r s₃ h₃=>wpAny_bind (wpAny_letTemporaryGo (wpAny_pure h₃))) fun _ _ x=>x)
 first
  | exact wpAny_pure (wpAny_bind fin)
  | exact wpAny_bind (wpAny_pure (wpAny_bind fin))
  | exact wpAny_bind fin
theorem Zsn {X:Cx}{pins:List (Addr×Obj)}{σ:St}{H:Hp}{s:Shared}{a:Addr}{y:V}{o:Option V}(I:Inv X pins σ H s)(g:Xiw H a y o):s.TypeIs (.ref a) "dict":=by
 rcases g with ⟨kvs,k,e,_,_⟩ | ⟨kvs,k,b,e,_,_,_⟩
 ·obtain ⟨_,_,vs,_,dd⟩:=Zyc I.hok e
  exact dd.typeIs
 ·obtain ⟨_,_,xs,_,dd⟩:=Xbn I.hok e
  exact dd.typeIs
def Xmz (td ty:TE):TE:=fun σ H Q=>td σ H fun x H1=>ty σ H1 fun y H2=>∃a v,x=.ref a∧Xiw H2 a y (some v)∧Q v H2
def Xgb (td ty tv:TE):TS:=fun D σ H=>tv σ H fun v H1=>td σ H1 fun x H2=>ty σ H2 fun y H3=>∃a H4,x=.ref a∧Xol H3 a y v H4∧D.nx σ H4
section
variable {X:Cx}{o i e value:Expr}{pos pos' tpos:Pos}{td ty tv:TE}
theorem Xmu (hu:X.A.units+1<cLine)(ho:PE X o td)(hi:PE X i ty)(hs:Xok i):PE X (.Subscript o i pos) (Xmz td ty):=by
 intro pins s σ H Q I h
 refine Xls PySem.F.slot_dict_getitem.lookup hs (thn (ho pins s σ H _ I h) fun u s1 ⟨x,H1,I1,rx,q1⟩=>thn (hi pins s1 σ H1 _ I1 q1) fun iv s2 ⟨y,H2,I2,ry,a,v,ex,g,q2⟩=>?_)
 subst ex
 obtain rfl:u=Value.ref a:=rx
 exact ⟨Zsn I2 g,Xbj hu I2 g ry fun w' s3 I3 rw'=>⟨v,H2,I3,rw',q2⟩⟩
end
theorem Xdo {P:Program}{w:World}{H:Hp}(h:Heap)(hb:sysModules<h.objs.size):Zax P w H (h.push {cls:=.type "dict",data:=.dict #[]}) h.objs.size (.dK []):=
 ⟨zero_le _,beq_eq_false_iff_ne.mpr (Ne.symm (ne_of_lt hb)),[],.nil,Heap.DictOf.new h⟩
def Xch:TE:=fun _ H Q=>∀p,H p=none→Q (.ref p) (upd H p (.dK []))
section
variable {X:Cx}{pos:Pos}
theorem Xhg:PE X (.Dict [] [] pos) Xch:=fun pins s σ H Q I h =>
 wpAny_Dict_empty ⟨.ref s.heap.objs.size,_,I.laid (a:=s.heap.objs.size) (o:=.dK []) (t':=s.toks) (fun _ _ q=>get?_push_of_some _ q) (le_refl _) (Xdo s.heap I.big),rfl,h _ (I.hok.fresh (le_refl _))⟩
end
noncomputable def Xsv:List (TE×TE)→St→Hp→(List (V×V)→Hp→Prop)→Prop
 | [],_,H,Q=>Q [] H
 | (tk,tv)::r,σ,H,Q=>tk σ H fun x H1=>tv σ H1 fun y H2=>Xsv r σ H2 fun ps H3=>Q ((x,y)::ps) H3
structure M1 (X:Cx)(o:Expr)(m:Str)(apos:Pos)(e:Expr)(cpos:Pos):Prop where
  base:attributeBase o m X.env (eval o X.env)=eval o X.env
  few:((backTo cpos (starEach [e] X.env)).all (fun x=>!x.1)&&(backToKw cpos (keywordEach [] X.env)).all (fun x=>x.1.isSome)
    && decide (([e]:List Expr).length+([]:List Keyword).length+(if ([]:List Keyword).isEmpty then 0 else 1)<30))=true
  line:(apos.endLine==cpos.line)=true
  trees:backTo cpos (starEach [e] X.env)=[(false,eval e X.env)]
structure M2 (X:Cx)(o:Expr)(m:Str)(apos:Pos)(e f:Expr)(cpos:Pos):Prop where
  base:attributeBase o m X.env (eval o X.env)=eval o X.env
  few:((backTo cpos (starEach [e,f] X.env)).all (fun x=>!x.1)&&(backToKw cpos (keywordEach [] X.env)).all (fun x=>x.1.isSome)
    && decide (([e,f]:List Expr).length+([]:List Keyword).length+(if ([]:List Keyword).isEmpty then 0 else 1)<30))=true
  line:(apos.endLine==cpos.line)=true
  trees:backTo cpos (starEach [e,f] X.env)=[(false,eval e X.env),(false,eval f X.env)]
def IsD (H:Hp)(a:Addr):Prop:=(∃kvs,Rd H a (.dK kvs))∨∃kvs,Rd H a (.dT kvs)
theorem Xpu {X:Cx}{pins:List (Addr×Obj)}{σ:St}{H:Hp}{s:Shared}{a:Addr}(I:Inv X pins σ H s)(d:IsD H a) :
  s.TypeIs (.ref a) "dict"∧(∀b,Value.ref a=.ref b→∃ob,s.heap.get? b=some ob∧ob.dict=none)∧(a==sysModules)=false:=by
 rcases d with ⟨kvs,e⟩ | ⟨kvs,e⟩
 ·obtain ⟨_,hd,vs,_,dd⟩:=Zyc I.hok e
  refine ⟨dd.typeIs,fun b q=>?_,hd⟩
  cases q
  obtain ⟨ob,_,_,h1,h2,_⟩:=dd
  exact ⟨ob,h1,h2.2.1⟩
 ·obtain ⟨_,hd,xs,_,dd⟩:=Xbn I.hok e
  refine ⟨dd.typeIs,fun b q=>?_,hd⟩
  cases q
  obtain ⟨ob,_,_,h1,h2,_⟩:=dd
  exact ⟨ob,h1,h2.2.1⟩
section
variable {X:Cx}{pins:List (Addr×Obj)}{σ:St}{H:Hp}{s:Shared}{a:Addr}{y d:V}{u r:Value}{o:Option V}{A:Around}{E:Value→Shared→Prop}
theorem Xtl {Q:Value→Shared→Prop}(hu:A.units+1<cLine)(I:Inv X pins σ H s)(g:Xiw H a y o)(ry:RelV y u)(rd:RelV d r)(h:∀w' s',Inv X pins σ H s'→RelV (o.getD d) w'→Q w' s') :
  wpAny (model X.prog X.w) A (call (.builtin "dict.get") [.ref a,u,r]) Q E s:=by
 rcases g with ⟨kvs,k,e,ey,l⟩ | ⟨kvs,k,b,e,ey,eb,l⟩
 ·subst ey
  obtain ⟨z,hd,vs,rel,dd⟩:=Zyc I.hok e
  refine call_meetsIn PySem.F.slot_dict_get dd.typeIs PySem.F.entry_dict_get (PySem.F.args_dict_get_3 _ _ _) (meets_dict_get_default (Ja X.prog X.w) a (Xga ry) hd r) ⟨_,dd.mapOf,h _ _ (I.tok _) ?_⟩
  rw [l]
  exact (rel.val k).getD rd
 ·subst ey
  cases (show u=Value.ref b from ry)
  obtain ⟨z,hd,xs,rel,dd⟩:=Xbn I.hok e
  refine call_meetsIn PySem.F.slot_dict_get dd.typeIs PySem.F.entry_dict_get (PySem.F.args_dict_get_3 _ _ _) (meetsH_dict_get_default (tupleKind (Ja X.prog X.w)) a b hd r) ⟨tupleKind_room_in1 hu,k,xs,Zuj I.hok eb,dd,h _ _ (I.tok _) ?_⟩
  rw [l]
  exact (rel.val k).getD rd
end
def Xap (td ty tx:TE):TE:=fun σ H Q=>td σ H fun x H1=>∃a,x=.ref a∧IsD H1 a∧ty σ H1 fun y H2=>tx σ H2 fun z H3=>∃o,Xiw H3 a y o∧Q (o.getD z) H3
section
variable {X:Cx}{o e f:Expr}{apos cpos:Pos}{td ty tx:TE}
theorem Xfr (hu:X.A.units+1<cLine)(ho:PE X o td)(he:PE X e ty)(hf:PE X f tx)(m:M2 X o "get" apos e f cpos):PE X (.Call (.Attribute o "get" apos) [e,f] [] cpos) (Xap td ty tx):=by
  intro pins s σ H Q I h
  refine wpAny_Call_method m.base m.few m.line PySem.F.plainAttrs_dict PySem.F.slot_dict_get PySem.F.type_dict_get (thn (ho pins s σ H _ I h) fun u s1 ⟨x,H1,I1,rx,a,ex,d,q1⟩=>?_)
  subst ex
  obtain rfl:u=Value.ref a:=rx
  obtain ⟨t1,t2,_⟩:=Xpu I1 d
  refine ⟨t1,t2,?_⟩
  rw [m.trees]
  refine Calls.callWith_builtin rfl (Calls.evalArgs_plain (Calls.spliced_cons (thn (he pins s1 σ H1 _ I1 q1) fun iv s2 ⟨y,H2,I2,ry,q2⟩ =>
    Calls.spliced_cons (thn (hf pins s2 σ H2 _ I2 q2) fun fv s3 ⟨z,H3,I3,rz,ov,g,q3⟩=>Calls.spliced_nil ?_))))
  exact Xtl hu I3 g ry rz fun w' s4 I4 rw'=>⟨_,H3,I4,rw',q3⟩
variable {pins:List (Addr×Obj)}{σ:St}{H:Hp}{s:Shared}{a:Addr}{kvs:List (Key×V)}{A:Around}{E:Value→Shared→Prop}
end
section
variable {X:Cx}{pins:List (Addr×Obj)}{σ:St}{H:Hp}{s:Shared}{a:Addr}{y:V}{u:Value}{A:Around}{E:Value→Shared→Prop}
end
end L2
namespace Dl
open PySem
set_option genInjectivity true in
inductive D where
 | non
 | bl (b:Bool)
 | int (i:Int)
 | str (x:Str)
 | lst (xs:List D)
 | tup (xs:List D)
 | scr (ns:List Int)
 | rng (lo hi:Int)
 | exc (c:String) (f:Option Int)
 | obj (c:String) (ns:List Str) (xs:List D)
 | dct (ks:List (Int ⊕ Str)) (xs:List D)
 | dtt (ks:List (List (Int ⊕ Str))) (xs:List D)
 deriving Inhabited
set_option genInjectivity true in
inductive R (α:Type) where
 | ok (a:α)
 | err (c:String) (f:Option Int)
 | bad
noncomputable abbrev Env:=List (Option D)
set_option genInjectivity true in
inductive Fl where
 | nx (ρ:Env)
 | ret (d:D)
 | brk (ρ:Env)
 | cnt (ρ:Env)
noncomputable def R.bind {α β:Type}:R α→(α→R β)→R β
 | .ok a,f=>f a
 | .err c x,_=>.err c x
 | .bad,_=>.bad
@[simp] theorem Zad {α β:Type}(a:α)(f:α→R β):(R.ok a).bind f=f a:=(rfl)
@[simp] theorem Xcu {α β:Type}(c:String)(x:Option Int)(f:α→R β):(R.err c x:R α).bind f=.err c x:=(rfl)
@[simp] theorem Xcr {α β:Type}(f:α→R β):(R.bad:R α).bind f=.bad:=(rfl)
noncomputable abbrev FE:=Env→R D
noncomputable abbrev FT:=Env→R Bool
noncomputable abbrev FA:=Env→R (List D)
noncomputable abbrev FO:=Env→R (Option Int)
noncomputable abbrev FS:=Env→R Fl
noncomputable def fC (d:D):FE:=fun _=>.ok d
noncomputable def fV (i:Nat):FE:=fun ρ=>match ρ[i]? with
 | some (some d)=>.ok d
 | _=>.bad
noncomputable def oR {α:Type}:Option α→R α
 | some a=>.ok a
 | none=>.bad
@[simp] theorem Zfz {α:Type}(a:α):oR (some a)=.ok a:=(rfl)
@[simp] theorem oR_none {α:Type}:(oR (none:Option α))=.bad:=(rfl)
noncomputable def f1 (g:D→Option D)(a:FE):FE:=fun ρ=>(a ρ).bind fun x=>oR (g x)
noncomputable def f2 (g:D→D→Option D)(a b:FE):FE:=fun ρ=>(a ρ).bind fun x=>(b ρ).bind fun y=>oR (g x y)
noncomputable def Zt:FA:=fun _=>.ok []
noncomputable def Zd (a:FE)(r:FA):FA:=fun ρ=>(a ρ).bind fun x=>(r ρ).bind fun xs=>.ok (x::xs)
noncomputable def fA (g:List D→Option D)(a:FA):FE:=fun ρ=>(a ρ).bind fun xs=>oR (g xs)
noncomputable def Xv (F:List D→R D)(a:FA):FE:=fun ρ=>(a ρ).bind F
noncomputable abbrev lim:Nat:=1000000
noncomputable def Ju (xs:List D):Option D:=if xs.length≤lim then some (.lst xs) else none
noncomputable def Zjb (xs:List D):Option D:=if xs.length≤lim then some (.tup xs) else none
mutual
noncomputable def flat:D→Bool
 | .lst _=>false
 | .tup xs=>Xy xs
 | .non=>true
 | .bl _=>true
 | .int _=>true
 | .str _=>true
 | .scr _=>true
 | .rng _ _=>true
 | .exc _ _=>true
 | .obj _ _ _=>false
 | .dct _ _=>false
 | .dtt _ _=>false
noncomputable def Xy:List D→Bool
 | []=>true
 | x::xs=>flat x&&Xy xs
end
noncomputable def Xs (d:D):Option D:=if flat d then some d else none
noncomputable def Jj:D→D→Option D
 | .int i,.int j=>some (.int (i+j))
 | .str x,.str y=>if x.length+y.length≤lim then some (.str (x++y)) else none
 | .lst xs,.lst ys=>if xs.length+ys.length≤lim∧Xy xs∧Xy ys then some (.lst (xs++ys)) else none
 | _,_=>none
noncomputable def gAddI:D→D→Option D
 | .int i,.int j=>some (.int (i+j))
 | _,_=>none
noncomputable def Zdy:D→D→Option D
 | .int i,.int j=>some (.int (i - j))
 | _,_=>none
noncomputable def short (i:Int):Bool:=decide (-(2 ^ 64)<i)&&decide (i<2 ^ 64)
noncomputable def Zcm:D→D→Option D
 | .int i,.int j=>if short i||short j then some (.int (i*j)) else none
 | .lst xs,.int k=>if k≤1000000∧xs.length*k.toNat≤lim∧-1000000≤k∧Xy xs then some (.lst (List.replicate k.toNat xs).flatten) else none
 | _,_=>none
noncomputable def Zln:D→D→Option D
 | .int i,.int j=>if 0<j then some (.int (i % j)) else none
 | _,_=>none
noncomputable def Xoh:D→D→Option D
 | .int i,.int j=>if 0<j∧j<2 ^ 200 then some (.int (i / j)) else none
 | _,_=>none
noncomputable def Zmw:D→D→Option D
 | .int i,.int j=>if 0≤j∧j≤1000000∧i.natAbs<2 ^ 64 then some (.int (i ^ j.toNat)) else none
 | _,_=>none
noncomputable def Zss:D→Option D
 | .int i=>some (.int (-i))
 | _=>none
noncomputable def gLt:D→D→Option D
 | .int i,.int j=>some (.bl (decide (i<j)))
 | _,_=>none
noncomputable def gLe:D→D→Option D
 | .int i,.int j=>some (.bl (decide (i≤j)))
 | _,_=>none
noncomputable def gGt:D→D→Option D
 | .int i,.int j=>some (.bl (decide (j<i)))
 | _,_=>none
noncomputable def gGe:D→D→Option D
 | .int i,.int j=>some (.bl (decide (j≤i)))
 | _,_=>none
mutual
noncomputable def dep:D→Nat
 | .lst xs=>Zho xs+1
 | .tup xs=>Zho xs+1
 | .scr _=>100
 | .rng _ _=>100
 | .exc _ _=>100
 | .obj _ _ _=>100
 | .dct _ _=>100
 | .dtt _ _=>100
 | .non=>0
 | .bl _=>0
 | .int _=>0
 | .str _=>0
noncomputable def Zho:List D→Nat
 | []=>0
 | x::xs=>max (dep x) (Zho xs)
end
mutual
noncomputable def eqv:D→D→Bool
 | .non,.non=>true
 | .bl a,.bl b=>a==b
 | .bl a,.int j=>(if a then 1 else 0)==j
 | .int i,.bl b=>i==(if b then 1 else 0)
 | .int i,.int j=>i==j
 | .str x,.str y=>x==y
 | .lst xs,.lst ys=>Xmh xs ys
 | .tup xs,.tup ys=>Xmh xs ys
 | _,_=>false
noncomputable def Xmh:List D→List D→Bool
 | [],[]=>true
 | x::xs,y::ys=>eqv x y&&Xmh xs ys
 | _,_=>false
end
noncomputable def gEq (a b:D):Option D:=if dep a≤20∧dep b≤20 then some (.bl (eqv a b)) else none
noncomputable def gNe (a b:D):Option D:=if dep a≤20∧dep b≤20 then some (.bl (!eqv a b)) else none
noncomputable def Zkz (x:D):D→Option D
 | .lst ys=>if dep x≤20∧Zho ys≤20 then some (.bl (!(ys.any fun y=>eqv y x))) else none
 | _=>none
noncomputable def Zlv:D→Bool
 | .non=>true
 | _=>false
noncomputable def gIs (x:D):D→Option D
 | .non=>some (.bl (Zlv x))
 | .bl c=>match x with
  | .bl b=>some (.bl (b==c))
  | _=>none
 | _=>none
noncomputable def Xir (x:D):D→Option D
 | .non=>some (.bl (!Zlv x))
 | .bl c=>match x with
  | .bl b=>some (.bl (!(b==c)))
  | _=>none
 | _=>none
noncomputable def ixD (n:Nat)(i:Int):Option Nat:=if 0≤i then (if i<n then some i.toNat else none) else if -(n:Int)≤i then some (i+n).toNat else none
noncomputable def atD {α:Type}(xs:List α)(i:Int):Option α:=(ixD xs.length i).bind fun j=>xs[j]?
noncomputable def Xjb (n d:Nat):Option Int→Nat
 | none=>d
 | some v=>if v<0 then (max (v+(n:Int)) 0).toNat else min v.toNat n
noncomputable def cut {α:Type}(xs:List α)(lo hi:Option Int):List α:=(xs.drop (Xjb xs.length 0 lo)).take (Xjb xs.length xs.length hi - Xjb xs.length 0 lo)
noncomputable def gIx:D→D→Option D
 | .lst xs,.int i=>(atD xs i)
 | .tup xs,.int i=>(atD xs i)
 | .scr ns,.int i=>((atD ns i).map D.int)
 | .str z,.int i=>if z.length≤lim then ((atD z.cps.toList i).map fun c=>D.str ⟨#[c]⟩) else none
 | _,_=>none
noncomputable def gIxL (x y:D):Option D:=match x with
 | .lst _=>gIx x y
 | _=>none
noncomputable def Zmb:FO:=fun _=>.ok none
noncomputable def Zhu (a:FE):FO:=fun ρ=>(a ρ).bind fun d=>match d with
 | .int i=>.ok (some i)
 | _=>.bad
noncomputable def fSl (g:D→Option Int→Option Int→Option D)(a:FE)(l h:FO):FE:=fun ρ=>(a ρ).bind fun x=>(l ρ).bind fun lo=>(h ρ).bind fun hi=>oR (g x lo hi)
noncomputable def gSl:D→Option Int→Option Int→Option D
 | .lst xs,lo,hi=>if Xy xs then some (.lst (cut xs lo hi)) else none
 | .scr ns,lo,hi=>some (.lst ((cut ns lo hi).map D.int))
 | _,_,_=>none
noncomputable def Xmq:D→D→Option D
 | .lst xs,.int i=>if i=-1∧Xy xs then some (.lst xs.reverse) else none
 | _,_=>none
noncomputable def plain (n:Nat)(z:Str):Bool:=decide (z.length≤n)&&z.cps.toList.all (fun c=>decide (c<128))
noncomputable def upC (c:Nat):Nat:=if 97≤c∧c≤122 then c - 32 else c
noncomputable def Xhr:D→Option D
 | .str z=>if plain 1000 z then some (.str ⟨z.cps.map upC⟩) else none
 | _=>none
noncomputable def Zyy:D→Option D
 | .lst xs=>if Xy xs then some (.lst xs.reverse) else none
 | _=>none
noncomputable def intsOf:List D→Option (List Int)
 | []=>some []
 | .int i::r=>(intsOf r).map (i::·)
 | _::_=>none
noncomputable def bools:List D→Option (List Bool)
 | []=>some []
 | .bl i::r=>(bools r).map (i::·)
 | _::_=>none
noncomputable def Zac:List D→Option D
 | [.lst xs]=>some (.int xs.length)
 | [.tup xs]=>some (.int xs.length)
 | [.scr xs]=>some (.int xs.length)
 | [.str z]=>if z.length≤lim then some (.int z.length) else none
 | _=>none
noncomputable def Xso:List D→Option D
 | [.lst xs]=>(intsOf xs).bind fun ns=>some (.int ns.sum)
 | _=>none
noncomputable def Zxr:List Int→Int
 | []=>0
 | x::r=>r.foldl max x
noncomputable def Xgf:List D→Option D
 | [.int i,.int j]=>some (.int (if j > i then j else i))
 | [.lst xs]=>(intsOf xs).bind fun ns=>if ns=[] then none else some (.int (Zxr ns))
 | _=>none
noncomputable def Xom:List D→Option D
 | [.int i,.int j]=>some (.int (if j<i then j else i))
 | _=>none
noncomputable def Xpp:List D→Option D
 | [.lst xs]=>(bools xs).bind fun bs=>some (.bl (bs.any id))
 | _=>none
noncomputable def Zdq (lo:Int)(n:Nat):List D:=(List.range n).map fun (k:Nat)=>D.int (lo+(k:Int))
noncomputable def Zjd:List D→Option D
 | [.lst xs]=>if Xy xs then some (.lst xs) else none
 | [.tup xs]=>if Xy xs then some (.lst xs) else none
 | [.rng i j]=>if -1000000000≤i∧i≤1000000000∧-1000000000≤j∧j≤1000000000∧(j - i).toNat≤lim then some (.lst (Zdq i (j - i).toNat)) else none
 | _=>none
noncomputable def Xre:List D→Option D
 | [.lst xs]=>some (.lst xs)
 | _=>none
noncomputable def Xou (c:String):D→Option D
 | .non=>some (.bl false)
 | .bl _=>some (.bl (c=="bool"||c=="int"))
 | .int _=>some (.bl (c=="int"))
 | .str _=>some (.bl (c=="str"))
 | .lst _=>some (.bl (c=="list"))
 | .tup _=>some (.bl (c=="tuple"))
 | _=>none
noncomputable def cE (a:FE):FT:=fun ρ=>(a ρ).bind fun d=>match d with
 | .bl b=>.ok b
 | _=>.bad
noncomputable def Xju (a:FT):FT:=fun ρ=>(a ρ).bind fun b=>.ok (!b)
noncomputable def Xid (a b:FT):FT:=fun ρ=>(a ρ).bind fun x=>if x then b ρ else .ok false
noncomputable def cOr (a b:FT):FT:=fun ρ=>(a ρ).bind fun x=>if x then .ok true else b ρ
noncomputable def Xcn (a b:FE):FE:=fun ρ=>(a ρ).bind fun x=>match x with
 | .bl true=>b ρ
 | .bl false=>.ok (.bl false)
 | _=>.bad
noncomputable def fOr (a b:FE):FE:=fun ρ=>(a ρ).bind fun x=>match x with
 | .bl true=>.ok (.bl true)
 | .bl false=>b ρ
 | _=>.bad
noncomputable def gNot:D→Option D
 | .bl b=>some (.bl (!b))
 | _=>none
noncomputable def fIf (c:FT)(a b:FE):FE:=fun ρ=>(c ρ).bind fun x=>if x then a ρ else b ρ
noncomputable def Xsb (g g':D→D→Option D)(a b c:FE):FE:=fun ρ=>(a ρ).bind fun x=>(b ρ).bind fun y=>(oR (g x y)).bind fun z=>match z with
 | .bl true=>(c ρ).bind fun w=>oR (g' y w)
 | .bl false=>.ok (.bl false)
 | _=>.bad
noncomputable abbrev FB:=D→Env→R Env
noncomputable def Xo (i:Nat):FB:=fun d ρ=>.ok (ρ.set i (some d))
noncomputable def Xit:List D→Env→R Env
 | [],ρ=>.ok ρ
 | _,_=>.bad
noncomputable def Ziz (b:FB)(r:List D→Env→R Env):List D→Env→R Env
 | d::ds,ρ=>(b d ρ).bind fun ρ'=>r ds ρ'
 | _,_=>.bad
noncomputable def Xll (r:List D→Env→R Env):FB:=fun d ρ=>match d with
 | .tup ds=>r ds ρ
 | _=>.bad
noncomputable def R.calm {α:Type}:R α→R α
 | .ok a=>.ok a
 | .err _ _=>.bad
 | .bad=>.bad
@[simp] theorem Xaz {α:Type}(a:α):(R.ok a).calm=.ok a:=(rfl)
noncomputable def Zcx (k:Nat)(b:FB)(c:FT)(e:FE)(ρ:Env):List D→R (List D)
 | []=>.ok []
 | x::xs=>(b x (ρ++List.replicate k none)).calm.bind fun ρ1=>(c ρ1).bind fun t=>if t then (e ρ1).bind fun y=>(Zcx k b c e ρ xs).bind fun ys=>.ok (y::ys) else Zcx k b c e ρ xs
noncomputable def Xcm:FT:=fun _=>.ok true
noncomputable abbrev FI:=Env→R (List D)
noncomputable def Zcv (a:FE):FI:=fun ρ=>(a ρ).bind fun d=>match d with
 | .lst xs=>if xs.length≤lim then .ok xs else .bad
 | .scr ns=>if ns.length≤lim then .ok (ns.map D.int) else .bad
 | _=>.bad
noncomputable def jTup (a:FE):FI:=fun ρ=>(a ρ).bind fun d=>match d with
 | .tup xs=>if xs.length≤lim then .ok xs else .bad
 | _=>.bad
noncomputable def Zjc (a:FA):FI:=fun ρ=>(a ρ).bind fun ds=>match ds with
 | [.int j]=>if -1000000000≤j∧j≤1000000 then .ok (Zdq 0 j.toNat) else .bad
 | _=>.bad
noncomputable def Zsr (a:FA):FI:=fun ρ=>(a ρ).bind fun ds=>match ds with
 | [.int i,.int j]=>if -1000000000≤i∧i≤1000000000∧-1000000000≤j∧j≤1000000000∧(j - i).toNat≤lim then .ok (Zdq i (j - i).toNat) else .bad
 | _=>.bad
noncomputable def Zgw (n k:Nat)(it:FI)(b:FB)(c:FT)(e:FE):FE:=fun ρ=>if ρ.length=n then (it ρ).bind fun xs=>(Zcx k b c e ρ xs).calm.bind fun ys=>.ok (.lst ys) else .bad
noncomputable def sNx:FS:=fun ρ=>.ok (.nx ρ)
noncomputable def Ziw:FS:=fun _=>.bad
noncomputable def Xp (a b:FS):FS:=fun ρ=>(a ρ).bind fun fl=>match fl with
 | .nx ρ'=>b ρ'
 | fl=>.ok fl
noncomputable def Yg (i:Nat)(e:FE):FS:=fun ρ=>(e ρ).bind fun d=>.ok (.nx (ρ.set i (some d)))
noncomputable def Zao (e:FE):FS:=fun ρ=>(e ρ).bind fun d=>.ok (.ret d)
noncomputable def sIf (c:FT)(a b:FS):FS:=fun ρ=>(c ρ).bind fun x=>if x then a ρ else b ρ
noncomputable def Zmh (i:Nat)(e:FE):FS:=fun ρ=>match ρ[i]? with
 | some (some (.lst xs))=>(e ρ).bind fun d=>if xs.length<lim then .ok (.nx (ρ.set i (some (.lst (xs++[d]))))) else .bad
 | _=>.bad
noncomputable def Xsz (i:Nat)(k e:FE):FS:=fun ρ=>(e ρ).bind fun d=>match ρ[i]? with
 | some (some (.lst xs))=>(k ρ).bind fun z=>match z with
  | .int n=>if flat d=true∧Xy xs=true then match ixD xs.length n with
    | some j=>.ok (.nx (ρ.set i (some (.lst (xs.set j d)))))
    | none=>.bad
   else .bad
  | _=>.bad
 | _=>.bad
noncomputable def Xiq (i:Nat)(g:D→D→Option D)(e:FE):FS:=fun ρ=>match ρ[i]? with
 | some (some x)=>(e ρ).bind fun y=>(oR (g x y)).bind fun z=>.ok (.nx (ρ.set i (some z)))
 | _=>.bad
noncomputable def Zst (e:FE):FS:=fun ρ=>(e ρ).bind fun _=>.ok (.nx ρ)
noncomputable def Zov (f:List D→Option (List D)):List Int→D→Option D
 | [],.lst xs=>(f xs).map D.lst
 | n::r,.lst xs=>(ixD xs.length n).bind fun j=>xs[j]?.bind fun d=>(Zov f r d).map fun d'=>D.lst (xs.set j d')
 | n::r,.tup xs=>(ixD xs.length n).bind fun j=>xs[j]?.bind fun d=>(Zov f r d).map fun d'=>D.tup (xs.set j d')
 | _,_=>none
noncomputable def addL (d:D)(xs:List D):Option (List D):=if xs.length<lim then some (xs++[d]) else none
noncomputable def Xqa (i j:Nat)(c:FT)(r:D)(e:FE)(ρ:Env):List D→List D→R Fl
 | dn,[]=>.ok (.nx ((ρ.set i (some (.lst dn))).set j none))
 | dn,x::rest=>(c ((ρ.set i (some (.lst (dn++x::rest)))).set j (some x))).bind fun b=>if b then .ok (.ret r) else
   (e ((ρ.set i (some (.lst (dn++x::rest)))).set j (some x))).calm.bind fun v=>match Zov (addL v) [] x with
    | some x'=>Xqa i j c r e ρ (dn++[x']) rest
    | none=>.bad
noncomputable def Xix (e:FE)(b:FB):FS:=fun ρ=>(e ρ).bind fun d=>(b d ρ).calm.bind fun ρ'=>.ok (.nx ρ')
noncomputable def Zdw (b:FB)(s:FS):List D→Env→R Fl
 | [],ρ=>.ok (.nx ρ)
 | x::xs,ρ=>(b x ρ).calm.bind fun ρ1=>(s ρ1).bind fun fl=>match fl with
  | .nx ρ2=>Zdw b s xs ρ2
  | .cnt ρ2=>Zdw b s xs ρ2
  | .brk ρ2=>.ok (.nx ρ2)
  | .ret d=>.ok (.ret d)
noncomputable def Zlt (it:FI)(b:FB)(s:FS):FS:=fun ρ=>(it ρ).bind fun xs=>Zdw b s xs ρ
noncomputable def Zbr (c:FT)(s:FS):Nat→Env→R Fl
 | 0,_=>.bad
 | n+1,ρ=>(c ρ).bind fun b=>if b then (s ρ).bind fun fl=>match fl with
  | .nx ρ2=>Zbr c s n ρ2
  | .cnt ρ2=>Zbr c s n ρ2
  | .brk ρ2=>.ok (.nx ρ2)
  | .ret d=>.ok (.ret d)
  else .ok (.nx ρ)
noncomputable def Zir (n:Nat)(c:FT)(s:FS):FS:=fun ρ=>Zbr c s n ρ
noncomputable def Xpb (c:String)(words:FA):FS:=fun ρ=>(words ρ).bind fun _=>.err c none
noncomputable def strsOf:List D→Option (List Str)
 | []=>some []
 | .str i::r=>(strsOf r).map (i::·)
 | _::_=>none
noncomputable def Xsn:D→D→Option D
 | .str s,.lst ds=>(strsOf ds).bind fun ts=>if (ts.map (·.length)).sum+ts.length*s.length≤lim then some (.str (Str.join s ts)) else none
 | _,_=>none
noncomputable def fJoin (a b:FE):FE:=fun ρ=>(a ρ).bind fun x=>match x with
 | .str s=>(b ρ).bind fun y=>oR (Xsn (.str s) y)
 | _=>.bad
noncomputable def pickM (N:Nat)(c:String)(x:Option Int):List (List (String×Bool)×Option Nat×FS)→R Fl
  | []=>.bad
  | z::r=>match z.1.lookup c with
    | some true=>(match z.2.1 with
      | some i=>(z.2.2 ((List.replicate N none).set i (some (.exc c x)))).calm.bind fun fl=>match fl with
        | .nx _=>.ok (.nx (List.replicate N none))
        | .brk _=>.ok (.brk (List.replicate N none))
        | .cnt _=>.ok (.cnt (List.replicate N none))
        | .ret d=>.ok (.ret d)
      | none=>(z.2.2 (List.replicate N none)).calm)
    | some false=>pickM N c x r
    | none=>.bad
noncomputable def fIx (f:Str):List Str→Option Nat
 | []=>none
 | g::r=>if g=f then some 0 else (fIx f r).map (·+1)
noncomputable def Zdd (c:String)(f:Str):D→Option D
 | .obj c' ns xs=>if c'=c then (fIx f ns).bind fun j=>xs[j]? else none
 | _=>none
noncomputable def Zxu (c:String)(f:Str)(d:D):D→Option D
 | .obj c' ns xs=>if c'=c∧ns.length<100 then match fIx f ns with
   | some j=>some (.obj c' ns (xs.set j d))
   | none=>some (.obj c' (ns++[f]) (xs++[d]))
  else none
 | _=>none
noncomputable def Zxs (i:Nat)(c:String)(f:Str)(e:FE):FS:=fun ρ=>(e ρ).bind fun d=>match ρ[i]? with
 | some (some o)=>(oR (Zxu c f d o)).bind fun o'=>.ok (.nx (ρ.set i (some o')))
 | _=>.bad
noncomputable def Xlz (c:String)(f:Str)(d:D):D→Option D
 | .obj c' ns xs=>if c'=c then (fIx f ns).bind fun j=>match xs[j]? with
   | some (.lst ys)=>if ys.length<lim then some (.obj c' ns (xs.set j (.lst (ys++[d])))) else none
   | _=>none
  else none
 | _=>none
noncomputable def Zfu (i:Nat)(c:String)(f:Str)(e:FE):FS:=fun ρ=>match ρ[i]? with
 | some (some o)=>match Zdd c f o with
  | some (.lst _)=>(e ρ).bind fun d=>(oR (Xlz c f d o)).bind fun o'=>.ok (.nx (ρ.set i (some o')))
  | _=>.bad
 | _=>.bad
noncomputable def Jc (c:String)(m:Str)(F:List D→R D)(a:FE)(args:FA):FE:=fun ρ=>(a ρ).bind fun d=>match d with
 | .obj c' ns xs=>if c'=c∧fIx m ns=none then (args ρ).bind fun ys=>F (.obj c' ns xs::ys) else .bad
 | _=>.bad
noncomputable abbrev FM:=Env→R (D×Env)
noncomputable abbrev FMT:=Env→R (Bool×Env)
noncomputable def Zwz (i:Nat)(c:String)(m:Str)(G:List D→R (D×D))(args:FA):FM:=fun ρ=>match ρ[i]? with
 | some (some (.obj c' ns xs))=>if c'=c∧fIx m ns=none then (args ρ).bind fun ys=>(G (.obj c' ns xs::ys)).bind fun p=>.ok (p.1,ρ.set i (some p.2)) else .bad
 | _=>.bad
noncomputable def Xsw (F:List D→R D)(a:FM):FM:=fun ρ=>(a ρ).bind fun p=>(F [p.1]).bind fun d=>.ok (d,p.2)
noncomputable def mE (a:FM):FMT:=fun ρ=>(a ρ).bind fun p=>match p.1 with
 | .bl b=>.ok (b,p.2)
 | _=>.bad
noncomputable def mNot (a:FMT):FMT:=fun ρ=>(a ρ).bind fun p=>.ok (!p.1,p.2)
noncomputable def mAnd (a:FT)(b:FMT):FMT:=fun ρ=>(a ρ).bind fun x=>if x then b ρ else .ok (false,ρ)
noncomputable def Zmq (a:FM):FS:=fun ρ=>(a ρ).bind fun p=>.ok (.nx p.2)
noncomputable def sSetM (i:Nat)(a:FM):FS:=fun ρ=>(a ρ).bind fun p=>.ok (.nx (p.2.set i (some p.1)))
noncomputable def sIfM (c:FMT)(a b:FS):FS:=fun ρ=>(c ρ).bind fun p=>if p.1 then a p.2 else b p.2
noncomputable def Zpk (c:String)(G:List D→R (D×D))(args:FA):FE:=fun ρ=>(args ρ).bind fun ys=>(G (.obj c [] []::ys)).bind fun p=>match p.1 with
 | .non=>.ok p.2
 | _=>.bad
noncomputable def Zbj (s:FS)(r:FM):FM:=fun ρ=>(s ρ).bind fun fl=>match fl with
 | .nx ρ'=>r ρ'
 | _=>.bad
noncomputable def Zsp (e:FE):FM:=fun ρ=>(e ρ).bind fun d=>.ok (d,ρ)
noncomputable def Xev (s:FS):FM:=Zbj s fun ρ=>.ok (.non,ρ)
noncomputable def Xiz (N:Nat)(G:FM)(ds:List D):R (D×D):=(G (ds.map some++List.replicate (N - ds.length) none)).bind fun p=>match p.2[0]? with
 | some (some d)=>.ok (p.1,d)
 | _=>.bad
noncomputable def run (N:Nat)(b:FS)(ds:List D):R D:=(b (ds.map some++List.replicate (N - ds.length) none)).bind fun fl=>match fl with
 | .nx _=>.ok .non
 | .ret d=>.ok d
 | _=>.bad
noncomputable def keyD:D→Option (Int ⊕ Str)
 | .int i=>some (.inl i)
 | .str x=>some (.inr x)
 | _=>none
noncomputable def Xss (ks:List (Int ⊕ Str))(k:Int ⊕ Str):Bool:=ks.any fun j=>decide (j=k)
noncomputable def Xtm (ks:List (Int ⊕ Str))(xs:List D)(k:Int ⊕ Str)(d:D):D:=if Xss ks k then .dct ks (List.zipWith (fun j x=>if j=k then d else x) ks xs) else .dct (ks++[k]) (xs++[d])
noncomputable def Xgb (i:Nat)(k e:FE):FS:=fun ρ=>(e ρ).bind fun d=>match ρ[i]? with
 | some (some (.dct ks xs))=>(k ρ).bind fun z=>match keyD z with
  | some q=>if flat d=true∧Xy xs=true∧ks.length<lim then .ok (.nx (ρ.set i (some (Xtm ks xs q d)))) else .bad
  | none=>.bad
 | _=>.bad
noncomputable def catO:Str→List D→Option D
 | out,[]=>some (.str out)
 | out,.str y::r=>if y.length≤2000 then catO (out++y) r else none
 | _,_=>none
noncomputable def Xis (c:Nat):List Nat→List (List Nat)
 | []=>[[]]
 | x::r=>if x=c then []::Xis c r else match Xis c r with
  | []=>[[x]]
  | w::ws=>(x::w)::ws
noncomputable def unR (p:List Nat):Option (List Nat):=if p.getLast?=some 32 then some p.dropLast else none
noncomputable def unL:List Nat→Option (List Nat)
 | []=>none
 | x::r=>if x=32 then some r else none
noncomputable def unP:List Nat→List (List Nat)→Option (List (List Nat))
 | p,[]=>some [p]
 | p,q::r=>(unR p).bind fun w=>(unL q).bind fun q'=>(unP q' r).bind fun ws=>some (w::ws)
noncomputable def keysD:List D→Option (List (Int ⊕ Str))
 | []=>some []
 | d::r=>(keyD d).bind fun k=>(keysD r).bind fun ks=>some (k::ks)
noncomputable def tAt:List (List (Int ⊕ Str))→List D→List (Int ⊕ Str)→Option D
 | j::ks,x::xs,k=>if j=k then some x else tAt ks xs k
 | _,_,_=>none
noncomputable def Zrg (es xs:List D):Option (List D):=if xs.length+es.length≤lim then some (xs++es) else none
noncomputable abbrev Pc:=Int×Str
noncomputable def sLt (x y:Str):Bool:=decide (x.cps.toList<y.cps.toList)
noncomputable def pcLt (p q:Pc):Bool:=if p.1=q.1 then (if p.2=q.2 then false else sLt p.2 q.2) else decide (p.1<q.1)
noncomputable def Xti:List Pc→List Pc→Bool
 | [],[]=>false
 | [],_::_=>true
 | _::_,[]=>false
 | p::c,q::d=>if p=q then Xti c d else pcLt p q
noncomputable def insC (c:List Pc):List (List Pc)→List (List Pc)
 | []=>[c]
 | d::r=>if Xti c d=true then c::d::r else d::insC c r
noncomputable def sortC:List (List Pc)→List (List Pc)
 | []=>[]
 | c::r=>insC c (sortC r)
noncomputable def pcOf:D→Option Pc
 | .tup [.int i,.str z]=>some (i,z)
 | _=>none
noncomputable def Xqj:List D→Option (List Pc)
 | []=>some []
 | d::r=>(pcOf d).bind fun p=>(Xqj r).bind fun ps=>some (p::ps)
noncomputable def ctOf:D→Option (List Pc)
 | .lst ds=>Xqj ds
 | _=>none
noncomputable def ctsOf:List D→Option (List (List Pc))
 | []=>some []
 | d::r=>(ctOf d).bind fun c=>(ctsOf r).bind fun cs=>some (c::cs)
noncomputable def aVars:List Nat→FA
 | []=>Zt
 | j::r=>Zd (fV j) (aVars r)
noncomputable def keyLs (fb:FE)(fr:Env):List D→R (List Int)
 | []=>.ok []
 | x::r=>(fb (some x::fr)).calm.bind fun k=>match k with
  | .int k=>(keyLs fb fr r).bind fun ks=>.ok (k::ks)
  | _=>.bad
noncomputable def goP:List Int→D→Option D
 | [],d=>some d
 | n::r,.lst xs=>(ixD xs.length n).bind fun j=>xs[j]?.bind (goP r)
 | n::r,.tup xs=>(ixD xs.length n).bind fun j=>xs[j]?.bind (goP r)
 | _,_=>none
noncomputable def Xkd (i j:Nat)(path:List Int)(e:FE)(ρ:Env):Nat→Nat→D→R Fl
 | _,0,d=>.ok (.nx ((ρ.set i (some d)).set j none))
 | k,m+1,d=>match goP path d with
  | some (.lst _)=>(e ((ρ.set i (some d)).set j none)).calm.bind fun v=>match Zov (addL v) (path++[(k:Int)]) d with
   | some d'=>Xkd i j path e ρ (k+1) m d'
   | none=>.bad
  | _=>.bad
noncomputable def dAt:List (Int ⊕ Str)→List D→Int ⊕ Str→Option D
 | j::ks,x::xs,k=>if j=k then some x else dAt ks xs k
 | _,_,_=>none
noncomputable def Zwb (a b c:FE):FE:=fun ρ=>(a ρ).bind fun d=>match d with
 | .dct ks xs=>(b ρ).bind fun y=>(c ρ).bind fun z=>match keyD y with
  | some k=>if Xy xs=true∧flat z=true then .ok ((dAt ks xs k).getD z) else .bad
  | none=>.bad
 | _=>.bad
noncomputable def Zta:List (Int ⊕ Str)→Option (List Int)
 | []=>some []
 | .inl i::r=>(Zta r).map (i::·)
 | .inr _::_=>none
noncomputable def Zhb (g:D→D→Option D)(ks:List (Int ⊕ Str))(xs:List D)(z:D):List Int→R (List D)
 | []=>.ok []
 | j::js=>(oR (dAt ks xs (.inl j))).bind fun x=>(oR (g x z)).bind fun t=>match t with
  | .bl b=>(Zhb g ks xs z js).bind fun r=>.ok (if b then .int j::r else r)
  | _=>.bad
noncomputable def Zqp (g:D→D→Option D)(i n:Nat)(fe:FE):FE:=fun ρ=>if ρ.length=n then match ρ[i]? with
 | some (some (.dct ks xs))=>if Xy xs=true then match Zta ks with
  | some js=>if js.length≤lim then (fe (ρ.set i none++[none])).calm.bind fun z=>(Zhb g ks xs z js).bind fun ys=>.ok (.lst ys) else .bad
  | none=>.bad
  else .bad
 | _=>.bad
 else .bad
noncomputable def atIx (os:List D)(n:Int):Option (Nat×D):=(ixD os.length n).bind fun j=>os[j]?.map fun o=>(j,o)
noncomputable def Zeo (i l:Nat)(c:String)(m:Str)(G:List D→R (D×D))(args:FA):FM:=fun ρ=>match ρ[i]?,ρ[l]? with
 | some (some (.lst os)),some (some (.int n))=>match atIx os n with
  | some (j,.obj c' ns xs)=>if c'=c∧fIx m ns=none then (args ρ).bind fun ys=>(G (.obj c' ns xs::ys)).bind fun p=>.ok (p.1,ρ.set i (some (.lst (os.set j p.2)))) else .bad
  | _=>.bad
 | _,_=>.bad
noncomputable def Zsb (i l:Nat)(fm:FM):FS:=fun ρ=>match ρ[i]?,ρ[l]? with
 | some (some d),some (some (.int n))=>(fm ρ).calm.bind fun p=>match p.1 with
  | .lst es=>match Zov (Zrg es) [n] d with
   | some d'=>.ok (.nx (p.2.set i (some d')))
   | none=>.bad
  | _=>.bad
 | _,_=>.bad
end Dl
namespace L2
open PySem PySem.Spec PyProof.Rows
open Dl (D R FE FT FA FO FS FI FB Fl)
def FzL (K:Frag)(H:Hp)(a:Addr)(xs:List V):Prop:=
 (∃o,H a=some (.frz o (.lst xs)))∨∃(o:Obj) (its:Array Value) (n:Nat),K.lookup a=some o∧o.cls=.type "list"∧o.dict=none∧o.data=.seq its n∧its.size≤sizeLine∧Jd xs its.toList
theorem FzL.sq {K:Frag}{H:Hp}{a:Addr}{xs:List V}(h:FzL K H a xs):SqL K H a xs:=by
 rcases h with ⟨o,h⟩ | h
 ·exact .inl (.inr ⟨o,h⟩)
 ·exact .inr h
noncomputable def fnm (c:String):Str:=if c="TooMany" then "most" else "at"
def FOk (H:Hp)(c:String)(f:Option Int)(dx:Option Addr):Prop:=match f with
 | none=>True
 | some i=>∃d,dx=some d∧H d=some (.xd [(fnm c,.int i)])
section
variable (K:Frag)(C:String→Addr)
mutual
noncomputable def Rp (H:Hp):D→V→List Addr→Prop
 | .non,v,A=>v=.non∧A=[]
 | .bl b,v,A=>v=.bl b∧A=[]
 | .int i,v,A=>v=.int i∧A=[]
 | .str x,v,A=>v=.str x∧PyData.strOk x=true∧A=[]
 | .lst ds,v,A=>∃a xs B,v=.ref a∧H a=some (.lst xs)∧RpA H ds xs B∧A=a::B
 | .tup ds,v,A=>∃a xs,v=.ref a∧H a=some (.tup xs)∧RpA H ds xs A
 | .scr ns,v,A=>∃a,v=.ref a∧FzL K H a (ns.map V.int)∧A=[]
 | .rng lo hi,v,A=>∃a,v=.ref a∧H a=some (.rng lo hi)∧A=[]
 | .exc c f,v,A=>∃e dx,v=.ref e∧H e=some (exO e (.ref (C c)) dx)∧FOk H c f dx∧A=[]
 | .obj c ns ds,v,A=>∃a dx xs B,v=.ref a∧H a=some (.ins (C c) dx (ns.zip xs))∧ns.length=ds.length∧RpA H ds xs B∧A=a::B
 | .dct ks ds,v,A=>∃a xs B,v=.ref a∧H a=some (.dK (ks.zip xs))∧ks.length=ds.length∧RpA H ds xs B∧A=a::B
 | .dtt ks ds,v,A=>∃a xs B,v=.ref a∧H a=some (.dT (ks.zip xs))∧ks.length=ds.length∧RpA H ds xs B∧A=a::B
noncomputable def RpA (H:Hp):List D→List V→List Addr→Prop
 | [],xs,A=>xs=[]∧A=[]
 | d::ds,xs,A=>∃x r B B',xs=x::r∧Rp H d x B∧RpA H ds r B'∧A=B++B'
end
end
section
variable {K:Frag}{C:String→Addr}{H H' H1 H2:Hp}
inductive IsM:HO→Prop where
 | lst {xs:List V}:IsM (.lst xs)
 | ins {C dx:Addr} {fs:List (Str×V)}:IsM (.ins C dx fs)
 | dct {kvs:List (Key×V)}:IsM (.dK kvs)
 | dtt {kvs:List (List Key×V)}:IsM (.dT kvs)
def Ext (W:Addr→Prop)(H H':Hp):Prop:=∀b o,H b=some o→H' b=some o∨(W b∧IsM o)
theorem Ext.same (h:Xx H H'):Ext (fun _=>False) H H':=fun b o q=>.inl (h b o q)
mutual
theorem Rp.ext {W:Addr→Prop}(h:Ext W H H'):∀{d:D} {v:V} {A:List Addr},(∀a∈A,¬W a)→Rp K C H d v A→Rp K C H' d v A
 | .non,_,_,_,r=>r
 | .bl _,_,_,_,r=>r
 | .int _,_,_,_,r=>r
 | .str _,_,_,_,r=>r
 | .lst ds,v,A,hw,r=>by
  obtain ⟨a,xs,B,e1,e2,e3,e4⟩:=r
  subst e4
  refine ⟨a,xs,B,e1,?_,RpA.ext h (fun b hb=>hw b (.tail _ hb)) e3,rfl⟩
  rcases h a _ e2 with q | ⟨q,_⟩
  ·exact q
  ·exact absurd q (hw a (.head _))
 | .tup ds,v,A,hw,r=>by
  obtain ⟨a,xs,e1,e2,e3⟩:=r
  refine ⟨a,xs,e1,?_,RpA.ext h hw e3⟩
  rcases h a _ e2 with q | ⟨_,q⟩
  ·exact q
  ·cases q
 | .scr ns,v,A,_,r=>by
  obtain ⟨a,e1,e2,e3⟩:=r
  refine ⟨a,e1,?_,e3⟩
  rcases e2 with ⟨o,e2⟩ | e2
  ·rcases h a _ e2 with q | ⟨_,q⟩
   ·exact .inl ⟨o,q⟩
   ·cases q
  ·exact .inr e2
 | .rng lo hi,v,A,_,r=>by
  obtain ⟨a,e1,e2,e3⟩:=r
  refine ⟨a,e1,?_,e3⟩
  rcases h a _ e2 with q | ⟨_,q⟩
  ·exact q
  ·cases q
 | .exc c f,v,A,_,r=>by
  obtain ⟨a,dx,e1,e2,e3,e4⟩:=r
  refine ⟨a,dx,e1,?_,?_,e4⟩
  ·rcases h a _ e2 with q | ⟨_,q⟩
   ·exact q
   ·cases q
  ·cases f with
   | none=>trivial
   | some i =>
    obtain ⟨d,z1,z2⟩:=e3
    refine ⟨d,z1,?_⟩
    rcases h d _ z2 with q | ⟨_,q⟩
    ·exact q
    ·cases q
 | .obj c ns ds,v,A,hw,r=>by
  obtain ⟨a,dx,xs,B,e1,e2,e0,e3,e4⟩:=r
  subst e4
  refine ⟨a,dx,xs,B,e1,?_,e0,RpA.ext h (fun b hb=>hw b (.tail _ hb)) e3,rfl⟩
  rcases h a _ e2 with q | ⟨q,_⟩
  ·exact q
  ·exact absurd q (hw a (.head _))
 | .dct ks ds,v,A,hw,r=>by
  obtain ⟨a,xs,B,e1,e2,e0,e3,e4⟩:=r
  subst e4
  refine ⟨a,xs,B,e1,?_,e0,RpA.ext h (fun b hb=>hw b (.tail _ hb)) e3,rfl⟩
  rcases h a _ e2 with q | ⟨q,_⟩
  ·exact q
  ·exact absurd q (hw a (.head _))
 | .dtt ks ds,v,A,hw,r=>by
  obtain ⟨a,xs,B,e1,e2,e0,e3,e4⟩:=r
  subst e4
  refine ⟨a,xs,B,e1,?_,e0,RpA.ext h (fun b hb=>hw b (.tail _ hb)) e3,rfl⟩
  rcases h a _ e2 with q | ⟨q,_⟩
  ·exact q
  ·exact absurd q (hw a (.head _))
theorem RpA.ext {W:Addr→Prop}(h:Ext W H H'):∀{ds:List D} {vs:List V} {A:List Addr},(∀a∈A,¬W a)→RpA K C H ds vs A→RpA K C H' ds vs A
 | [],_,_,_,r=>r
 | d::ds,vs,A,hw,r=>by
  obtain ⟨x,l,B,B',e1,e2,e3,e4⟩:=r
  subst e4
  exact ⟨x,l,B,B',e1,Rp.ext h (fun a ha=>hw a (mem_append_left _ ha)) e2,RpA.ext h (fun a ha=>hw a (mem_append_right _ ha)) e3,rfl⟩
end
theorem Rp.same (h:Xx H H'){d:D}{v:V}{A:List Addr}(r:Rp K C H d v A):Rp K C H' d v A:=r.ext (Ext.same h) (fun _ _ q=>q)
theorem RpA.same (h:Xx H H'){d:List D}{v:List V}{A:List Addr}(r:RpA K C H d v A):RpA K C H' d v A:=r.ext (Ext.same h) (fun _ _ q=>q)
def Agree (W:List Addr)(H Hb:Hp):Prop:=(∀a∈W,Hb a=H a)∧∀b o,H b=some o→¬IsM o→Hb b=some o
theorem Agree.ext {W:List Addr}(h:Agree W H H'):Ext (fun a=>a∉W) H H':=fun b o q=>by
 by_cases hb:b∈W
 ·exact .inl ((h.1 b hb).trans q)
 ·by_cases ho:IsM o
  ·exact .inr ⟨hb,ho⟩
  ·exact .inl (h.2 b o q ho)
theorem RpA.agree {W:List Addr}(h:Agree W H H'){ds:List D}{vs:List V}{A:List Addr}(hA:∀a∈A,a∈W)(r:RpA K C H ds vs A):RpA K C H' ds vs A:=r.ext h.ext fun a ha z=>z (hA a ha)
mutual
theorem Rp.isl:∀{d:D} {v:V} {A:List Addr},Rp K C H d v A→∀a∈A,∃o,H a=some o∧IsM o
 | .non,_,_,r,a,ha=>by rw [r.2] at ha;cases ha
 | .bl _,_,_,r,a,ha=>by rw [r.2] at ha;cases ha
 | .int _,_,_,r,a,ha=>by rw [r.2] at ha;cases ha
 | .str _,_,_,r,a,ha=>by rw [r.2.2] at ha;cases ha
 | .lst ds,_,_,r,a,ha=>by
  obtain ⟨b,xs,B,e1,e2,e3,e4⟩:=r
  rw [e4] at ha
  rcases List.mem_cons.mp ha with z | z
  ·rw [z];exact ⟨_,e2,.lst⟩
  ·exact RpA.isl e3 a z
 | .tup ds,_,_,r,a,ha=>by
  obtain ⟨b,xs,e1,e2,e3⟩:=r
  exact RpA.isl e3 a ha
 | .scr _,_,_,r,a,ha=>by obtain ⟨_,_,_,e⟩:=r;rw [e] at ha;cases ha
 | .rng _ _,_,_,r,a,ha=>by obtain ⟨_,_,_,e⟩:=r;rw [e] at ha;cases ha
 | .exc _ _,_,_,r,a,ha=>by obtain ⟨_,_,_,_,_,e⟩:=r;rw [e] at ha;cases ha
 | .obj c ns ds,_,_,r,a,ha=>by
  obtain ⟨b,dx,xs,B,e1,e2,e0,e3,e4⟩:=r
  rw [e4] at ha
  rcases List.mem_cons.mp ha with z | z
  ·rw [z];exact ⟨_,e2,.ins⟩
  ·exact RpA.isl e3 a z
 | .dct ks ds,_,_,r,a,ha=>by
  obtain ⟨b,xs,B,e1,e2,e0,e3,e4⟩:=r
  rw [e4] at ha
  rcases List.mem_cons.mp ha with z | z
  ·rw [z];exact ⟨_,e2,.dct⟩
  ·exact RpA.isl e3 a z
 | .dtt ks ds,_,_,r,a,ha=>by
  obtain ⟨b,xs,B,e1,e2,e0,e3,e4⟩:=r
  rw [e4] at ha
  rcases List.mem_cons.mp ha with z | z
  ·rw [z];exact ⟨_,e2,.dtt⟩
  ·exact RpA.isl e3 a z
theorem RpA.isl:∀{ds:List D} {vs:List V} {A:List Addr},RpA K C H ds vs A→∀a∈A,∃o,H a=some o∧IsM o
 | [],_,_,r,a,ha=>by rw [r.2] at ha;cases ha
 | d::ds,_,_,r,a,ha=>by
  obtain ⟨x,l,B,B',e1,e2,e3,e4⟩:=r
  rw [e4] at ha
  rcases List.mem_append.mp ha with z | z
  ·exact Rp.isl e2 a z
  ·exact RpA.isl e3 a z
end
mutual
theorem Rp.flat:∀{d:D} {v:V} {A:List Addr},Dl.flat d=true→Rp K C H d v A→A=[]
 | .non,_,_,_,r=>r.2
 | .bl _,_,_,_,r=>r.2
 | .int _,_,_,_,r=>r.2
 | .str _,_,_,_,r=>r.2.2
 | .lst _,_,_,h,_=>by simp [Dl.flat] at h
 | .tup ds,_,_,h,r=>by
  obtain ⟨b,xs,e1,e2,e3⟩:=r
  exact RpA.flat (by simpa [Dl.flat] using h) e3
 | .scr _,_,_,_,r=>by obtain ⟨_,_,_,e⟩:=r;exact e
 | .rng _ _,_,_,_,r=>by obtain ⟨_,_,_,e⟩:=r;exact e
 | .exc _ _,_,_,_,r=>by obtain ⟨_,_,_,_,_,e⟩:=r;exact e
 | .obj _ _ _,_,_,h,_=>by simp [Dl.flat] at h
 | .dct _ _,_,_,h,_=>by simp [Dl.flat] at h
 | .dtt _ _,_,_,h,_=>by simp [Dl.flat] at h
theorem RpA.flat:∀{ds:List D} {vs:List V} {A:List Addr},Dl.Xy ds=true→RpA K C H ds vs A→A=[]
 | [],_,_,_,r=>r.2
 | d::ds,_,_,h,r=>by
  obtain ⟨x,l,B,B',e1,e2,e3,e4⟩:=r
  simp only [Dl.Xy,Bool.and_eq_true] at h
  rw [e4,Rp.flat h.1 e2,RpA.flat h.2 e3]
  rfl
end
theorem RpA.len:∀{ds:List D} {vs:List V} {A:List Addr},RpA K C H ds vs A→vs.length=ds.length
 | [],_,_,r=>by rw [r.1];rfl
 | d::ds,_,_,r=>by
  obtain ⟨x,l,B,B',e1,e2,e3,e4⟩:=r
  rw [e1,length_cons,length_cons,RpA.len e3]
theorem RpA.get:∀{ds:List D} {vs:List V} {A:List Addr} {i:Nat} {d:D},RpA K C H ds vs A→ds[i]?=some d→∃v B,vs[i]?=some v∧Rp K C H d v B∧∀a∈B,a∈A
 | [],_,_,_,_,_,h=>by simp at h
 | d::ds,_,_,0,_,r,h=>by
  obtain ⟨x,l,B,B',e1,e2,e3,e4⟩:=r
  simp only [List.getElem?_cons_zero,Option.some.injEq] at h
  subst h e1 e4
  exact ⟨x,B,rfl,e2,fun a ha=>mem_append_left _ ha⟩
 | d::ds,_,_,i+1,_,r,h=>by
  obtain ⟨x,l,B,B',e1,e2,e3,e4⟩:=r
  simp only [getElem?_cons_succ] at h
  obtain ⟨v,B2,q1,q2,q3⟩:=RpA.get e3 h
  subst e1 e4
  exact ⟨v,B2,by simpa using q1,q2,fun a ha=>mem_append_right _ (q3 a ha)⟩
theorem RpA.get':∀{ds:List D} {vs:List V} {A:List Addr} {i:Nat} {v:V},RpA K C H ds vs A→vs[i]?=some v→∃d B,ds[i]?=some d∧Rp K C H d v B∧∀a∈B,a∈A:=fun {ds vs A i v} r h=>by
 have hl:=r.len
 have hi:i<ds.length:=by
  have:=(List.getElem?_eq_some_iff.mp h).1
  omega
 obtain ⟨v',B,q1,q2,q3⟩:=r.get (getElem?_eq_getElem hi)
 rw [h] at q1
 cases q1
 exact ⟨_,B,getElem?_eq_getElem hi,q2,q3⟩
theorem RpA.app:∀{ds es:List D} {vs ws:List V} {A B:List Addr},RpA K C H ds vs A→RpA K C H es ws B→RpA K C H (ds++es) (vs++ws) (A++B)
 | [],_,_,_,_,_,r,q=>by
  obtain ⟨e1,e2⟩:=r
  subst e1 e2
  exact q
 | d::ds,_,_,_,_,_,r,q=>by
  obtain ⟨x,l,B,B',e1,e2,e3,e4⟩:=r
  subst e1 e4
  exact ⟨x,_,B,_,rfl,e2,RpA.app e3 q,append_assoc ..⟩
theorem RpA.one {d:D}{v:V}{A:List Addr}(r:Rp K C H d v A):RpA K C H [d] [v] A:=⟨v,[],A,[],rfl,r,⟨rfl,rfl⟩,(append_nil _).symm⟩
theorem RpA.flatRev {ds:List D}{vs:List V}{A:List Addr}:Dl.Xy ds=true→RpA K C H ds vs A→RpA K C H ds.reverse vs.reverse []:=by
 intro h r
 induction ds generalizing vs A with
 | nil=>rw [r.1];exact ⟨rfl,rfl⟩
 | cons d ds ih =>
  obtain ⟨x,l,B,B',e1,e2,e3,e4⟩:=r
  simp only [Dl.Xy,Bool.and_eq_true] at h
  have z:=Rp.flat h.1 e2
  subst e1 z
  rw [reverse_cons,reverse_cons]
  exact (ih h.2 e3).app (RpA.one e2)
theorem RpA.flatDrop {ds:List D}{vs:List V}{A:List Addr}:Dl.Xy ds=true→RpA K C H ds vs A→∀n,RpA K C H (ds.drop n) (vs.drop n) []:=by
 intro h r n
 induction ds generalizing vs A n with
 | nil=>rw [r.1];simp;exact ⟨rfl,rfl⟩
 | cons d ds ih =>
  have r0:=r
  obtain ⟨x,l,B,B',e1,e2,e3,e4⟩:=r
  cases n with
  | zero =>
   have z:=RpA.flat h r0
   subst z
   exact r0
  | succ n =>
   simp only [Dl.Xy,Bool.and_eq_true] at h
   subst e1
   exact ih h.2 e3 n
theorem RpA.flatTake {ds:List D}{vs:List V}{A:List Addr}:Dl.Xy ds=true→RpA K C H ds vs A→∀n,RpA K C H (ds.take n) (vs.take n) []:=by
 intro h r n
 induction ds generalizing vs A n with
 | nil=>rw [r.1];simp;exact ⟨rfl,rfl⟩
 | cons d ds ih =>
  obtain ⟨x,l,B,B',e1,e2,e3,e4⟩:=r
  simp only [Dl.Xy,Bool.and_eq_true] at h
  have z:=Rp.flat h.1 e2
  subst e1 z
  cases n with
  | zero=>exact ⟨rfl,rfl⟩
  | succ n=>exact ⟨x,_,[],_,rfl,e2,ih h.2 e3 n,rfl⟩
theorem Zwj {ds:List D}(h:Dl.Xy ds=true):∀n,Dl.Xy (ds.drop n)=true:=by
 intro n
 induction ds generalizing n with
 | nil=>simp;rfl
 | cons d ds ih =>
  cases n with
  | zero=>exact h
  | succ n =>
   simp only [Dl.Xy,Bool.and_eq_true] at h
   exact ih h.2 n
theorem RpA.ints {ns:List Int}:RpA K C H (ns.map D.int) (ns.map V.int) []:=by
 induction ns with
 | nil=>exact ⟨rfl,rfl⟩
 | cons n ns ih=>exact ⟨_,_,[],[],rfl,⟨rfl,rfl⟩,ih,rfl⟩
theorem RpA.ofInts:∀{ds:List D} {vs:List V} {A:List Addr} {ns:List Int},RpA K C H ds vs A→Dl.intsOf ds=some ns→vs=ns.map V.int
 | [],_,_,ns,r,h=>by
  simp only [Dl.intsOf,Option.some.injEq] at h
  rw [r.1,← h]
  rfl
 | d::ds,_,_,ns,r,h=>by
  obtain ⟨x,l,B,B',e1,e2,e3,e4⟩:=r
  cases d<;>simp only [Dl.intsOf] at h<;>try cases h
  obtain ⟨ms,h1,h2⟩:=Option.map_eq_some_iff.mp h
  rw [e1,e2.1,RpA.ofInts e3 h1,← h2]
  rfl
theorem RpA.ofBools:∀{ds:List D} {vs:List V} {A:List Addr} {ns:List Bool},RpA K C H ds vs A→Dl.bools ds=some ns→vs=ns.map V.bl
 | [],_,_,ns,r,h=>by
  simp only [Dl.bools,Option.some.injEq] at h
  rw [r.1,← h]
  rfl
 | d::ds,_,_,ns,r,h=>by
  obtain ⟨x,l,B,B',e1,e2,e3,e4⟩:=r
  cases d<;>simp only [Dl.bools] at h<;>try cases h
  obtain ⟨ms,h1,h2⟩:=Option.map_eq_some_iff.mp h
  rw [e1,e2.1,RpA.ofBools e3 h1,← h2]
  rfl
mutual
noncomputable def toPy:D→PyData
 | .non=>.none
 | .bl b=>.bool b
 | .int i=>.int i
 | .str x=>.str x
 | .lst ds=>.list (Zgo ds)
 | .tup ds=>.tuple (Zgo ds)
 | .scr _=>.none
 | .rng _ _=>.none
 | .exc _ _=>.none
 | .obj _ _ _=>.none
 | .dct _ _=>.none
 | .dtt _ _=>.none
noncomputable def Zgo:List D→List PyData
 | []=>[]
 | d::ds=>toPy d::Zgo ds
end
mutual
theorem Rp.dn:∀{d:D} {v:V} {A:List Addr} {n:Nat},Dl.dep d≤n→n<100→Rp K C H d v A→Dn K H v (toPy d)∧(toPy d).canLay0=true∧(toPy d).depth=Dl.dep d
 | .non,_,_,_,_,_,r=>by rw [r.1];exact ⟨.non,rfl,rfl⟩
 | .bl _,_,_,_,_,_,r=>by rw [r.1];exact ⟨.bl _,rfl,rfl⟩
 | .int _,_,_,_,_,_,r=>by rw [r.1];exact ⟨.int _,rfl,rfl⟩
 | .str _,_,_,_,_,_,r=>by rw [r.1];exact ⟨.str _,by simpa [toPy,PyData.canLay0] using r.2.1,by simp [toPy,PyData.depth,Dl.dep]⟩
 | .lst ds,_,_,n,h,hn,r=>by
  obtain ⟨a,xs,B,e1,e2,e3,e4⟩:=r
  simp only [Dl.dep] at h
  obtain ⟨q1,q2,q3⟩:=RpA.dn (n:=n) (by omega) hn e3
  rw [e1]
  exact ⟨.lst (SqL.of e2) q1,by simpa [toPy,PyData.canLay0] using q2,by simp [toPy,PyData.depth,Dl.dep,q3]⟩
 | .tup ds,_,_,n,h,hn,r=>by
  obtain ⟨a,xs,e1,e2,e3⟩:=r
  simp only [Dl.dep] at h
  obtain ⟨q1,q2,q3⟩:=RpA.dn (n:=n) (by omega) hn e3
  rw [e1]
  exact ⟨.tup (SqT.of e2) q1,by simpa [toPy,PyData.canLay0] using q2,by simp [toPy,PyData.depth,Dl.dep,q3]⟩
 | .scr _,_,_,n,h,hn,_=>by simp only [Dl.dep] at h;omega
 | .rng _ _,_,_,n,h,hn,_=>by simp only [Dl.dep] at h;omega
 | .exc _ _,_,_,n,h,hn,_=>by simp only [Dl.dep] at h;omega
 | .obj _ _ _,_,_,n,h,hn,_=>by simp only [Dl.dep] at h;omega
 | .dct _ _,_,_,n,h,hn,_=>by simp only [Dl.dep] at h;omega
 | .dtt _ _,_,_,n,h,hn,_=>by simp only [Dl.dep] at h;omega
theorem RpA.dn:∀{ds:List D} {vs:List V} {A:List Addr} {n:Nat},Dl.Zho ds≤n→n<100→RpA K C H ds vs A→DnA K H vs (Zgo ds)∧PyData.canLayAll0 (Zgo ds)=true∧PyData.depthAll (Zgo ds)=Dl.Zho ds
 | [],_,_,_,_,_,r=>by rw [r.1];exact ⟨.nil,rfl,rfl⟩
 | d::ds,_,_,n,h,hn,r=>by
  obtain ⟨x,l,B,B',e1,e2,e3,e4⟩:=r
  simp only [Dl.Zho] at h
  obtain ⟨q1,q2,q3⟩:=Rp.dn (n:=n) (by omega) hn e2
  obtain ⟨p1,p2,p3⟩:=RpA.dn (n:=n) (by omega) hn e3
  rw [e1]
  exact ⟨.cons q1 p1,by simp [Zgo,PyData.canLayAll0,q2,p2],by simp [Zgo,PyData.depthAll,Dl.Zho,q3,p3]⟩
end
mutual
theorem Zvy:∀{d e:D},Dl.dep d<100→Dl.dep e<100→PyData.eqv (toPy d) (toPy e)=Dl.eqv d e
 | .non,e,_,h=>by cases e<;>first | rfl | exact absurd h (lt_irrefl 100)
 | .bl _,e,_,h=>by cases e<;>first | rfl | exact absurd h (lt_irrefl 100)
 | .int _,e,_,h=>by cases e<;>first | rfl | exact absurd h (lt_irrefl 100)
 | .str _,e,_,h=>by cases e<;>first | rfl | exact absurd h (lt_irrefl 100)
 | .lst ds,e,h1,h=>by
  cases e with
  | lst es=>exact Zrm (Nat.lt_of_succ_lt h1) (Nat.lt_of_succ_lt h)
  | _=>rfl
 | .tup ds,e,h1,h=>by
  cases e with
  | tup es=>exact Zrm (Nat.lt_of_succ_lt h1) (Nat.lt_of_succ_lt h)
  | _=>rfl
 | .scr _,_,h,_=>absurd h (lt_irrefl 100)
 | .rng _ _,_,h,_=>absurd h (lt_irrefl 100)
 | .exc _ _,_,h,_=>absurd h (lt_irrefl 100)
 | .obj _ _ _,_,h,_=>absurd h (lt_irrefl 100)
 | .dct _ _,_,h,_=>absurd h (lt_irrefl 100)
 | .dtt _ _,_,h,_=>absurd h (lt_irrefl 100)
theorem Zrm:∀{d e:List D},Dl.Zho d<100→Dl.Zho e<100→PyData.eqvAll (Zgo d) (Zgo e)=Dl.Xmh d e
 | [],[],_,_=>rfl
 | [],_::_,_,_=>rfl
 | _::_,[],_,_=>rfl
 | d::ds,e::es,h1,h=>by
  have a1:Dl.dep d<100∧Dl.Zho ds<100:=Nat.max_lt.mp h1
  have a2:Dl.dep e<100∧Dl.Zho es<100:=Nat.max_lt.mp h
  show (PyData.eqv (toPy d) (toPy e)&&PyData.eqvAll (Zgo ds) (Zgo es))=(Dl.eqv d e&&Dl.Xmh ds es)
  rw [Zvy a1.1 a2.1,Zrm a1.2 a2.2]
end
end
noncomputable abbrev Jw:=Dl.Env
section
variable (K:Frag)(C:String→Addr)
structure Xd (H0 Hb H:Hp)(Γ Δ:List Nat)(σ:St)(ρ:Jw)(A:Nat→List Addr):Prop where
 s0:Xx H0 Hb
 same:Xx Hb H
 len:σ.length=ρ.length
 rep:∀i d,ρ[i]?=some (some d)→∃v,σ[i]?=some (some v)∧Rp K C H d v (A i)
 nil:∀i,(∀d,ρ[i]?≠some (some d))→A i=[]
 loc:∀i∈Γ,∀a∈A i,H0 a=none
 top:∀i∈Γ,∀a r,A i=a::r→Hb a=none∧a∉r∧∀j,j≠i→a∉A j
 deep:∀i∈Δ,(A i).Nodup∧(∀j,j≠i→∀a∈A i,a∉A j)∧∀a∈A i,Hb a=none
def InS (A:Nat→List Addr)(S:List (Nat×Bool))(a:Addr):Prop:=∃p∈S,if p.2=true then a∈(A p.1).tail else a∈A p.1
def Res (m:Nat)(S:List (Nat×Bool))(H:Hp)(A:Nat→List Addr)(d:D)(v:V)(H':Hp):Prop:=
 ∃B,Rp K C H' d v B∧(∀a∈B,H a=none∨InS A S a)∧(m=1→∀a r,B=a::r→H a=none∧a∉r)∧(m=2→B.Nodup)
def ResA (m:Nat)(S:List (Nat×Bool))(H:Hp)(A:Nat→List Addr)(ds:List D)(vs:List V)(H':Hp):Prop:=
 ∃B,RpA K C H' ds vs B∧(∀a∈B,H a=none∨InS A S a)∧(m=2→B.Nodup)
def EC (E:XK)(c:String)(x:Option Int)(H:Hp):Prop:=∀dx,FOk H c x dx→E (.ref (C c)) dx H
def Xz {α:Type}(r:R α)(ok:α→Prop)(er:String→Option Int→Prop):Prop:=match r with
 | .ok a=>ok a
 | .err c x=>er c x
 | .bad=>False
def EOk (E:XK)(Γ Δ:List Nat)(m:Nat)(S:List (Nat×Bool))(t:TE)(f:FE):Prop:=∀(H0 Hb H:Hp) (σ:St) (ρ:Jw) (A:Nat→List Addr) (Q:VK),Xd K C H0 Hb H Γ Δ σ ρ A→
 Xz (f ρ) (fun d=>∀v H',Xx H H'→Res K C m S H A d v H'→Q v H') (fun c x=>∀H',Xx H H'→EC C E c x H')→t σ H Q
def AOk (E:XK)(Γ Δ:List Nat)(m:Nat)(S:List (Nat×Bool))(t:TA)(f:FA):Prop:=∀(H0 Hb H:Hp) (σ:St) (ρ:Jw) (A:Nat→List Addr) (Q:List V→Hp→Prop),Xd K C H0 Hb H Γ Δ σ ρ A→
 Xz (f ρ) (fun d=>∀v H',Xx H H'→ResA K C m S H A d v H'→Q v H') (fun c x=>∀H',Xx H H'→EC C E c x H')→t σ H Q
def TOk (E:XK)(Γ Δ:List Nat)(t:TT)(f:FT):Prop:=∀(H0 Hb H:Hp) (σ:St) (ρ:Jw) (A:Nat→List Addr) (Q:Bool→Hp→Prop),Xd K C H0 Hb H Γ Δ σ ρ A→
 Xz (f ρ) (fun b=>∀H',Xx H H'→Q b H') (fun c x=>∀H',Xx H H'→EC C E c x H')→t σ H Q
def OOk (E:XK)(Γ Δ:List Nat)(t:TO)(f:FO):Prop:=∀(H0 Hb H:Hp) (σ:St) (ρ:Jw) (A:Nat→List Addr) (Q:Option Int→Hp→Prop),Xd K C H0 Hb H Γ Δ σ ρ A→
 Xz (f ρ) (fun b=>∀H',Xx H H'→Q b H') (fun c x=>∀H',Xx H H'→EC C E c x H')→t σ H Q
def Zpg (E:XK)(mr:Nat)(Γl Δl Γ' Δ':List Nat)(H0 Hb:Hp)(D:Ends)(r:R Fl):Prop:=Xz r (fun fl=>match fl with
    | .nx ρ'=>∀σ' H' A',Xd K C H0 Hb H' Γ' Δ' σ' ρ' A'→D.nx σ' H'
    | .ret d=>∀v H',Xx H0 H'→Res K C mr [] H0 (fun _=>[]) d v H'→D.rt v H'
    | .brk ρ'=>∀σ' H' A',Xd K C H0 Hb H' Γl Δl σ' ρ' A'→D.bk σ' H'
    | .cnt ρ'=>∀σ' H' A',Xd K C H0 Hb H' Γl Δl σ' ρ' A'→D.ct σ' H')
  (fun c x=>∀H',Xx H0 H'→EC C E c x H')
def SOk (E:XK)(mr:Nat)(Γl Δl Γ Δ Γ' Δ':List Nat)(t:TS)(f:FS):Prop:=∀(H0 Hb H:Hp) (σ:St) (ρ:Jw) (A:Nat→List Addr) (D:Ends),Xd K C H0 Hb H Γ Δ σ ρ A→
 Zpg K C E mr Γl Δl Γ' Δ' H0 Hb D (f ρ)→t D σ H
end
section
variable {K:Frag}{C:String→Addr}{E:XK}{Γ Δ Γ' Δ' Γ1 Δ1 Γl Δl:List Nat}{m m1 m2 mr:Nat}{S S1 S2:List (Nat×Bool)}
theorem Xd.mono {H0 Hb H H':Hp}{σ:St}{ρ:Jw}{A:Nat→List Addr}(h:Xd K C H0 Hb H Γ Δ σ ρ A)(g:Xx H H'):Xd K C H0 Hb H' Γ Δ σ ρ A:=
 ⟨h.s0,h.same.trans g,h.len,fun i d e=>let ⟨v,q1,q2⟩:=h.rep i d e;⟨v,q1,q2.same g⟩,h.nil,h.loc,h.top,h.deep⟩
theorem Xd.weak {H0 Hb H:Hp}{σ:St}{ρ:Jw}{A:Nat→List Addr}(h:Xd K C H0 Hb H Γ Δ σ ρ A)(h1:∀i∈Γ',i∈Γ)(h2:∀i∈Δ',i∈Δ):Xd K C H0 Hb H Γ' Δ' σ ρ A:=
 ⟨h.s0,h.same,h.len,h.rep,h.nil,fun i hi=>h.loc i (h1 i hi),fun i hi=>h.top i (h1 i hi),fun i hi=>h.deep i (h2 i hi)⟩
theorem Xd.is {H0 Hb H:Hp}{σ:St}{ρ:Jw}{A:Nat→List Addr}(h:Xd K C H0 Hb H Γ Δ σ ρ A){j:Nat}{a:Addr}(ha:a∈A j):∃o,H a=some o∧IsM o:=by
 by_cases q:∃d,ρ[j]?=some (some d)
 ·obtain ⟨d,q⟩:=q
  obtain ⟨v,_,r⟩:=h.rep j d q
  exact r.isl a ha
 ·rw [h.nil j fun d e=>q ⟨d,e⟩] at ha
  cases ha
theorem Xd.ne {H0 Hb H:Hp}{σ:St}{ρ:Jw}{A:Nat→List Addr}(h:Xd K C H0 Hb H Γ Δ σ ρ A){j:Nat}{a:Addr}(ha:a∈A j)(hn:H a=none):False:=by
 obtain ⟨xs,q,_⟩:=h.is ha
 rw [q] at hn
 cases hn
theorem InS.mem {A:Nat→List Addr}{a:Addr}(h:InS A S a):∃p∈S,a∈A p.1:=by
 obtain ⟨p,hp,q⟩:=h
 refine ⟨p,hp,?_⟩
 split at q
 ·exact List.mem_of_mem_tail q
 ·exact q
theorem InS.mono {A:Nat→List Addr}{a:Addr}(h:InS A S1 a)(hs:∀p∈S1,p∈S2):InS A S2 a:=let ⟨p,hp,q⟩:=h;⟨p,hs p hp,q⟩
theorem Xz.imp {α:Type}{r:R α}{ok ok':α→Prop}{er er':String→Option Int→Prop}(h:Xz r ok er)(h1:∀a,ok a→ok' a)(h2:∀c x,er c x→er' c x):Xz r ok' er':=by
 cases r with
 | ok a=>exact h1 a h
 | err c x=>exact h2 c x h
 | bad=>exact h
theorem Xz.bind {α β:Type}{r:R α}{g:α→R β}{ok:β→Prop}{er:String→Option Int→Prop}(h:Xz (r.bind g) ok er):Xz r (fun a=>Xz (g a) ok er) er:=by
 cases r with
 | ok a=>exact h
 | err c x=>exact h
 | bad=>exact h
theorem Res.flat {H H':Hp}{A:Nat→List Addr}{d:D}{v:V}(r:Rp K C H' d v []):Res K C m S H A d v H':=⟨[],r,fun _ h=>(nomatch h),fun _ _ _ e=>(nomatch e),fun _=>nodup_nil⟩
theorem Zzo {d:D}{v:V}(h:∀H,Rp K C H d v []):EOk K C E Γ Δ 2 [] (tC v) (Dl.fC d):=fun _ _ H _ _ _ _ _ p=>p v H (Xx.refl _) (Res.flat (h H))
theorem Xsc {i:Nat}{ρ:Jw}{ok:D→Prop}{er:String→Option Int→Prop}(h:Xz (Dl.fV i ρ) ok er):∃d,ρ[i]?=some (some d)∧ok d:=by
 unfold Dl.fV at h
 split at h
 ·rename_i d e
  exact ⟨d,e,h⟩
 ·exact h.elim
theorem eok_v {i:Nat}:EOk K C E Γ Δ 0 [(i,false)] (Zdb i) (Dl.fV i):=fun H0 Hb H σ ρ A Q I p=>by
 obtain ⟨d,e,p⟩:=Xsc p
 obtain ⟨v,e1,r⟩:=I.rep i d e
 exact ⟨v,e1,p v H (Xx.refl _) ⟨A i,r,fun a ha=>.inr ⟨(i,false),.head _,ha⟩,(fun z=>nomatch z),(fun z=>nomatch z)⟩⟩
theorem Xth {i:Nat}(hi:i∈Δ):EOk K C E Γ Δ 2 [(i,false)] (Zdb i) (Dl.fV i):=fun H0 Hb H σ ρ A Q I p=>by
 obtain ⟨d,e,p⟩:=Xsc p
 obtain ⟨v,e1,r⟩:=I.rep i d e
 exact ⟨v,e1,p v H (Xx.refl _) ⟨A i,r,fun a ha=>.inr ⟨(i,false),.head _,ha⟩,(fun z=>nomatch z),fun _=>(I.deep i hi).1⟩⟩
theorem Xez {t:TE}{f:FE}(h:EOk K C E Γ Δ m S t f):EOk K C E Γ Δ 2 [] t (Dl.f1 Dl.Xs f):=fun H0 Hb H σ ρ A Q I p =>
  h H0 Hb H σ ρ A Q I (p.bind.imp (fun d q v H' g r=>by
    unfold Dl.Xs at q
    split at q
    · rename_i hf
      obtain ⟨B,r1,_⟩:=r
      have e:=r1.flat hf
      subst e
      exact q v H' g (Res.flat r1)
    · exact q.elim) fun _ _ q=>q)
theorem Res.later {H0 H1 H2 H3:Hp}{A:Nat→List Addr}{d:D}{v:V}(g1:Xx H0 H1)(g2:Xx H2 H3)(r:Res K C m S H1 A d v H2):Res K C m S H0 A d v H3:=by
 obtain ⟨B,r1,r2,r3,r4⟩:=r
 exact ⟨B,r1.same g2,fun a ha=>(r2 a ha).imp (fun h=>g1.free h) id,fun hm a l e=>⟨g1.free (r3 hm a l e).1,(r3 hm a l e).2⟩,r4⟩
theorem Res.new {H H':Hp}{A:Nat→List Addr}{d:D}{v:V}{B:List Addr}(r:Rp K C H' d v B)(h1:B.Nodup)(h2:∀a∈B,H a=none):Res K C m S H A d v H':=
 ⟨B,r,fun a ha=>.inl (h2 a ha),fun _ a l e=>by subst e;exact ⟨h2 a (.head _),(List.nodup_cons.mp h1).1⟩,fun _=>h1⟩
theorem Zgq {α:Type}{o:Option α}{ok:α→Prop}{er:String→Option Int→Prop}(h:Xz (Dl.oR o) ok er):∃a,o=some a∧ok a:=by
 cases o with
 | none=>exact h.elim
 | some a=>exact ⟨a,rfl,h⟩
def GOk (K:Frag)(C:String→Addr)(r:R2)(g:D→D→Option D):Prop:=
 ∀(H:Hp) (x y d:D) (vx vy:V) (Bx By:List Addr) (Q:VK),Rp K C H x vx Bx→Rp K C H y vy By→g x y=some d→(∀v H' B,Xx H H'→Rp K C H' d v B→B.Nodup→(∀a∈B,H a=none)→Q v H')→r vx vy H Q
def GAk (K:Frag)(C:String→Addr)(r:List V→Hp→VK→Prop)(g:List D→Option D):Prop:=
 ∀(H:Hp) (xs:List D) (d:D) (vs:List V) (Bx:List Addr) (Q:VK),RpA K C H xs vs Bx→g xs=some d→(∀v H' B,Xx H H'→Rp K C H' d v B→B.Nodup→(∀a∈B,H a=none)→Q v H')→r vs H Q
theorem Zyf {r:R2}{g:D→D→Option D}{ta tb:TE}{fa fb:FE}(hg:GOk K C r g)(ha:EOk K C E Γ Δ m1 S1 ta fa)(hb:EOk K C E Γ Δ m2 S2 tb fb):EOk K C E Γ Δ 2 [] (tOp r ta tb) (Dl.f2 g fa fb):=
  fun H0 Hb H σ ρ A Q I p=>ha H0 Hb H σ ρ A _ I (p.bind.imp (fun x q vx H1 g1 r1=>hb H0 Hb H1 σ ρ A _ (I.mono g1) (q.bind.imp (fun y q vy H2 g2 r2=>by
    obtain ⟨d,e,q⟩:=Zgq q
    obtain ⟨Bx,r1,_⟩:=r1
    obtain ⟨By,r2,_⟩:=r2
    exact hg H2 x y d vx vy Bx By Q (r1.same g2) r2 e fun v H' B g3 r3 h1 h2=>q v H' (g1.trans (g2.trans g3)) (Res.new r3 h1 fun a ha=>(g1.trans g2).free (h2 a ha))) fun c x q H' g'=>q H' (g1.trans g'))) fun c x q H' g'=>q H' g')
theorem Xpk {r:V→Hp→VK→Prop}{g:D→Option D}{ta:TE}{fa:FE}(hg:∀(H:Hp) (x d:D) (vx:V) (Bx:List Addr) (Q:VK),Rp K C H x vx Bx→g x=some d→(∀v H' B,Xx H H'→Rp K C H' d v B→B.Nodup→(∀a∈B,H a=none)→Q v H')→r vx H Q)
    (ha:EOk K C E Γ Δ m1 S1 ta fa):EOk K C E Γ Δ 2 [] (tUn r ta) (Dl.f1 g fa):=
  fun H0 Hb H σ ρ A Q I p=>ha H0 Hb H σ ρ A _ I (p.bind.imp (fun x q vx H1 g1 r1=>by
    obtain ⟨d,e,q⟩:=Zgq q
    obtain ⟨Bx,r1,_⟩:=r1
    exact hg H1 x d vx Bx Q r1 e fun v H' B g3 r3 h1 h2=>q v H' (g1.trans g3) (Res.new r3 h1 fun a ha=>g1.free (h2 a ha))) fun c x q H' g'=>q H' g')
theorem Jv {α:Type}{d:α}{P:Prop}(e:(none:Option α)=some d):P:=nomatch e
theorem Zvo {F:List D→Option D}(hn:F []=none)(hc:∀x y r,F (x::y::r)=none):∀{ds:List D} {d:D},F ds=some d→∃x,ds=[x]
 | [],_,e=>Jv (hn.symm.trans e)
 | [x],_,_=>⟨x,rfl⟩
 | x::y::r,_,e=>Jv ((hc x y r).symm.trans e)
theorem Xlc {ds:List D}{y d:D}(e:Dl.gIx (.lst ds) y=some d):∃i,y=.int i∧atI ds i=some d:=by
 cases y with
 | int i=>exact ⟨i,rfl,e⟩
 | _=>exact Jv e
theorem Xma {ds:List D}{y d:D}(e:Dl.gIx (.tup ds) y=some d):∃i,y=.int i∧atI ds i=some d:=by
 cases y with
 | int i=>exact ⟨i,rfl,e⟩
 | _=>exact Jv e
theorem Xnj {ns:List Int}{y d:D}(e:Dl.gIx (.scr ns) y=some d):∃i,y=.int i∧(atI ns i).map D.int=some d:=by
 cases y with
 | int i=>exact ⟨i,rfl,e⟩
 | _=>exact Jv e
theorem Xje {z:Str}{y d:D}(e:Dl.gIx (.str z) y=some d):∃i,y=.int i∧z.length≤Dl.lim∧(atI z.cps.toList i).map (fun c=>D.str ⟨#[c]⟩)=some d:=by
 cases y with
 | int i =>
  have e':(if z.length≤Dl.lim then ((Dl.atD z.cps.toList i).map fun c=>D.str ⟨#[c]⟩) else none)=some d:=e
  by_cases h:z.length≤Dl.lim
  ·rw [if_pos h] at e'
   exact ⟨i,rfl,h,e'⟩
  ·rw [if_neg h] at e'
   exact Jv e'
 | _=>exact Jv e
theorem Xsj {x y d:D}(e:Dl.gIx x y=some d):∃i,y=.int i∧((∃ds,x=.lst ds∧atI ds i=some d)∨(∃ds,x=.tup ds∧atI ds i=some d)∨(∃ns,x=.scr ns∧(atI ns i).map D.int=some d)∨∃z,x=.str z∧z.length≤Dl.lim∧(atI z.cps.toList i).map (fun c=>D.str ⟨#[c]⟩)=some d):=by
 cases x with
 | lst ds=>exact (Xlc e).imp fun _ h=>⟨h.1,.inl ⟨ds,rfl,h.2⟩⟩
 | tup ds=>exact (Xma e).imp fun _ h=>⟨h.1,.inr (.inl ⟨ds,rfl,h.2⟩)⟩
 | scr ns=>exact (Xnj e).imp fun _ h=>⟨h.1,.inr (.inr (.inl ⟨ns,rfl,h.2⟩))⟩
 | str z=>exact (Xje e).imp fun _ h=>⟨h.1,.inr (.inr (.inr ⟨z,rfl,h.2⟩))⟩
 | _=>exact Jv e
theorem Zxy {α β:Type}{ds:List α}{xs:List β}{i:Int}{d:α}{v:β}{j:Nat}(hl:xs.length=ds.length)(e:atI ds i=some d)(h1:seqIndex? i ds.length=some j)(hv:xs[j]?=some v):atI xs i=some v:=by
 unfold atI at e ⊢
 rw [hl]
 cases hx:ixN ds.length i with
 | none=>rw [hx] at e;cases e
 | some k =>
  obtain ⟨z1,_⟩:=Zsf hx
  rw [h1] at z1
  cases z1
  exact hv
theorem Xsq {H:Hp}{x y d:D}{vx vy:V}{Bx By:List Addr}{Q:VK}(rx:Rp K C H x vx Bx)(ry:Rp K C H y vy By)(e:Dl.gIx x y=some d)(q:∀v B,Rp K C H d v B→(∀a∈B,a∈Bx)→((∃ds,x=.lst ds)→∀a∈B,a∈Bx.tail)→Q v H):rIx K vx vy H Q:=by
 obtain ⟨i,rfl,h⟩:=Xsj e
 cases ry.1
 rcases h with ⟨ds,rfl,e'⟩ | ⟨ds,rfl,e'⟩ | ⟨ns,rfl,e'⟩ | ⟨z,rfl,hz,e'⟩
 ·obtain ⟨a,xs,B,rfl,e2,e3,rfl⟩:=rx
  obtain ⟨j,h1,h2,_⟩:=Zfw e'
  obtain ⟨v,B',q1,q2,q3⟩:=e3.get h2
  exact Xpx (SqL.of e2) (v:=v) (Zxy e3.len e' h1 q1) (q v B' q2 (fun a ha=>.tail _ (q3 a ha)) fun _ a ha=>q3 a ha)
 ·obtain ⟨a,xs,rfl,e2,e3⟩:=rx
  obtain ⟨j,h1,h2,_⟩:=Zfw e'
  obtain ⟨v,B',q1,q2,q3⟩:=e3.get h2
  exact Xtr (SqT.of e2) (v:=v) (Zxy e3.len e' h1 q1) (q v B' q2 q3 fun z=>by obtain ⟨_,z⟩:=z;cases z)
 ·obtain ⟨a,rfl,e2,rfl⟩:=rx
  obtain ⟨n,h1,rfl⟩:=Option.map_eq_some_iff.mp e'
  obtain ⟨j,h2,h3,_⟩:=Zfw h1
  exact .inl ⟨a,ns.map V.int,i,.int n,rfl,rfl,e2.sq,Zxy (length_map _) h1 h2 (by rw [getElem?_map,h3];rfl),q (.int n) [] ⟨rfl,rfl⟩ (fun _ h=>(nomatch h)) fun _ _ h=>(nomatch h)⟩
 ·obtain ⟨rfl,e2,rfl⟩:=rx
  obtain ⟨c,h1,rfl⟩:=Option.map_eq_some_iff.mp e'
  refine .inr (.inr ⟨z,i,c,rfl,rfl,le_trans hz (by decide),h1,q _ [] ⟨rfl,?_,rfl⟩ (fun _ h=>(nomatch h)) fun _ _ h=>(nomatch h)⟩)
  obtain ⟨j,_,h3,_⟩:=Zfw h1
  have hm:c∈z.cps:=Array.mem_toList_iff.mp (mem_of_getElem? h3)
  have ho:z.cps.all (·<0x110000)=true:=e2
  have:=(Array.all_eq_true_iff_forall_mem.mp ho) c hm
  unfold PyData.strOk
  simpa using this
theorem Xru {ta tb:TE}{fa fb:FE}(ha:EOk K C E Γ Δ m1 S1 ta fa)(hb:EOk K C E Γ Δ m2 S2 tb fb):EOk K C E Γ Δ 0 S1 (tOp (rIx K) ta tb) (Dl.f2 Dl.gIx fa fb):=
  fun H0 Hb H σ ρ A Q I p=>ha H0 Hb H σ ρ A _ I (p.bind.imp (fun x q vx H1 g1 r1=>hb H0 Hb H1 σ ρ A _ (I.mono g1) (q.bind.imp (fun y q vy H2 g2 r2=>by
    obtain ⟨d,e,q⟩:=Zgq q
    obtain ⟨Bx,r1,r1',_⟩:=r1
    obtain ⟨By,r2,_⟩:=r2
    exact Xsq (r1.same g2) r2 e fun v B r3 h _=>q v H2 (g1.trans g2) ⟨B,r3,fun a ha=>r1' a (h a ha),(fun z=>nomatch z),(fun z=>nomatch z)⟩) fun c x q H' g'=>q H' (g1.trans g'))) fun c x q H' g'=>q H' g')
noncomputable def gIxL (x y:D):Option D:=match x with
 | .lst _=>Dl.gIx x y
 | _=>none
end
section
variable {K:Frag}{C:String→Addr}{E:XK}{Γ Δ:List Nat}{m m1 m2 m3 mr:Nat}{S S1 S2 S3:List (Nat×Bool)}{H:Hp}{Q:VK}
theorem sameNew {H:Hp}{p:Addr}(h:H p=none)(o:HO):Xx H (upd H p o):=fun b u q=>by rw [Xb (Ym q h)];exact q
noncomputable abbrev Out (K:Frag)(C:String→Addr)(H:Hp)(d:D)(Q:VK):Prop:=∀v H' B,Xx H H'→Rp K C H' d v B→B.Nodup→(∀a∈B,H a=none)→Q v H'
theorem Out.flat {d:D}{v:V}(q:Out K C H d Q)(r:Rp K C H d v []):Q v H:=q v H [] (Xx.refl _) r nodup_nil (fun _ h=>nomatch h)
theorem Out.lst {ds:List D}{vs:List V}{p:Addr}(q:Out K C H (.lst ds) Q)(r:RpA K C H ds vs [])(hp:H p=none):Q (.ref p) (upd H p (.lst vs)):=
 q _ _ [p] (sameNew hp _) ⟨p,vs,[],rfl,Yb,r.same (sameNew hp _),rfl⟩ (by simp) (fun a ha=>by rw [List.mem_singleton.mp ha];exact hp)
theorem Zee {n:Nat}(h:n≤Dl.lim):n≤sizeLine:=le_trans h (by decide)
theorem Zjj {n:Nat}(h:n<Dl.lim):n<sizeLine:=lt_of_lt_of_le h (by decide)
theorem Zzn {x y:Str}(h1:PyData.strOk x=true)(h2:PyData.strOk y=true):PyData.strOk (x++y)=true:=by
 unfold PyData.strOk at *
 show (x.cps++y.cps).all _=true
 rw [Array.all_append,h1,h2]
 rfl
theorem RpA.nil:RpA K C H [] [] []:=⟨rfl,rfl⟩
theorem RpA.flat' {ds:List D}{vs:List V}{A:List Addr}(h:Dl.Xy ds=true)(r:RpA K C H ds vs A):RpA K C H ds vs []:=by
 have e:=RpA.flat h r
 subst e
 exact r
theorem RpA.rep {ds:List D}{vs:List V}(r:RpA K C H ds vs []):∀n,RpA K C H (List.replicate n ds).flatten (List.replicate n vs).flatten []
 | 0=>RpA.nil
 | n+1=>by
  rw [replicate_succ,replicate_succ,flatten_cons,flatten_cons]
  exact r.app (RpA.rep r n)
theorem Zw:GOk K C Xgz Dl.Jj:=by
 intro H x y d vx vy Bx By Q rx ry e q
 unfold Dl.Jj at e
 split at e
 ·cases e
  obtain ⟨rfl,_⟩:=rx
  obtain ⟨rfl,_⟩:=ry
  exact Xpi (Out.flat q ⟨rfl,rfl⟩)
 ·split at e
  ·rename_i hz
   cases e
   obtain ⟨rfl,h1,_⟩:=rx
   obtain ⟨rfl,h2,_⟩:=ry
   exact .inr (.inl ⟨_,_,rfl,rfl,Zee hz,Out.flat q ⟨rfl,Zzn h1 h2,rfl⟩⟩)
  ·cases e
 ·split at e
  ·rename_i hz
   cases e
   obtain ⟨a,xs,B,rfl,e2,e3,_⟩:=rx
   obtain ⟨a',xs',B',rfl,e2',e3',_⟩:=ry
   obtain ⟨hz,f1,f2⟩:=hz
   refine Xty e2 e2' (by rw [e3.len,e3'.len];exact Zee hz) fun p hp=>?_
   exact Out.lst q ((e3.flat' f1).app (e3'.flat' f2)) hp
  ·cases e
 ·cases e
theorem Zps {g:Int→Int→D}{gv:Int→Int→V}{f:D→D→Option D}(hf:∀x y d,f x y=some d→∃i j,x=.int i∧y=.int j∧d=g i j)(hr:∀H i j,Rp K C H (g i j) (gv i j) []):GOk K C (rI0 gv) f:=by
 intro H x y d vx vy Bx By Q rx ry e q
 obtain ⟨i,j,rfl,rfl,rfl⟩:=hf x y d e
 obtain ⟨rfl,_⟩:=rx
 obtain ⟨rfl,_⟩:=ry
 exact rd_I0 (Out.flat q (hr H i j))
theorem Xkn {Cd:Int→Int→Prop}{g:Int→Int→D}{gv:Int→Int→V}{f:D→D→Option D}(hf:∀x y d,f x y=some d→∃i j,x=.int i∧y=.int j∧d=g i j∧Cd i j)(hr:∀H i j,Rp K C H (g i j) (gv i j) []):GOk K C (rI Cd gv) f:=by
 intro H x y d vx vy Bx By Q rx ry e q
 obtain ⟨i,j,rfl,rfl,rfl,hc⟩:=hf x y d e
 obtain ⟨rfl,_⟩:=rx
 obtain ⟨rfl,_⟩:=ry
 exact rd_I hc (Out.flat q (hr H i j))
theorem rpI {i:Int}:Rp K C H (.int i) (.int i) []:=⟨rfl,rfl⟩
theorem rpB {i:Bool}:Rp K C H (.bl i) (.bl i) []:=⟨rfl,rfl⟩
theorem Zah:GOk K C (rI0 fun i j=>.int (i - j)) Dl.Zdy:=Zps (fun x y d e=>by unfold Dl.Zdy at e;split at e<;>cases e;exact ⟨_,_,rfl,rfl,rfl⟩) fun _ _ _=>rpI
theorem Zke:GOk K C (rI0 fun i j=>.bl (decide (i<j))) Dl.gLt:=Zps (fun x y d e=>by unfold Dl.gLt at e;split at e<;>cases e;exact ⟨_,_,rfl,rfl,rfl⟩) fun _ _ _=>rpB
theorem Zqt:GOk K C (rI0 fun i j=>.bl (decide (i≤j))) Dl.gLe:=Zps (fun x y d e=>by unfold Dl.gLe at e;split at e<;>cases e;exact ⟨_,_,rfl,rfl,rfl⟩) fun _ _ _=>rpB
theorem Zdo:GOk K C (rI0 fun i j=>.bl (decide (j<i))) Dl.gGt:=Zps (fun x y d e=>by unfold Dl.gGt at e;split at e<;>cases e;exact ⟨_,_,rfl,rfl,rfl⟩) fun _ _ _=>rpB
theorem Xhv:GOk K C (rI0 fun i j=>.bl (decide (j≤i))) Dl.gGe:=Zps (fun x y d e=>by unfold Dl.gGe at e;split at e<;>cases e;exact ⟨_,_,rfl,rfl,rfl⟩) fun _ _ _=>rpB
theorem Zaf:GOk K C (rI (fun _ j=>0<j) fun i j=>.int (i % j)) Dl.Zln:=Xkn (fun x y d e=>by
  unfold Dl.Zln at e
  split at e
  · split at e
    · rename_i h;cases e;exact ⟨_,_,rfl,rfl,rfl,h⟩
    · cases e
  · cases e) fun _ _ _=>rpI
theorem Xbl:GOk K C (rI Xst fun i j=>.int (i / j)) Dl.Xoh:=Xkn (fun x y d e=>by
  unfold Dl.Xoh at e
  split at e
  · split at e
    · rename_i h;cases e;exact ⟨_,_,rfl,rfl,rfl,h⟩
    · cases e
  · cases e) fun _ _ _=>rpI
theorem Zde:GOk K C (rI CPow fun i j=>.int (i ^ j.toNat)) Dl.Zmw:=Xkn (fun x y d e=>by
  unfold Dl.Zmw at e
  split at e
  · split at e
    · rename_i h;cases e;exact ⟨_,_,rfl,rfl,rfl,h⟩
    · cases e
  · cases e) fun _ _ _=>rpI
theorem Zzq {i j:Int}(h:(Dl.short i||Dl.short j)=true):Xor i j:=by
 unfold Dl.short at h
 simp only [Bool.or_eq_true,Bool.and_eq_true,decide_eq_true_eq] at h
 exact h
theorem Yr:GOk K C Xeg Dl.Zcm:=by
 intro H x y d vx vy Bx By Q rx ry e q
 unfold Dl.Zcm at e
 split at e
 ·split at e
  ·rename_i h
   cases e
   obtain ⟨rfl,_⟩:=rx
   obtain ⟨rfl,_⟩:=ry
   exact Xrw (Zzq h) (Out.flat q rpI)
  ·cases e
 ·split at e
  ·rename_i h
   cases e
   obtain ⟨a,xs,B,rfl,e2,e3,_⟩:=rx
   obtain ⟨rfl,_⟩:=ry
   obtain ⟨h1,h2,h3,h4⟩:=h
   refine Xtd e2 (by omega) (by omega) (by rw [e3.len];exact Zee h2) fun p hp=>?_
   exact Out.lst q ((e3.flat' h4).rep _) hp
  ·cases e
 ·cases e
theorem Zgl {d:D}{v:V}{A:List Addr}(h:Dl.dep d≤20)(r:Rp K C H d v A):Dn K H v (toPy d)∧SeqAt.shaped (toPy d)=true:=by
 obtain ⟨q1,q2,q3⟩:=r.dn h (by decide)
 refine ⟨q1,?_⟩
 unfold SeqAt.shaped
 rw [q2,q3]
 simp only [Bool.true_and,decide_eq_true_eq]
 omega
theorem Zcq:GOk K C (Zrh K) Dl.gEq:=by
 intro H x y d vx vy Bx By Q rx ry e q
 unfold Dl.gEq at e
 split at e
 ·rename_i h
  cases e
  obtain ⟨a1,a2⟩:=Zgl h.1 rx
  obtain ⟨b1,b2⟩:=Zgl h.2 ry
  refine .inr ⟨_,_,a1,b1,a2,b2,?_⟩
  rw [Zvy (by omega) (by omega)]
  exact Out.flat q rpB
 ·cases e
theorem Zff:GOk K C (Zxt K) Dl.gNe:=by
 intro H x y d vx vy Bx By Q rx ry e q
 unfold Dl.gNe at e
 split at e
 ·rename_i h
  cases e
  obtain ⟨a1,a2⟩:=Zgl h.1 rx
  obtain ⟨b1,b2⟩:=Zgl h.2 ry
  refine .inr ⟨_,_,a1,b1,a2,b2,?_⟩
  rw [Zvy (by omega) (by omega)]
  exact Out.flat q rpB
 ·cases e
theorem Xhn {x:D}(hx:Dl.dep x<100):∀{ys:List D},Dl.Zho ys<100→((Zgo ys).any fun z=>PyData.eqv z (toPy x))=ys.any fun y=>Dl.eqv y x
 | [],_=>rfl
 | y::ys,h=>by
  simp only [Dl.Zho] at h
  simp only [Zgo,any_cons]
  rw [Zvy (by omega) hx,Xhn hx (by omega)]
theorem Xam:GOk K C (rInD K true) Dl.Zkz:=by
 intro H x y d vx vy Bx By Q rx ry e q
 unfold Dl.Zkz at e
 split at e
 ·split at e
  ·rename_i h
   cases e
   obtain ⟨a1,a2,a3⟩:=rx.dn h.1 (by decide)
   obtain ⟨b1,b2,b3⟩:=ry.dn (n:=21) (by simp only [Dl.dep];omega) (by decide)
   refine ⟨_,_,b1,a1,by simpa [toPy,PyData.canLay0] using b2,a2,by omega,?_⟩
   simp only [if_true]
   rw [Xhn (by omega) (by omega)]
   exact Out.flat q rpB
  ·cases e
 ·cases e
theorem Xhh {x:D}{v:V}{B:List Addr}(r:Rp K C H x v B):decide (v=.non)=Dl.Zlv x:=by
 cases x
 ·rw [r.1];rfl
 ·rw [r.1];rfl
 ·rw [r.1];rfl
 ·rw [r.1];rfl
 ·obtain ⟨a,xs,B,rfl,_⟩:=r;rfl
 ·obtain ⟨a,xs,rfl,_⟩:=r;rfl
 ·obtain ⟨a,rfl,_⟩:=r;rfl
 ·obtain ⟨a,rfl,_⟩:=r;rfl
 ·obtain ⟨a,dx,rfl,_⟩:=r;rfl
 ·obtain ⟨a,dx,xs,B,rfl,_⟩:=r;rfl
 ·obtain ⟨a,xs,B,rfl,_⟩:=r;rfl
 ·obtain ⟨a,xs,B,rfl,_⟩:=r;rfl
theorem Xbr:GOk K C (rIsA false) Dl.gIs:=by
 intro H x y d vx vy Bx By Q rx ry e q
 unfold Dl.gIs at e
 split at e
 ·cases e
  refine .inl ⟨ry.1,?_⟩
  simp only [Bool.false_eq_true,if_false]
  rw [Xhh rx]
  exact Out.flat q rpB
 ·split at e
  ·cases e
   obtain ⟨rfl,_⟩:=rx
   obtain ⟨rfl,_⟩:=ry
   exact .inr ⟨_,_,rfl,rfl,by simp only [Bool.false_eq_true,if_false];exact Out.flat q rpB⟩
  ·cases e
 ·cases e
theorem Ztc:AOk K C E Γ Δ 2 [] Zvr Dl.Zt:=fun _ _ H _ _ _ _ _ p=>p [] H (Xx.refl _) ⟨[],RpA.nil,(fun _ h=>nomatch h),fun _=>nodup_nil⟩
theorem InS.left {A:Nat→List Addr}{a:Addr}(h:InS A S1 a):InS A (S1++S2) a:=h.mono fun _ hp=>mem_append_left _ hp
theorem InS.right {A:Nat→List Addr}{a:Addr}(h:InS A S2 a):InS A (S1++S2) a:=h.mono fun _ hp=>mem_append_right _ hp
theorem Xey {te:TE}{t:TA}{fe:FE}{f:FA}(he:EOk K C E Γ Δ m1 S1 te fe)(ha:AOk K C E Γ Δ m2 S2 t f):AOk K C E Γ Δ 0 (S1++S2) (Zhz te t) (Dl.Zd fe f):=
  fun H0 Hb H σ ρ A Q I p=>he H0 Hb H σ ρ A _ I (p.bind.imp (fun x q vx H1 g1 r1=>ha H0 Hb H1 σ ρ A _ (I.mono g1) (q.bind.imp (fun ys q vs H2 g2 r2=>by
    obtain ⟨Bx,r1,r1',_⟩:=r1
    obtain ⟨By,r2,r2',_⟩:=r2
    exact q _ H2 (g1.trans g2) ⟨Bx++By,⟨vx,vs,Bx,By,rfl,r1.same g2,r2,rfl⟩,fun a h=>(List.mem_append.mp h).elim (fun h=>(r1' a h).imp id InS.left) (fun h=>(r2' a h).imp (fun h=>g1.free h) InS.right),(fun z=>nomatch z)⟩)
    fun c x q H' g'=>q H' (g1.trans g'))) fun c x q H' g'=>q H' g')
theorem Xcd {te:TE}{t:TA}{fe:FE}{f:FA}(he:EOk K C E Γ Δ 2 S1 te fe)(ha:AOk K C E Γ Δ 2 S2 t f)(h1:∀p∈S1,p.1∈Δ:=by decide)(h2:∀p∈S1,∀q∈S2,p.1≠q.1:=by decide):AOk K C E Γ Δ 2 (S1++S2) (Zhz te t) (Dl.Zd fe f):=
  fun H0 Hb H σ ρ A Q I p=>he H0 Hb H σ ρ A _ I (p.bind.imp (fun x q vx H1 g1 r1=>ha H0 Hb H1 σ ρ A _ (I.mono g1) (q.bind.imp (fun ys q vs H2 g2 r2=>by
    obtain ⟨Bx,r1,r1',_,n1⟩:=r1
    obtain ⟨By,r2,r2',n2⟩:=r2
    refine q _ H2 (g1.trans g2) ⟨Bx++By,⟨vx,vs,Bx,By,rfl,r1.same g2,r2,rfl⟩,fun a h=>(List.mem_append.mp h).elim (fun h=>(r1' a h).imp id InS.left) (fun h=>(r2' a h).imp (fun h=>g1.free h) InS.right),fun _=>?_⟩
    refine List.nodup_append.mpr ⟨n1 rfl,n2 rfl,fun a ha b hb e=>?_⟩
    subst e
    rcases r2' a hb with z | z
    · obtain ⟨xs,w,_⟩:=r1.isl a ha
      rw [w] at z
      cases z
    · obtain ⟨p2,hp2,z⟩:=z.mem
      rcases r1' a ha with w | w
      · exact I.ne z w
      · obtain ⟨p1,hp1,w⟩:=w.mem
        exact (I.deep p1.1 (h1 p1 hp1)).2.1 p2.1 (fun e=>h2 p1 hp1 p2 hp2 e.symm) a w z)
    fun c x q H' g'=>q H' (g1.trans g'))) fun c x q H' g'=>q H' g')
theorem Xoa {t:TA}{f:FA}(ha:AOk K C E Γ Δ 2 S t f):EOk K C E Γ Δ 2 S (Xoo t) (Dl.fA Dl.Ju f):=
  fun H0 Hb H σ ρ A Q I p=>ha H0 Hb H σ ρ A _ I (p.bind.imp (fun ds q vs H1 g1 r1=>by
    obtain ⟨d,e,q⟩:=Zgq q
    unfold Dl.Ju at e
    split at e
    · rename_i hz
      cases e
      obtain ⟨B,r1,r1',n1⟩:=r1
      refine ⟨by rw [r1.len];exact Zee hz,fun p hp=>?_⟩
      have g2:=sameNew hp (.lst vs)
      refine q _ _ (g1.trans g2) ⟨p::B,⟨p,vs,B,rfl,Yb,r1.same g2,rfl⟩,fun a ha=>?_,(fun z=>nomatch z),fun _=>List.nodup_cons.mpr ⟨fun h=>?_,n1 rfl⟩⟩
      · rcases List.mem_cons.mp ha with z | z
        · rw [z];exact .inl (g1.free hp)
        · exact r1' a z
      · obtain ⟨xs,w,_⟩:=r1.isl p h
        rw [w] at hp
        cases hp
    · cases e) fun c x q H' g'=>q H' g')
theorem Xcx {t:TA}{f:FA}(ha:AOk K C E Γ Δ m S t f):EOk K C E Γ Δ 1 S (Xoo t) (Dl.fA Dl.Ju f):=
  fun H0 Hb H σ ρ A Q I p=>ha H0 Hb H σ ρ A _ I (p.bind.imp (fun ds q vs H1 g1 r1=>by
    obtain ⟨d,e,q⟩:=Zgq q
    unfold Dl.Ju at e
    split at e
    · rename_i hz
      cases e
      obtain ⟨B,r1,r1',n1⟩:=r1
      refine ⟨by rw [r1.len];exact Zee hz,fun p hp=>?_⟩
      have g2:=sameNew hp (.lst vs)
      refine q _ _ (g1.trans g2) ⟨p::B,⟨p,vs,B,rfl,Yb,r1.same g2,rfl⟩,fun a ha=>?_,fun _ a r e=>?_,(fun z=>nomatch z)⟩
      · rcases List.mem_cons.mp ha with z | z
        · rw [z];exact .inl (g1.free hp)
        · exact r1' a z
      · cases e
        refine ⟨g1.free hp,fun h=>?_⟩
        obtain ⟨xs,w,_⟩:=r1.isl p h
        rw [w] at hp
        cases hp
    · cases e) fun c x q H' g'=>q H' g')
theorem Xal (hm:m=0∨m=2){t:TA}{f:FA}(ha:AOk K C E Γ Δ m S t f):EOk K C E Γ Δ m S (Xte t) (Dl.fA Dl.Zjb f):=
  fun H0 Hb H σ ρ A Q I p=>ha H0 Hb H σ ρ A _ I (p.bind.imp (fun ds q vs H1 g1 r1=>by
    obtain ⟨d,e,q⟩:=Zgq q
    unfold Dl.Zjb at e
    split at e
    · rename_i hz
      cases e
      obtain ⟨B,r1,r1',n1⟩:=r1
      refine ⟨by rw [r1.len];exact Zee hz,fun p hp=>?_⟩
      have g2:=sameNew hp (.tup vs)
      exact q _ _ (g1.trans g2) ⟨B,⟨p,vs,rfl,Yb,r1.same g2⟩,r1',(fun z=>by omega),n1⟩
    · cases e) fun c x q H' g'=>q H' g')
theorem Xib {r:List V→Hp→VK→Prop}{g:List D→Option D}{t:TA}{f:FA}(hg:GAk K C r g)(ha:AOk K C E Γ Δ m S t f):EOk K C E Γ Δ 2 [] (tCB r t) (Dl.fA g f):=
  fun H0 Hb H σ ρ A Q I p=>ha H0 Hb H σ ρ A _ I (p.bind.imp (fun ds q vs H1 g1 r1=>by
    obtain ⟨d,e,q⟩:=Zgq q
    obtain ⟨B,r1,_⟩:=r1
    exact hg H1 ds d vs B Q r1 e fun v H' B' g2 r2 h1 h2=>q v H' (g1.trans g2) (Res.new r2 h1 fun a ha=>g1.free (h2 a ha))) fun c x q H' g'=>q H' g')
theorem RpA.one' {d:D}{vs:List V}{A:List Addr}(r:RpA K C H [d] vs A):∃v,vs=[v]∧Rp K C H d v A:=by
 obtain ⟨x,l,B,B',e1,e2,e3,e4⟩:=r
 obtain ⟨e5,e6⟩:=e3
 subst e1 e4 e5 e6
 rw [append_nil]
 exact ⟨x,rfl,e2⟩
theorem RpA.two' {d e:D}{vs:List V}{A:List Addr}(r:RpA K C H [d,e] vs A):∃v w B B',vs=[v,w]∧Rp K C H d v B∧Rp K C H e w B':=by
 obtain ⟨x,l,B,B',e1,e2,e3,e4⟩:=r
 obtain ⟨w,e5,e6⟩:=e3.one'
 subst e1 e5
 exact ⟨x,w,B,B',rfl,e2,e6⟩
theorem Yh:GAk K C (Zae K) Dl.Zac:=by
 intro H xs d vs B Q r e q
 obtain ⟨x,rfl⟩:=Zvo (F:=Dl.Zac) rfl (fun x _ _=>by cases x<;>rfl) e
 obtain ⟨v,rfl,r1⟩:=r.one'
 cases x with
 | lst xs =>
  cases (show some (D.int xs.length)=some d from e)
  obtain ⟨a,ys,B,rfl,e2,e3,_⟩:=r1
  refine Xar (SqL.of e2) ?_
  rw [e3.len]
  exact Out.flat q rpI
 | tup xs =>
  cases (show some (D.int xs.length)=some d from e)
  obtain ⟨a,ys,rfl,e2,e3⟩:=r1
  refine Xku (SqT.of e2) ?_
  rw [e3.len]
  exact Out.flat q rpI
 | scr xs =>
  cases (show some (D.int xs.length)=some d from e)
  obtain ⟨a,rfl,e2,_⟩:=r1
  refine Xar e2.sq ?_
  rw [length_map]
  exact Out.flat q rpI
 | str z =>
  have e:(if z.length≤Dl.lim then some (D.int z.length) else none)=some d:=e
  by_cases hz:z.length≤Dl.lim
  ·rw [if_pos hz] at e
   cases e
   obtain ⟨rfl,_⟩:=r1
   exact Xlm (Zee hz) (Out.flat q rpI)
  ·rw [if_neg hz] at e
   exact Jv e
 | _=>exact Jv e
theorem Xjd:GAk K C (rSum K) Dl.Xso:=by
 intro H xs d vs B Q r e q
 obtain ⟨x,rfl⟩:=Zvo (F:=Dl.Xso) rfl (fun x _ _=>by cases x<;>rfl) e
 obtain ⟨v,rfl,r1⟩:=r.one'
 cases x with
 | lst xs =>
  obtain ⟨ns,h1,h2⟩:=Option.bind_eq_some_iff.mp e
  cases h2
  obtain ⟨a,ys,B,rfl,e2,e3,_⟩:=r1
  have h:=e3.ofInts h1
  subst h
  exact Xrb (SqL.of e2) (Out.flat q rpI)
 | _=>exact Jv e
theorem Xaq (x:Int):∀(r:List Int),(r.foldl max x=x∨r.foldl max x∈r)∧x≤r.foldl max x∧∀y∈r,y≤r.foldl max x:=by
 intro r
 induction r generalizing x with
 | nil=>simp
 | cons y r ih =>
  obtain ⟨h1,h2,h3⟩:=ih (max x y)
  rw [foldl_cons]
  refine ⟨?_,by omega,fun z hz=>?_⟩
  ·rcases h1 with h | h
   ·rw [h]
    by_cases hxy:x≤y
    ·right;rw [Int.max_eq_right hxy];exact .head _
    ·left;omega
   ·right;exact .tail _ h
  ·rcases List.mem_cons.mp hz with e | e
   ·omega
   ·exact h3 z e
theorem Xba {ns:List Int}(h:ns≠[]):Dl.Zxr ns∈ns∧∀n∈ns,n≤Dl.Zxr ns:=by
 cases ns with
 | nil=>exact absurd rfl h
 | cons x r =>
  obtain ⟨h1,h2,h3⟩:=Xaq x r
  show r.foldl max x∈x::r∧∀n∈x::r,n≤r.foldl max x
  refine ⟨?_,fun n hn=>?_⟩
  ·rcases h1 with e | e
   ·rw [e];exact .head _
   ·exact .tail _ e
  ·rcases List.mem_cons.mp hn with e | e
   ·omega
   ·exact h3 n e
theorem Zsz:GAk K C (Zsc K) Dl.Xgf:=by
 intro H xs d vs B Q r e q
 unfold Dl.Xgf at e
 split at e
 ·cases e
  obtain ⟨v,w,B,B',rfl,r1,r2⟩:=r.two'
  obtain ⟨rfl,_⟩:=r1
  obtain ⟨rfl,_⟩:=r2
  exact Xkc (Out.flat q rpI)
 ·obtain ⟨ns,h1,h2⟩:=Option.bind_eq_some_iff.mp e
  split at h2
  ·cases h2
  ·rename_i hne
   cases h2
   obtain ⟨v,rfl,r1⟩:=r.one'
   obtain ⟨a,ys,B,rfl,e2,e3,_⟩:=r1
   have h:=e3.ofInts h1
   subst h
   obtain ⟨s1,s2⟩:=Xba hne
   refine Xng (SqL.of e2) hne fun mm h1 h2=>?_
   have e:mm=Dl.Zxr ns:=Int.le_antisymm (s2 mm h1) (h2 _ s1)
   rw [e]
   exact Out.flat q rpI
 ·cases e
def Xhf:List V→Hp→VK→Prop:=fun xs H Q=>∃i j,xs=[.int i,.int j]∧Q (.int (if j<i then j else i)) H
theorem Zpq {X:Cx}(hc:X.calm=true):Zcd X (.builtin "min") Xhf:=Xby hc
theorem Zyt:GAk K C Xhf Dl.Xom:=by
 intro H xs d vs B Q r e q
 unfold Dl.Xom at e
 split at e
 ·cases e
  obtain ⟨v,w,B,B',rfl,r1,r2⟩:=r.two'
  obtain ⟨rfl,_⟩:=r1
  obtain ⟨rfl,_⟩:=r2
  exact ⟨_,_,rfl,Out.flat q rpI⟩
 ·cases e
theorem Xna:GAk K C (Xet K) Dl.Xpp:=by
 intro H xs d vs B Q r e q
 obtain ⟨x,rfl⟩:=Zvo (F:=Dl.Xpp) rfl (fun x _ _=>by cases x<;>rfl) e
 obtain ⟨v,rfl,r1⟩:=r.one'
 cases x with
 | lst xs =>
  obtain ⟨ns,h1,h2⟩:=Option.bind_eq_some_iff.mp e
  cases h2
  obtain ⟨a,ys,B,rfl,e2,e3,_⟩:=r1
  have h:=e3.ofBools h1
  subst h
  exact Xle (SqL.of e2) (Out.flat q rpB)
 | _=>exact Jv e
theorem RpA.rng {lo:Int}{n:Nat}:RpA K C H (Dl.Zdq lo n) (Ztg lo n) []:=by
 unfold Dl.Zdq Ztg
 generalize List.range n=l
 induction l with
 | nil=>exact RpA.nil
 | cons k l ih=>exact ⟨_,_,[],[],rfl,rpI,ih,rfl⟩
theorem Zoc:GAk K C (Zry K) Dl.Zjd:=by
 intro H xs d vs B Q r e q
 obtain ⟨x,rfl⟩:=Zvo (F:=Dl.Zjd) rfl (fun x _ _=>by cases x<;>rfl) e
 obtain ⟨v,rfl,r1⟩:=r.one'
 cases x with
 | lst xs =>
  have e:(if Dl.Xy xs then some (D.lst xs) else none)=some d:=e
  split at e
  ·rename_i hf
   cases e
   obtain ⟨a,ys,B,rfl,e2,e3,_⟩:=r1
   exact Xcw (SqL.of e2) fun l hl=>Out.lst q (e3.flat' hf) hl
  ·exact Jv e
 | tup xs =>
  have e:(if Dl.Xy xs then some (D.lst xs) else none)=some d:=e
  split at e
  ·rename_i hf
   cases e
   obtain ⟨a,ys,rfl,e2,e3⟩:=r1
   exact .inl ⟨a,ys,rfl,.inr (SqT.of e2),fun l hl=>Out.lst q (e3.flat' hf) hl⟩
  ·exact Jv e
 | rng i j =>
  have e:(if -1000000000≤i∧i≤1000000000∧-1000000000≤j∧j≤1000000000∧(j - i).toNat≤Dl.lim then some (D.lst (Dl.Zdq i (j - i).toNat)) else none)=some d:=e
  split at e
  ·rename_i hf
   cases e
   obtain ⟨a,rfl,e2,_⟩:=r1
   obtain ⟨h1,h2,h3,h4,h5⟩:=hf
   exact Xge e2 (by omega) (by omega) (by omega) (by omega) h5 fun l hl=>Out.lst q RpA.rng hl
  ·exact Jv e
 | _=>exact Jv e
theorem Xdf:OOk K C E Γ Δ Zoo Dl.Zmb:=fun _ _ H _ _ _ _ _ p=>p H (Xx.refl _)
theorem Xgw {t:TE}{f:FE}(h:EOk K C E Γ Δ m S t f):OOk K C E Γ Δ (Xdj t) (Dl.Zhu f):=fun H0 Hb H σ ρ A Q I p=>h H0 Hb H σ ρ A _ I (p.bind.imp (fun d q v H' g r=>by
  obtain ⟨B,r,_⟩:=r
  cases d with
  | int i =>
    obtain ⟨rfl,_⟩:=r
    exact ⟨i,rfl,q H' g⟩
  | _=>exact q.elim) fun c x q H' g'=>q H' g')
theorem Zvl (n d:Nat)(o:Option Int):Dl.Xjb n d o=HT.sIx n d o:=by
 cases o with
 | none=>rfl
 | some v =>
  have h:=HT.clip_eq v n d
  show (if v<0 then (max (v+(n:Int)) 0).toNat else min v.toNat n)=_
  by_cases hv:v<0
  ·rw [if_pos hv] at h ⊢
   omega
  ·rw [if_neg hv] at h ⊢
   omega
theorem RpA.cut {ds:List D}{vs:List V}{A:List Addr}(h:Dl.Xy ds=true)(r:RpA K C H ds vs A)(lo hi:Option Int):RpA K C H (Dl.cut ds lo hi) (Xdm vs lo hi) []:=by
 unfold Dl.cut Xdm
 rw [Zvl,Zvl,r.len]
 exact (r.flatDrop h _).flatTake (Zwj h _) _
theorem Xep (ns:List Int)(lo hi:Option Int):Xdm (ns.map V.int) lo hi=(Dl.cut ns lo hi).map V.int:=by
 unfold Dl.cut Xdm
 rw [Zvl,Zvl,length_map,map_take,map_drop]
theorem Xrz {ta:TE}{tl th:TO}{fa:FE}{fl fh:FO}(ha:EOk K C E Γ Δ m S ta fa)(hl:OOk K C E Γ Δ tl fl)(hh:OOk K C E Γ Δ th fh):EOk K C E Γ Δ 2 [] (tSl (rSlL K) ta tl th) (Dl.fSl Dl.gSl fa fl fh):=
  fun H0 Hb H σ ρ A Q I p=>ha H0 Hb H σ ρ A _ I (p.bind.imp (fun x q vx H1 g1 r1=>hl H0 Hb H1 σ ρ A _ (I.mono g1) (q.bind.imp (fun lo q H2 g2=>hh H0 Hb H2 σ ρ A _ (I.mono (g1.trans g2)) (q.bind.imp (fun hi q H3 g3=>by
    obtain ⟨d,e,q⟩:=Zgq q
    obtain ⟨B,r1,_⟩:=r1
    have r1:=r1.same (g2.trans g3)
    have g13:=g1.trans (g2.trans g3)
    have out:Out K C H3 d Q:=fun v H' B g4 r h1 h2=>q v H' (g13.trans g4) (Res.new r h1 fun a ha=>g13.free (h2 a ha))
    unfold Dl.gSl at e
    split at e
    · split at e
      · rename_i hf
        cases e
        obtain ⟨a,ys,B,rfl,e2,e3,_⟩:=r1
        exact Xie (SqL.of e2) fun p hp=>Out.lst out (e3.cut hf _ _) hp
      · cases e
    · cases e
      obtain ⟨a,rfl,e2,_⟩:=r1
      refine Xie e2.sq fun p hp=>?_
      rw [Xep]
      exact Out.lst out RpA.ints hp
    · cases e) fun c x q H' g'=>q H' ((g1.trans g2).trans g'))) fun c x q H' g'=>q H' (g1.trans g'))) fun c x q H' g'=>q H' g')
theorem Xjo {ta ts:TE}{fa fs:FE}(ha:EOk K C E Γ Δ m1 S1 ta fa)(hs:EOk K C E Γ Δ m2 S2 ts fs):EOk K C E Γ Δ 2 [] (tRev K ta ts) (Dl.f2 Dl.Xmq fa fs):=
  fun H0 Hb H σ ρ A Q I p=>ha H0 Hb H σ ρ A _ I (p.bind.imp (fun x q vx H1 g1 r1=>hs H0 Hb H1 σ ρ A _ (I.mono g1) (q.bind.imp (fun y q vy H2 g2 r2=>by
    obtain ⟨d,e,q⟩:=Zgq q
    obtain ⟨Bx,r1,_⟩:=r1
    obtain ⟨By,r2,_⟩:=r2
    have r1:=r1.same g2
    have g13:=g1.trans g2
    have out:Out K C H2 d Q:=fun v H' B g4 r h1 h2=>q v H' (g13.trans g4) (Res.new r h1 fun a ha=>g13.free (h2 a ha))
    unfold Dl.Xmq at e
    split at e
    · split at e
      · rename_i hf
        cases e
        obtain ⟨a,ys,B,rfl,e2,e3,_⟩:=r1
        obtain ⟨rfl,_⟩:=r2
        refine ⟨a,ys,rfl,by rw [hf.1],SqL.of e2,fun p hp=>Out.lst out (RpA.flatRev hf.2 e3) hp⟩
      · cases e
    · cases e) fun c x q H' g'=>q H' (g1.trans g'))) fun c x q H' g'=>q H' g')
theorem Xgu {ta:TE}{fa:FE}(ha:EOk K C E Γ Δ m1 S1 ta fa):EOk K C E Γ Δ 2 [] (Xfy K ta) (Dl.f1 Dl.Zyy fa):=
  fun H0 Hb H σ ρ A Q I p=>ha H0 Hb H σ ρ A _ I (p.bind.imp (fun x q vx H1 g1 r1=>by
    obtain ⟨d,e,q⟩:=Zgq q
    obtain ⟨Bx,r1,_⟩:=r1
    have out:Out K C H1 d Q:=fun v H' B g4 r h1 h2=>q v H' (g1.trans g4) (Res.new r h1 fun a ha=>g1.free (h2 a ha))
    unfold Dl.Zyy at e
    split at e
    · split at e
      · rename_i hf
        cases e
        obtain ⟨a,ys,B,rfl,e2,e3,_⟩:=r1
        exact ⟨a,ys,rfl,SqL.of e2,fun p hp=>Out.lst out (RpA.flatRev hf e3) hp⟩
      · cases e
    · cases e) fun c x q H' g'=>q H' g')
end
section
variable {K:Frag}{C:String→Addr}{E:XK}{Γ Δ Γ' Δ' Γ1 Δ1 Γl Δl:List Nat}{m m1 m2 m3 mr:Nat}{S S1 S2 S3:List (Nat×Bool)}{H:Hp}{Q:VK}
theorem Xif {t:TE}{f:FE}(h:EOk K C E Γ Δ m S t f):∀(H0 Hb H:Hp) (σ:St) (ρ:Jw) (A:Nat→List Addr) (Q:Bool→Hp→Prop),Xd K C H0 Hb H Γ Δ σ ρ A→
    Xz (Dl.cE f ρ) (fun b=>∀H',Xx H H'→Q b H') (fun c x=>∀H',Xx H H'→EC C E c x H')→t σ H fun x H'=>∃k,x=.bl k∧Q k H':=fun H0 Hb H σ ρ A Q I p=>h H0 Hb H σ ρ A _ I (p.bind.imp (fun d q v H' g r=>by
  obtain ⟨B,r,_⟩:=r
  cases d with
  | bl b =>
    obtain ⟨rfl,_⟩:=r
    exact ⟨b,rfl,q H' g⟩
  | _=>exact q.elim) fun c x q H' g'=>q H' g')
theorem Xfb {t:TE}{f:FE}(h:EOk K C E Γ Δ m S t f):TOk K C E Γ Δ (Zxi t) (Dl.cE f):=Xif h
theorem tok_B {t:TE}{f:FE}(h:EOk K C E Γ Δ m S t f):TOk K C E Γ Δ (tB t) (Dl.cE f):=Xif h
theorem Xkz {t:TT}{f:FT}(h:TOk K C E Γ Δ t f):TOk K C E Γ Δ (tNot t) (Dl.Xju f):=fun H0 Hb H σ ρ A Q I p=>h H0 Hb H σ ρ A _ I (p.bind.imp (fun b q H' g=>q H' g) fun c x q H' g'=>q H' g')
theorem Xlp {t u:TT}{f g:FT}(h:TOk K C E Γ Δ t f)(h':TOk K C E Γ Δ u g):TOk K C E Γ Δ (tAnd t u) (Dl.Xid f g):=fun H0 Hb H σ ρ A Q I p=>h H0 Hb H σ ρ A _ I (p.bind.imp (fun b q H' g'=>by
  cases b with
  | true=>exact h' H0 Hb H' σ ρ A Q (I.mono g') (Xz.imp q (fun b q H2 g2=>q H2 (g'.trans g2)) fun c x q H2 g2=>q H2 (g'.trans g2))
  | false=>exact q H' g') fun c x q H' g'=>q H' g')
theorem Xqh {t u:TT}{f g:FT}(h:TOk K C E Γ Δ t f)(h':TOk K C E Γ Δ u g):TOk K C E Γ Δ (tOr t u) (Dl.cOr f g):=fun H0 Hb H σ ρ A Q I p=>h H0 Hb H σ ρ A _ I (p.bind.imp (fun b q H' g'=>by
  cases b with
  | false=>exact h' H0 Hb H' σ ρ A Q (I.mono g') (Xz.imp q (fun b q H2 g2=>q H2 (g'.trans g2)) fun c x q H2 g2=>q H2 (g'.trans g2))
  | true=>exact q H' g') fun c x q H' g'=>q H' g')
theorem Xld:TOk K C E Γ Δ tYes Dl.Xcm:=fun _ _ H _ _ _ _ _ p=>p H (Xx.refl _)
theorem EOk.run {t:TE}{f:FE}(h:EOk K C E Γ Δ m S t f){H0 Hb H H1:Hp}{σ:St}{ρ:Jw}{A:Nat→List Addr}{Q:VK}(I:Xd K C H0 Hb H Γ Δ σ ρ A)(g:Xx H H1)
  (p:Xz (f ρ) (fun d=>∀v H',Xx H H'→Res K C m S H A d v H'→Q v H') (fun c x=>∀H',Xx H H'→EC C E c x H')):t σ H1 Q:=
 h H0 Hb H1 σ ρ A Q (I.mono g) (p.imp (fun d q v H2 g2 r=>q v H2 (g.trans g2) (r.later g (Xx.refl _))) fun c x q H2 g2=>q H2 (g.trans g2))
theorem Xjz {ta tb:TE}{fa fb:FE}(ha:EOk K C E Γ Δ m1 S1 ta fa)(hb:EOk K C E Γ Δ m S tb fb):EOk K C E Γ Δ m S (Xdv ta tb) (Dl.Xcn fa fb):=fun H0 Hb H σ ρ A Q I p=>ha H0 Hb H σ ρ A _ I (p.bind.imp (fun d q v H' g r=>by
  obtain ⟨B,r,_⟩:=r
  cases d with
  | bl b =>
    obtain ⟨rfl,_⟩:=r
    refine ⟨b,rfl,?_⟩
    cases b with
    | true=>exact hb.run I g q
    | false=>exact q _ H' g (Res.flat rpB)
  | _=>exact q.elim) fun c x q H' g'=>q H' g')
theorem Xpn {tc:TT}{ta tb:TE}{fc:FT}{fa fb:FE}(hc:TOk K C E Γ Δ tc fc)(ha:EOk K C E Γ Δ m S ta fa)(hb:EOk K C E Γ Δ m S tb fb):EOk K C E Γ Δ m S (tIf tc ta tb) (Dl.fIf fc fa fb):=
  fun H0 Hb H σ ρ A Q I p=>hc H0 Hb H σ ρ A _ I (p.bind.imp (fun b q H' g=>by
    cases b with
    | true=>exact ha.run I g q
    | false=>exact hb.run I g q) fun c x q H' g'=>q H' g')
noncomputable def spD (K:Frag)(C:String→Addr)(n mr:Nat)(F:List D→R D):Sp:=fun vs H Q E=>∃ds B,ds.length=n∧RpA K C H ds vs B∧
 Xz (F ds) (fun d=>∀v H',Xx H H'→Res K C mr [] H (fun _=>[]) d v H'→Q v H') (fun c x=>∀H',Xx H H'→EC C E c x H')
theorem InS.none {A:Nat→List Addr}{a:Addr}(h:InS A [] a):False:=by
 obtain ⟨p,hp,_⟩:=h
 cases hp
theorem Res.reA {H H':Hp}{A A':Nat→List Addr}{d:D}{v:V}(r:Res K C m [] H A d v H'):Res K C m S H A' d v H':=by
 obtain ⟨B,r1,r2,r3,r4⟩:=r
 exact ⟨B,r1,fun a ha=>(r2 a ha).imp id fun h=>h.none.elim,r3,r4⟩
theorem Xeo {n:Nat}{F:List D→R D}{t:TA}{f:FA}(ha:AOk K C E Γ Δ m S t f)(hn:∀ρ ds,f ρ=.ok ds→ds.length=n):EOk K C E Γ Δ mr [] (Zxl (spD K C n mr F) [] E t) (Dl.Xv F f):=
  fun H0 Hb H σ ρ A Q I p=>Xnr (ha H0 Hb H σ ρ A _ I (by
    have p':=p.bind
    cases e:f ρ with
    | bad=>rw [e] at p';exact p'
    | err c x=>rw [e] at p';exact p'
    | ok ds =>
      rw [e] at p'
      intro vs H1 g1 r1
      obtain ⟨B,r1,_⟩:=r1
      exact ⟨ds,B,hn ρ ds e,r1,Xz.imp p' (fun d q v H' g2 r=>q v H' (g1.trans g2) ((r.later g1 (Xx.refl _)).reA)) fun c x q H' g'=>q H' (g1.trans g')⟩))
theorem Zsi (ρ:Jw)(ds:List D)(h:Dl.Zt ρ=.ok ds):ds.length=0:=by cases h;rfl
theorem Zui {n:Nat}{fe:FE}{f:FA}(hf:∀ρ ds,f ρ=.ok ds→ds.length=n)(ρ:Jw)(ds:List D)(h:Dl.Zd fe f ρ=.ok ds):ds.length=n+1:=by
 unfold Dl.Zd at h
 cases e:fe ρ with
 | ok x =>
  rw [e] at h
  cases e':f ρ with
  | ok xs =>
   rw [e'] at h
   cases h
   rw [length_cons,hf ρ xs e']
  | err c x=>rw [e'] at h;cases h
  | bad=>rw [e'] at h;cases h
 | err c x=>rw [e] at h;cases h
 | bad=>rw [e] at h;cases h
def Goes (K:Frag)(C:String→Addr)(J:It)(ds:List D)(Hb:Hp):Prop:=∀H2,Xx Hb H2→(∀i,i<ds.length→J.go i H2)∧(∀i,ds.length≤i→J.stop i H2)∧
 ∀i x H3,i<ds.length→J.yld i H2 x H3→Xx H2 H3∧∃d B,ds[i]?=some d∧Rp K C H3 d x B∧∀a∈B,Hb a≠none
def IOk (K:Frag)(C:String→Addr)(E:XK)(Γ Δ:List Nat)(S:List (Nat×Bool))(wi:TI)(f:FI):Prop:=∀(H0 Hb H:Hp) (σ:St) (ρ:Jw) (A:Nat→List Addr) (Rr:It→Hp→Prop),Xd K C H0 Hb H Γ Δ σ ρ A→
  Xz (f ρ) (fun ds=>∀J H' W,Xx H H'→(∀a∈W,(∃o,H' a=some o∧IsM o)∧(H a=none∨InS A S a))→ds.length≤Dl.lim→
    (∀Hc,Agree W H' Hc→Goes K C J ds Hc)→Rr J H') (fun c x=>∀H',Xx H H'→EC C E c x H')→wi σ H Rr
theorem Xav {J:It}{ds:List D}{vs:List V}{B:List Addr}{Hc:Hp}(r:RpA K C Hc ds vs B)(h:∀H2,Xx Hc H2→(∀i,i<vs.length→J.go i H2)∧(∀i,vs.length≤i→J.stop i H2)∧∀i x H3,J.yld i H2 x H3→H3=H2∧(i<vs.length→vs[i]?=some x)):Goes K C J ds Hc:=fun H2 g=>by
 obtain ⟨h1,h2,h3⟩:=h H2 g
 have hl:=r.len
 refine ⟨fun i hi=>h1 i (by omega),fun i hi=>h2 i (by omega),fun i x H3 hi y=>?_⟩
 obtain ⟨e,y2⟩:=h3 i x H3 y
 subst e
 obtain ⟨d,Bd,q1,q2,q3⟩:=r.get' (y2 (by omega))
 refine ⟨Xx.refl _,d,Bd,q1,q2.same g,fun a ha z=>?_⟩
 obtain ⟨xs,e,_⟩:=q2.isl a ha
 rw [e] at z
 cases z
theorem Zph {a:Addr}{ds:List D}{vs:List V}{B:List Addr}{Hc:Hp}(r:RpA K C Hc ds vs B)(h:∀H2,Xx Hc H2→SqL K H2 a vs):Goes K C (Itl K a) ds Hc:=Xav r fun H2 g=>by
 have q:=h H2 g
 exact ⟨fun i hi=>⟨vs,vs[i],q,by simp [hi]⟩,fun i hi=>⟨vs,q,hi⟩,fun i x H3 y=>⟨y.1,fun _=>y.2 vs q⟩⟩
theorem Zty {lo:Int}{n:Nat}{Hc:Hp}:Goes K C (Itr lo n) (Dl.Zdq lo n) Hc:=Xav (vs:=Ztg lo n) RpA.rng fun H2 _=>by
 have hl:(Ztg lo n).length=n:=by simp [Ztg]
 refine ⟨fun i hi=>by rw [hl] at hi;exact hi,fun i hi=>by rw [hl] at hi;exact hi,fun i x H3 y=>⟨y.1,fun hi=>?_⟩⟩
 rw [hl] at hi
 rw [y.2]
 simp [Ztg,hi]
theorem FzL.keep {a:Addr}{xs:List V}{H Hb:Hp}(h:FzL K H a xs)(hk:∀b o,H b=some o→¬IsM o→Hb b=some o):FzL K Hb a xs:=by
 rcases h with ⟨o,h⟩ | h
 ·exact .inl ⟨o,hk a _ h (fun z=>by cases z)⟩
 ·exact .inr h
theorem FzL.same {a:Addr}{xs:List V}{H Hb:Hp}(h:FzL K H a xs)(g:Xx H Hb):FzL K Hb a xs:=h.keep fun b o q _=>g b o q
theorem Xfc {t:TE}{f:FE}(h:EOk K C E Γ Δ m S t f):IOk K C E Γ Δ S (Xff K t) (Dl.Zcv f):=fun H0 Hb H σ ρ A Rr I p=>h H0 Hb H σ ρ A _ I (p.bind.imp (fun d q v H' g r=>by
  obtain ⟨B,r,r',_⟩:=r
  cases d with
  | lst ds =>
    obtain ⟨a,xs,B',rfl,e2,e3,e4⟩:=r
    subst e4
    simp only at q
    split at q
    · rename_i hl
      refine ⟨a,rfl,⟨xs,SqL.of e2⟩,q _ H' (a::B') g (fun b hb=>?_) hl fun Hc h1=>Zph (e3.agree h1 fun b hb=>.tail _ hb) fun H2 g2=>SqL.of (g2 _ _ ((h1.1 a (.head _)).trans e2))⟩
      rcases List.mem_cons.mp hb with z | z
      · rw [z]
        exact ⟨⟨_,e2,.lst⟩,r' a (.head _)⟩
      · exact ⟨e3.isl b z,r' b (.tail _ z)⟩
    · exact q.elim
  | scr ns =>
    obtain ⟨a,rfl,e2,_⟩:=r
    simp only at q
    split at q
    · rename_i hl
      exact ⟨a,rfl,⟨_,e2.sq⟩,q _ H' [] g (fun b hb=>nomatch hb) (by rw [length_map];exact hl) fun Hc h2=>Zph RpA.ints fun H2 g2=>((e2.keep h2.2).same g2).sq⟩
    · exact q.elim
  | _=>exact q.elim) fun c x q H' g'=>q H' g')
theorem Zur (lo:Int)(n:Nat):(Dl.Zdq lo n).length=n:=by simp [Dl.Zdq]
theorem Xgv {t:TA}{f:FA}(h:AOk K C E Γ Δ m S t f):IOk K C E Γ Δ [] (Xfp t) (Dl.Zjc f):=fun H0 Hb H σ ρ A Rr I p=>h H0 Hb H σ ρ A _ I (p.bind.imp (fun ds q vs H' g r=>by
  obtain ⟨B,r,_⟩:=r
  split at q
  · split at q
    · rename_i hl
      obtain ⟨v,rfl,r1⟩:=r.one'
      obtain ⟨rfl,_⟩:=r1
      exact ⟨_,rfl,by omega,by omega,q _ H' [] g (fun b hb=>nomatch hb) (by rw [Zur];show _≤1000000;omega) fun Hc _=>Zty⟩
    · exact q.elim
  · exact q.elim) fun c x q H' g'=>q H' g')
theorem Xhd {t:TA}{f:FA}(h:AOk K C E Γ Δ m S t f):IOk K C E Γ Δ [] (Xcp t) (Dl.Zsr f):=fun H0 Hb H σ ρ A Rr I p=>h H0 Hb H σ ρ A _ I (p.bind.imp (fun ds q vs H' g r=>by
  obtain ⟨B,r,_⟩:=r
  split at q
  · split at q
    · rename_i hl
      obtain ⟨v,w,B,B',rfl,r1,r2⟩:=r.two'
      obtain ⟨rfl,_⟩:=r1
      obtain ⟨rfl,_⟩:=r2
      obtain ⟨h1,h2,h3,h4,h5⟩:=hl
      exact ⟨_,_,rfl,⟨by omega,by omega,by omega,by omega⟩,q _ H' [] g (fun b hb=>nomatch hb) (by rw [Zur];exact h5) fun Hc _=>Zty⟩
    · exact q.elim
  · exact q.elim) fun c x q H' g'=>q H' g')
theorem Xdd {J:It}{ds:List D}{Hc H:Hp}{Dd:Addr}{k:Nat}{g:TG}{tc:TT}{te:TE}{σ:St}{Rr:Hp→Prop}(go:Goes K C J ds Hc)(Pv:Nat→Hp→Prop)(h0:Pv 0 (upd H Dd (.lst [])))(hb:∀i H,Pv i H→Xx Hc H)
    (hs:∀i d x B H H3,ds[i]?=some d→Pv i H→Xx H H3→Rp K C H3 d x B→(∀a∈B,Hc a≠none)→∀os:St,os.length=k→g x (σ++os) H3 fun σ' Hg=>(∃os',os'.length=k∧σ'=σ++os')∧tc σ' Hg fun b H2=>if b=true then te σ' H2 fun v H3=>∃ys,H3 Dd=some (.lst ys)∧ys.length<sizeLine∧Pv (i+1) (upd H3 Dd (.lst (ys++[v]))) else Pv (i+1) H2)
    (hd:∀H,Pv ds.length H→Rr H) :
    ∃W:Nat→Nat→Hp→Prop,(∃m,W 0 m (upd H Dd (.lst [])))∧∀i m H,W i m H→
      (J.stop i H∧Rr H)∨(J.go i H∧∃N:Hp→Prop,(∀H',N H'→∃m',m'<m∧W (i+1) m' H')∧∀x H',J.yld i H x H'→∀os:St,os.length=k→g x (σ++os) H' fun σ' Hg=>(∃os',os'.length=k∧σ'=σ++os')∧tc σ' Hg fun b H2 =>
        if b=true then te σ' H2 fun v H3=>∃ys,H3 Dd=some (.lst ys)∧ys.length<sizeLine∧N (upd H3 Dd (.lst (ys++[v])))
        else N H2):=by
  refine ⟨fun i m H=>m=ds.length - i∧i≤ds.length∧Pv i H,⟨ds.length,by simp,zero_le _,h0⟩,?_⟩
  rintro i m H1 ⟨rfl,hi,p⟩
  obtain ⟨g1,g2,g3⟩:=go H1 (hb i H1 p)
  by_cases hlt:i<ds.length
  · refine .inr ⟨g1 i hlt,Pv (i+1),fun H' p'=>⟨ds.length - (i+1),by omega,rfl,hlt,p'⟩,fun x H' y=>?_⟩
    obtain ⟨e,d,B,y1,y2,y3⟩:=g3 i x H' hlt y
    exact hs i d x B H1 H' y1 p e y2 y3
  · have e:i=ds.length:=by omega
    subst e
    exact .inl ⟨g2 _ (le_refl _),hd H1 p⟩
theorem Xlo {J:It}{ds:List D}{Hc H:Hp}{g:TG}{tb:TS}{Dd:Ends}{σ:St}(go:Goes K C J ds Hc)(Pv:Nat→St→Hp→Prop)(h0:Pv 0 σ H)(hb:∀i σ H,Pv i σ H→Xx Hc H)
  (hs:∀i d x B σ H H3,ds[i]?=some d→Pv i σ H→Xx H H3→Rp K C H3 d x B→(∀a∈B,Hc a≠none)→g x σ H3 fun σ2 H2=>tb {Dd with nx:=Pv (i+1),ct:=Pv (i+1),bk:=Dd.nx} σ2 H2) (hd:∀σ H,Pv ds.length σ H→Dd.nx σ H) :
  ∃W:Nat→Nat→St→Hp→Prop,(∃m,W 0 m σ H)∧∀i m σ H,W i m σ H→
   (J.stop i H∧Dd.nx σ H)∨(J.go i H∧∃N:St→Hp→Prop,(∀σ' H',N σ' H'→∃m',m'<m∧W (i+1) m' σ' H')∧∀x H',J.yld i H x H'→g x σ H' fun σ2 H2=>tb {Dd with nx:=N,ct:=N,bk:=Dd.nx} σ2 H2):=by
 refine ⟨fun i m σ H=>m=ds.length - i∧i≤ds.length∧Pv i σ H,⟨ds.length,by simp,zero_le _,h0⟩,?_⟩
 rintro i m σ H1 ⟨rfl,hi,p⟩
 obtain ⟨g1,g2,g3⟩:=go H1 (hb i σ H1 p)
 by_cases hlt:i<ds.length
 ·refine .inr ⟨g1 i hlt,Pv (i+1),fun σ' H' p'=>⟨ds.length - (i+1),by omega,rfl,hlt,p'⟩,fun x H' y=>?_⟩
  obtain ⟨e,d,B,y1,y2,y3⟩:=g3 i x H' hlt y
  exact hs i d x B σ H1 H' y1 p e y2 y3
 ·have e:i=ds.length:=by omega
  subst e
  exact .inl ⟨g2 _ (le_refl _),hd σ H1 p⟩
theorem Xd.more {H0 Hb H:Hp}{σ:St}{ρ:Jw}{A:Nat→List Addr}(I:Xd K C H0 Hb H Γ Δ σ ρ A)(os:St):Xd K C H H H [] [] (σ++os) (ρ++List.replicate os.length none) A:=by
 refine ⟨Xx.refl _,Xx.refl _,by rw [length_append,length_append,I.len,length_replicate],fun i e h=>?_,fun i h=>?_,(fun _ h=>nomatch h),(fun _ h=>nomatch h),(fun _ h=>nomatch h)⟩
 ·by_cases hi:i<ρ.length
  ·rw [getElem?_append_left hi] at h
   obtain ⟨w,q1,q2⟩:=I.rep i e h
   refine ⟨w,?_,q2⟩
   rw [getElem?_append_left (by rw [I.len];exact hi)]
   exact q1
  ·rw [getElem?_append_right (by omega)] at h
   have hm:=mem_of_getElem? h
   rw [mem_replicate] at hm
   exact absurd hm.2 (by intro z;cases z)
 ·refine I.nil i fun e h'=>h e ?_
  rw [getElem?_append_left (List.getElem?_eq_some_iff.mp h').1]
  exact h'
def NOk (K:Frag)(C:String→Addr)(n k:Nat)(g:TG)(b:FB):Prop:=∀(H:Hp) (σ os:St) (ρ:Jw) (A:Nat→List Addr) (d:D) (v:V) (B:List Addr) (Rr:St→Hp→Prop),σ.length=n→os.length=k→Xd K C H H H [] [] (σ++os) ρ A→Rp K C H d v B→
 Xz (b d ρ) (fun ρ'=>∀os' A',os'.length=k→Xd K C H H H [] [] (σ++os') ρ' A'→Rr (σ++os') H) (fun _ _=>False)→g v (σ++os) H Rr
def NsOk (K:Frag)(C:String→Addr)(n k:Nat)(g:TGs)(b:List D→Jw→R Jw):Prop:=∀(H:Hp) (σ os:St) (ρ:Jw) (A:Nat→List Addr) (d:List D) (v:List V) (B:List Addr) (Rr:St→Hp→Prop),σ.length=n→os.length=k→Xd K C H H H [] [] (σ++os) ρ A→RpA K C H d v B→
 Xz (b d ρ) (fun ρ'=>∀os' A',os'.length=k→Xd K C H H H [] [] (σ++os') ρ' A'→Rr (σ++os') H) (fun _ _=>False)→g v (σ++os) H Rr
theorem Zxa (k:Nat)(b:FB)(c:FT)(e:FE)(ρ:Jw)(xs:List D){i:Nat}{x:D}(h:xs[i]?=some x):Dl.Zcx k b c e ρ (xs.drop i)=(b x (ρ++List.replicate k none)).calm.bind fun ρ1=>(c ρ1).bind fun t=>if t then (e ρ1).bind fun y=>(Dl.Zcx k b c e ρ (xs.drop (i+1))).bind fun ys=>.ok (y::ys) else Dl.Zcx k b c e ρ (xs.drop (i+1)):=by
 obtain ⟨hi,rfl⟩:=List.getElem?_eq_some_iff.mp h
 rw [List.drop_eq_getElem_cons hi]
 rfl
theorem Zfn {α:Type}{r:R α}{ok:α→Prop}{er:String→Option Int→Prop}(h:Xz r.calm ok er):Xz r ok (fun _ _=>False):=by
 cases r with
 | ok a=>exact h
 | err c x=>exact h
 | bad=>exact h
theorem get_set {α:Type}{l:List α}{i j:Nat}{x y:α}(h:(l.set i x)[j]?=some y):(j=i∧i<l.length∧y=x)∨(j≠i∧l[j]?=some y):=by
 by_cases e:i=j
 ·subst e
  rw [List.getElem?_set_self'] at h
  by_cases hi:i<l.length
  ·rw [getElem?_eq_getElem hi] at h
   simp at h
   exact .inl ⟨rfl,hi,h.symm⟩
  ·rw [getElem?_eq_none (by omega)] at h
   cases h
 ·rw [getElem?_set_ne e] at h
  exact .inr ⟨fun z=>e z.symm,h⟩
theorem Xd.put {H0 Hb H:Hp}{σ:St}{ρ:Jw}{A:Nat→List Addr}{i:Nat}{d:D}{v:V}{B:List Addr}(I:Xd K C H0 Hb H Γ Δ σ ρ A)(r:Rp K C H d v B)
  (h1:∀j∈Γ',j≠i→j∈Γ∧∀a l,A j=a::l→a∉B)
  (h2:i∈Γ'→(∀a∈B,H0 a=none)∧∀a l,B=a::l→Hb a=none∧a∉l∧∀j,j≠i→a∉A j)
  (h3:∀j∈Δ',j≠i→j∈Δ∧∀a∈A j,a∉B)
  (h4:i∈Δ'→B.Nodup∧(∀j,j≠i→∀a∈B,a∉A j)∧∀a∈B,Hb a=none):∃A',Xd K C H0 Hb H Γ' Δ' (σ.set i (some v)) (ρ.set i (some d)) A'∧∀j a,a∈A' j→a∈B∨a∈A j:=by
 by_cases hi:i<ρ.length
 ·refine ⟨fun j=>if j=i then B else A j,⟨I.s0,I.same,by rw [length_set,length_set,I.len],fun j e h=>?_,fun j h=>?_,fun j hj a ha=>?_,fun j hj a l e=>?_,fun j hj=>?_⟩,fun j a ha=>?_⟩
  ·rcases get_set h with ⟨e1,_,e2⟩ | ⟨e1,e2⟩
   ·subst e1
    cases e2
    refine ⟨v,?_,by rw [if_pos rfl];exact r⟩
    rw [getElem?_set_self (by rw [I.len];exact hi)]
   ·obtain ⟨w,q1,q2⟩:=I.rep j e e2
    refine ⟨w,?_,by rw [if_neg e1];exact q2⟩
    rw [getElem?_set_ne (fun z=>e1 z.symm)]
    exact q1
  ·by_cases e:j=i
   ·subst e
    exact absurd (getElem?_set_self hi) (h d)
   ·rw [if_neg e]
    refine I.nil j fun x hx=>h x ?_
    rw [getElem?_set_ne (fun z=>e z.symm)]
    exact hx
  ·by_cases e:j=i
   ·subst e
    rw [if_pos rfl] at ha
    exact (h2 hj).1 a ha
   ·rw [if_neg e] at ha
    exact I.loc j (h1 j hj e).1 a ha
  ·by_cases e':j=i
   ·subst e'
    rw [if_pos rfl] at e
    obtain ⟨q0,q1,q2⟩:=(h2 hj).2 a l e
    refine ⟨q0,q1,fun k hk=>?_⟩
    rw [if_neg hk]
    exact q2 k hk
   ·rw [if_neg e'] at e
    obtain ⟨q0,q⟩:=h1 j hj e'
    obtain ⟨q3,q1,q2⟩:=I.top j q0 a l e
    refine ⟨q3,q1,fun k hk=>?_⟩
    by_cases ek:k=i
    ·rw [if_pos ek];exact q a l e
    ·rw [if_neg ek];exact q2 k hk
  ·by_cases e:j=i
   ·subst e
    rw [if_pos rfl]
    obtain ⟨q1,q2,q3⟩:=h4 hj
    refine ⟨q1,fun k hk a ha=>?_,q3⟩
    rw [if_neg hk]
    exact q2 k hk a ha
   ·rw [if_neg e]
    obtain ⟨q0,q⟩:=h3 j hj e
    obtain ⟨q1,q2,q3⟩:=I.deep j q0
    refine ⟨q1,fun k hk a ha=>?_,q3⟩
    by_cases ek:k=i
    ·rw [if_pos ek];exact q a ha
    ·rw [if_neg ek];exact q2 k hk a ha
  ·have ha:a∈(if j=i then B else A j):=ha
   by_cases e:j=i
   ·rw [if_pos e] at ha;exact .inl ha
   ·rw [if_neg e] at ha;exact .inr ha
 ·have e1:ρ.set i (some d)=ρ:=List.set_eq_of_length_le (by omega)
  have e2:σ.set i (some v)=σ:=List.set_eq_of_length_le (by rw [I.len];omega)
  have e3:A i=[]:=I.nil i fun x h=>by
   have:=(List.getElem?_eq_some_iff.mp h).1
   omega
  refine ⟨A,?_,fun j a ha=>.inr ha⟩
  rw [e1,e2]
  refine ⟨I.s0,I.same,I.len,I.rep,I.nil,fun j hj a ha=>?_,fun j hj a l e=>?_,fun j hj=>?_⟩
  ·by_cases e:j=i
   ·subst e;rw [e3] at ha;cases ha
   ·exact I.loc j (h1 j hj e).1 a ha
  ·by_cases e':j=i
   ·subst e';rw [e3] at e;cases e
   ·exact I.top j (h1 j hj e').1 a l e
  ·by_cases e:j=i
   ·subst e
    rw [e3]
    exact ⟨nodup_nil,fun _ _ _ h=>(nomatch h),fun _ h=>(nomatch h)⟩
   ·exact I.deep j (h3 j hj e).1
theorem Xd.writeO {H0 Hb H:Hp}{σ:St}{ρ:Jw}{A:Nat→List Addr}{i:Nat}{es:List D}{ys:List V}{o':HO}{d':D}{B':List Addr}{a:Addr}{l:List Addr}(I:Xd K C H0 Hb H Γ Δ σ ρ A)(hi:i∈Γ)(hA:A i=a::l)(hl:i<ρ.length)(hs:σ[i]?=some (some (.ref a)))
  (mk:∀H',H' a=some o'→RpA K C H' es ys B'→Rp K C H' d' (.ref a) (a::B')) (r:RpA K C H es ys B') (hn:∀b∈B',H0 b=none) (ha:a∉B')
  (h1:∀j∈Γ',j≠i→j∈Γ∧∀b l,A j=b::l→b∉B')
  (h2:∀j∈Δ',j≠i→j∈Δ∧∀b∈A j,b∉B')
  (h3:i∈Δ'→B'.Nodup∧(∀j,j≠i→∀b∈B',b∉A j)∧∀b∈B',Hb b=none):∃A',Xd K C H0 Hb (upd H a o') Γ' Δ' σ (ρ.set i (some d')) A':=by
 obtain ⟨xs,hxs,hm⟩:=I.is (j:=i) (a:=a) (by rw [hA];exact .head _)
 have hne:∀j,j≠i→a∉A j:=(I.top i hi a l hA).2.2
 have hb0:Hb a=none:=(I.top i hi a l hA).1
 have h0:H0 a=none:=I.loc i hi a (by rw [hA];exact .head _)
 have ext:Ext (fun b=>b=a) H (upd H a o'):=fun b o h=>by
  by_cases e:b=a
  ·subst e
   rw [hxs] at h
   cases h
   exact .inr ⟨rfl,hm⟩
  ·rw [Xb e]
   exact .inl h
 refine ⟨fun j=>if j=i then a::B' else A j,I.s0,fun b o h=>?_,by rw [length_set,I.len],fun j e h=>?_,fun j h=>?_,fun j hj b hb=>?_,fun j hj b l' e=>?_,fun j hj=>?_⟩
 ·rw [Xb (Ym h hb0)]
  exact I.same b o h
 ·rcases get_set h with ⟨e1,_,e2⟩ | ⟨e1,e2⟩
  ·subst e1
   cases e2
   refine ⟨.ref a,hs,?_⟩
   rw [if_pos rfl]
   exact mk _ Yb (r.ext ext (fun b hb h=>ha (by rw [h] at hb;exact hb)))
  ·obtain ⟨w,q1,q2⟩:=I.rep j e e2
   refine ⟨w,q1,?_⟩
   rw [if_neg e1]
   exact q2.ext ext fun b hb h=>hne j e1 (by rw [h] at hb;exact hb)
 ·by_cases e:j=i
  ·subst e
   exact absurd (getElem?_set_self hl) (h _)
  ·rw [if_neg e]
   refine I.nil j fun x hx=>h x ?_
   rw [getElem?_set_ne (fun z=>e z.symm)]
   exact hx
 ·by_cases e:j=i
  ·subst e
   rw [if_pos rfl] at hb
   rcases List.mem_cons.mp hb with z | z
   ·rw [z];exact h0
   ·exact hn b z
  ·rw [if_neg e] at hb
   exact I.loc j (h1 j hj e).1 b hb
 ·by_cases e':j=i
  ·subst e'
   rw [if_pos rfl] at e
   cases e
   refine ⟨hb0,ha,fun k hk=>?_⟩
   rw [if_neg hk]
   exact hne k hk
  ·rw [if_neg e'] at e
   obtain ⟨q0,q⟩:=h1 j hj e'
   obtain ⟨q3,q1,q2⟩:=I.top j q0 b l' e
   refine ⟨q3,q1,fun k hk=>?_⟩
   by_cases ek:k=i
   ·rw [if_pos ek]
    intro z
    rcases List.mem_cons.mp z with z | z
    ·exact hne j e' (by rw [e,z];exact .head _)
    ·exact q b l' e z
   ·rw [if_neg ek];exact q2 k hk
 ·by_cases e:j=i
  ·subst e
   rw [if_pos rfl]
   obtain ⟨q1,q2,q3⟩:=h3 hj
   refine ⟨List.nodup_cons.mpr ⟨ha,q1⟩,fun k hk b hb=>?_,fun b hb=>?_⟩
   ·rw [if_neg hk]
    rcases List.mem_cons.mp hb with z | z
    ·rw [z];exact hne k hk
    ·exact q2 k hk b z
   ·rcases List.mem_cons.mp hb with z | z
    ·rw [z];exact hb0
    ·exact q3 b z
  ·rw [if_neg e]
   obtain ⟨q0,q⟩:=h2 j hj e
   obtain ⟨q1,q2,q3⟩:=I.deep j q0
   refine ⟨q1,fun k hk b hb=>?_,q3⟩
   by_cases ek:k=i
   ·rw [if_pos ek]
    intro z
    rcases List.mem_cons.mp z with z | z
    ·exact hne j e (by rw [← z];exact hb)
    ·exact q b hb z
   ·rw [if_neg ek];exact q2 k hk b hb
theorem Xd.write {H0 Hb H:Hp}{σ:St}{ρ:Jw}{A:Nat→List Addr}{i:Nat}{es:List D}{ys:List V}{B':List Addr}{a:Addr}{l:List Addr}(I:Xd K C H0 Hb H Γ Δ σ ρ A)(hi:i∈Γ)(hA:A i=a::l)(hl:i<ρ.length)(hs:σ[i]?=some (some (.ref a)))
  (r:RpA K C H es ys B') (hn:∀b∈B',H0 b=none) (ha:a∉B')
  (h1:∀j∈Γ',j≠i→j∈Γ∧∀b l,A j=b::l→b∉B')
  (h2:∀j∈Δ',j≠i→j∈Δ∧∀b∈A j,b∉B')
  (h3:i∈Δ'→B'.Nodup∧(∀j,j≠i→∀b∈B',b∉A j)∧∀b∈B',Hb b=none):∃A',Xd K C H0 Hb (upd H a (.lst ys)) Γ' Δ' σ (ρ.set i (some (.lst es))) A':=I.writeO hi hA hl hs (fun _ q1 q2=>⟨a,_,_,rfl,q1,q2,rfl⟩) r hn ha h1 h2 h3
theorem Xgp {n k:Nat}(i:Nat)(h1:n≤i)(h2:i<n+k):NOk K C n k (Zbn i) (Dl.Xo i):=fun H σ os ρ A d v B Rr hσ hos I r p=>by
 have e:(σ++os).set i (some v)=σ++os.set (i - n) (some v):=by rw [← hσ,List.set_append_right _ _ (by omega)]
 obtain ⟨A',I',_⟩:=I.put (Γ':=[]) (Δ':=[]) (i:=i) r (fun _ h=>nomatch h) (fun h=>nomatch h) (fun _ h=>nomatch h) (fun h=>nomatch h)
 show Rr ((σ++os).set i (some v)) H
 rw [e] at I' ⊢
 exact p _ A' (by rw [length_set];exact hos) I'
theorem Ztx {n k:Nat}{g:TG}{wi:TI}{tc:TT}{te:TE}{fi:FI}{fb:FB}{fc:FT}{fe:FE}(hi:IOk K C E Γ Δ S wi fi)(hg:NOk K C n k g fb)(hc:TOk K C E0 [] [] tc fc)(he:EOk K C E0 [] [] 2 [] te fe):EOk K C E Γ Δ 2 [] (Zgs k g wi tc te) (Dl.Zgw n k fi fb fc fe):=fun H0 Hb H σ ρ A Q I p=>by
  unfold Dl.Zgw at p
  split at p
  · rename_i hn
    refine hi H0 Hb H σ ρ A _ I (p.bind.imp (fun ds q J H1 W g1 hW hlen hJ Dd hD=>?_) fun c x q H' g'=>q H' g')
    have I1:=I.mono g1
    have go:Goes K C J ds H1:=hJ H1 ⟨fun _ _=>rfl,fun b o h _=>h⟩
    have q':=Zfn q.bind
    refine Xdd go (fun i H2=>Xx H1 H2∧∃(us:List D) (ys:List V) (B':List Addr),H2 Dd=some (.lst ys)∧us.length≤i∧RpA K C H2 us ys B'∧B'.Nodup∧Dd∉B'∧(∀a∈B',H1 a=none)∧
      Xz (Dl.Zcx k fb fc fe ρ (ds.drop i)) (fun zs=>∀v H',Xx H H'→Res K C 2 [] H A (.lst (us++zs)) v H'→Q v H') (fun _ _=>False)) ⟨sameNew hD _,[],[],[],Yb,le_refl _,RpA.nil,nodup_nil,(fun h=>nomatch h),(fun _ h=>nomatch h),q'⟩ (fun _ _ h=>h.1) ?_ ?_
    · rintro i x v Bx H2a H2 hx ⟨g2a,us,ys,B',hD2,hul,ru,nd,hDB,hnew,pq⟩ g2b rx _ os hos
      have g2:=g2a.trans g2b
      have hil:=(List.getElem?_eq_some_iff.mp hx).1
      rw [Zxa _ _ _ _ _ _ hx] at pq
      have I2:=(I1.mono g2).more os
      have pq':=Zfn pq.bind
      rw [← hos] at pq'
      refine hg H2 σ os _ A x v Bx _ (by rw [I.len,hn]) hos I2 rx (pq'.imp (fun ρ1 pq os1 A1 ho1 I3=>⟨⟨os1,ho1,rfl⟩,?_⟩) fun _ _ z=>z)
      refine hc H2 H2 H2 _ _ _ _ I3 (pq.bind.imp (fun b pq H3 g3=>?_) fun _ _ z=>z.elim)
      have hD2':=g2b _ _ hD2
      have ru':=ru.same g2b
      cases b with
      | false =>
        simp only [Bool.false_eq_true,if_false] at pq ⊢
        rw [hos] at pq
        exact ⟨g2.trans g3,us,ys,B',g3 _ _ hD2',by omega,ru'.same g3,nd,hDB,hnew,pq⟩
      | true =>
        simp only [if_true] at pq ⊢
        refine he H2 H2 H3 _ _ _ _ (I3.mono g3) (pq.bind.imp (fun y pq w H4 g4 r4=>?_) fun _ _ z=>z.elim)
        rw [hos] at pq
        obtain ⟨By,ry,hy1,_,hy2⟩:=r4
        have g24:=g3.trans g4
        have hD4:=g24 _ _ hD2'
        have hnewy:∀a∈By,H3 a=none:=fun a ha=>(hy1 a ha).elim id fun z=>z.none.elim
        have hDy:Dd∉By:=fun h=>by
          have z:=hnewy Dd h
          rw [g3 _ _ hD2'] at z
          cases z
        have ext:Ext (fun a=>a=Dd) H4 (upd H4 Dd (.lst (ys++[w]))):=fun b o h=>by
          by_cases e:b=Dd
          · subst e
            rw [hD4] at h
            cases h
            exact .inr ⟨rfl,.lst⟩
          · rw [Xb e]
            exact .inl h
        have hDB':Dd∉B'++By:=fun h=>(List.mem_append.mp h).elim hDB hDy
        refine ⟨ys,hD4,?_,?_,us++[y],ys++[w],B'++By,Yb,by rw [length_append];simp;omega,?_,?_,hDB',?_,?_⟩
        · rw [ru.len]
          exact Zjj (by omega)
        · intro b o h
          have hb:b≠Dd:=Ym h hD
          rw [Xb hb]
          exact (g2.trans g24) b o h
        · exact ((ru'.same g24).app (RpA.one ry)).ext ext fun a ha h=>hDB' (by rw [h] at ha;exact ha)
        · refine List.nodup_append.mpr ⟨nd,hy2 rfl,fun a ha b hb e=>?_⟩
          subst e
          obtain ⟨xs,z,_⟩:=(ru'.same g3).isl a ha
          rw [hnewy a hb] at z
          cases z
        · intro a ha
          rcases List.mem_append.mp ha with h | h
          · exact hnew a h
          · exact (g2.trans g3).free (hnewy a h)
        · exact pq.bind.imp (fun zs pq v H' g' r=>by
            rw [append_assoc] at r
            exact pq v H' g' r) fun _ _ z=>z
    · rintro H2 ⟨g2,us,ys,B',hD2,hul,ru,nd,hDB,hnew,pq⟩
      rw [List.drop_length] at pq
      have pq:∀v H',Xx H H'→Res K C 2 [] H A (.lst (us++[])) v H'→Q v H':=pq
      rw [append_nil] at pq
      refine pq _ H2 (g1.trans g2) ⟨Dd::B',⟨Dd,ys,B',rfl,hD2,ru,rfl⟩,fun a ha=>.inl ?_,(fun z=>nomatch z),fun _=>List.nodup_cons.mpr ⟨hDB,nd⟩⟩
      rcases List.mem_cons.mp ha with h | h
      · rw [h];exact g1.free hD
      · exact g1.free (hnew a h)
  · exact p.elim
end
section
variable {K:Frag}{C:String→Addr}{E:XK}{Γ Δ Γ' Δ' Γ1 Δ1 Γl Δl Γk Δk:List Nat}{m m1 m2 m3 mr:Nat}{S S1 S2 S3:List (Nat×Bool)}{H:Hp}{Q:VK}
theorem Zpg.weak {H0 Hb:Hp}{D:Ends}{r:R Fl}(h:Zpg K C E mr Γl Δl Γ' Δ' H0 Hb D r)(h1:∀i∈Γ',i∈Γ1)(h2:∀i∈Δ',i∈Δ1):Zpg K C E mr Γl Δl Γ1 Δ1 H0 Hb D r:=by
 unfold Zpg at *
 refine Xz.imp h (fun fl q=>?_) fun _ _ q=>q
 cases fl with
 | nx ρ'=>exact fun σ' H' A' I=>q σ' H' A' (I.weak h1 h2)
 | ret d=>exact q
 | brk ρ'=>exact q
 | cnt ρ'=>exact q
theorem Xfs {t:TS}{f:FS}(h:SOk K C E mr Γl Δl Γ Δ Γ1 Δ1 t f)(h1:∀i∈Γ',i∈Γ1:=by decide)(h2:∀i∈Δ',i∈Δ1:=by decide):SOk K C E mr Γl Δl Γ Δ Γ' Δ' t f:=fun H0 Hb H σ ρ A D I p =>
 h H0 Hb H σ ρ A D I (p.weak h1 h2)
theorem Xrn:SOk K C E mr Γl Δl Γ Δ Γ Δ Zwa Dl.sNx:=fun _ _ H σ _ A _ I p=>p σ H A I
theorem Xae:SOk K C E mr Γl Δl Γ Δ Γ' Δ' Zml Dl.Ziw:=fun _ _ _ _ _ _ _ _ p=>p.elim
theorem Xkk {t u:TS}{f g:FS}(h1:SOk K C E mr Γl Δl Γ Δ Γ1 Δ1 t f)(h2:SOk K C E mr Γl Δl Γ1 Δ1 Γ' Δ' u g):SOk K C E mr Γl Δl Γ Δ Γ' Δ' (Xoq t u) (Dl.Xp f g):=fun H0 Hb H σ ρ A D I p =>
  h1 H0 Hb H σ ρ A _ I (Xz.imp (Xz.bind p) (fun fl q=>by
    cases fl with
    | nx ρ'=>exact fun σ' H' A' I'=>h2 H0 Hb H' σ' ρ' A' D I' q
    | ret d=>exact q
    | brk ρ'=>exact q
    | cnt ρ'=>exact q) fun _ _ q=>q)
theorem Xx.from0 {H0 Hb H H':Hp}{σ:St}{ρ:Jw}{A:Nat→List Addr}(I:Xd K C H0 Hb H Γ Δ σ ρ A)(g:Xx H H'):Xx H0 H':=I.s0.trans (I.same.trans g)
theorem Xd.top_out {H0 Hb H:Hp}{σ:St}{ρ:Jw}{A:Nat→List Addr}(I:Xd K C H0 Hb H Γ Δ σ ρ A){j:Nat}(hj:j∈Γ)(hS:(j,false)∉S){a:Addr}{l:List Addr}(e:A j=a::l):¬InS A S a:=fun h=>by
 obtain ⟨q0,q1,q2⟩:=I.top j hj a l e
 obtain ⟨p,hp,q⟩:=h
 split at q
 ·by_cases ep:p.1=j
  ·rw [ep,e] at q
   exact q1 q
  ·exact q2 p.1 ep (List.mem_of_mem_tail q)
 ·rename_i hf
  by_cases ep:p.1=j
  ·refine hS ?_
   have:p=(j,false):=by
    obtain ⟨p1,p2⟩:=p
    simp at ep hf
    rw [ep,hf]
   rw [← this]
   exact hp
  ·exact q2 p.1 ep q
theorem Xd.deep_out {H0 Hb H:Hp}{σ:St}{ρ:Jw}{A:Nat→List Addr}(I:Xd K C H0 Hb H Γ Δ σ ρ A){j:Nat}(hj:j∈Δ)(hS:∀p∈S,p.1≠j){a:Addr}(e:a∈A j):¬InS A S a:=fun h=>by
 obtain ⟨p,hp,q⟩:=h.mem
 exact (I.deep j hj).2.1 p.1 (hS p hp) a e q
theorem Zvn {i:Nat}{te:TE}{fe:FE}(he:EOk K C E Γ Δ 2 [] te fe)(h1:∀j∈Γ',j=i∨j∈Γ:=by decide)(h2:∀j∈Δ',j=i∨j∈Δ:=by decide):SOk K C E mr Γl Δl Γ Δ Γ' Δ' (Zmf te (Zbn i)) (Dl.Yg i fe):=fun H0 Hb H σ ρ A D I p =>
  he H0 Hb H σ ρ A _ I (Xz.imp (Xz.bind p) (fun d q v H1 g1 r=>by
    obtain ⟨B,r1,r2,r3,r4⟩:=r
    have hn:∀a∈B,H a=none:=fun a ha=>(r2 a ha).elim id fun z=>z.none.elim
    have nd:=r4 rfl
    obtain ⟨A',I',_⟩:=(I.mono g1).put (Γ':=Γ') (Δ':=Δ') (i:=i) r1 (fun j hj e=>⟨(h1 j hj).elim (fun z=>absurd z e) id,fun a l e' ha=>I.ne (j:=j) (by rw [e'];exact .head _) (hn a ha)⟩)
      (fun _=>⟨fun a ha=>I.s0.free (I.same.free (hn a ha)),fun a l e=>by subst e;exact ⟨I.same.free (hn a (.head _)),(List.nodup_cons.mp nd).1,fun j _ h=>I.ne h (hn a (.head _))⟩⟩)
      (fun j hj e=>⟨(h2 j hj).elim (fun z=>absurd z e) id,fun a ha hB=>I.ne ha (hn a hB)⟩)
      (fun _=>⟨nd,fun j _ a ha h=>I.ne h (hn a ha),fun a ha=>I.same.free (hn a ha)⟩)
    exact q _ H1 A' I') fun c x q H' g'=>q H' (Xx.from0 I g'))
theorem Xfm {i:Nat}{te:TE}{fe:FE}(he:EOk K C E Γ Δ 1 S te fe)(h0:∀p∈S,p.1∈Γ:=by decide)(h1:∀j∈Γ',j=i∨(j∈Γ∧(j,false)∉S):=by decide)(h2:∀j∈Δ',j≠i∧j∈Δ∧∀p∈S,p.1≠j:=by decide) :
    SOk K C E mr Γl Δl Γ Δ Γ' Δ' (Zmf te (Zbn i)) (Dl.Yg i fe):=fun H0 Hb H σ ρ A D I p =>
  he H0 Hb H σ ρ A _ I (Xz.imp (Xz.bind p) (fun d q v H1 g1 r=>by
    obtain ⟨B,r1,r2,r3,r4⟩:=r
    obtain ⟨A',I',_⟩:=(I.mono g1).put (Γ':=Γ') (Δ':=Δ') (i:=i) r1 (fun j hj e=>by
        obtain ⟨q1,q2⟩:=(h1 j hj).elim (fun z=>absurd z e) id
        exact ⟨q1,fun a l e' ha=>(r2 a ha).elim (fun z=>I.ne (j:=j) (by rw [e'];exact .head _) z) (I.top_out q1 q2 e')⟩)
      (fun _=>⟨fun a ha=>(r2 a ha).elim (fun z=>I.s0.free (I.same.free z)) fun z=>by
          obtain ⟨p,hp,z⟩:=z.mem
          exact I.loc p.1 (h0 p hp) a z,fun a l e=>⟨I.same.free (r3 rfl a l e).1,(r3 rfl a l e).2,fun j _ h=>I.ne h (r3 rfl a l e).1⟩⟩)
      (fun j hj e=>⟨(h2 j hj).2.1,fun a ha hB=>(r2 a hB).elim (fun z=>I.ne ha z) (I.deep_out (h2 j hj).2.1 (h2 j hj).2.2 ha)⟩)
      (fun hj=>absurd rfl (h2 i hj).1)
    exact q _ H1 A' I') fun c x q H' g'=>q H' (Xx.from0 I g'))
theorem Xfx {i:Nat}{te:TE}{fe:FE}(he:EOk K C E Γ Δ m S te fe)(h1:∀j∈Γ',j≠i∧j∈Γ∧(j,false)∉S:=by decide)(h2:∀j∈Δ',j≠i∧j∈Δ∧∀p∈S,p.1≠j:=by decide) :
    SOk K C E mr Γl Δl Γ Δ Γ' Δ' (Zmf te (Zbn i)) (Dl.Yg i fe):=fun H0 Hb H σ ρ A D I p =>
  he H0 Hb H σ ρ A _ I (Xz.imp (Xz.bind p) (fun d q v H1 g1 r=>by
    obtain ⟨B,r1,r2,r3,r4⟩:=r
    obtain ⟨A',I',_⟩:=(I.mono g1).put (Γ':=Γ') (Δ':=Δ') (i:=i) r1 (fun j hj e=>by
        obtain ⟨_,q1,q2⟩:=h1 j hj
        exact ⟨q1,fun a l e' ha=>(r2 a ha).elim (fun z=>I.ne (j:=j) (by rw [e'];exact .head _) z) (I.top_out q1 q2 e')⟩)
      (fun hj=>absurd rfl (h1 i hj).1)
      (fun j hj e=>⟨(h2 j hj).2.1,fun a ha hB=>(r2 a hB).elim (fun z=>I.ne ha z) (I.deep_out (h2 j hj).2.1 (h2 j hj).2.2 ha)⟩)
      (fun hj=>absurd rfl (h2 i hj).1)
    exact q _ H1 A' I') fun c x q H' g'=>q H' (Xx.from0 I g'))
theorem Xex {te:TE}{fe:FE}(he:EOk K C E Γ Δ 2 S te fe)(h0:∀p∈S,p.1∈Δ:=by decide):SOk K C E 2 Γl Δl Γ Δ Γ' Δ' (Xos te) (Dl.Zao fe):=fun H0 Hb H σ ρ A D I p =>
  he H0 Hb H σ ρ A _ I (Xz.imp (Xz.bind p) (fun d q v H1 g1 r=>by
    obtain ⟨B,r1,r2,r3,r4⟩:=r
    refine q v H1 (Xx.from0 I g1) ⟨B,r1,fun a ha=>.inl ((r2 a ha).elim (fun z=>I.s0.free (I.same.free z)) fun z=>?_),(fun z=>nomatch z),r4⟩
    obtain ⟨p,hp,z⟩:=z.mem
    exact I.s0.free ((I.deep p.1 (h0 p hp)).2.2 a z)) fun c x q H' g'=>q H' (Xx.from0 I g'))
theorem Xpo {tc:TT}{t u:TS}{fc:FT}{f g:FS}(hc:TOk K C E Γ Δ tc fc)(h1:SOk K C E mr Γl Δl Γ Δ Γ' Δ' t f)(h2:SOk K C E mr Γl Δl Γ Δ Γ' Δ' u g):SOk K C E mr Γl Δl Γ Δ Γ' Δ' (Xoj tc t u) (Dl.sIf fc f g):=fun H0 Hb H σ ρ A D I p =>
  hc H0 Hb H σ ρ A _ I (Xz.imp (Xz.bind p) (fun b q H1 g1=>by
    cases b with
    | true=>exact h1 H0 Hb H1 σ ρ A D (I.mono g1) q
    | false=>exact h2 H0 Hb H1 σ ρ A D (I.mono g1) q) fun c x q H' g'=>q H' (Xx.from0 I g'))
theorem Zvd {H0 Hb H:Hp}{σ:St}{ρ:Jw}{A:Nat→List Addr}{i:Nat}{ds:List D}(I:Xd K C H0 Hb H Γ Δ σ ρ A)(e:ρ[i]?=some (some (.lst ds))):∃a xs l,σ[i]?=some (some (.ref a))∧H a=some (.lst xs)∧RpA K C H ds xs l∧A i=a::l∧i<ρ.length:=by
 obtain ⟨v,q1,a,xs,l,rfl,q3,q4,q5⟩:=I.rep i _ e
 exact ⟨a,xs,l,q1,q3,q4,q5,(List.getElem?_eq_some_iff.mp e).1⟩
theorem Xgi {i:Nat}{te:TE}{fe:FE}(hi:i∈Γ:=by decide)(he:EOk K C E Γ Δ 2 [] te fe):SOk K C E mr Γl Δl Γ Δ Γ Δ (Zja (tBM K "list" Zef (Zdb i) (Zhz te Zvr))) (Dl.Zmh i fe):=fun H0 Hb H σ ρ A D I p=>by
  unfold Dl.Zmh at p
  split at p
  · rename_i ds e
    obtain ⟨a,xs,l,s1,h1,r1,hA,hl⟩:=Zvd I e
    refine ⟨.ref a,s1,.inl ⟨rfl,xs,SqL.of h1⟩,he H0 Hb H σ ρ A _ I (Xz.imp (Xz.bind p) (fun d q v H1 g1 r=>?_) fun c x q H' g'=>q H' (Xx.from0 I g'))⟩
    split at q
    · rename_i hz
      obtain ⟨B,r2,r3,_,r4⟩:=r
      have hn:∀a∈B,H a=none:=fun a ha=>(r3 a ha).elim id fun z=>z.none.elim
      have h1':=g1 _ _ h1
      show Zef (.ref a) [v] H1 fun _ H3=>D.nx σ H3
      refine Xhi h1' (by rw [r1.len];exact Zjj hz) ?_
      obtain ⟨tb,ta,tt⟩:=I.top i hi a l hA
      have I1:=I.mono g1
      have haB:a∉B:=fun z=>by
        have:=hn a z
        rw [h1] at this
        cases this
      have w1:∀b∈l++B,H0 b=none:=fun b hb=>by
        rcases List.mem_append.mp hb with z | z
        · exact I.loc i hi b (by rw [hA];exact .tail _ z)
        · exact I.s0.free (I.same.free (hn b z))
      have w2:∀j∈Γ,j≠i→j∈Γ∧∀b l',A j=b::l'→b∉l++B:=fun j hj e=>⟨hj,fun b l' e' z=>by
        rcases List.mem_append.mp z with z | z
        · exact (I.top j hj b l' e').2.2 i (fun w=>e w.symm) (by rw [hA];exact .tail _ z)
        · exact I.ne (j:=j) (by rw [e'];exact .head _) (hn b z)⟩
      have w3:∀j∈Δ,j≠i→j∈Δ∧∀b∈A j,b∉l++B:=fun j hj e=>⟨hj,fun b hb z=>by
        rcases List.mem_append.mp z with z | z
        · exact (I.deep j hj).2.1 i (fun w=>e w.symm) b hb (by rw [hA];exact .tail _ z)
        · exact I.ne hb (hn b z)⟩
      have w4:i∈Δ→(l++B).Nodup∧(∀j,j≠i→∀b∈l++B,b∉A j)∧∀b∈l++B,Hb b=none:=fun hd=>by
        obtain ⟨d1,d2,d3⟩:=I.deep i hd
        rw [hA] at d1 d2 d3
        refine ⟨List.nodup_append.mpr ⟨(List.nodup_cons.mp d1).2,r4 rfl,fun x hx y hy e=>?_⟩,fun j hj b hb=>?_,fun b hb=>?_⟩
        · subst e
          exact I.ne (j:=i) (by rw [hA];exact .tail _ hx) (hn x hy)
        · rcases List.mem_append.mp hb with z | z
          · exact d2 j hj b (.tail _ z)
          · exact fun w=>I.ne w (hn b z)
        · rcases List.mem_append.mp hb with z | z
          · exact d3 b (.tail _ z)
          · exact I.same.free (hn b z)
      obtain ⟨A',I'⟩:=I1.write (Γ':=Γ) (Δ':=Δ) hi hA hl s1 ((r1.same g1).app (RpA.one r2)) w1 (fun z=>(List.mem_append.mp z).elim ta haB) w2 w3 w4
      exact q _ _ A' I'
    · exact q.elim
  · exact p.elim
def BOk (K:Frag)(C:String→Addr)(Γ Δ:List Nat)(g:TG)(b:FB):Prop:=∀(H0 Hb H:Hp) (σ:St) (ρ:Jw) (A:Nat→List Addr) (d:D) (v:V) (B:List Addr) (Rr:St→Hp→Prop),Xd K C H0 Hb H Γ Δ σ ρ A→Rp K C H d v B→(∀a∈B,Hb a≠none)→
 Xz (b d ρ) (fun ρ'=>∀σ' A',Xd K C H0 Hb H Γ Δ σ' ρ' A'→Rr σ' H) (fun _ _=>False)→g v σ H Rr
def BsOk (K:Frag)(C:String→Addr)(Γ Δ:List Nat)(g:TGs)(b:List D→Jw→R Jw):Prop:=∀(H0 Hb H:Hp) (σ:St) (ρ:Jw) (A:Nat→List Addr) (d:List D) (v:List V) (B:List Addr) (Rr:St→Hp→Prop),Xd K C H0 Hb H Γ Δ σ ρ A→RpA K C H d v B→(∀a∈B,Hb a≠none)→
 Xz (b d ρ) (fun ρ'=>∀σ' A',Xd K C H0 Hb H Γ Δ σ' ρ' A'→Rr σ' H) (fun _ _=>False)→g v σ H Rr
theorem Xdk {i:Nat}(h1:i∉Γ:=by decide)(h2:i∉Δ:=by decide):BOk K C Γ Δ (Zbn i) (Dl.Xo i):=fun H0 Hb H σ ρ A d v B Rr I r hB p=>by
 obtain ⟨A',I',_⟩:=I.put (Γ':=Γ) (Δ':=Δ) (i:=i) r (fun j hj e=>⟨hj,fun a l e' ha=>hB a ha (I.top j hj a l e').1⟩) (fun hj=>absurd hj h1) (fun j hj e=>⟨hj,fun a ha hb=>hB a hb ((I.deep j hj).2.2 a ha)⟩) (fun hj=>absurd hj h2)
 exact p _ A' I'
theorem Xpa (ds:List D)(ρ ρ':Jw)(h:Dl.Xit ds ρ=.ok ρ'):ds.length=0:=by
 cases ds with
 | nil=>rfl
 | cons _ _=>cases h
theorem Xnq {n:Nat}{b:FB}{bs:List D→Jw→R Jw}(hb:∀ds ρ ρ',bs ds ρ=.ok ρ'→ds.length=n)(ds:List D)(ρ ρ':Jw)(h:Dl.Ziz b bs ds ρ=.ok ρ'):ds.length=n+1:=by
 cases ds with
 | nil=>cases h
 | cons d ds =>
  have h:((b d ρ).bind fun ρ'=>bs ds ρ')=.ok ρ':=h
  cases e:b d ρ with
  | ok ρ1 =>
   rw [e] at h
   rw [length_cons,hb ds ρ1 ρ' h]
  | err _ _=>rw [e] at h;cases h
  | bad=>rw [e] at h;cases h
noncomputable def ownAt (A:Nat→List Addr)(Γ Δ:List Nat):List Addr:=Γ.flatMap (fun i=>(A i).take 1)++Δ.flatMap A
theorem Zny {A:Nat→List Addr}{a:Addr}(h:a∈ownAt A Γ Δ):(∃i∈Γ,∃l,A i=a::l)∨∃i∈Δ,a∈A i:=by
 rcases List.mem_append.mp h with h | h
 ·obtain ⟨i,hi,h⟩:=List.mem_flatMap.mp h
  left
  refine ⟨i,hi,?_⟩
  cases e:A i with
  | nil=>rw [e] at h;cases h
  | cons b l =>
   rw [e] at h
   simp only [List.take_succ_cons,List.take_zero,mem_singleton] at h
   rw [h]
   exact ⟨l,rfl⟩
 ·obtain ⟨i,hi,h⟩:=List.mem_flatMap.mp h
  exact .inr ⟨i,hi,h⟩
theorem Xms {A:Nat→List Addr}{i:Nat}(hi:i∈Γ){a:Addr}{l:List Addr}(e:A i=a::l):a∈ownAt A Γ Δ:=mem_append_left _ (List.mem_flatMap.mpr ⟨i,hi,by rw [e];simp⟩)
theorem Xft {A:Nat→List Addr}{i:Nat}(hi:i∈Δ){a:Addr}(h:a∈A i):a∈ownAt A Γ Δ:=mem_append_right _ (List.mem_flatMap.mpr ⟨i,hi,h⟩)
theorem Zwm (b:FB)(s:FS)(xs:List D){i:Nat}{x:D}(h:xs[i]?=some x)(ρ:Jw):Dl.Zdw b s (xs.drop i) ρ=(b x ρ).calm.bind fun ρ1=>(s ρ1).bind fun fl=>match fl with
  | .nx ρ2=>Dl.Zdw b s (xs.drop (i+1)) ρ2
  | .cnt ρ2=>Dl.Zdw b s (xs.drop (i+1)) ρ2
  | .brk ρ2=>.ok (.nx ρ2)
  | .ret d=>.ok (.ret d):=by
 obtain ⟨hi,rfl⟩:=List.getElem?_eq_some_iff.mp h
 rw [List.drop_eq_getElem_cons hi]
 rfl
theorem Xod {wi:TI}{g:TG}{tb:TS}{fi:FI}{fb:FB}{fs:FS}(hi:IOk K C E Γ Δ S wi fi)(hb:BOk K C Γl Δl g fb)(hs:SOk K C E mr Γl Δl Γl Δl Γl Δl tb fs)
    (h1:∀i∈Γl,i∈Γ:=by decide) (h2:∀i∈Δl,i∈Δ:=by decide) (h3:∀p∈S,p.1∉Γl∧p.1∉Δl:=by decide):SOk K C E mr Γk Δk Γ Δ Γl Δl (tFor wi g tb) (Dl.Zlt fi fb fs):=fun H0 Hb H σ ρ A D I p=>by
  refine hi H0 Hb H σ ρ A _ I (Xz.imp (Xz.bind p) (fun ds q J H1 W g1 hW hlen hJ=>?_) fun c x q H' g'=>q H' (Xx.from0 I g'))
  have I1:=(I.mono g1).weak h1 h2
  have hlst:∀a∈ownAt A Γl Δl,∃o,H1 a=some o∧IsM o:=fun a ha=>by
    rcases Zny ha with ⟨i,_,l,e⟩ | ⟨i,_,e⟩
    · exact I1.is (j:=i) (by rw [e];exact .head _)
    · exact I1.is e
  have hbn:∀a∈ownAt A Γl Δl,Hb a=none:=fun a ha=>by
    rcases Zny ha with ⟨i,hi,l,e⟩ | ⟨i,hi,e⟩
    · exact (I1.top i hi a l e).1
    · exact (I1.deep i hi).2.2 a e
  have hout:∀a∈W,a∉ownAt A Γl Δl:=fun a ha ho=>by
    rcases (hW a ha).2 with z | z
    · rcases Zny ho with ⟨i,hi,l,e⟩ | ⟨i,hi,e⟩
      · exact I.ne (j:=i) (by rw [e];exact .head _) z
      · exact I.ne e z
    · rcases Zny ho with ⟨i,hi,l,e⟩ | ⟨i,hi,e⟩
      · exact I1.top_out hi (fun h=>(h3 _ h).1 hi) e z
      · exact I1.deep_out hi (fun p hp e'=>(h3 p hp).2 (by rw [e'];exact hi)) e z
  let Hc:Hp:=fun b=>if b∈ownAt A Γl Δl then none else H1 b
  have c1:Xx Hc H1:=fun b o h=>by
    show H1 b=some o
    have h:(if b∈ownAt A Γl Δl then none else H1 b)=some o:=h
    split at h
    · cases h
    · exact h
  have c2:Xx Hb Hc:=fun b o h=>by
    show (if b∈ownAt A Γl Δl then none else H1 b)=some o
    rw [if_neg fun ho=>by rw [hbn b ho] at h;cases h]
    exact I1.same b o h
  have c3:∀a,a∉ownAt A Γl Δl→Hc a=H1 a:=fun a ha=>if_neg ha
  have c4:∀a∈ownAt A Γl Δl,Hc a=none:=fun a ha=>if_pos ha
  have I2:Xd K C H0 Hc H1 Γl Δl σ ρ A:=⟨I1.s0.trans c2,c1,I1.len,I1.rep,I1.nil,I1.loc,fun i hi a l e=>⟨c4 a (Xms hi e),(I1.top i hi a l e).2⟩,fun i hi=>⟨(I1.deep i hi).1,(I1.deep i hi).2.1,fun a ha=>c4 a (Xft hi ha)⟩⟩
  have back:∀{σ':St} {ρ':Jw} {H':Hp} {A':Nat→List Addr},Xd K C H0 Hc H' Γl Δl σ' ρ' A'→Xd K C H0 Hb H' Γl Δl σ' ρ' A':=fun I' =>
    ⟨I1.s0,c2.trans I'.same,I'.len,I'.rep,I'.nil,I'.loc,fun i hi a l e=>⟨c2.free (I'.top i hi a l e).1,(I'.top i hi a l e).2⟩,fun i hi=>⟨(I'.deep i hi).1,(I'.deep i hi).2.1,fun a ha=>c2.free ((I'.deep i hi).2.2 a ha)⟩⟩
  have go:Goes K C J ds Hc:=hJ Hc ⟨fun a ha=>c3 a (hout a ha),fun b o h hn=>(c3 b fun ho=>by
    obtain ⟨xs,e,hm⟩:=hlst b ho
    rw [e] at h
    cases h
    exact hn hm).trans h⟩
  refine Xlo go (fun k σ' H'=>∃ρ' A',Xd K C H0 Hc H' Γl Δl σ' ρ' A'∧Zpg K C E mr Γk Δk Γl Δl H0 Hb D (Dl.Zdw fb fs (ds.drop k) ρ')) ⟨ρ,A,I2,q⟩ (fun _ _ _ ⟨_,_,I',_⟩=>I'.same) ?_ ?_
  · rintro k d x Bx σ' Ha H' hd ⟨ρ',A',Ia,pq⟩ ga rx hBx
    have I':=Ia.mono ga
    rw [Zwm _ _ _ hd] at pq
    have pq':=Zfn (Xz.bind pq)
    refine hb H0 Hc H' σ' ρ' A' d x Bx _ I' rx hBx (Xz.imp pq' (fun ρ1 pq σ1 A1 I1'=>?_) fun _ _ z=>z)
    refine hs H0 Hc H' σ1 ρ1 A1 _ I1' (Xz.imp (Xz.bind pq) (fun fl pq=>?_) fun _ _ z=>z)
    cases fl with
    | nx ρ2=>exact fun σ2 H2 A2 I2'=>⟨ρ2,A2,I2',pq⟩
    | cnt ρ2=>exact fun σ2 H2 A2 I2'=>⟨ρ2,A2,I2',pq⟩
    | brk ρ2=>exact fun σ2 H2 A2 I2'=>pq σ2 H2 A2 (back I2')
    | ret d=>exact pq
  · rintro σ' H' ⟨ρ',A',I',pq⟩
    rw [List.drop_length] at pq
    exact pq σ' H' A' (back I')
theorem Zzm {n:Nat}{tc:TT}{tb:TS}{fc:FT}{fs:FS}(hc:TOk K C E Γ Δ tc fc)(hs:SOk K C E mr Γ Δ Γ Δ Γ Δ tb fs):SOk K C E mr Γk Δk Γ Δ Γ Δ (Zts tc tb) (Dl.Zir n fc fs):=fun H0 Hb H σ ρ A D I p=>by
 refine ⟨fun k σ' H'=>∃ρ' A',Xd K C H0 Hb H' Γ Δ σ' ρ' A'∧Zpg K C E mr Γk Δk Γ Δ H0 Hb D (Dl.Zbr fc fs k ρ'),⟨n,ρ,A,I,p⟩,?_⟩
 rintro k σ' H' ⟨ρ',A',I',pq⟩
 cases k with
 | zero=>exact pq.elim
 | succ k =>
  refine hc H0 Hb H' σ' ρ' A' _ I' (Xz.imp (Xz.bind pq) (fun b pq H1 g1=>?_) fun c x q H' g'=>q H' (Xx.from0 I' g'))
  cases b with
  | false =>
   simp only [Bool.false_eq_true,if_false] at pq ⊢
   exact pq σ' H1 A' (I'.mono g1)
  | true =>
   simp only [if_true] at pq ⊢
   refine ⟨fun σ2 H2=>∃ρ2 A2,Xd K C H0 Hb H2 Γ Δ σ2 ρ2 A2∧Zpg K C E mr Γk Δk Γ Δ H0 Hb D (Dl.Zbr fc fs k ρ2),fun σ2 H2 h=>⟨k,lt_succ_self k,h⟩,?_⟩
   refine hs H0 Hb H1 σ' ρ' A' _ (I'.mono g1) (Xz.imp (Xz.bind pq) (fun fl pq=>?_) fun _ _ z=>z)
   cases fl with
   | nx ρ2=>exact fun σ2 H2 A2 I2'=>⟨ρ2,A2,I2',pq⟩
   | cnt ρ2=>exact fun σ2 H2 A2 I2'=>⟨ρ2,A2,I2',pq⟩
   | brk ρ2=>exact fun σ2 H2 A2 I2'=>pq σ2 H2 A2 I2'
   | ret d=>exact pq
theorem Xac {N:Nat}{ds:List D}{vs:List V}{B:List Addr}{H:Hp}(r:RpA K C H ds vs B):∃A,Xd K C H H H [] [] (vs.map some++List.replicate (N - vs.length) none) (ds.map some++List.replicate (N - ds.length) none) A:=by
 have hl:=r.len
 have key:∀{ds:List D} {vs:List V} {B:List Addr},RpA K C H ds vs B→∃A:Nat→List Addr,(∀(i:Nat) d,ds[i]?=some d→∃v,vs[i]?=some v∧Rp K C H d v (A i))∧∀i,ds.length≤i→A i=[]:=by
  intro ds
  induction ds with
  | nil=>intro vs B r;exact ⟨fun _=>[],fun i d h=>by simp at h,fun _ _=>rfl⟩
  | cons d ds ih =>
   intro vs B r
   obtain ⟨x,l,B1,B2,e1,e2,e3,e4⟩:=r
   obtain ⟨A,h1,h2⟩:=ih e3
   subst e1
   refine ⟨fun i=>match i with | 0=>B1 | i+1=>A i,fun i d' h=>?_,fun i h=>?_⟩
   ·cases i with
    | zero=>simp at h;subst h;exact ⟨x,rfl,e2⟩
    | succ i=>simp at h;obtain ⟨v,q1,q2⟩:=h1 i d' h;exact ⟨v,by simpa using q1,q2⟩
   ·cases i with
    | zero=>simp at h
    | succ i=>exact h2 i (by simpa using h)
 obtain ⟨A,h1,h2⟩:=key r
 refine ⟨A,Xx.refl _,Xx.refl _,by simp [hl],fun i d h=>?_,fun i h=>?_,(fun _ h=>nomatch h),(fun _ h=>nomatch h),(fun _ h=>nomatch h)⟩
 ·by_cases hi:i<ds.length
  ·rw [getElem?_append_left (by simpa using hi),getElem?_map] at h
   obtain ⟨d',hd,e⟩:=Option.map_eq_some_iff.mp h
   cases e
   obtain ⟨v,q1,q2⟩:=h1 i d hd
   refine ⟨v,?_,q2⟩
   rw [getElem?_append_left (by simp [hl,hi]),getElem?_map,q1]
   rfl
  ·rw [getElem?_append_right (by simpa using hi)] at h
   have:=mem_of_getElem? h
   rw [mem_replicate] at this
   exact absurd this.2 (by intro z;cases z)
 ·by_cases hi:i<ds.length
  ·exact absurd (by rw [getElem?_append_left (by simpa using hi),getElem?_map,getElem?_eq_getElem hi];rfl) (h ds[i])
  ·exact h2 i (by omega)
theorem Xhb {N:Nat}{t:TS}{f:FS}{E:XK}{ds:List D}{vs:List V}{B:List Addr}{H:Hp}{Q:VK}(h:SOk K C E mr [] [] [] [] Γ' Δ' t f)(r:RpA K C H ds vs B)
  (p:Xz (Dl.run N f ds) (fun d=>∀v H',Xx H H'→Res K C mr [] H (fun _=>[]) d v H'→Q v H') (fun c x=>∀H',Xx H H'→EC C E c x H')) :
  t {nx:=fun _ H'=>Q .non H',rt:=Q} (vs.map some++List.replicate (N - vs.length) none) H:=by
 obtain ⟨A,I⟩:=Xac (N:=N) r
 refine h H H H _ _ A _ I (Xz.imp (Xz.bind p) (fun fl q=>?_) fun _ _ q=>q)
 cases fl with
 | nx ρ'=>exact fun σ' H' A' I'=>q _ H' I'.same (Res.flat ⟨rfl,rfl⟩)
 | ret d=>exact q
 | brk _=>exact q.elim
 | cnt _=>exact q.elim
end
structure JE (X:Cx)(C:String→Addr)(E:XK)(Γ Δ:List Nat)(m:Nat)(S:List (Nat×Bool))(e:Expr)(t:TE)(f:FE):Prop where
 q:QE X e t
 o:EOk X.K C E Γ Δ m S t f
structure JT (X:Cx)(C:String→Addr)(E:XK)(Γ Δ:List Nat)(e:Expr)(t:TT)(f:FT):Prop where
 q:QT X e t
 o:TOk X.K C E Γ Δ t f
structure JW (X:Cx)(C:String→Addr)(E:XK)(Γ Δ:List Nat)(e:Expr)(t:TT)(f:FT):Prop where
 q:QW X e t
 o:TOk X.K C E Γ Δ t f
structure JA (X:Cx)(C:String→Addr)(E:XK)(Γ Δ:List Nat)(m:Nat)(S:List (Nat×Bool))(e:List Expr)(n:Nat)(t:TA)(f:FA):Prop where
 q:QA X e t
 o:AOk X.K C E Γ Δ m S t f
 n:∀ρ ds,f ρ=.ok ds→ds.length=n
structure JO (X:Cx)(C:String→Addr)(E:XK)(Γ Δ:List Nat)(e:Option Expr)(t:TO)(f:FO):Prop where
 q:QO X e t
 o:OOk X.K C E Γ Δ t f
structure JI (X:Cx)(C:String→Addr)(E:XK)(Γ Δ:List Nat)(S:List (Nat×Bool))(tg e:Expr)(t:TI)(f:FI):Prop where
 q:QI X tg e t
 o:IOk X.K C E Γ Δ S t f
structure JG (X:Cx)(C:String→Addr)(Γ Δ:List Nat)(e:Expr)(t:TG)(f:FB):Prop where
 q:QG X e t
 o:BOk X.K C Γ Δ t f
structure JGs (X:Cx)(C:String→Addr)(Γ Δ:List Nat)(es:List Expr)(n:Nat)(t:TGs)(f:List D→Jw→R Jw):Prop where
 q:QGs X es t
 o:BsOk X.K C Γ Δ t f
 n:∀ds ρ ρ',f ds ρ=.ok ρ'→ds.length=n
structure JS (X:Cx)(C:String→Addr)(E:XK)(mr:Nat)(Γl Δl Γ Δ Γ' Δ':List Nat)(s:Stmt)(t:TS)(f:FS):Prop where
 q:QS X s t
 o:SOk X.K C E mr Γl Δl Γ Δ Γ' Δ' t f
structure JSs (X:Cx)(C:String→Addr)(E:XK)(mr:Nat)(Γl Δl Γ Δ Γ' Δ':List Nat)(s:List Stmt)(t:TS)(f:FS):Prop where
 q:QSs X s t
 o:SOk X.K C E mr Γl Δl Γ Δ Γ' Δ' t f
structure JIf (X:Cx)(C:String→Addr)(E:XK)(Γ Δ:List Nat)(e:List Expr)(t:TT)(f:FT):Prop where
 q:QIf X e t
 o:TOk X.K C E Γ Δ t f
section
variable {X:Cx}{C:String→Addr}{E:XK}{Γ Δ Γ' Δ' Γ1 Δ1 Γl Δl Γk Δk:List Nat}{m m1 m2 m3 mr:Nat}{S S1 S2 S3:List (Nat×Bool)}{a b c e st o tg iter:Expr}{es rest:List Expr}{ta tb tc te ts:TE}{fa fb fc fe fs:FE}{t:TA}{f:FA}{pos p p2 apos cpos:Pos}{n:Nat}
theorem Zf {i:Int}{j:Nat}:JE X C E Γ Δ 2 [] (.Constant (.int i) j pos) (tC (.int i)) (Dl.fC (.int i)):=⟨Xoy,Zzo fun _=>rpI⟩
theorem Zey {i:Bool}{j:Nat}:JE X C E Γ Δ 2 [] (.Constant (.bool i) j pos) (tC (.bl i)) (Dl.fC (.bl i)):=⟨qe_bl,Zzo fun _=>rpB⟩
theorem Zva {j:Nat}:JE X C E Γ Δ 2 [] (.Constant .none j pos) (tC .non) (Dl.fC .non):=⟨Xsr,Zzo fun _=>⟨rfl,rfl⟩⟩
theorem Zat {x:Str}{j:Nat}(h:PyData.strOk x=true:=by decide +kernel):JE X C E Γ Δ 2 [] (.Constant (.str x) j pos) (tC (.str x)) (Dl.fC (.str x)):=⟨Xpe,Zzo fun _=>⟨rfl,h,rfl⟩⟩
theorem Zj (i:Nat){x:Str}(hN:X.N[i]?=some x:=by rfl)(hv:autoParam (Vis X.env.scope x) aT3._auto_1)(hd:(x==("__debug__":Str))=false:=by decide)
  (hcd:(x==("__classdict__":Str))=false:=by decide):JE X C E Γ Δ 0 [(i,false)] (.Name x pos) (Zdb i) (Dl.fV i):=⟨qv i hN hv hd hcd,eok_v⟩
theorem Znq (i:Nat){x:Str}(hi:i∈Δ:=by decide)(hN:X.N[i]?=some x:=by rfl)(hv:autoParam (Vis X.env.scope x) aT3._auto_1)(hd:(x==("__debug__":Str))=false:=by decide)
  (hcd:(x==("__classdict__":Str))=false:=by decide):JE X C E Γ Δ 2 [(i,false)] (.Name x pos) (Zdb i) (Dl.fV i):=⟨qv i hN hv hd hcd,Xth hi⟩
theorem Zz (h:JE X C E Γ Δ m S e te fe):JE X C E Γ Δ 2 [] e te (Dl.f1 Dl.Xs fe):=⟨h.q,Xez h.o⟩
theorem Zr {op:Operator}{r:R2}{g:D→D→Option D}(ho:OpR X (binaryOp op) r)(hg:GOk X.K C r g)(ha:JE X C E Γ Δ m1 S1 a ta fa)(hb:JE X C E Γ Δ m2 S2 b tb fb):JE X C E Γ Δ 2 [] (.BinOp a op b pos) (tOp r ta tb) (Dl.f2 g fa fb):=⟨qe_op ho ha.q hb.q,Zyf hg ha.o hb.o⟩
theorem Zgu (ha:JE X C E Γ Δ m1 S1 a ta fa):JE X C E Γ Δ 2 [] (.UnaryOp .USub a pos) (tUn (rU fun i=>.int (-i)) ta) (Dl.f1 Dl.Zss fa):=⟨qe_un Xpt ha.q,Xpk (fun H x d vx Bx Q r e q=>by
  unfold Dl.Zss at e
  split at e
  · cases e
    obtain ⟨rfl,_⟩:=r
    exact rd_U (Out.flat q rpI)
  · cases e) ha.o⟩
theorem Zgj {op:CmpOp}{r:R2}{g:D→D→Option D}(ho:OpR X (compareOp op) r)(hg:GOk X.K C r g)(ha:JE X C E Γ Δ m1 S1 a ta fa)(hb:JE X C E Γ Δ m2 S2 b tb fb)(hm:behindInMarks op b=false):JE X C E Γ Δ 2 [] (.Compare a [op] [b] pos) (tOp r ta tb) (Dl.f2 g fa fb):=⟨Xlw ho ha.q hb.q hm,Zyf hg ha.o hb.o⟩
theorem Xr {op:CmpOp}{r:R2}{g:D→D→Option D}(ho:OpR X (compareOp op) r)(hg:GOk X.K C r g)(ha:JE X C E Γ Δ m1 S1 a ta fa)(hb:JE X C E Γ Δ m2 S2 b tb fb)(hm:behindInMarks op b=false):JT X C E Γ Δ (.Compare a [op] [b] pos) (Zxi (tOp r ta tb)) (Dl.cE (Dl.f2 g fa fb)):=⟨Xbe ho ha.q hb.q hm,Xfb (Zyf hg ha.o hb.o)⟩
theorem Zys {op:BoolOp}(h:JE X C E Γ Δ m S a ta fa):JE X C E Γ Δ m S (.BoolOp op [a] pos) ta fa:=⟨Xqp h.q,h.o⟩
theorem Zyg (ha:JE X C E Γ Δ m1 S1 a ta fa)(hb:JE X C E Γ Δ m S (.BoolOp .And (b::rest) pos) tb fb):JE X C E Γ Δ m S (.BoolOp .And (a::b::rest) pos) (Xdv ta tb) (Dl.Xcn fa fb):=⟨Xrj ha.q hb.q,Xjz ha.o hb.o⟩
theorem ce_if {tA:TT}{fA:FT}(hc:JT X C E Γ Δ c tA fA)(ha:JE X C E Γ Δ m S a ta fa)(hb:JE X C E Γ Δ m S b tb fb):JE X C E Γ Δ m S (.IfExp c a b pos) (tIf tA ta tb) (Dl.fIf fA fa fb):=⟨Xfl hc.q ha.q hb.q,Xpn hc.o ha.o hb.o⟩
theorem Zeb (h:JE X C E Γ Δ m S e te fe)(he:∀whole,isTrue e X.env whole=(do let v ← whole;standAt e.pos;holding [v] (truthy v)):=by intro _;rfl):JT X C E Γ Δ e (tB te) (Dl.cE fe):=⟨Xrv h.q he,tok_B h.o⟩
theorem Zyo {tA:TT}{fA:FT}(ha:JT X C E Γ Δ a tA fA):JT X C E Γ Δ (.UnaryOp .Not a pos) (tNot tA) (Dl.Xju fA):=⟨Xtf ha.q,Xkz ha.o⟩
theorem Xay {tA:TT}{fA:FT}(ha:JT X C E Γ Δ a tA fA):JW X C E Γ Δ (.BoolOp .And [a] pos) tA fA:=⟨Xnn ha.q,ha.o⟩
theorem Znb {tA:TT}{fA:FT}(ha:JT X C E Γ Δ a tA fA):JW X C E Γ Δ (.BoolOp .Or [a] pos) tA fA:=⟨Xtg ha.q,ha.o⟩
theorem Xag {tA tB':TT}{fA fB:FT}(ha:JT X C E Γ Δ a tA fA)(hb:JW X C E Γ Δ (.BoolOp .And (b::rest) pos) tB' fB):JW X C E Γ Δ (.BoolOp .And (a::b::rest) pos) (tAnd tA tB') (Dl.Xid fA fB):=⟨Xov ha.q hb.q,Xlp ha.o hb.o⟩
theorem Zpf {tA tB':TT}{fA fB:FT}(ha:JT X C E Γ Δ a tA fA)(hb:JW X C E Γ Δ (.BoolOp .Or (b::rest) pos) tB' fB):JW X C E Γ Δ (.BoolOp .Or (a::b::rest) pos) (tOr tA tB') (Dl.cOr fA fB):=⟨qw_or ha.q hb.q,Xqh ha.o hb.o⟩
theorem Xim {tA:TT}{fA:FT}(h:JW X C E Γ Δ a tA fA):JT X C E Γ Δ a tA fA:=⟨qt_w h.q,h.o⟩
theorem Zh:JA X C E Γ Δ 2 [] [] 0 Zvr Dl.Zt:=⟨Zvh,Ztc,Zsi⟩
theorem Zb (ha:JE X C E Γ Δ m1 S1 e te fe)(hr:JA X C E Γ Δ m2 S2 es n t f)(hs:starEach (e::es) X.env=(false,eval e X.env)::starEach es X.env):JA X C E Γ Δ 0 (S1++S2) (e::es) (n+1) (Zhz te t) (Dl.Zd fe f):=⟨Zkp ha.q hr.q hs,Xey ha.o hr.o,Zui hr.n⟩
theorem Zi (ha:JE X C E Γ Δ 2 [] e te fe)(hr:JA X C E Γ Δ 2 [] es n t f)(hs:starEach (e::es) X.env=(false,eval e X.env)::starEach es X.env):JA X C E Γ Δ 2 [] (e::es) (n+1) (Zhz te t) (Dl.Zd fe f):=
 ⟨Zkp ha.q hr.q hs,Xcd (S1:=[]) (S2:=[]) ha.o hr.o (fun _ h=>nomatch h) (fun _ h=>nomatch h),Zui hr.n⟩
theorem Zhe {x1:Nat}(h:JA X C E Γ Δ 2 S es n t f):JE X C E Γ Δ 2 S (.Tuple es x1 pos) (Xte t) (Dl.fA Dl.Zjb f):=⟨Xhj h.q,Xal (.inr rfl) h.o⟩
theorem Xad {x1:Nat}(h:JA X C E Γ Δ 0 S es n t f):JE X C E Γ Δ 0 S (.Tuple es x1 pos) (Xte t) (Dl.fA Dl.Zjb f):=⟨Xhj h.q,Xal (.inl rfl) h.o⟩
theorem Yc (h:JA X C E Γ Δ 2 S es n t f):JE X C E Γ Δ 2 S (.List es pos) (Xoo t) (Dl.fA Dl.Ju f):=⟨Xiv h.q,Xoa h.o⟩
theorem Zfo (h:JA X C E Γ Δ m S es n t f):JE X C E Γ Δ 1 S (.List es pos) (Xoo t) (Dl.fA Dl.Ju f):=⟨Xiv h.q,Xcx h.o⟩
theorem Zs (K:Frag)(ha:JE X C E Γ Δ m1 S1 a ta fa)(hb:JE X C E Γ Δ m2 S2 b tb fb)(hs:Zek b)(hK:X.K=K:=by rfl):JE X C E Γ Δ 0 S1 (.Subscript a b pos) (tOp (rIx K) ta tb) (Dl.f2 Dl.gIx fa fb):=by
 subst hK
 exact ⟨Xfq Zvc ha.q hb.q hs,Xru ha.o hb.o⟩
theorem Zhn:JO X C E Γ Δ none Zoo Dl.Zmb:=⟨Xjp,Xdf⟩
theorem Zeh (h:JE X C E Γ Δ m S e te fe):JO X C E Γ Δ (some e) (Xdj te) (Dl.Zhu fe):=⟨Xnm h.q,Xgw h.o⟩
theorem Zso (K:Frag){lo hi:Option Expr}{tl th:TO}{fl fh:FO}(he:JE X C E Γ Δ m S e te fe)(hl:JO X C E Γ Δ lo tl fl)(hu:JO X C E Γ Δ hi th fh)(hK:X.K=K:=by rfl):JE X C E Γ Δ 2 [] (.Subscript e (.Slice lo hi none p2) pos) (tSl (rSlL K) te tl th) (Dl.fSl Dl.gSl fe fl fh):=by
 subst hK
 exact ⟨Xef Xjw he.q hl.q hu.q,Xrz he.o hl.o hu.o⟩
theorem Xqg (K:Frag)(he:JE X C E Γ Δ m S e te fe)(hst:JE X C E Γ Δ m2 S2 st ts fs)(hK:X.K=K:=by rfl):JE X C E Γ Δ 2 [] (.Subscript e (.Slice none none (some st) p2) pos) (tRev K te ts) (Dl.f2 Dl.Xmq fe fs):=by
 subst hK
 exact ⟨Xpv he.q hst.q,Xjo he.o hst.o⟩
theorem Zy {K:Frag}{CX:CXT}{k:Nat}{ps:List Str}{F:List D→R D}{x:Str}(Df:Def X.prog X.w X.K X.mg X.base CX k x ps (spD K C n mr F))(hr:Zdx k X.A)(hg:Gl X x)(hx:Zbp CX X E)
  (ha:JA X C E Γ Δ m S (e::es) n t f) (hdb:(x==("__debug__":Str))=false:=by decide) (he:starEach (e::es) X.env=(false,eval e X.env)::starEach es X.env:=by rfl) (hpl:(backTo pos (starEach es X.env)).any (·.1)=false:=by rfl) (hK:X.K=K:=by rfl) :
  JE X C E Γ Δ mr [] (.Call (.Name x p) (e::es) [] pos) (Zxl (spD K C n mr F) [] E t) (Dl.Xv F f):=by
 subst hK
 exact ⟨Xgr Df hr hg hx ha.q hdb he hpl,Xeo ha.o ha.n⟩
theorem Xc {x:Str}{id:String}{r:List V→Hp→VK→Prop}{g:List D→Option D}(hc:Zcd X (.builtin id) r)(hgk:GAk X.K C r g)(hg:Gl X x)(hm:X.mg x=none)(hv:bootBuiltins x=some (.builtin id))(ha:JA X C E Γ Δ m S (e::es) n t f)(hn:x≠"__name__":=by decide)(hdb:(x==("__debug__":Str))=false:=by decide)
  (he:starEach (e::es) X.env=(false,eval e X.env)::starEach es X.env:=by rfl) (hpl:(backTo pos (starEach es X.env)).any (·.1)=false:=by rfl):JE X C E Γ Δ 2 [] (.Call (.Name x p) (e::es) [] pos) (tCB r t) (Dl.fA g f):=⟨Xes hc hg hm hv ha.q hn hdb he hpl,Xib hgk ha.o⟩
theorem Zkk {x:Str}{T:String}{r:List V→Hp→VK→Prop}{g:List D→Option D}(hc:Zcd X (.type T) r)(hgk:GAk X.K C r g)(hg:Gl X x)(hm:X.mg x=none)(hv:bootBuiltins x=some (.type T))(ha:JA X C E Γ Δ m S (e::es) n t f)(hn:x≠"__name__":=by decide)(hdb:(x==("__debug__":Str))=false:=by decide)
  (he:starEach (e::es) X.env=(false,eval e X.env)::starEach es X.env:=by rfl) (hpl:(backTo pos (starEach es X.env)).any (·.1)=false:=by rfl):JE X C E Γ Δ 2 [] (.Call (.Name x p) (e::es) [] pos) (tCB r t) (Dl.fA g f):=⟨Zzz hc hg hm hv ha.q hn hdb he hpl,Xib hgk ha.o⟩
theorem Xki (K:Frag)(hg:Gl X "list")(hm:X.mg "list"=none)(hg':Gl X "reversed")(hm':X.mg "reversed"=none)(he:JE X C E Γ Δ m S e te fe)(hs2:starEach [e] X.env=(false,eval e X.env)::starEach [] X.env)(hc:X.calm=true:=by rfl)(hK:X.K=K:=by rfl) :
  JE X C E Γ Δ 2 [] (.Call (.Name "list" p) [.Call (.Name "reversed" p2) [e] [] apos] [] cpos) (Xfy K te) (Dl.f1 Dl.Zyy fe):=by
 subst hK
 exact ⟨Xjk hg hm hg' hm' he.q hs2 hc,Xgu he.o⟩
theorem Zaw (h:JE X C E Γ Δ m S e te fe):JI X C E Γ Δ S tg e (Xff X.K te) (Dl.Zcv fe):=⟨Xjg h.q,Xfc h.o⟩
theorem Zdz (hg:Gl X "range")(hm:X.mg "range"=none)(ha:JA X C E Γ Δ m S [a] n t f)(hs:starEach [a] X.env=[(false,eval a X.env)]:=by rfl):JI X C E Γ Δ [] tg (.Call (.Name "range" p) [a] [] pos) (Xfp t) (Dl.Zjc f):=⟨Xbo hg hm ha.q hs,Xgv ha.o⟩
theorem Zrs (hg:Gl X "range")(hm:X.mg "range"=none)(ha:JA X C E Γ Δ m S [a,b] n t f)(hs:starEach [a,b] X.env=[(false,eval a X.env),(false,eval b X.env)]:=by rfl)(hs2:starEach [b] X.env=[(false,eval b X.env)]:=by rfl):JI X C E Γ Δ [] tg (.Call (.Name "range" p) [a,b] [] pos) (Xcp t) (Dl.Zsr f):=⟨Zyr hg hm ha.q hs hs2,Xhd ha.o⟩
theorem Jo {i:Nat}{x:Str}(h1:i∉Γ:=by decide)(h2:i∉Δ:=by decide)(hN:X.N.Nodup)(hi:X.N[i]?=some x)(hx:Loc X.env.scope x)(hf:autoParam (X.fn x=true∨X.env.scope.names.lookup x=some .local) aT0._auto_1):JG X C Γ Δ (.Name x pos) (Zbn i) (Dl.Xo i):=⟨Znx hN hi hx hf,Xdk h1 h2⟩
theorem Zsl:JIf X C E Γ Δ [] tYes Dl.Xcm:=⟨Xke,Xld⟩
theorem Zlh {tA:TT}{fA:FT}(h:JT X C E Γ Δ c tA fA):JIf X C E Γ Δ [c] tA fA:=⟨Xbm h.q,h.o⟩
structure JB (X:Cx)(C:String→Addr)(n k:Nat)(e:Expr)(t:TG)(f:FB):Prop where
 q:QG X e t
 o:NOk X.K C n k t f
structure JBs (X:Cx)(C:String→Addr)(n k:Nat)(es:List Expr)(l:Nat)(t:TGs)(f:List D→Jw→R Jw):Prop where
 q:QGs X es t
 o:NsOk X.K C n k t f
 n:∀ds ρ ρ',f ds ρ=.ok ρ'→ds.length=l
theorem Zeg {k:Nat}(i:Nat){x:Str}(hN:X.N.Nodup:=by decide +kernel)(hi:X.N[i]?=some x:=by rfl)(hx:Loc X.env.scope x:=by exact .inl rfl)(hf:X.fn x=true∨X.env.scope.names.lookup x=some .local:=by exact .inr rfl)(h1:n≤i:=by decide)(h2:i<n+k:=by decide):JB X C n k (.Name x pos) (Zbn i) (Dl.Xo i):=⟨Znx hN hi hx hf,Xgp i h1 h2⟩
theorem Zng {elt:Expr}{ifs:List Expr}{sc:Scope}{wi:TI}{tc:TT}{gg:TG}{fi:FI}{fc:FT}{fg:FB}(esc:Scope)(N N2 xs:List Str)(B:Xei sc esc xs N N2)(hi:JI X C E Γ Δ S tg iter wi fi)(hg:∀cl C' s0 H0 fp,JB (X.blkN N2 xs sc cl C' s0 H0 fp) C n xs.length tg gg fg)(ht:∀cl C' s0 H0 fp,JIf (X.blkN N2 xs sc cl C' s0 H0 fp) C E0 [] [] ifs tc fc)(he:∀cl C' s0 H0 fp,JE (X.blkN N2 xs sc cl C' s0 H0 fp) C E0 [] [] 2 [] elt te fe)
  (hesc:X.env.scope=esc:=by rfl) (hN:X.N=N:=by rfl) (hc:X.calm=true:=by rfl) (hs:∀v,foldedSetIterable iter X.env v=pure v:=by intro _;rfl):JE X C E Γ Δ 2 [] (.ListComp elt [⟨tg,iter,ifs,0⟩] sc pos) (Zgs xs.length gg wi tc te) (Dl.Zgw n xs.length fi fg fc fe):=
 ⟨Zug esc N N2 xs B hi.q (fun cl C' s0 H0 fp=>(hg cl C' s0 H0 fp).q) (fun cl C' s0 H0 fp=>(ht cl C' s0 H0 fp).q) (fun cl C' s0 H0 fp=>(he cl C' s0 H0 fp).q) hesc hN hc hs,Ztx hi.o (hg [] 0 X.s₀ X.H₀ []).o (ht [] 0 X.s₀ X.H₀ []).o (he [] 0 X.s₀ X.H₀ []).o⟩
variable {s1:Stmt}{ss body other:List Stmt}{u v:TS}{g h:FS}{pos':Pos}
theorem Ye:JSs X C E mr Γl Δl Γ Δ Γ Δ [] Zwa Dl.sNx:=⟨Xbh,Xrn⟩
theorem Zg (Γ1 Δ1:List Nat)(h1:JS X C E mr Γl Δl Γ Δ Γ1 Δ1 s1 u g)(h2:JSs X C E mr Γl Δl Γ1 Δ1 Γ' Δ' ss v h):JSs X C E mr Γl Δl Γ Δ Γ' Δ' (s1::ss) (Xoq u v) (Dl.Xp g h):=⟨Zvu h1.q h2.q,Xkk h1.o h2.o⟩
theorem Zk (h1:JS X C E mr Γl Δl Γ Δ Γ' Δ' s1 u g):JSs X C E mr Γl Δl Γ Δ Γ' Δ' [s1] u g:=⟨Zol h1.q,h1.o⟩
theorem Yy (Γ1 Δ1:List Nat)(h:JSs X C E mr Γl Δl Γ Δ Γ1 Δ1 ss u g)(h1:∀i∈Γ',i∈Γ1:=by decide)(h2:∀i∈Δ',i∈Δ1:=by decide):JSs X C E mr Γl Δl Γ Δ Γ' Δ' ss u g:=⟨h.q,Xfs h.o h1 h2⟩
theorem Znh:JS X C E mr Γl Δl Γ Δ Γ' Δ' s1 Zml Dl.Ziw:=⟨Xdi,Xae⟩
theorem Xj (he:JE X C E Γ Δ 2 S e te fe)(h0:∀p∈S,p.1∈Δ:=by decide):JS X C E 2 Γl Δl Γ Δ Γ' Δ' (.Return (some e) pos) (Xos te) (Dl.Zao fe):=⟨Xhk he.q,Xex he.o h0⟩
theorem Jy {tA:TT}{fA:FT}(hc:JT X C E Γ Δ c tA fA)(ha:JSs X C E mr Γl Δl Γ Δ Γ' Δ' body u g)(hb:JSs X C E mr Γl Δl Γ Δ Γ' Δ' other v h):JS X C E mr Γl Δl Γ Δ Γ' Δ' (.If c body other pos) (Xoj tA u v) (Dl.sIf fA g h):=⟨Xrd hc.q ha.q hb.q,Xpo hc.o ha.o hb.o⟩
theorem Zq {i:Nat}{x:Str}(hN:X.N.Nodup)(hi:X.N[i]?=some x)(hx:Loc X.env.scope x)(he:JE X C E Γ Δ 2 [] e te fe)(hs:swapsWith e (some (.Name x pos')) pos.line X.env=pure false:=by rfl)(hf:autoParam (X.fn x=true∨X.env.scope.names.lookup x=some .local) aT0._auto_1)
  (h1:∀j∈Γ',j=i∨j∈Γ:=by decide) (h2:∀j∈Δ',j=i∨j∈Δ:=by decide):JS X C E mr Γl Δl Γ Δ Γ' Δ' (.Assign [.Name x pos'] e pos) (Zmf te (Zbn i)) (Dl.Yg i fe):=⟨Zua hN hi hx he.q hs hf,Zvn he.o h1 h2⟩
theorem Xnd {i:Nat}{x:Str}(hN:X.N.Nodup)(hi:X.N[i]?=some x)(hx:Loc X.env.scope x)(he:JE X C E Γ Δ 1 S e te fe)(hs:swapsWith e (some (.Name x pos')) pos.line X.env=pure false:=by rfl)(hf:autoParam (X.fn x=true∨X.env.scope.names.lookup x=some .local) aT0._auto_1)
  (h0:∀p∈S,p.1∈Γ:=by decide) (h1:∀j∈Γ',j=i∨(j∈Γ∧(j,false)∉S):=by decide) (h2:∀j∈Δ',j≠i∧j∈Δ∧∀p∈S,p.1≠j:=by decide):JS X C E mr Γl Δl Γ Δ Γ' Δ' (.Assign [.Name x pos'] e pos) (Zmf te (Zbn i)) (Dl.Yg i fe):=⟨Zua hN hi hx he.q hs hf,Xfm he.o h0 h1 h2⟩
theorem Xnc {i:Nat}{x:Str}(hN:X.N.Nodup)(hi:X.N[i]?=some x)(hx:Loc X.env.scope x)(he:JE X C E Γ Δ m S e te fe)(hs:swapsWith e (some (.Name x pos')) pos.line X.env=pure false:=by rfl)(hf:autoParam (X.fn x=true∨X.env.scope.names.lookup x=some .local) aT0._auto_1)
  (h1:∀j∈Γ',j≠i∧j∈Γ∧(j,false)∉S:=by decide) (h2:∀j∈Δ',j≠i∧j∈Δ∧∀p∈S,p.1≠j:=by decide):JS X C E mr Γl Δl Γ Δ Γ' Δ' (.Assign [.Name x pos'] e pos) (Zmf te (Zbn i)) (Dl.Yg i fe):=⟨Zua hN hi hx he.q hs hf,Xfx he.o h1 h2⟩
theorem Znf {elt:Expr}{y:Str}{py spos:Pos}{ifs:List Expr}{sc:Scope}{wi:TI}{tc:TT}{gg:TG}{fi:FI}{fc:FT}{fg:FB}{i:Nat}(esc:Scope)(N N2 xs:List Str)(B:Xei sc esc xs N N2)(hy:N[i]?=some y)(hl:esc.names.lookup y=some .local)(hi:JI X C E Γ Δ S tg iter wi fi)(hg:∀cl C' s0 H0 fp,JB (X.blkN N2 xs sc cl C' s0 H0 fp) C n xs.length tg gg fg)(ht:∀cl C' s0 H0 fp,JIf (X.blkN N2 xs sc cl C' s0 H0 fp) C E0 [] [] ifs tc fc)(he:∀cl C' s0 H0 fp,JE (X.blkN N2 xs sc cl C' s0 H0 fp) C E0 [] [] 2 [] elt te fe)
  (hesc:X.env.scope=esc:=by rfl) (hN:X.N=N:=by rfl) (hc:X.calm=true:=by rfl) (hsw:swapsWith (.ListComp elt [⟨tg,iter,ifs,0⟩] sc pos) (some (.Name y py)) spos.line X.env=pure true:=by rfl) (hs:∀v,foldedSetIterable iter X.env v=pure v:=by intro _;rfl)
  (h1:∀j∈Γ',j=i∨j∈Γ:=by decide) (h2:∀j∈Δ',j=i∨j∈Δ:=by decide):JS X C E mr Γl Δl Γ Δ Γ' Δ' (.Assign [.Name y py] (.ListComp elt [⟨tg,iter,ifs,0⟩] sc pos) spos) (Zmf (Zgs xs.length gg wi tc te) (Zbn i)) (Dl.Yg i (Dl.Zgw n xs.length fi fg fc fe)):=
 ⟨Xdy esc N N2 xs B hy hl hi.q (fun cl C' s0 H0 fp=>(hg cl C' s0 H0 fp).q) (fun cl C' s0 H0 fp=>(ht cl C' s0 H0 fp).q) (fun cl C' s0 H0 fp=>(he cl C' s0 H0 fp).q) hesc hN hc hsw hs,Zvn (Ztx hi.o (hg [] 0 X.s₀ X.H₀ []).o (ht [] 0 X.s₀ X.H₀ []).o (he [] 0 X.s₀ X.H₀ []).o) h1 h2⟩
theorem Zco {i:Nat}{x:Str}(hi:i∈Γ:=by decide)(hN:X.N[i]?=some x:=by rfl)(hv:autoParam (Vis X.env.scope x) aT3._auto_1)(hd:(x==("__debug__":Str))=false:=by decide)(hcd:(x==("__classdict__":Str))=false:=by decide)
  (he:JE X C E Γ Δ 2 [] e te fe) (hse:starEach [e] X.env=(false,eval e X.env)::starEach [] X.env)
  (hbase:attributeBase (.Name x p) "append" X.env (eval (.Name x p) X.env)=eval (.Name x p) X.env:=by rfl)
  (hfew:((backTo cpos (starEach [e] X.env)).all (fun x=>!x.1)&&(backToKw cpos (keywordEach [] X.env)).all (fun x=>x.1.isSome)&&decide (([e]:List Expr).length+([]:List Keyword).length+(if ([]:List Keyword).isEmpty then 0 else 1)<30))=true:=by rfl)
  (hline:(apos.endLine==cpos.line)=true:=by rfl) (hplain:(backTo cpos (starEach ([]:List Expr) X.env)).any (·.1)=false:=by rfl) (hsw:swapsWith (.Call (.Attribute (.Name x p) "append" apos) [e] [] cpos) none pos.line X.env=pure false:=by rfl) :
  JS X C E mr Γl Δl Γ Δ Γ Δ (.Expr (.Call (.Attribute (.Name x p) "append" apos) [e] [] cpos) pos) (Zja (tBM X.K "list" Zef (Zdb i) (Zhz te Zvr))) (Dl.Zmh i fe):=
 ⟨Zlj (Xjh PySem.F.plainAttrs_list PySem.F.slot_list_append PySem.F.type_list_append Zlm (qv i hN hv hd hcd) (Zkp he.q Zvh hse) hbase hfew hline hse hplain) hsw,Xgi hi he.o⟩
theorem Zbg {wi:TI}{tt:TG}{fi:FI}{fb:FB}(Γl Δl:List Nat)(hp:PassesOwn (model X.prog X.w) X.A X.env X.xe)(hc:X.calm=true)(hi:JI X C E Γ Δ S tg iter wi fi)(hg:JG X C Γl Δl tg tt fb)(hb:JSs X C E mr Γl Δl Γl Δl Γl Δl body u g)(hs:∀x,foldedSetIterable iter X.env x=pure x:=by intro _;rfl)
  (h1:∀i∈Γl,i∈Γ:=by decide) (h2:∀i∈Δl,i∈Δ:=by decide) (h3:∀p∈S,p.1∉Γl∧p.1∉Δl:=by decide):JS X C E mr Γk Δk Γ Δ Γl Δl (.For tg iter body [] pos) (tFor wi tt u) (Dl.Zlt fi fb g):=⟨Xrr hp hc hi.q hg.q hb.q hs,Xod hi.o hg.o hb.o h1 h2 h3⟩
theorem Zgy {tA:TT}{fA:FT}(k:Nat)(hp:PassesOwn (model X.prog X.w) X.A X.env X.xe)(hc:JT X C E Γ Δ c tA fA)(hb:JSs X C E mr Γ Δ Γ Δ Γ Δ body u g):JS X C E mr Γk Δk Γ Δ Γ Δ (.While c body [] pos) (Zts tA u) (Dl.Zir k fA g):=⟨Xfv hp hc.q hb.q,Zzm hc.o hb.o⟩
end
theorem Fun.okC {P:Program}{w:World}{K:Frag}{C:String→Addr}{mg:Str→Option Value}{base:Heap}{x qual:Str}{st:Stmt}{f:Addr}{fd:FuncData}{N ps:List Str}{k n mr:Nat}{Γ' Δ':List Nat}{g:FS}(F:Fun K x qual st f fd)(S:Zv N ps (Zm st))(hn:ps.length=n)
    (hbody:∀(cdv:Value) (A:Around) (outer:List Env) (s:Shared) (H:Hp) (E:XK),Zdx k (A.deeper (envOfC qual (Zm st) s.heap.objs.size f cdv))→
      ∃t,JSs (Xek CX0 P w K mg base N qual (Zm st) f cdv A outer s H E).nox C E0 mr [] [] [] [] Γ' Δ' (Zbl st) t g):Jx P w K mg base CX0 (k+1) f fd ps (spD K C n mr fun ds=>(Dl.run N.length g ds).calm):=
  F.okQ S (fun vs H Q E h=>by
    obtain ⟨ds,B,h1,h2,_⟩:=h
    rw [h2.len,h1,hn]) fun cdv A outer s H vs Q E hr h=>by
    obtain ⟨ds,B,h1,h2,h3⟩:=h
    obtain ⟨t,ht⟩:=hbody cdv A outer s H E hr
    exact ⟨t,ht.q,Xhb (K:=K) ht.o h2 (Xz.imp (Zfn h3) (fun _ q=>q) fun _ _ z=>z.elim)⟩
section
variable {K:Frag}{C:String→Addr}{E:XK}{Γ Δ Γ' Δ' Γ1 Δ1 Γl Δl Γk Δk:List Nat}{m m1 m2 m3 mr:Nat}{S S1 S2 S3:List (Nat×Bool)}{H:Hp}{Q:VK}
theorem Xno {i:Nat}{f:Int→Int→Int}{g:D→D→Option D}(hg:∀x y d,g x y=some d→∃i j,x=.int i∧y=.int j∧d=.int (f i j)){te:TE}{fe:FE}(he:EOk K C E Γ Δ m S te fe)(h1:∀j∈Γ',j=i∨j∈Γ:=by decide)(h2:∀j∈Δ',j=i∨j∈Δ:=by decide) :
  SOk K C E mr Γl Δl Γ Δ Γ' Δ' (tAug i te (ipI f)) (Dl.Xiq i g fe):=fun H0 Hb H σ ρ A D I p=>by
 unfold Dl.Xiq at p
 split at p
 ·rename_i x e
  obtain ⟨v,e1,r⟩:=I.rep i x e
  refine ⟨v,e1,he H0 Hb H σ ρ A _ I (Xz.imp (Xz.bind p) (fun y q w H1 g1 r1=>?_) fun c x q H' g'=>q H' (Xx.from0 I g'))⟩
  obtain ⟨z,ez,q⟩:=Zgq (Xz.bind q)
  obtain ⟨B,r1,_⟩:=r1
  obtain ⟨k,l,rfl,rfl,rfl⟩:=hg x y z ez
  obtain ⟨rfl,_⟩:=r
  obtain ⟨rfl,_⟩:=r1
  obtain ⟨A',I',_⟩:=(I.mono g1).put (Γ':=Γ') (Δ':=Δ') (i:=i) (d:=.int (f k l)) (v:=.int (f k l)) (B:=[]) rpI (fun j hj e=>⟨(h1 j hj).elim (fun z=>absurd z e) id,fun _ _ _ z=>nomatch z⟩)
   (fun _=>⟨(fun _ z=>nomatch z),(fun _ _ z=>nomatch z)⟩) (fun j hj e=>⟨(h2 j hj).elim (fun z=>absurd z e) id,fun _ _ z=>nomatch z⟩) (fun _=>⟨nodup_nil,(fun _ _ _ z=>nomatch z),(fun _ z=>nomatch z)⟩)
  exact ⟨k,l,rfl,rfl,q _ H1 A' I'⟩
 ·exact p.elim
theorem Xbu:∀x y d,Dl.Zdy x y=some d→∃i j,x=.int i∧y=.int j∧d=.int (i - j):=fun x y d e=>by unfold Dl.Zdy at e;split at e<;>cases e;exact ⟨_,_,rfl,rfl,rfl⟩
theorem Xd.rewrite {H0 Hb H H1:Hp}{σ:St}{ρ:Jw}{A:Nat→List Addr}{i:Nat}{a:Addr}{l B':List Addr}{es:List D}{ys:List V}(I:Xd K C H0 Hb H Γ Δ σ ρ A)(g1:Xx H H1)(hi:i∈Γ)(hA:A i=a::l)(hl:i<ρ.length)(s1:σ[i]?=some (some (.ref a)))(r:RpA K C H1 es ys B')
    (hB:∀b∈B',b∈l∨H b=none) (hD:i∈Δ→B'.Nodup):∃A',Xd K C H0 Hb (upd H1 a (.lst ys)) Γ Δ σ (ρ.set i (some (.lst es))) A':=by
  obtain ⟨tb,ta,tt⟩:=I.top i hi a l hA
  have ha:a∈A i:=by rw [hA];exact .head _
  have w1:∀b∈B',H0 b=none:=fun b hb=>(hB b hb).elim (fun z=>I.loc i hi b (by rw [hA];exact .tail _ z)) fun z=>I.s0.free (I.same.free z)
  have w0:a∉B':=fun z=>(hB a z).elim ta fun z=>I.ne ha z
  have w2:∀j∈Γ,j≠i→j∈Γ∧∀b l',A j=b::l'→b∉B':=fun j hj e=>⟨hj,fun b l' e' z=>(hB b z).elim
    (fun z=>(I.top j hj b l' e').2.2 i (fun w=>e w.symm) (by rw [hA];exact .tail _ z)) fun z=>I.ne (j:=j) (by rw [e'];exact .head _) z⟩
  have w3:∀j∈Δ,j≠i→j∈Δ∧∀b∈A j,b∉B':=fun j hj e=>⟨hj,fun b hb z=>(hB b z).elim
    (fun z=>(I.deep j hj).2.1 i (fun w=>e w.symm) b hb (by rw [hA];exact .tail _ z)) fun z=>I.ne hb z⟩
  have w4:i∈Δ→B'.Nodup∧(∀j,j≠i→∀b∈B',b∉A j)∧∀b∈B',Hb b=none:=fun hd=>by
    obtain ⟨d1,d2,d3⟩:=I.deep i hd
    rw [hA] at d2 d3
    exact ⟨hD hd,fun j hj b hb=>(hB b hb).elim (fun z=>d2 j hj b (.tail _ z)) fun z w=>I.ne w z,fun b hb=>(hB b hb).elim (fun z=>d3 b (.tail _ z)) fun z=>I.same.free z⟩
  exact (I.mono g1).write (Γ':=Γ) (Δ':=Δ) hi hA hl s1 r w1 w0 w2 w3 w4
theorem RpA.set:∀{ds:List D} {vs:List V} {A:List Addr} {j:Nat} {d:D} {v:V},RpA K C H ds vs A→Rp K C H d v []→Dl.Xy ds=true→RpA K C H (ds.set j d) (vs.set j v) []
 | [],_,_,_,_,_,r,_,_=>by rw [r.1];exact RpA.nil
 | x::ds,_,_,0,d,v,r,q,h=>by
  obtain ⟨y,l,B,B',e1,e2,e3,e4⟩:=r
  simp only [Dl.Xy,Bool.and_eq_true] at h
  subst e1
  exact ⟨v,l,[],[],rfl,q,e3.flat' h.2,rfl⟩
 | x::ds,_,_,j+1,d,v,r,q,h=>by
  obtain ⟨y,l,B,B',e1,e2,e3,e4⟩:=r
  simp only [Dl.Xy,Bool.and_eq_true] at h
  subst e1
  have z:=e2.flat h.1
  subst z
  exact ⟨y,_,[],[],rfl,e2,RpA.set e3 q h.2,rfl⟩
theorem Xmv {i:Nat}{te tk:TE}{fe fk:FE}(hi:i∈Γ:=by decide)(he:EOk K C E Γ Δ m1 S1 te fe)(hk:EOk K C E Γ Δ m2 S2 tk fk):SOk K C E mr Γl Δl Γ Δ Γ Δ (Zmf te (Zdy (Zdb i) tk Xlq)) (Dl.Xsz i fk fe):=fun H0 Hb H σ ρ A D I p=>by
 refine he H0 Hb H σ ρ A _ I (Xz.imp (Xz.bind p) (fun d q v H1 g1 r=>?_) fun c x q H' g'=>q H' (Xx.from0 I g'))
 have I1:=I.mono g1
 split at q
 ·rename_i ds e
  obtain ⟨a,xs,l,s1,h1,r1,hA,hl⟩:=Zvd I1 e
  refine ⟨.ref a,s1,hk H0 Hb H1 σ ρ A _ I1 (Xz.imp (Xz.bind q) (fun z q w H2 g2 rz=>?_) fun c x q H' g'=>q H' (Xx.from0 I1 g'))⟩
  obtain ⟨Bz,rz,_⟩:=rz
  obtain ⟨B,rd,_⟩:=r
  cases z with
  | int n =>
   obtain ⟨rfl,_⟩:=rz
   simp only at q
   split at q
   ·rename_i hf
    split at q
    ·rename_i j ej
     have zB:=rd.flat hf.1
     subst zB
     obtain ⟨A',I'⟩:=I1.rewrite g2 hi hA hl s1 (RpA.set (j:=j) (r1.same g2) (rd.same g2) hf.2) (fun _ hb=>nomatch hb) fun _=>nodup_nil
     exact ⟨a,xs,n,j,rfl,rfl,g2 _ _ h1,by rw [r1.len];exact ej,q _ _ A' I'⟩
    ·exact q.elim
   ·exact q.elim
  | _=>exact q.elim
 ·exact q.elim
def BsN (K:Frag)(C:String→Addr)(Γ Δ Γ' Δ':List Nat)(g:TGs)(b:List D→Jw→R Jw):Prop:=∀(H0 Hb H:Hp) (σ:St) (ρ:Jw) (A:Nat→List Addr) (d:List D) (v:List V) (B:List Addr) (Rr:St→Hp→Prop),Xd K C H0 Hb H Γ Δ σ ρ A→RpA K C H d v B→B.Nodup→(∀a∈B,Hb a=none∧∀j,a∉A j)→
 Xz (b d ρ) (fun ρ'=>∀σ' A',Xd K C H0 Hb H Γ' Δ' σ' ρ' A'→Rr σ' H) (fun _ _=>False)→g v σ H Rr
theorem Xlg (h1:∀i∈Γ',i∈Γ)(h2:∀i∈Δ',i∈Δ):BsN K C Γ Δ Γ' Δ' gNil Dl.Xit:=fun H0 Hb H σ ρ A d v B Rr I r _ _ p=>by
 cases d with
 | nil=>exact ⟨r.1,p _ A (I.weak h1 h2)⟩
 | cons _ _=>exact p.elim
theorem Xgm {i:Nat}{gs:TGs}{bs:List D→Jw→R Jw}(h2:BsN K C (i::Γ) (i::Δ) Γ' Δ' gs bs):BsN K C Γ Δ Γ' Δ' (Xco (Zbn i) gs) (Dl.Ziz (Dl.Xo i) bs):=fun H0 Hb H σ ρ A d v B Rr I r nd hB p=>by
  cases d with
  | nil=>exact p.elim
  | cons d ds =>
    obtain ⟨x,l,B1,B2,e1,e2,e3,e4⟩:=r
    subst e1 e4
    obtain ⟨n1,n2,n3⟩:=List.nodup_append.mp nd
    have hB1:∀a∈B1,Hb a=none∧∀j,a∉A j:=fun a ha=>hB a (mem_append_left _ ha)
    obtain ⟨A',I',hA'⟩:=I.put (Γ':=i::Γ) (Δ':=i::Δ) (i:=i) e2
      (fun j hj e=>⟨(List.mem_cons.mp hj).elim (fun z=>absurd z e) id,fun a l' e' ha=>(hB1 a ha).2 j (by rw [e'];exact .head _)⟩)
      (fun _=>⟨fun a ha=>I.s0.free (hB1 a ha).1,fun a l' e=>by
        subst e
        exact ⟨(hB1 a (.head _)).1,(List.nodup_cons.mp n1).1,fun j _=>(hB1 a (.head _)).2 j⟩⟩)
      (fun j hj e=>⟨(List.mem_cons.mp hj).elim (fun z=>absurd z e) id,fun a ha hb=>(hB1 a hb).2 j ha⟩)
      (fun _=>⟨n1,fun j _ a ha=>(hB1 a ha).2 j,fun a ha=>(hB1 a ha).1⟩)
    exact ⟨x,l,rfl,h2 H0 Hb H _ _ A' ds l B2 Rr I' e3 n2 (fun a ha=>⟨(hB a (mem_append_right _ ha)).1,fun j h=>(hA' j a h).elim (fun z=>n3 a z a ha rfl) fun z=>(hB a (mem_append_right _ ha)).2 j z⟩) p⟩
theorem Zxf {te:TE}{gs:TGs}{fe:FE}{bs:List D→Jw→R Jw}{n:Nat}(hn:∀ds ρ ρ',bs ds ρ=.ok ρ'→ds.length=n)(he:EOk K C E Γ Δ 2 [] te fe)(hb:BsN K C Γ Δ Γ' Δ' gs bs):SOk K C E mr Γl Δl Γ Δ Γ' Δ' (Zmf te (Zjb K n gs)) (Dl.Xix fe (Dl.Xll bs)):=fun H0 Hb H σ ρ A D I p=>by
 refine he H0 Hb H σ ρ A _ I (Xz.imp (Xz.bind p) (fun d q v H1 g1 r=>?_) fun c x q H' g'=>q H' (Xx.from0 I g'))
 obtain ⟨B,r1,r2,_,r4⟩:=r
 have hn':∀a∈B,H a=none:=fun a ha=>(r2 a ha).elim id fun z=>z.none.elim
 have q':=Zfn (Xz.bind q)
 cases d with
 | tup ds =>
  obtain ⟨a,xs,rfl,e2,e3⟩:=r1
  have q'':Xz (bs ds ρ) (fun ρ'=>∀σ' H' A',Xd K C H0 Hb H' Γ' Δ' σ' ρ' A'→D.nx σ' H') (fun _ _=>False):=q'
  have hl:xs.length=n:=by
   rw [e3.len]
   cases e:bs ds ρ with
   | ok ρ'=>exact hn ds ρ ρ' e
   | err _ _=>rw [e] at q'';exact q''.elim
   | bad=>rw [e] at q'';exact q''.elim
  exact ⟨a,xs,rfl,SqT.of e2,hl,hb H0 Hb H1 σ ρ A ds xs B D.nx (I.mono g1) e3 (r4 rfl) (fun a ha=>⟨I.same.free (hn' a ha),fun j z=>I.ne z (hn' a ha)⟩) (Xz.imp q'' (fun ρ' q σ' A' I'=>q σ' H1 A' I') fun _ _ z=>z)⟩
 | _=>exact q'.elim
end
section
variable {X:Cx}{C:String→Addr}{E:XK}{Γ Δ Γ' Δ' Γ1 Δ1 Γl Δl Γk Δk:List Nat}{m m1 m2 m3 mr:Nat}{S S1 S2 S3:List (Nat×Bool)}{a b c e st o tg iter:Expr}{es rest:List Expr}{ta tb tc te ts:TE}{fa fb fc fe fs:FE}{t:TA}{f:FA}{pos p p2 apos cpos pos':Pos}{n:Nat}
theorem Xho {i:Nat}{x:Str}{op:Operator}{ff:Int→Int→Int}{g:D→D→Option D}(hg:∀x y d,g x y=some d→∃i j,x=.int i∧y=.int j∧d=.int (ff i j))(ho:PIp X op (ipI ff))(hN:X.N.Nodup)(hi:X.N[i]?=some x)(hx:Loc X.env.scope x)(he:JE X C E Γ Δ m S e te fe)
  (hf:autoParam (X.fn x=true∨X.env.scope.names.lookup x=some .local) aT0._auto_1) (h1:∀j∈Γ',j=i∨j∈Γ:=by decide) (h2:∀j∈Δ',j=i∨j∈Δ:=by decide):JS X C E mr Γl Δl Γ Δ Γ' Δ' (.AugAssign (.Name x pos') op e pos) (tAug i te (ipI ff)) (Dl.Xiq i g fe):=⟨Xqe hN hi hx he.q ho hf,Xno hg he.o h1 h2⟩
theorem Xtw {i:Nat}{x:Str}{kx:Expr}{tk:TE}{fk:FE}(hi:i∈Γ:=by decide)(hN:X.N[i]?=some x:=by rfl)(hv:autoParam (Vis X.env.scope x) aT3._auto_1)(hd:(x==("__debug__":Str))=false:=by decide)(hcd:(x==("__classdict__":Str))=false:=by decide)
    (he:JE X C E Γ Δ m1 S1 e te fe) (hk:JE X C E Γ Δ m2 S2 kx tk fk) (hs:swapsWithSole [.Subscript (.Name x p) kx p2] e pos.line X.env=pure false:=by rfl) (hw:swappedStores [.Subscript (.Name x p) kx p2] e X.env=pure none:=by rfl) (h1:(assignEach [.Subscript (.Name x p) kx p2] X.env).map (·.2)=[assign (.Subscript (.Name x p) kx p2) X.env]:=by rfl)
    (hq:∀v,assign (.Subscript (.Name x p) kx p2) X.env v=(do
      let ov ← holding [v] (eval (.Name x p) X.env)
      let iv ← holding [v,ov] (eval kx X.env)
      standAt p2
      holding [v,ov,iv] (setItem ov iv v)
      release [v,ov,iv] []):=by intro _;rfl) :
    JS X C E mr Γl Δl Γ Δ Γ Δ (.Assign [.Subscript (.Name x p) kx p2] e pos) (Zmf te (Zdy (Zdb i) tk Xlq)) (Dl.Xsz i fk fe):=⟨Zzc he.q (Xij (qv i hN hv hd hcd) hk.q set_list hq) hs hw h1,Xmv hi he.o hk.o⟩
structure JN (X:Cx)(C:String→Addr)(Γ Δ Γ' Δ':List Nat)(es:List Expr)(n:Nat)(t:TGs)(f:List D→Jw→R Jw):Prop where
 q:QGs X es t
 o:BsN X.K C Γ Δ Γ' Δ' t f
 n:∀ds ρ ρ',f ds ρ=.ok ρ'→ds.length=n
theorem Xbw (h1:∀i∈Γ',i∈Γ:=by decide)(h2:∀i∈Δ',i∈Δ:=by decide):JN X C Γ Δ Γ' Δ' [] 0 gNil Dl.Xit:=⟨Xnw,Xlg h1 h2,Xpa⟩
theorem Zhi {i:Nat}{x:Str}{u:TGs}{fu:List D→Jw→R Jw}(hN:X.N.Nodup)(hi:X.N[i]?=some x)(hx:Loc X.env.scope x)(h2:JN X C (i::Γ) (i::Δ) Γ' Δ' es n u fu)(hf:autoParam (X.fn x=true∨X.env.scope.names.lookup x=some .local) aT0._auto_1)
  (hs:(assignEach (.Name x p::es) X.env).map (·.2)=assign (.Name x p) X.env::(assignEach es X.env).map (·.2):=by rfl):JN X C Γ Δ Γ' Δ' (.Name x p::es) (n+1) (Xco (Zbn i) u) (Dl.Ziz (Dl.Xo i) fu):=⟨Xgn (Znx hN hi hx hf) h2.q hs,Xgm h2.o,Xnq h2.n⟩
theorem Zks {k:Nat}{u:TGs}{fu:List D→Jw→R Jw}(hc:X.calm=true)(he:JE X C E Γ Δ 2 [] e te fe)(hb:JN X C Γ Δ Γ' Δ' es n u fu)(hn:(assignEach es X.env).length=n:=by rfl)(hst:(assignEach es X.env).findIdx? (·.1)=none:=by rfl)
  (hs:swapsWithSole [.Tuple es k p] e pos.line X.env=pure false:=by rfl) (hw:swappedStores [.Tuple es k p] e X.env=pure none:=by rfl) (h1:(assignEach [.Tuple es k p] X.env).map (·.2)=[assign (.Tuple es k p) X.env]:=by rfl) :
  JS X C E mr Γl Δl Γ Δ Γ' Δ' (.Assign [.Tuple es k p] e pos) (Zmf te (Zjb X.K n u)) (Dl.Xix fe (Dl.Xll fu)):=⟨Zzc he.q (Xtq hc hb.q hn hst) hs hw h1,Zxf hb.n he.o hb.o⟩
theorem Xlt {x:Str}{i:Int}{u:Value}(hg:Gl X x)(hm:X.mg x=some u)(r:RelV (.int i) u)(hd:(x==("__debug__":Str))=false:=by decide):JE X C E Γ Δ 2 [] (.Name x pos) (tC (.int i)) (Dl.fC (.int i)):=⟨Xml hg hm r hd,Zzo fun _=>rpI⟩
end
section
variable {K:Frag}{C:String→Addr}{E:XK}{Γ Δ Γ' Δ' Γ1 Δ1 Γl Δl Γk Δk:List Nat}{m m1 m2 m3 mr:Nat}{S S1 S2 S3:List (Nat×Bool)}{H:Hp}{Q:VK}
end
section
variable {X:Cx}{C:String→Addr}{E:XK}{Γ Δ Γ' Δ' Γ1 Δ1 Γl Δl Γk Δk:List Nat}{m m1 m2 m3 mr:Nat}{S S1 S2 S3:List (Nat×Bool)}{a b c e st o tg iter:Expr}{es rest:List Expr}{ta tb tc te ts:TE}{fa fb fc fe fs:FE}{t:TA}{f:FA}{pos p p2 apos cpos pos':Pos}{n:Nat}
end
section
variable {K:Frag}{C:String→Addr}{E:XK}{Γ Δ Γ' Δ' Γ1 Δ1 Γl Δl Γk Δk:List Nat}{m m1 m2 m3 mr:Nat}{S S1 S2 S3:List (Nat×Bool)}{H:Hp}{Q:VK}
def JOk (K:Frag)(C:String→Addr)(E:XK)(Γ Δ:List Nat)(t:TJ)(f:FA):Prop:=∀(H0 Hb H:Hp) (σ:St) (ρ:Jw) (A:Nat→List Addr) (Q:Hp→Prop),Xd K C H0 Hb H Γ Δ σ ρ A→
 Xz (f ρ) (fun _=>∀H',Xx H H'→Q H') (fun c x=>∀H',Xx H H'→EC C E c x H')→t σ H Q
end
section
variable {X:Cx}{C:String→Addr}{E:XK}{Γ Δ Γ' Δ' Γ1 Δ1 Γl Δl Γk Δk:List Nat}{m n mr:Nat}{S:List (Nat×Bool)}{e:Expr}{es:List Expr}{t:TA}{f:FA}{np cpos pos hpos:Pos}
end
section
variable {K:Frag}{C:String→Addr}{E:XK}{Γ Δ Γ' Δ' Γ1 Δ1 Γl Δl Γk Δk:List Nat}{m m1 m2 m3 mr:Nat}{S S1 S2 S3:List (Nat×Bool)}{H:Hp}{Q:VK}
end
section
variable {X:Cx}{C:String→Addr}{E:XK}{Γ Δ Γ' Δ' Γ1 Δ1 Γl Δl Γk Δk:List Nat}{m m1 m2 m3 mr:Nat}{S S1 S2 S3:List (Nat×Bool)}{a b c e st o tg iter:Expr}{es rest:List Expr}{ta tb tc te ts:TE}{fa fb fc fe fs:FE}{t:TA}{f:FA}{pos p p2 apos cpos pos':Pos}{n:Nat}{body:List Stmt}{u:TS}{g:FS}
end
structure ClsIn (K:Frag)(C:Addr):Prop where
 ty:typeIn K (.ref C)=some (.type "type")
 cl:∃c,clsIn K C=some c
 se:subIn K (.ref C) (.ref C)=some true
section
variable {K:Frag}{C:String→Addr}{E:XK}{Γ Δ Γ' Δ' Γ1 Δ1 Γl Δl Γk Δk:List Nat}{m m1 m2 m3 mr:Nat}{S S1 S2 S3:List (Nat×Bool)}{H:Hp}{Q:VK}
end
structure JJ (X:Cx)(C:String→Addr)(E:XK)(Γ Δ:List Nat)(es:List Expr)(t:TJ)(f:FA):Prop where
 q:QJ X es t
 o:JOk X.K C E Γ Δ t f
section
variable {X:Cx}{C:String→Addr}{E:XK}{Γ Δ Γ' Δ' Γ1 Δ1 Γl Δl Γk Δk:List Nat}{m m1 m2 m3 mr:Nat}{S S1 S2 S3:List (Nat×Bool)}{a b c e st o tg iter:Expr}{es rest:List Expr}{ta tb tc te ts:TE}{fa fb fc fe fs:FE}{t:TA}{f:FA}{pos p p2 apos cpos pos' np jp:Pos}{n:Nat}{body:List Stmt}{s:Stmt}{u:TS}{g:FS}{tj:TJ}
end
section
variable {K:Frag}{C:String→Addr}{E:XK}{Γ Δ Γ' Δ' Γ1 Δ1 Γl Δl Γk Δk:List Nat}{m m1 m2 m3 mr:Nat}{S S1 S2 S3:List (Nat×Bool)}{H:Hp}{Q:VK}
end
section
variable {X:Cx}{C:String→Addr}{E:XK}{Γ Δ Γ' Δ' Γ1 Δ1 Γl Δl Γk Δk:List Nat}{m m1 m2 m3 mr:Nat}{S S1 S2 S3:List (Nat×Bool)}{a b c e st o tg iter:Expr}{es rest:List Expr}{ta tb tc te ts:TE}{fa fb fc fe fs:FE}{t:TA}{f:FA}{pos p p2 apos cpos pos' np jp:Pos}{n:Nat}{tj:TJ}
end
section
variable {K:Frag}{C:String→Addr}{E:XK}{Γ Δ Γ' Δ' Γ1 Δ1 Γl Δl Γk Δk:List Nat}{m m1 m2 m3 mr:Nat}{S S1 S2 S3:List (Nat×Bool)}{H:Hp}{Q:VK}
end
section
variable {X:Cx}{C:String→Addr}{E:XK}{Γ Δ:List Nat}{m:Nat}{S:List (Nat×Bool)}{e:Expr}{es:List Expr}{te:TE}{fe:FE}{f:FA}{pos:Pos}{tj:TJ}
end
section
variable {K:Frag}{C:String→Addr}{E:XK}{Γ Δ Γ' Δ' Γ1 Δ1 Γl Δl Γk Δk:List Nat}{m m1 m2 m3 mr:Nat}{S S1 S2 S3:List (Nat×Bool)}{H:Hp}{Q:VK}
end
section
variable {X:Cx}{C:String→Addr}{E:XK}{Γ Δ Γ' Δ' Γ1 Δ1 Γl Δl Γk Δk:List Nat}{mr:Nat}{np pos hpos:Pos}
end
section
variable {K:Frag}{C:String→Addr}{E:XK}{Γ Δ Γ' Δ' Γ1 Δ1 Γl Δl Γk Δk:List Nat}{m m1 m2 m3 mr:Nat}{S S1 S2 S3:List (Nat×Bool)}{H:Hp}{Q:VK}
end
section
variable {X:Cx}{C:String→Addr}{E:XK}{Γ Δ Γ' Δ' Γ1 Δ1 Γl Δl Γk Δk:List Nat}{m m1 m2 m3 mr:Nat}{S S1 S2 S3:List (Nat×Bool)}{a b c e st o tg iter:Expr}{es rest:List Expr}{ta tb tc te ts:TE}{fa fb fc fe fs:FE}{pos p p2 apos cpos pos':Pos}
variable {pins:List (Addr×Obj)}{σ:St}{H:Hp}{s:Shared}{h':Heap}
end
section
variable {X:Cx}{a b e:Expr}{ta tb te:TE}{elts:List Expr}{x1:Nat}{tpos p pos:Pos}{tg:Expr}
variable {K:Frag}{C:String→Addr}{E:XK}{Γ Δ Γ' Δ':List Nat}{m m1 m2:Nat}{S S1 S2:List (Nat×Bool)}{H:Hp}
end
section
variable {X:Cx}{C:String→Addr}{E:XK}{Γ Δ Γ' Δ':List Nat}{m m1 m2:Nat}{S S1 S2:List (Nat×Bool)}{a b e:Expr}{ta tb te:TE}{fa fb fe:FE}{elts:List Expr}{x1:Nat}{tpos p pos:Pos}{tg:Expr}
end
section
variable {K:Frag}{C:String→Addr}{E:XK}{Γ Δ Γ' Δ' Γ1 Δ1 Γl Δl Γk Δk:List Nat}{m m1 m2 m3 mr:Nat}{S S1 S2 S3:List (Nat×Bool)}{H:Hp}{Q:VK}
variable {X:Cx}{kx e:Expr}{tk te:TE}{p p2 pos:Pos}{x:Str}{i:Nat}
end
section
variable {X:Cx}{C:String→Addr}{E:XK}{Γ Δ Γ' Δ' Γ1 Δ1 Γl Δl Γk Δk:List Nat}{m m1 m2 m3 mr:Nat}{S S1 S2 S3:List (Nat×Bool)}{a b c e st o tg iter:Expr}{es rest:List Expr}{ta tb tc te ts tk:TE}{fa fb fc fe fs fk:FE}{t:TA}{f:FA}{pos p p2 apos cpos pos' bpos:Pos}{n:Nat}
end
section
variable {X:Cx}{e:Expr}{te:TE}{p pos cp kp:Pos}{k:Nat}
variable {K:Frag}{C:String→Addr}{E:XK}{Γ Δ Γ' Δ' Γ1 Δ1 Γl Δl Γk Δk:List Nat}{m m1 m2 m3 mr:Nat}{S S1 S2 S3:List (Nat×Bool)}{H:Hp}{Q:VK}
end
section
variable {X:Cx}{C:String→Addr}{E:XK}{Γ Δ Γ' Δ' Γ1 Δ1 Γl Δl Γk Δk:List Nat}{m m1 m2 m3 mr:Nat}{S S1 S2 S3:List (Nat×Bool)}{a b c e st o tg iter:Expr}{es rest:List Expr}{ta tb tc te ts:TE}{fa fb fc fe fs:FE}{pos p p2 apos cpos pos' cp kp:Pos}{k:Nat}
variable {pins:List (Addr×Obj)}{σ:St}{H:Hp}{s:Shared}
end
section
variable {X:Cx}{C:String→Addr}{E:XK}{Γ Δ Γ' Δ' Γk Δk:List Nat}{m mr:Nat}{S:List (Nat×Bool)}{c tg iter:Expr}{body:List Stmt}{u:TS}{g:FS}{pos:Pos}
end
section
variable {K:Frag}{C:String→Addr}{E:XK}{Γ Δ Γ' Δ' Γ1 Δ1 Γl Δl:List Nat}{m m1 m2 mr:Nat}{S S1 S2:List (Nat×Bool)}{H:Hp}
end
section
variable {X:Cx}{C:String→Addr}{E:XK}{Γ Δ Γ' Δ' Γl Δl:List Nat}{m mr:Nat}{a b:Expr}{t:TA}{f:FA}{p p1 p2 pos pt2:Pos}{x y:Str}{i j k k2:Nat}
end
section
variable {K:Frag}{C:String→Addr}{E:XK}{Γ Δ Γ' Δ' Γ1 Δ1 Γl Δl Γk Δk:List Nat}{m m1 m2 m3 mr:Nat}{S S1 S2 S3:List (Nat×Bool)}{H:Hp}{Q:VK}
theorem RpA.one_of:∀{ds:List D} {vs:List V} {B:List Addr} {j:Nat} {d:D},RpA K C H ds vs B→ds[j]?=some d→∃B1 Bj B2 v,B=B1++(Bj++B2)∧vs[j]?=some v∧Rp K C H d v Bj∧
    ∀(W:Addr→Prop) H2 d' Bj',Ext W H H2→(∀a∈B1++B2,¬W a)→Rp K C H2 d' v Bj'→RpA K C H2 (ds.set j d') vs (B1++(Bj'++B2))
  | [],_,_,_,_,_,h=>by simp at h
  | d0::ds,_,_,0,d,r,h=>by
    obtain ⟨x,l,B,B',e1,e2,e3,e4⟩:=r
    simp only [List.getElem?_cons_zero,Option.some.injEq] at h
    subst h e1 e4
    exact ⟨[],B,B',x,rfl,rfl,e2,fun W H2 d' Bj' he hn r'=>⟨x,l,Bj',B',rfl,r',e3.ext he fun a ha=>hn a ha,rfl⟩⟩
  | d0::ds,_,_,j+1,d,r,h=>by
    obtain ⟨x,l,B,B',e1,e2,e3,e4⟩:=r
    simp only [getElem?_cons_succ] at h
    obtain ⟨B1,Bj,B2,v,q1,q2,q3,q4⟩:=RpA.one_of e3 h
    subst e1 e4 q1
    refine ⟨B++B1,Bj,B2,v,by rw [append_assoc],by simpa using q2,q3,fun W H2 d' Bj' he hn r'=>?_⟩
    exact ⟨x,l,B,B1++(Bj'++B2),rfl,e2.ext he fun a ha=>hn a (by simp [ha]),q4 W H2 d' Bj' he (fun a ha=>hn a (by
      rcases List.mem_append.mp ha with z | z
      · simp [z]
      · simp [z])) r',by rw [append_assoc]⟩
noncomputable def AtP (K:Frag)(H:Hp):V→List Int→Addr→Prop
 | v,[],b=>v=.ref b
 | v,n::r,b=>∃p xs u,v=.ref p∧(H p=some (.lst xs)∨H p=some (.tup xs))∧atI xs n=some u∧AtP K H u r b
theorem Xcf {α:Type}{xs:List α}{n:Int}{j:Nat}{u:α}(hj:Dl.ixD xs.length n=some j)(hu:xs[j]?=some u):atI xs n=some u:=by
 show Dl.atD xs n=some u
 unfold Dl.atD
 rw [hj]
 exact hu
theorem Rp.path {f:List D→Option (List D)}:∀{path:List Int} {d d':D} {v:V} {A:List Addr},Rp K C H d v A→A.Nodup→Dl.Zov f path d=some d'→
    ∃b ys ds es l A1 A2,AtP K H v path b∧H b=some (.lst ys)∧RpA K C H ds ys l∧f ds=some es∧A=A1++(b::l++A2)∧
      ∀H2 zs l',(∀a o,a≠b→H a=some o→H2 a=some o)→H2 b=some (.lst zs)→RpA K C H2 es zs l'→Rp K C H2 d' v (A1++(b::l'++A2))
  | [],d,d',v,A,r,nd,h=>by
    cases d with
    | lst ds =>
      obtain ⟨es,h1,h2⟩:=Option.map_eq_some_iff.mp (show (f ds).map D.lst=some d' from h)
      subst h2
      obtain ⟨a,xs,B,rfl,e2,e3,rfl⟩:=r
      exact ⟨a,xs,ds,es,B,[],[],rfl,e2,e3,h1,by simp,fun H2 zs l' hk hb r'=>⟨a,zs,l',rfl,hb,r',by simp⟩⟩
    | _=>cases h
  | n::path,d,d',v,A,r,nd,h=>by
    cases d with
    | lst xs =>
      obtain ⟨j,hj,h⟩:=Option.bind_eq_some_iff.mp (show (Dl.ixD xs.length n).bind (fun j=>xs[j]?.bind fun d=>(Dl.Zov f path d).map fun d'=>D.lst (xs.set j d'))=some d' from h)
      obtain ⟨d0,hd,h⟩:=Option.bind_eq_some_iff.mp h
      obtain ⟨d1,hu,h2⟩:=Option.map_eq_some_iff.mp h
      subst h2
      obtain ⟨a,vs,B,rfl,e2,e3,rfl⟩:=r
      have hl:=e3.len
      obtain ⟨nda,ndB⟩:=List.nodup_cons.mp nd
      obtain ⟨B1,Bj,B2,w,rfl,hw,rw,up⟩:=e3.one_of hd
      have ndj:Bj.Nodup:=(List.nodup_append.mp (List.nodup_append.mp ndB).2.1).1
      obtain ⟨b,ys,ds,es,l,A1,A2,p1,p2,p3,p4,rfl,p6⟩:=Rp.path rw ndj hu
      refine ⟨b,ys,ds,es,l,a::(B1++A1),A2++B2,⟨a,vs,w,rfl,.inl e2,Xcf (by rw [hl];exact hj) hw,p1⟩,p2,p3,p4,by simp,fun H2 zs l' hk hb r'=>?_⟩
      have hba:a≠b:=by rintro rfl;exact nda (by simp)
      have r2:=up (fun c=>c=b) H2 d1 _ (fun c o ho=>by
        by_cases e:c=b
        · subst e
          rw [p2] at ho
          cases ho
          exact .inr ⟨rfl,.lst⟩
        · exact .inl (hk c o e ho)) (fun c hc e=>by
          subst e
          have q1:=(List.nodup_append.mp ndB)
          have q2:=(List.nodup_append.mp q1.2.1)
          rcases List.mem_append.mp hc with z | z
          · exact q1.2.2 c z c (by simp) rfl
          · exact q2.2.2 c (by simp) c z rfl) (p6 H2 zs l' hk hb r')
      exact ⟨a,vs,_,rfl,hk a _ hba e2,r2,by simp⟩
    | tup xs =>
      obtain ⟨j,hj,h⟩:=Option.bind_eq_some_iff.mp (show (Dl.ixD xs.length n).bind (fun j=>xs[j]?.bind fun d=>(Dl.Zov f path d).map fun d'=>D.tup (xs.set j d'))=some d' from h)
      obtain ⟨d0,hd,h⟩:=Option.bind_eq_some_iff.mp h
      obtain ⟨d1,hu,h2⟩:=Option.map_eq_some_iff.mp h
      subst h2
      obtain ⟨a,vs,rfl,e2,e3⟩:=r
      have hl:=e3.len
      obtain ⟨B1,Bj,B2,w,rfl,hw,rw,up⟩:=e3.one_of hd
      have ndj:Bj.Nodup:=(List.nodup_append.mp (List.nodup_append.mp nd).2.1).1
      obtain ⟨b,ys,ds,es,l,A1,A2,p1,p2,p3,p4,rfl,p6⟩:=Rp.path rw ndj hu
      refine ⟨b,ys,ds,es,l,B1++A1,A2++B2,⟨a,vs,w,rfl,.inr e2,Xcf (by rw [hl];exact hj) hw,p1⟩,p2,p3,p4,by simp,fun H2 zs l' hk hb r'=>?_⟩
      have hba:a≠b:=by rintro rfl;rw [e2] at p2;cases p2
      have r2:=up (fun c=>c=b) H2 d1 _ (fun c o ho=>by
        by_cases e:c=b
        · subst e
          rw [p2] at ho
          cases ho
          exact .inr ⟨rfl,.lst⟩
        · exact .inl (hk c o e ho)) (fun c hc e=>by
          subst e
          have q1:=(List.nodup_append.mp nd)
          have q2:=(List.nodup_append.mp q1.2.1)
          rcases List.mem_append.mp hc with z | z
          · exact q1.2.2 c z c (by simp) rfl
          · exact q2.2.2 c (by simp) c z rfl) (p6 H2 zs l' hk hb r')
      exact ⟨a,vs,rfl,hk a _ hba e2,by simpa using r2⟩
    | _=>cases h
theorem Xd.deepWrite {H0 Hb H:Hp}{σ:St}{ρ:Jw}{A:Nat→List Addr}{i:Nat}{d':D}{v:V}{b:Addr}{zs:List V}{A':List Addr}(I:Xd K C H0 Hb H Γ Δ σ ρ A)(hi:i∈Δ)(hl:i<ρ.length)(hs:σ[i]?=some (some v))(hb:b∈A i)
  (r:Rp K C (upd H b (.lst zs)) d' v A') (nd:A'.Nodup) (hA:∀a∈A',a∈A i∨(Hb a=Option.none∧∀j,a∉A j)) :
  Xd K C H0 Hb (upd H b (.lst zs)) Γ Δ σ (ρ.set i (some d')) (fun j=>if j=i then A' else A j):=by
 obtain ⟨d1,d2,d3⟩:=I.deep i hi
 obtain ⟨xs,hxs,hm⟩:=I.is hb
 have hA2:∀a∈A',Hb a=Option.none∧∀j,j≠i→a∉A j:=fun a ha=>(hA a ha).elim (fun z=>⟨d3 a z,fun j hj=>d2 j hj a z⟩) fun z=>⟨z.1,fun j _=>z.2 j⟩
 have ext:Ext (fun c=>c=b) H (upd H b (.lst zs)):=fun c o h=>by
  by_cases e:c=b
  ·subst e
   rw [hxs] at h
   cases h
   exact .inr ⟨rfl,hm⟩
  ·rw [Xb e]
   exact .inl h
 refine ⟨I.s0,fun c o h=>?_,by rw [length_set,I.len],fun j e h=>?_,fun j h=>?_,fun j hj c hc=>?_,fun j hj c l' e=>?_,fun j hj=>?_⟩
 ·rw [Xb (Ym h (d3 b hb))]
  exact I.same c o h
 ·rcases get_set h with ⟨e1,_,e2⟩ | ⟨e1,e2⟩
  ·subst e1
   cases e2
   exact ⟨v,hs,by rw [if_pos rfl];exact r⟩
  ·obtain ⟨w,q1,q2⟩:=I.rep j e e2
   refine ⟨w,q1,?_⟩
   rw [if_neg e1]
   exact q2.ext ext fun c hc z=>by subst z;exact d2 j e1 c hb hc
 ·by_cases e:j=i
  ·subst e
   exact absurd (getElem?_set_self hl) (h d')
  ·rw [if_neg e]
   exact I.nil j fun x hx=>h x (by rw [getElem?_set_ne (fun z=>e z.symm)];exact hx)
 ·by_cases e:j=i
  ·subst e
   rw [if_pos rfl] at hc
   exact I.s0.free (hA2 c hc).1
  ·rw [if_neg e] at hc
   exact I.loc j hj c hc
 ·by_cases e':j=i
  ·subst e'
   rw [if_pos rfl] at e
   subst e
   refine ⟨(hA2 c (.head _)).1,(List.nodup_cons.mp nd).1,fun k hk=>?_⟩
   rw [if_neg hk]
   exact (hA2 c (.head _)).2 k hk
  ·rw [if_neg e'] at e
   obtain ⟨t1,t2,t3⟩:=I.top j hj c l' e
   refine ⟨t1,t2,fun k hk=>?_⟩
   by_cases ek:k=i
   ·subst ek
    rw [if_pos rfl]
    exact fun z=>(hA2 c z).2 j (fun w=>hk w.symm) (by rw [e];exact .head _)
   ·rw [if_neg ek]
    exact t3 k hk
 ·by_cases e':j=i
  ·subst e'
   simp only [if_true]
   refine ⟨nd,fun k hk a ha=>?_,fun a ha=>(hA2 a ha).1⟩
   rw [if_neg hk]
   exact (hA2 a ha).2 k hk
  ·simp only [if_neg e']
   obtain ⟨t1,t2,t3⟩:=I.deep j hj
   refine ⟨t1,fun k hk a ha=>?_,t3⟩
   by_cases ek:k=i
   ·subst ek
    rw [if_pos rfl]
    exact fun z=>(hA2 a z).2 j (fun w=>hk w.symm) ha
   ·rw [if_neg ek]
    exact t2 k hk a ha
theorem Xtk {H:Hp}{v:V}{n:Int}{path:List Int}{b:Addr}{Q:VK}(h:AtP K H v (n::path) b)(q:∀u,AtP K H u path b→Q u H):rIx K v (.int n) H Q:=by
 obtain ⟨p,xs,u,rfl,hq,ha,h⟩:=h
 rcases hq with hq | hq
 ·exact .inl ⟨p,xs,n,u,rfl,rfl,SqL.of hq,ha,q u h⟩
 ·exact .inr (.inl ⟨p,xs,n,u,rfl,rfl,SqT.of hq,ha,q u h⟩)
end
section
variable {X:Cx}{C:String→Addr}{E:XK}{Γ Δ Γ' Δ' Γ1 Δ1 Γl Δl Γk Δk:List Nat}{m m1 m2 m3 mr:Nat}{S S1 S2 S3:List (Nat×Bool)}{a b c e st o tg iter kx lx:Expr}{es rest:List Expr}{ta tb tc te ts tk tl:TE}{fa fb fc fe fs fk fl:FE}{pos p p1 p2 apos cpos pos':Pos}{n:Nat}
end
section
variable {K:Frag}{C:String→Addr}{E:XK}{Γ Δ Γ' Δ' Γ1 Δ1 Γl Δl Γk Δk:List Nat}{m m1 m2 m3 mr:Nat}{H:Hp}{Q:VK}
end
section
variable {X:Cx}{C:String→Addr}{E:XK}{Γ Δ Γ' Δ' Γl Δl:List Nat}{mr:Nat}{pos p p2 apos cpos:Pos}
end
section
variable {prog:Program}{w:World}{A:Around}{E:Value→Shared→Prop}{s:Shared}{a₀:Array Keyed}
variable {X:Cx}
variable {K:Frag}{C:String→Addr}
end
section
variable {K:Frag}{C:String→Addr}{E:XK}{Γ Δ Γ' Δ' Γl Δl:List Nat}{m mr:Nat}{S:List (Nat×Bool)}
end
section
variable {X:Cx}{C:String→Addr}{E:XK}{Γ Δ Γ' Δ' Γl Δl:List Nat}{m mr:Nat}{S:List (Nat×Bool)}{e:Expr}{te:TE}{fe:FE}{p p1 p2 pos:Pos}{x y:Str}{i j k:Nat}
variable {tg:Expr}
end
section
variable {K:Frag}{C:String→Addr}{E:XK}{Γ Δ:List Nat}{m:Nat}{S:List (Nat×Bool)}{H:Hp}
end
section
variable {X:Cx}{C:String→Addr}{E:XK}{Γ Δ:List Nat}{m n:Nat}{S:List (Nat×Bool)}{tg a b c:Expr}{t:TA}{f:FA}{p pos:Pos}
end
section
variable {K:Frag}{C:String→Addr}
end
end L2
namespace L2
open PySem PySem.Spec PyProof.Rows
open Dl (D R FE FT FA FO FS FI FB Fl FM FMT)
theorem Zbu {α:Type}(f:Str):∀{ns:List Str} {xs:List α},ns.length=xs.length→(ns.zip xs).lookup f=(Dl.fIx f ns).bind (xs[·]?)
 | [],[],_=>rfl
 | [],_::_,h=>by simp at h
 | _::_,[],h=>by simp at h
 | g::ns,x::xs,h=>by
  have ih:=Zbu f (ns:=ns) (xs:=xs) (by simpa using h)
  rw [zip_cons_cons,lookup_cons,Dl.fIx]
  by_cases e:g=f
  ·subst e
   simp
  ·have e':(f==g)=false:=by simp [Ne.symm e]
   rw [e',if_neg e,ih]
   cases Dl.fIx f ns<;>simp
theorem Zqb (f:Str)(v:V):∀{ns:List Str} {xs:List V} {j:Nat},ns.length=xs.length→Dl.fIx f ns=some j→Zlo f v (ns.zip xs)=ns.zip (xs.set j v)
 | [],_,_,_,h=>by simp [Dl.fIx] at h
 | _::_,[],_,h,_=>by simp at h
 | g::ns,x::xs,j,h,hj=>by
  rw [zip_cons_cons,Zlo]
  rw [Dl.fIx] at hj
  by_cases e:g=f
  ·rw [if_pos e] at hj ⊢
   cases hj
   simp
  ·rw [if_neg e] at hj ⊢
   obtain ⟨k,hk,rfl⟩:=Option.map_eq_some_iff.mp hj
   rw [Zqb f v (by simpa using h) hk]
   simp
theorem Zqa (f:Str)(v:V):∀{ns:List Str} {xs:List V},ns.length=xs.length→Dl.fIx f ns=none→Zlo f v (ns.zip xs)=(ns++[f]).zip (xs++[v])
 | [],[],_,_=>rfl
 | [],_::_,h,_=>by simp at h
 | _::_,[],h,_=>by simp at h
 | g::ns,x::xs,h,hj=>by
  rw [zip_cons_cons,Zlo]
  rw [Dl.fIx] at hj
  by_cases e:g=f
  ·rw [if_pos e] at hj
   cases hj
  ·rw [if_neg e] at hj ⊢
   rw [Zqa f v (by simpa using h) (by simpa using hj)]
   simp
theorem Xin {f:Str}:∀{ns:List Str} {j:Nat},Dl.fIx f ns=some j→j<ns.length
 | [],_,h=>by simp [Dl.fIx] at h
 | g::ns,j,h=>by
  rw [Dl.fIx] at h
  split at h
  ·cases h;simp
  ·obtain ⟨k,hk,rfl⟩:=Option.map_eq_some_iff.mp h
   have:=Xin hk
   simp;omega
section
variable {K:Frag}{C:String→Addr}{E:XK}{Γ Δ Γ' Δ' Γ1 Δ1 Γl Δl:List Nat}{m m1 m2 mr n:Nat}{S S1 S2:List (Nat×Bool)}{H:Hp}
theorem Xmf {c:String}{f:Str}{te:TE}{fe:FE}(hc:Cls K (C c))(hn:Zbs K (C c) f)(he:EOk K C E Γ Δ m S te fe):EOk K C E Γ Δ 0 S (Xpf K te f) (Dl.f1 (Dl.Zdd c f) fe):=fun H0 Hb H σ ρ A Q I p =>
  he H0 Hb H σ ρ A _ I (p.bind.imp (fun d q v H1 g1 r=>by
    obtain ⟨z,e,q'⟩:=Zgq q
    cases d with
    | obj c' ns ds =>
      simp only [Dl.Zdd] at e
      split at e
      · rename_i hcc
        subst hcc
        obtain ⟨B,r,rB,_⟩:=r
        obtain ⟨a,dx,xs,B',rfl,h1,hl,r3,rfl⟩:=r
        obtain ⟨j,hj,e⟩:=Option.bind_eq_some_iff.mp e
        obtain ⟨u,Bu,q1,q2,q3⟩:=r3.get e
        refine ⟨a,C c',dx,_,u,rfl,h1,hc,hn,?_,q' _ _ g1 ⟨Bu,q2,fun b hb=>rB b (.tail _ (q3 b hb)),(fun z=>nomatch z),(fun z=>nomatch z)⟩⟩
        rw [Zbu f (by rw [r3.len,hl]),hj]
        exact q1
      · cases e
    | _=>cases e) fun c x q H' g'=>q H' g')
theorem Zut {c:String}{md:Str}{F:List D→R D}{te:TE}{fe:FE}{t:TA}{fa:FA}(he:EOk K C E Γ Δ m1 S1 te fe)(ha:AOk K C E Γ Δ m2 S2 t fa)(hn:∀ρ ds,fa ρ=.ok ds→ds.length=n) :
    EOk K C E Γ Δ mr [] (Zmg (C c) md (spD K C (n+1) mr F) [] E te t) (Dl.Jc c md F fe fa):=fun H0 Hb H σ ρ A Q I p =>
  he H0 Hb H σ ρ A _ I (p.bind.imp (fun d q v H1 g1 r=>by
    cases d with
    | obj c' ns ds =>
      simp only at q
      split at q
      · rename_i hcc
        obtain ⟨hcc,hmd⟩:=hcc
        subst hcc
        obtain ⟨B,r,rB,_⟩:=r
        obtain ⟨a,dx,xs,B',rfl,h1,hl,r3,rfl⟩:=id r
        refine ⟨a,dx,_,rfl,h1,by rw [Zbu md (by rw [r3.len,hl]),hmd];rfl,?_⟩
        refine ha H0 Hb H1 σ ρ A _ (I.mono g1) ?_
        cases e:fa ρ with
        | bad=>rw [e] at q;exact q
        | err c x=>rw [e] at q;exact fun H' g'=>q H' (g1.trans g')
        | ok ys =>
          rw [e] at q
          intro vs H2 g2 r2
          obtain ⟨B2,r2,_⟩:=r2
          rw [append_nil]
          refine ⟨.obj c' ns ds::ys,_,by rw [length_cons,hn ρ ys e],⟨_,_,_,_,rfl,r.same g2,r2,rfl⟩,Xz.imp q (fun d q v H' g3 r=>?_) fun c x q H' g'=>q H' (g1.trans (g2.trans g'))⟩
          exact q v H' (g1.trans (g2.trans g3)) ((r.later (g1.trans g2) (Xx.refl _)).reA)
      · exact q.elim
    | _=>exact q.elim) fun c x q H' g'=>q H' g')
noncomputable def spM (K:Frag)(C:String→Addr)(n:Nat)(G:List D→R (D×D)):Sp:=fun vs H Q E=>∃d0 ds v0 vs' A0 B,vs=v0::vs'∧ds.length=n∧Rp K C H d0 v0 A0∧A0.Nodup∧RpA K C H ds vs' B∧(∀a∈B,a∉A0)∧
 Xz (G (d0::ds)) (fun p=>∀v H' A1 Br,(∀b o,b∉A0→H b=some o→H' b=some o)→Rp K C H' p.2 v0 A1→A1.Nodup→(∀a∈A1,a∈A0∨H a=none)→Rp K C H' p.1 v Br→Br.Nodup→(∀a∈Br,(a∈A0∨H a=none)∧a∉A1)→Q v H')
  (fun c x=>∀H',(∀b o,b∉A0→H b=some o→H' b=some o)→EC C E c x H')
theorem Xd.deepTo {H0 Hb H H':Hp}{σ:St}{ρ:Jw}{A:Nat→List Addr}{i:Nat}{d':D}{v:V}{A':List Addr}(I:Xd K C H0 Hb H Γ Δ σ ρ A)(hi:i∈Δ)(hl:i<ρ.length)(hs:σ[i]?=some (some v))
  (hk:∀c o,c∉A i→H c=some o→H' c=some o) (r:Rp K C H' d' v A') (nd:A'.Nodup) (hA:∀a∈A',a∈A i∨(Hb a=Option.none∧∀j,a∉A j)) :
  Xd K C H0 Hb H' Γ Δ σ (ρ.set i (some d')) (fun j=>if j=i then A' else A j):=by
 obtain ⟨d1,d2,d3⟩:=I.deep i hi
 have hA2:∀a∈A',Hb a=Option.none∧∀j,j≠i→a∉A j:=fun a ha=>(hA a ha).elim (fun z=>⟨d3 a z,fun j hj=>d2 j hj a z⟩) fun z=>⟨z.1,fun j _=>z.2 j⟩
 have ext:Ext (fun c=>c∈A i) H H':=fun c o h=>by
  by_cases e:c∈A i
  ·obtain ⟨o',ho,hm⟩:=I.is e
   rw [ho] at h
   cases h
   exact .inr ⟨e,hm⟩
  ·exact .inl (hk c o e h)
 refine ⟨I.s0,fun c o h=>?_,by rw [length_set,I.len],fun j e h=>?_,fun j h=>?_,fun j hj c hc=>?_,fun j hj c l' e=>?_,fun j hj=>?_⟩
 ·exact hk c o (fun z=>by rw [d3 c z] at h;cases h) (I.same c o h)
 ·rcases get_set h with ⟨e1,_,e2⟩ | ⟨e1,e2⟩
  ·subst e1
   cases e2
   exact ⟨v,hs,by rw [if_pos rfl];exact r⟩
  ·obtain ⟨w,q1,q2⟩:=I.rep j e e2
   refine ⟨w,q1,?_⟩
   rw [if_neg e1]
   exact q2.ext ext fun c hc z=>d2 j e1 c z hc
 ·by_cases e:j=i
  ·subst e
   exact absurd (getElem?_set_self hl) (h d')
  ·rw [if_neg e]
   exact I.nil j fun x hx=>h x (by rw [getElem?_set_ne (fun z=>e z.symm)];exact hx)
 ·by_cases e:j=i
  ·subst e
   rw [if_pos rfl] at hc
   exact I.s0.free (hA2 c hc).1
  ·rw [if_neg e] at hc
   exact I.loc j hj c hc
 ·by_cases e':j=i
  ·subst e'
   rw [if_pos rfl] at e
   subst e
   refine ⟨(hA2 c (.head _)).1,(List.nodup_cons.mp nd).1,fun k hk=>?_⟩
   rw [if_neg hk]
   exact (hA2 c (.head _)).2 k hk
  ·rw [if_neg e'] at e
   obtain ⟨q1,q2,q3⟩:=I.top j hj c l' e
   refine ⟨q1,q2,fun k hk=>?_⟩
   by_cases e2:k=i
   ·subst e2
    rw [if_pos rfl]
    exact fun z=>(hA2 c z).2 j e' (by rw [e];exact .head _)
   ·rw [if_neg e2]
    exact q3 k hk
 ·by_cases e:j=i
  ·subst e
   rw [if_pos rfl]
   refine ⟨nd,fun k hk a ha=>?_,fun a ha=>(hA2 a ha).1⟩
   rw [if_neg hk]
   exact (hA2 a ha).2 k hk
  ·rw [if_neg e]
   obtain ⟨q1,q2,q3⟩:=I.deep j hj
   refine ⟨q1,fun k hk a ha=>?_,q3⟩
   by_cases e2:k=i
   ·subst e2
    rw [if_pos rfl]
    exact fun z=>(hA2 a z).2 j e ha
   ·rw [if_neg e2]
    exact q2 k hk a ha
def MOk (K:Frag)(C:String→Addr)(E:XK)(Γ Δ:List Nat)(t:TE)(f:FM):Prop:=∀(H0 Hb H:Hp) (σ:St) (ρ:Jw) (A:Nat→List Addr) (Q:VK),Xd K C H0 Hb H Γ Δ σ ρ A→
 Xz (f ρ) (fun p=>∀v H' A' B,Xd K C H0 Hb H' Γ Δ σ p.2 A'→Rp K C H' p.1 v B→B.Nodup→(∀a∈B,Hb a=none∧∀j,a∉A' j)→Q v H') (fun c x=>∀H',Xx H0 H'→EC C E c x H')→t σ H Q
def MTOk (K:Frag)(C:String→Addr)(E:XK)(Γ Δ:List Nat)(t:TT)(f:FMT):Prop:=∀(H0 Hb H:Hp) (σ:St) (ρ:Jw) (A:Nat→List Addr) (Q:Bool→Hp→Prop),Xd K C H0 Hb H Γ Δ σ ρ A→
 Xz (f ρ) (fun p=>∀H' A',Xd K C H0 Hb H' Γ Δ σ p.2 A'→Q p.1 H') (fun c x=>∀H',Xx H0 H'→EC C E c x H')→t σ H Q
theorem Xeq {i:Nat}{c:String}{md:Str}{G:List D→R (D×D)}{t:TA}{fa:FA}(hi:i∈Δ)(ha:AOk K C E Γ Δ m S t fa)(hn:∀ρ ds,fa ρ=.ok ds→ds.length=n)(hS:∀p∈S,p.1≠i) :
  MOk K C E Γ Δ (Zmg (C c) md (spM K C n G) [] E (Zdb i) t) (Dl.Zwz i c md G fa):=fun H0 Hb H σ ρ A Q I p=>by
 unfold Dl.Zwz at p
 split at p
 ·rename_i c' ns ds e0
  split at p
  ·rename_i hcc
   obtain ⟨hcc,hmd⟩:=hcc
   subst hcc
   obtain ⟨v0,hs,r0⟩:=I.rep i _ e0
   obtain ⟨a,dx,xs,B',rfl,h1,hl,r3,hAi⟩:=id r0
   refine ⟨_,hs,a,dx,_,rfl,h1,by rw [Zbu md (by rw [r3.len,hl]),hmd];rfl,?_⟩
   refine ha H0 Hb H σ ρ A _ I ?_
   cases e:fa ρ with
   | bad=>rw [e] at p;exact p
   | err c x=>rw [e] at p;exact fun H' g'=>p H' (Xx.from0 I g')
   | ok ys =>
    rw [e] at p
    intro vs H1 g1 r2
    obtain ⟨B2,r2,rB,_⟩:=r2
    rw [append_nil]
    obtain ⟨d1,d2,d3⟩:=I.deep i hi
    have I1:=I.mono g1
    refine ⟨.obj c' ns ds,ys,_,vs,A i,B2,rfl,hn ρ ys e,r0.same g1,d1,r2,fun b hb hz=>(rB b hb).elim (fun z=>I.ne hz z) (I.deep_out hi hS hz),Xz.imp (Xz.bind (r:=G (.obj c' ns ds::ys)) p) (fun q pq v H' A1 Br hk r1 nd1 hA1 rr ndr hBr=>?_) fun c x q H' hk=>?_⟩
    ·refine pq v H' _ Br (I1.deepTo hi (List.getElem?_eq_some_iff.mp e0).1 hs hk r1 nd1 fun b hb=>(hA1 b hb).imp id fun z=>⟨I1.same.free z,fun j hj=>I1.ne hj z⟩) rr ndr fun b hb=>⟨(hBr b hb).1.elim (fun z=>d3 b z) fun z=>I1.same.free z,fun j=>?_⟩
     by_cases e1:j=i
     ·rw [if_pos e1]
      exact (hBr b hb).2
     ·rw [if_neg e1]
      exact fun hj=>(hBr b hb).1.elim (fun z=>d2 j e1 b z hj) fun z=>I1.ne hj z
    ·refine q H' fun b o h=>hk b o (fun z=>?_) (I1.same b o (I.s0 b o h))
     rw [I.s0.free (d3 b z)] at h
     cases h
  ·exact p.elim
 ·exact p.elim
theorem Zzb {te:TE}{fm:FM}(h:MOk K C E Γ Δ te fm):SOk K C E mr Γl Δl Γ Δ Γ Δ (Zja te) (Dl.Zmq fm):=fun H0 Hb H σ ρ A D I p =>
 h H0 Hb H σ ρ A _ I (Xz.imp (Xz.bind p) (fun q pq v H1 A1 B I1 r nd hB=>pq σ H1 A1 I1) fun c x q=>q)
theorem Xgj {c:String}{G:List D→R (D×D)}{t:TA}{fa:FA}(ha:AOk K C E Γ Δ m S t fa)(hn:∀ρ ds,fa ρ=.ok ds→ds.length=n):EOk K C E Γ Δ 2 [] (Xkt (C c) (spM K C n G) [] E t) (Dl.Zpk c G fa):=fun H0 Hb H σ ρ A Q I p=>by
 refine ha H0 Hb H σ ρ A _ I ?_
 unfold Dl.Zpk at p
 cases e:fa ρ with
 | bad=>rw [e] at p;exact p
 | err c x=>rw [e] at p;exact p
 | ok ys =>
  rw [e] at p
  intro vs H1 g1 r x dx hx hdx hne
  obtain ⟨B2,r2,rB,_⟩:=r
  rw [append_nil]
  have gs:Xx H1 (upd (upd H1 dx (.own x)) x (.ins (C c) dx [])):=fun b o h=>by
   rw [Xb (Ym h hx),Xb (Ym h hdx)]
   exact h
  have back:∀H',(∀b o,b∉[x]→(upd (upd H1 dx (.own x)) x (.ins (C c) dx [])) b=some o→H' b=some o)→Xx H1 H':=fun H' hk b o h=>hk b o (by simpa using Ym h hx) (gs b o h)
  refine ⟨.obj c [] [],ys,_,vs,[x],B2,rfl,hn ρ ys e,⟨x,dx,[],[],rfl,Yb,rfl,⟨rfl,rfl⟩,rfl⟩,by simp,r2.same gs,fun b hb hz=>?_,Xz.imp (Xz.bind p) (fun q pq v H' A1 Br hk r1 nd1 hA1 rr ndr hBr=>?_) fun c x q H' hk=>q H' (g1.trans (back H' hk))⟩
  ·have hz:b=x:=by simpa using hz
   obtain ⟨o,ho,_⟩:=r2.isl b hb
   rw [hz,hx] at ho
   cases ho
  ·obtain ⟨d,d1⟩:=q
   cases d with
   | non =>
    refine ⟨rr.1,pq _ H' (g1.trans (back H' hk)) ⟨A1,r1,fun a ha=>.inl ?_,(fun z=>nomatch z),fun _=>nd1⟩⟩
    refine g1.free ?_
    rcases hA1 a ha with z | z
    ·rw [show a=x by simpa using z];exact hx
    ·exact gs.free z
   | _=>exact pq.elim
theorem RpA.setV:∀{ds:List D} {vs:List V} {B:List Addr} {j:Nat} {d:D} {v:V} {Bd:List Addr},RpA K C H ds vs B→j<ds.length→Rp K C H d v Bd→∃B1 Bj B2,B=B1++(Bj++B2)∧RpA K C H (ds.set j d) (vs.set j v) (B1++(Bd++B2))
 | [],_,_,_,_,_,_,_,h,_=>by simp at h
 | d0::ds,_,_,0,d,v,Bd,r,_,q=>by
  obtain ⟨x,l,B,B',e1,e2,e3,e4⟩:=r
  subst e1 e4
  exact ⟨[],B,B',rfl,v,l,Bd,B',rfl,q,e3,rfl⟩
 | d0::ds,_,_,j+1,d,v,Bd,r,h,q=>by
  obtain ⟨x,l,B,B',e1,e2,e3,e4⟩:=r
  subst e1 e4
  obtain ⟨B1,Bj,B2,rfl,r2⟩:=RpA.setV (j:=j) e3 (by simpa using h) q
  exact ⟨B++B1,Bj,B2,by simp,x,l.set j v,B,_,rfl,e2,r2,by simp⟩
theorem Zmj {B1 Bj B2 B:List Addr}(h:(B1++(Bj++B2)).Nodup)(nd:B.Nodup)(hd:∀a∈B,a∉B1∧a∉B2):(B1++(B++B2)).Nodup:=by
 obtain ⟨h1,h2,h3⟩:=List.nodup_append.mp h
 obtain ⟨h4,h5,h6⟩:=List.nodup_append.mp h2
 refine List.nodup_append.mpr ⟨h1,List.nodup_append.mpr ⟨nd,h5,fun a ha b hb e=>(hd a ha).2 (by rw [e];exact hb)⟩,fun a ha b hb e=>?_⟩
 subst e
 rcases List.mem_append.mp hb with z | z
 ·exact (hd a z).1 ha
 ·exact h3 a ha a (mem_append_right _ z) rfl
def Xil (K:Frag)(C:String→Addr)(E:XK)(Γ Δ Γ' Δ':List Nat)(t:TS)(f:FS):Prop:=∀(H0 Hb H:Hp) (σ:St) (ρ:Jw) (A:Nat→List Addr) (D:Ends),Xd K C H0 Hb H Γ Δ σ ρ A→
  Xz (f ρ) (fun fl=>match fl with
    | .nx ρ'=>∀σ' H' A',σ'[0]?=σ[0]?→Xd K C H0 Hb H' Γ' Δ' σ' ρ' A'→D.nx σ' H'
    | _=>False) (fun c x=>∀H',Xx H0 H'→EC C E c x H')→t D σ H
theorem Zyp {i:Nat}{te:TE}{fe:FE}(he:EOk K C E Γ Δ 2 [] te fe)(h0:i≠0:=by decide)(h1:∀j∈Γ',j=i∨j∈Γ:=by decide)(h2:∀j∈Δ',j=i∨j∈Δ:=by decide):Xil K C E Γ Δ Γ' Δ' (Zmf te (Zbn i)) (Dl.Yg i fe):=fun H0 Hb H σ ρ A D I p =>
  he H0 Hb H σ ρ A _ I (Xz.imp (Xz.bind p) (fun d q v H1 g1 r=>by
    obtain ⟨B,r1,r2,r3,r4⟩:=r
    have hn:∀a∈B,H a=none:=fun a ha=>(r2 a ha).elim id fun z=>z.none.elim
    have nd:=r4 rfl
    obtain ⟨A',I',_⟩:=(I.mono g1).put (Γ':=Γ') (Δ':=Δ') (i:=i) r1 (fun j hj e=>⟨(h1 j hj).elim (fun z=>absurd z e) id,fun a l e' ha=>I.ne (j:=j) (by rw [e'];exact .head _) (hn a ha)⟩)
      (fun _=>⟨fun a ha=>I.s0.free (I.same.free (hn a ha)),fun a l e=>by subst e;exact ⟨I.same.free (hn a (.head _)),(List.nodup_cons.mp nd).1,fun j _ h=>I.ne h (hn a (.head _))⟩⟩)
      (fun j hj e=>⟨(h2 j hj).elim (fun z=>absurd z e) id,fun a ha hB=>I.ne ha (hn a hB)⟩)
      (fun _=>⟨nd,fun j _ a ha h=>I.ne h (hn a ha),fun a ha=>I.same.free (hn a ha)⟩)
    exact q _ H1 A' (getElem?_set_ne h0) I') fun c x q H' g'=>q H' (Xx.from0 I g'))
theorem Xaw {te:TE}{fe:FE}(he:EOk K C E Γ Δ m S te fe):Xil K C E Γ Δ Γ Δ (Zja te) (Dl.Zst fe):=fun H0 Hb H σ ρ A D I p =>
 he H0 Hb H σ ρ A _ I (Xz.imp (Xz.bind p) (fun d q v H1 g1 r=>q σ H1 A rfl (I.mono g1)) fun c x q H' g'=>q H' (Xx.from0 I g'))
theorem Xgs {tc:TT}{fc:FT}(hc:TOk K C E Γ Δ tc fc):Xil K C E Γ Δ Γ Δ (Xoj tc Zml Zwa) (Dl.sIf fc Dl.Ziw Dl.sNx):=fun H0 Hb H σ ρ A D I p =>
  hc H0 Hb H σ ρ A _ I (Xz.imp (Xz.bind p) (fun b q H1 g1=>by
    cases b with
    | true=>exact q.elim
    | false=>exact q σ H1 A rfl (I.mono g1)) fun c x q H' g'=>q H' (Xx.from0 I g'))
theorem Xer {c:String}{f:Str}{d o o':D}(e:Dl.Zxu c f d o=some o'):∃ns ds,o=.obj c ns ds∧ns.length<100∧(match Dl.fIx f ns with
      | some j=>some (D.obj c ns (ds.set j d))
      | none=>some (D.obj c (ns++[f]) (ds++[d])))=some o':=by
  cases o with
  | obj c' ns ds =>
    have e':(if c'=c∧ns.length<100 then (match Dl.fIx f ns with
      | some j=>some (D.obj c' ns (ds.set j d))
      | none=>some (D.obj c' (ns++[f]) (ds++[d]))) else none)=some o':=e
    by_cases h:c'=c∧ns.length<100
    · rw [if_pos h] at e'
      obtain ⟨rfl,h2⟩:=h
      exact ⟨ns,ds,rfl,h2,e'⟩
    · rw [if_neg h] at e'
      cases e'
  | _=>cases e
theorem Xdz {c:String}{f:Str}{d o:D}(e:Dl.Zdd c f o=some d):∃ns ds j,o=.obj c ns ds∧Dl.fIx f ns=some j∧ds[j]?=some d:=by
 cases o with
 | obj c' ns ds =>
  have e':(if c'=c then (Dl.fIx f ns).bind fun j=>ds[j]? else none)=some d:=e
  by_cases h:c'=c
  ·rw [if_pos h] at e'
   obtain ⟨j,h1,h2⟩:=Option.bind_eq_some_iff.mp e'
   exact ⟨ns,ds,j,by rw [h],h1,h2⟩
  ·rw [if_neg h] at e'
   cases e'
 | _=>cases e
theorem Xdr {i:Nat}{c:String}{f:Str}{te:TE}{fe:FE}(hc:Cls K (C c))(hn:Zbs K (C c) f)(hi:i∈Δ)(he:EOk K C E Γ Δ 2 [] te fe):Xil K C E Γ Δ Γ Δ (Zxs K (Zdb i) te f) (Dl.Zxs i c f fe):=fun H0 Hb H σ ρ A D I p =>
  he H0 Hb H σ ρ A _ I (Xz.imp (Xz.bind p) (fun d q v H1 g1 r=>by
    obtain ⟨B,r1,r2,r3,r4⟩:=r
    have hB:∀a∈B,H a=none:=fun a ha=>(r2 a ha).elim id fun z=>z.none.elim
    have nd:=r4 rfl
    split at q
    · rename_i o e0
      obtain ⟨o',e,q'⟩:=Zgq (Xz.bind q)
      obtain ⟨ns,ds,rfl,hlen,e⟩:=Xer e
      have I1:=I.mono g1
      obtain ⟨v0,hs,r0⟩:=I1.rep i _ e0
      obtain ⟨a,dx,xs,B',rfl,h1,hl,r3',hAi⟩:=r0
      obtain ⟨d1,d2,d3⟩:=I1.deep i hi
      rw [hAi] at d1 d2 d3
      have haB:a∉B:=fun z=>I.ne (j:=i) (by rw [hAi];exact .head _) (hB a z)
      obtain ⟨na,nB'⟩:=List.nodup_cons.mp d1
      have hxs:ns.length=xs.length:=by rw [r3'.len,hl]
      refine ⟨_,hs,a,C c,dx,_,rfl,h1,hc,hn,by rw [List.length_zip];omega,?_⟩
      have hk:∀b o,b∉A i→H1 b=some o→upd H1 a (.ins (C c) dx (Zlo f v (ns.zip xs))) b=some o:=fun b o hb h=>by
        rw [Xb (fun z=>hb (by rw [hAi,z];exact .head _))]
        exact h
      have ext:Ext (fun b=>b=a) H1 (upd H1 a (.ins (C c) dx (Zlo f v (ns.zip xs)))):=fun b o h=>by
        by_cases e:b=a
        · subst e
          rw [h1] at h
          cases h
          exact .inr ⟨rfl,.ins⟩
        · rw [Xb e]
          exact .inl h
      have rv:=r1.ext ext fun b hb z=>haB (by rw [← z];exact hb)
      have rx:=r3'.ext ext fun b hb z=>na (by rw [← z];exact hb)
      have hfr:∀b∈B,b∉a::B':=fun b hb z=>I.ne (j:=i) (by rw [hAi];exact z) (hB b hb)
      have hnew:∀b∈B,Hb b=none∧∀j,b∉A j:=fun b hb=>⟨I.same.free (hB b hb),fun j z=>I.ne z (hB b hb)⟩
      cases hj:Dl.fIx f ns with
      | some j =>
        rw [hj] at e
        cases e
        have hjl:j<ds.length:=by rw [← hl];exact Xin hj
        obtain ⟨B1,Bj,B2,rfl,r5⟩:=rx.setV hjl rv
        refine q' σ _ _ rfl (I1.deepTo hi (List.getElem?_eq_some_iff.mp e0).1 hs hk ⟨a,dx,xs.set j v,B1++(B++B2),rfl,by rw [Yb,Zqb f v hxs hj],by rw [length_set];exact hl,r5,rfl⟩ (List.nodup_cons.mpr ⟨fun z=>?_,Zmj nB' nd fun b hb=>⟨fun z=>hfr b hb (by simp [z]),fun z=>hfr b hb (by simp [z])⟩⟩) fun b hb=>?_)
        · simp only [mem_append] at z na
          rcases z with z | z | z
          · exact na (.inl z)
          · exact haB z
          · exact na (.inr (.inr z))
        · rw [hAi]
          simp only [mem_cons,mem_append] at hb ⊢
          rcases hb with z | z | z | z
          · exact .inl (.inl z)
          · exact .inl (.inr (.inl z))
          · exact .inr (hnew b z)
          · exact .inl (.inr (.inr (.inr z)))
      | none =>
        rw [hj] at e
        cases e
        refine q' σ _ _ rfl (I1.deepTo hi (List.getElem?_eq_some_iff.mp e0).1 hs hk ⟨a,dx,xs++[v],B'++B,rfl,by rw [Yb,Zqa f v hxs hj],by simp [hl],rx.app (RpA.one rv),rfl⟩ (List.nodup_cons.mpr ⟨fun z=>(List.mem_append.mp z).elim na haB,List.nodup_append.mpr ⟨nB',nd,fun b hb b' hb' e=>hfr b' hb' (by rw [← e];exact .tail _ hb)⟩⟩) fun b hb=>?_)
        rw [hAi]
        simp only [mem_cons,mem_append] at hb ⊢
        rcases hb with z | z | z
        · exact .inl (.inl z)
        · exact .inl (.inr z)
        · exact .inr (hnew b z)
    · exact q.elim) fun c x q H' g'=>q H' (Xx.from0 I g'))
theorem Ztb {i:Nat}{c:String}{f:Str}{te:TE}{fe:FE}(hc:Cls K (C c))(hn:Zbs K (C c) f)(hi:i∈Δ)(he:EOk K C E Γ Δ 2 [] te fe) :
    Xil K C E Γ Δ Γ Δ (Zja (tBM K "list" Zef (Xpf K (Zdb i) f) (Zhz te Zvr))) (Dl.Zfu i c f fe):=fun H0 Hb H σ ρ A D I p=>by
  unfold Dl.Zfu at p
  split at p
  · rename_i o e0
    split at p
    · rename_i ys0 eg
      obtain ⟨ns,ds,j,rfl,hj,eg⟩:=Xdz eg
      obtain ⟨v0,hs,r0⟩:=I.rep i _ e0
      obtain ⟨a,dx,xs,B',rfl,h1,hl,r3,hAi⟩:=r0
      obtain ⟨d1,d2,d3⟩:=I.deep i hi
      rw [hAi] at d1 d2 d3
      obtain ⟨na,nB'⟩:=List.nodup_cons.mp d1
      obtain ⟨B1,Bj,B2,w,rfl,hw,rj,up⟩:=r3.one_of eg
      obtain ⟨b,zs,Bl,rfl,hb,rl,rfl⟩:=rj
      refine ⟨_,hs,a,C c,dx,_,.ref b,rfl,h1,hc,hn,by rw [Zbu f (by rw [r3.len,hl]),hj];exact hw,.inl ⟨rfl,zs,SqL.of hb⟩,he H0 Hb H σ ρ A _ I (Xz.imp (Xz.bind p) (fun d q v H1 g1 r=>?_) fun c x q H' g'=>q H' (Xx.from0 I g'))⟩
      obtain ⟨B,r1,r2,_,r4⟩:=r
      have hB:∀a∈B,H a=none:=fun a ha=>(r2 a ha).elim id fun z=>z.none.elim
      have nd:=r4 rfl
      obtain ⟨o',e,q'⟩:=Zgq (Xz.bind q)
      simp only [Dl.Xlz,if_true,hj,Option.bind_some,eg] at e
      split at e
      · rename_i hlen
        cases e
        show Zef (.ref b) [v] H1 fun _ H3=>D.nx σ H3
        refine Xhi (g1 _ _ hb) (by rw [rl.len];exact Zjj hlen) ?_
        have hfr:∀c∈B,c∉a::(B1++(b::Bl++B2)):=fun c hc z=>I.ne (j:=i) (by rw [hAi];exact z) (hB c hc)
        have hba:a≠b:=fun z=>na (by rw [z];simp)
        have hk:∀c o,c∉A i→H1 c=some o→upd H1 b (.lst (zs++[v])) c=some o:=fun c o hc h=>by
          rw [Xb (fun z=>hc (by rw [hAi,z];simp))]
          exact h
        have ext1:Ext (fun c=>c=b) H1 (upd H1 b (.lst (zs++[v]))):=fun c o h=>by
          by_cases e:c=b
          · subst e
            rw [g1 _ _ hb] at h
            cases h
            exact .inr ⟨rfl,.lst⟩
          · rw [Xb e]
            exact .inl h
        have ext:Ext (fun c=>c=b) H (upd H1 b (.lst (zs++[v]))):=fun c o h=>ext1 c o (g1 c o h)
        have nb1:=List.nodup_append.mp nB'
        have nb2:=List.nodup_append.mp nb1.2.1
        have nb3:=List.nodup_cons.mp nb2.1
        have rl2:=(rl.same g1).ext ext1 fun c hc z=>nb3.1 (by rw [← z];exact hc)
        have rv2:=r1.ext ext1 fun c hc z=>hfr c hc (by rw [z];simp)
        have r5:=up (fun c=>c=b) _ (.lst (ys0++[d])) (b::(Bl++B)) ext (fun c hc z=>by
          rw [z] at hc
          rcases List.mem_append.mp hc with z | z
          · exact nb1.2.2 b z b (by simp) rfl
          · exact nb2.2.2 b (by simp) b z rfl) ⟨b,zs++[v],Bl++B,rfl,Yb,rl2.app (RpA.one rv2),rfl⟩
        have ndn:(B1++((b::(Bl++B))++B2)).Nodup:=Zmj nB' (List.nodup_cons.mpr ⟨fun z=>(List.mem_append.mp z).elim nb3.1 fun z=>hfr b z (by simp),List.nodup_append.mpr ⟨nb3.2,nd,fun c hc c' hc' e=>hfr c' hc' (by rw [← e];simp [hc])⟩⟩) fun c hc=>by
          simp only [mem_cons,mem_append] at hc
          rcases hc with z | z | z
          · subst z
            exact ⟨fun w=>nb1.2.2 c w c (by simp) rfl,fun w=>nb2.2.2 c (by simp) c w rfl⟩
          · exact ⟨fun w=>nb1.2.2 c w c (by simp [z]) rfl,fun w=>nb2.2.2 c (by simp [z]) c w rfl⟩
          · exact ⟨fun w=>hfr c z (by simp [w]),fun w=>hfr c z (by simp [w])⟩
        refine q' σ _ _ rfl ((I.mono g1).deepTo hi (List.getElem?_eq_some_iff.mp e0).1 hs hk ⟨a,dx,xs,_,rfl,by rw [Xb hba];exact g1 _ _ h1,by rw [length_set];exact hl,r5,rfl⟩ (List.nodup_cons.mpr ⟨fun z=>?_,ndn⟩) fun c hc=>?_)
        · simp only [mem_cons,mem_append] at z na
          rcases z with z | (z | z | z) | z
          · exact na (.inl z)
          · exact hba z
          · exact na (.inr (.inl (.inr z)))
          · exact hfr a z (.head _)
          · exact na (.inr (.inr z))
        · rw [hAi]
          simp only [mem_cons,mem_append] at hc ⊢
          rcases hc with z | z | (z | z | z) | z
          · exact .inl (.inl z)
          · exact .inl (.inr (.inl z))
          · exact .inl (.inr (.inr (.inl (.inl z))))
          · exact .inl (.inr (.inr (.inl (.inr z))))
          · exact .inr ⟨I.same.free (hB c z),fun j w=>I.ne w (hB c z)⟩
          · exact .inl (.inr (.inr (.inr z)))
      · cases e
    · exact p.elim
  · exact p.elim
def Xon (K:Frag)(C:String→Addr)(E:XK)(Γ Δ:List Nat)(t:TS)(G:FM):Prop:=∀(H0 Hb H:Hp) (σ:St) (ρ:Jw) (A:Nat→List Addr) (D:Ends) (Q:VK),Xd K C H0 Hb H Γ Δ σ ρ A→D.rt=Q→(D.nx=fun _ H'=>Q .non H')→
 Xz (G ρ) (fun p=>∀v H' σ' A' B,σ'[0]?=σ[0]?→Xd K C H0 Hb H' [0] [0] σ' p.2 A'→Rp K C H' p.1 v B→B.Nodup→(∀a∈B,Hb a=none∧∀j,a∉A' j)→Q v H') (fun c x=>∀H',Xx H0 H'→EC C E c x H')→t D σ H
theorem Xkb {t u:TS}{g:FS}{G:FM}(h:Xil K C E Γ Δ Γ1 Δ1 t g)(hr:Xon K C E Γ1 Δ1 u G):Xon K C E Γ Δ (Xoq t u) (Dl.Zbj g G):=fun H0 Hb H σ ρ A D Q I e1 e2 p =>
  h H0 Hb H σ ρ A _ I (Xz.imp (Xz.bind p) (fun fl q=>by
    cases fl with
    | nx ρ'=>exact fun σ' H' A' hσ I'=>hr H0 Hb H' σ' ρ' A' D Q I' e1 e2 (Xz.imp q (fun p q v H2 σ2 A2 B h2=>q v H2 σ2 A2 B (h2.trans hσ)) fun _ _ q=>q)
    | _=>exact q.elim) fun c x q=>q)
theorem Xsl {te:TE}{fe:FE}(he:EOk K C E Γ Δ 2 [] te fe)(h1:∀i∈[0],i∈Γ:=by decide)(h2:∀i∈[0],i∈Δ:=by decide):Xon K C E Γ Δ (Xos te) (Dl.Zsp fe):=fun H0 Hb H σ ρ A D Q I e1 e2 p=>by
 subst e1
 refine he H0 Hb H σ ρ A _ I (Xz.imp (Xz.bind p) (fun d q v H1 g1 r=>?_) fun c x q H' g'=>q H' (Xx.from0 I g'))
 obtain ⟨B,r1,r2,_,r4⟩:=r
 have hn:∀a∈B,H a=none:=fun a ha=>(r2 a ha).elim id fun z=>z.none.elim
 exact q v H1 σ A B rfl ((I.mono g1).weak h1 h2) r1 (r4 rfl) fun a ha=>⟨I.same.free (hn a ha),fun j z=>I.ne z (hn a ha)⟩
theorem Xra {t:TS}{g:FS}(h:Xil K C E Γ Δ Γ1 Δ1 t g)(h1:∀i∈[0],i∈Γ1:=by decide)(h2:∀i∈[0],i∈Δ1:=by decide):Xon K C E Γ Δ t (Dl.Xev g):=fun H0 Hb H σ ρ A D Q I e1 e2 p =>
  h H0 Hb H σ ρ A _ I (Xz.imp (Xz.bind p) (fun fl q=>by
    cases fl with
    | nx ρ'=>exact fun σ' H' A' hσ I'=>by rw [e2];exact q .non H' σ' A' [] hσ (I'.weak h1 h2) ⟨rfl,rfl⟩ nodup_nil (fun _ h=>nomatch h)
    | _=>exact q.elim) fun c x q=>q)
theorem Xlk {ds:List D}{vs:List V}{B:List Addr}(r:RpA K C H ds vs B):∃A:Nat→List Addr,(∀(i:Nat) d,ds[i]?=some d→∃v,vs[i]?=some v∧Rp K C H d v (A i))∧(∀i,ds.length≤i→A i=[])∧∀i,∀a∈A i,a∈B:=by
 induction ds generalizing vs B with
 | nil=>exact ⟨fun _=>[],fun i d h=>by simp at h,fun _ _=>rfl,fun _ _ h=>nomatch h⟩
 | cons d ds ih =>
  obtain ⟨x,l,B1,B2,e1,e2,e3,e4⟩:=r
  obtain ⟨A,h1,h2,h3⟩:=ih e3
  subst e1 e4
  refine ⟨fun i=>match i with | 0=>B1 | i+1=>A i,fun i d' h=>?_,fun i h=>?_,fun i a ha=>?_⟩
  ·cases i with
   | zero=>simp at h;subst h;exact ⟨x,rfl,e2⟩
   | succ i=>simp at h;obtain ⟨v,q1,q2⟩:=h1 i d' h;exact ⟨v,by simpa using q1,q2⟩
  ·cases i with
   | zero=>simp at h
   | succ i=>exact h2 i (by simpa using h)
  ·cases i with
   | zero=>exact mem_append_left _ ha
   | succ i=>exact mem_append_right _ (h3 i a ha)
theorem Zwe {N:Nat}{d0:D}{ds:List D}{v0:V}{vs:List V}{A0 B:List Addr}(r0:Rp K C H d0 v0 A0)(nd:A0.Nodup)(r:RpA K C H ds vs B)(hd:∀a∈B,a∉A0) :
  ∃A,Xd K C (fun b=>if b∈A0 then none else H b) (fun b=>if b∈A0 then none else H b) H [0] [0] ((v0::vs).map some++List.replicate (N - (v0::vs).length) none) ((d0::ds).map some++List.replicate (N - (d0::ds).length) none) A∧A 0=A0:=by
 obtain ⟨A,h1,h2,h3⟩:=Xlk r
 have hl:=r.len
 have hne:∀j,j≠0→∀a∈A0,a∉(match j with | 0=>A0 | i+1=>A i):=fun j hj a ha h=>by
  cases j with
  | zero=>exact hj rfl
  | succ j=>exact hd a (h3 j a h) ha
 have h0:∀a∈A0,(if a∈A0 then none else H a)=none:=fun a ha=>if_pos ha
 refine ⟨fun i=>match i with | 0=>A0 | i+1=>A i,⟨Xx.refl _,fun b o h=>?_,by simp [hl],fun i d h=>?_,fun i h=>?_,fun i hi a ha=>?_,fun i hi a l e=>?_,fun i hi=>?_⟩,rfl⟩
 ·have h:(if b∈A0 then none else H b)=some o:=h
  split at h
  ·cases h
  ·exact h
 ·cases i with
  | zero=>simp at h;subst h;exact ⟨v0,by simp,r0⟩
  | succ i =>
   by_cases hi:i<ds.length
   ·rw [getElem?_append_left (by simpa using hi),getElem?_map,getElem?_cons_succ] at h
    obtain ⟨d',hd',e⟩:=Option.map_eq_some_iff.mp h
    cases e
    obtain ⟨v,q1,q2⟩:=h1 i d hd'
    refine ⟨v,?_,q2⟩
    rw [getElem?_append_left (by simp [hl,hi]),getElem?_map,getElem?_cons_succ,q1]
    rfl
   ·rw [getElem?_append_right (by simpa using hi)] at h
    have:=mem_of_getElem? h
    rw [mem_replicate] at this
    exact absurd this.2 (by intro z;cases z)
 ·cases i with
  | zero=>exact absurd (by simp) (h d0)
  | succ i =>
   by_cases hi:i<ds.length
   ·refine absurd ?_ (h ds[i])
    rw [getElem?_append_left (by simpa using hi),getElem?_map,getElem?_cons_succ,getElem?_eq_getElem hi]
    rfl
   ·exact h2 i (by omega)
 ·rw [List.mem_singleton.mp hi] at ha
  exact h0 a ha
 ·obtain rfl:=List.mem_singleton.mp hi
  have e:A0=a::l:=e
  subst e
  exact ⟨h0 a (.head _),(List.nodup_cons.mp nd).1,fun j hj=>hne j hj a (.head _)⟩
 ·obtain rfl:=List.mem_singleton.mp hi
  exact ⟨nd,hne,h0⟩
theorem Xbb {N:Nat}{t:TS}{G:FM}{E E':XK}{d0:D}{ds:List D}{v0:V}{vs:List V}{A0 B:List Addr}{Q:VK}(h:Xon K C E [0] [0] t G)(r0:Rp K C H d0 v0 A0)(nd:A0.Nodup)(r:RpA K C H ds vs B)(hd:∀a∈B,a∉A0)
    (p:Xz (Dl.Xiz N G (d0::ds)) (fun p=>∀v H' A1 Br,(∀b o,b∉A0→H b=some o→H' b=some o)→Rp K C H' p.2 v0 A1→A1.Nodup→(∀a∈A1,a∈A0∨H a=none)→Rp K C H' p.1 v Br→Br.Nodup→(∀a∈Br,(a∈A0∨H a=none)∧a∉A1)→Q v H')
      (fun c x=>∀H',(∀b o,b∉A0→H b=some o→H' b=some o)→EC C E c x H')) :
    t {nx:=fun _ H'=>Q .non H',rt:=Q} ((v0::vs).map some++List.replicate (N - (v0::vs).length) none) H:=by
  obtain ⟨A,I,hA⟩:=Zwe (N:=N) r0 nd r hd
  have bk:∀{H'},Xx (fun b=>if b∈A0 then none else H b) H'→∀b o,b∉A0→H b=some o→H' b=some o:=fun g b o hb h=>g b o ((if_neg hb).trans h)
  have fr:∀{a},(if a∈A0 then none else H a)=none→a∈A0∨H a=none:=fun {a} h=>by
    split at h
    · exact .inl (by assumption)
    · exact .inr h
  refine h _ _ H _ _ A _ Q I rfl rfl (Xz.imp (Xz.bind p) (fun q pq v H' σ' A' B' hσ I' rr ndr hB=>?_) fun c x q H' g=>q H' (bk g))
  split at pq
  · rename_i d e
    obtain ⟨w,hw,rw'⟩:=I'.rep 0 d e
    have hw2:some (some w)=some (some v0):=by rw [← hw,hσ];simp
    cases hw2
    obtain ⟨q1,q2,q3⟩:=I'.deep 0 (by simp)
    refine pq v H' (A' 0) B' (bk I'.same) rw' q1 (fun a ha=>fr (q3 a ha)) rr ndr fun a ha=>⟨fr (hB a ha).1,(hB a ha).2 0⟩
  · exact pq.elim
end
structure JM (X:Cx)(C:String→Addr)(E:XK)(Γ Δ:List Nat)(e:Expr)(t:TE)(f:FM):Prop where
 q:QE X e t
 o:MOk X.K C E Γ Δ t f
structure JMT (X:Cx)(C:String→Addr)(E:XK)(Γ Δ:List Nat)(e:Expr)(t:TT)(f:FMT):Prop where
 q:QT X e t
 o:MTOk X.K C E Γ Δ t f
structure JMW (X:Cx)(C:String→Addr)(E:XK)(Γ Δ:List Nat)(e:Expr)(t:TT)(f:FMT):Prop where
 q:QW X e t
 o:MTOk X.K C E Γ Δ t f
structure JP (X:Cx)(C:String→Addr)(E:XK)(Γ Δ Γ' Δ':List Nat)(s:Stmt)(t:TS)(f:FS):Prop where
 q:QS X s t
 o:Xil X.K C E Γ Δ Γ' Δ' t f
structure JMB (X:Cx)(C:String→Addr)(E:XK)(Γ Δ:List Nat)(s:List Stmt)(t:TS)(f:FM):Prop where
 q:QSs X s t
 o:Xon X.K C E Γ Δ t f
structure Zdc (P:Program)(w:World)(K:Frag)(mg:Str→Option Value)(base:Heap)(CX:CXT)(k:Nat)(C:Addr)(x:Str)(ps:List Str)(sp:Sp):Prop where
 ex:∃f fd,Meth K C x f∧Binds K fd ps []∧Jx P w K mg base CX k f fd ps sp
structure Xlf (P:Program)(w:World)(K:Frag)(mg:Str→Option Value)(base:Heap)(CX:CXT)(k:Nat)(C:Addr)(ps:List Str)(sp:Sp):Prop where
 ex:∃f fd,Mk K C f∧Binds K fd ps []∧Jx P w K mg base CX k f fd ps sp
section
variable {X:Cx}{C:String→Addr}{E:XK}{Γ Δ Γ' Δ' Γ1 Δ1 Γl Δl:List Nat}{m m1 m2 mr n:Nat}{S S1 S2:List (Nat×Bool)}{a b e o:Expr}{es rest:List Expr}{te:TE}{fe:FE}{t:TA}{fa:FA}{pos p p2 apos cpos:Pos}{c:String}{f md x:Str}{CX:CXT}{k:Nat}{ps:List Str}{s:Stmt}{ss:List Stmt}{tm:TE}{fm:FM}{u:TS}{g:FS}
theorem Jk {K:Frag}(hc:Cls K (C c))(hn:Zbs K (C c) f)(he:JE X C E Γ Δ m S e te fe)(hb:attributeBase e f X.env (eval e X.env)=eval e X.env:=by rfl)(hK:X.K=K:=by rfl):JE X C E Γ Δ 0 S (.Attribute e f pos) (Xpf K te f) (Dl.f1 (Dl.Zdd c f) fe):=by
 subst hK
 exact ⟨⟨Xhq he.q.out hb⟩,Xmf hc hn he.o⟩
theorem Zkm {K:Frag}{F:List D→R D}{pl:Sem Bool}(hc:Cls K (C c))(M:Zdc X.prog X.w K X.mg X.base CX k (C c) md ps (spD K C (n+1) mr F))(hr:Zdx k X.A)(hx:Zbp CX X E)(ho:JE X C E Γ Δ m1 S1 o te fe)(ha:JA X C E Γ Δ m2 S2 (e::es) n t fa)
    (hst:starEach (e::es) X.env=(false,eval e X.env)::starEach es X.env:=by rfl) (hpl:(backTo pos (starEach es X.env)).any (·.1)=false:=by rfl)
    (ht:eval (.Call (.Attribute o md apos) (e::es) [] pos) X.env=(do
      let ov ← eval o X.env
      standAt apos.atName
      let (f,first) ← holding [ov] (getMethod ov md pl)
      callWith pos f first (backTo pos (starEach (e::es) X.env)) (backToKw pos (keywordEach [] X.env))):=by rfl) (hK:X.K=K:=by rfl) :
    JE X C E Γ Δ mr [] (.Call (.Attribute o md apos) (e::es) [] pos) (Zmg (C c) md (spD K C (n+1) mr F) [] E te t) (Dl.Jc c md F fe fa):=by
  subst hK
  obtain ⟨f,fd,hm,hb,F'⟩:=M.ex
  exact ⟨⟨Zrx ho.q.out hc hm F' hr hb .nil hx ha.q.out hst hpl ht⟩,Zut ho.o ha.o ha.n⟩
theorem Yq {K:Frag}{F:List D→R D}{pl:Sem Bool}(hc:Cls K (C c))(M:Zdc X.prog X.w K X.mg X.base CX k (C c) md ps (spD K C 1 mr F))(hr:Zdx k X.A)(hx:Zbp CX X E)(ho:JE X C E Γ Δ m1 S1 o te fe)
    (ht:eval (.Call (.Attribute o md apos) [] [] pos) X.env=(do
      let ov ← eval o X.env
      standAt apos.atName
      let (f,first) ← holding [ov] (getMethod ov md pl)
      callWith pos f first (backTo pos (starEach [] X.env)) (backToKw pos (keywordEach [] X.env))):=by rfl) (hK:X.K=K:=by rfl) :
    JE X C E Γ Δ mr [] (.Call (.Attribute o md apos) [] [] pos) (Zmg (C c) md (spD K C 1 mr F) [] E te Zvr) (Dl.Jc c md F fe Dl.Zt):=by
  subst hK
  obtain ⟨f,fd,hm,hb,F'⟩:=M.ex
  exact ⟨⟨Ztq ho.q.out hc hm F' hr hb .nil hx ht⟩,Zut ho.o Ztc Zsi⟩
theorem Zrn {K:Frag}{G:List D→R (D×D)}(M:Xlf X.prog X.w K X.mg X.base CX k (C c) ps (spM K C n G))(hr:Zdx (k+1) X.A)(hg:Gl X x)(hm:X.mg x=some (.ref (C c)))(hx:Zbp CX X E)(ha:JA X C E Γ Δ m S (e::es) n t fa)
  (hdb:(x==("__debug__":Str))=false:=by decide) (he:starEach (e::es) X.env=(false,eval e X.env)::starEach es X.env:=by rfl) (hpl:(backTo pos (starEach es X.env)).any (·.1)=false:=by rfl) (hK:X.K=K:=by rfl) :
  JE X C E Γ Δ 2 [] (.Call (.Name x p) (e::es) [] pos) (Xkt (C c) (spM K C n G) [] E t) (Dl.Zpk c G fa):=by
 subst hK
 obtain ⟨f,fd,hm',hb,F'⟩:=M.ex
 exact ⟨⟨Xlh hm' F' hr hg hm hb .nil hx ha.q.out hdb he hpl⟩,Xgj ha.o ha.n⟩
theorem Xly {K:Frag}{G:List D→R (D×D)}{pl:Sem Bool}(i:Nat)(hc:Cls K (C c))(M:Zdc X.prog X.w K X.mg X.base CX k (C c) md ps (spM K C n G))(hr:Zdx k X.A)(hx:Zbp CX X E)(ha:JA X C E Γ Δ m2 S2 (e::es) n t fa)(hi:i∈Δ:=by decide)(hS:∀p∈S2,p.1≠i:=by decide)
    (hN:X.N[i]?=some x:=by rfl) (hv:autoParam (Vis X.env.scope x) aT3._auto_1) (hd:(x==("__debug__":Str))=false:=by decide) (hcd:(x==("__classdict__":Str))=false:=by decide)
    (hst:starEach (e::es) X.env=(false,eval e X.env)::starEach es X.env:=by rfl) (hpl:(backTo pos (starEach es X.env)).any (·.1)=false:=by rfl)
    (ht:eval (.Call (.Attribute (.Name x p) md apos) (e::es) [] pos) X.env=(do
      let ov ← eval (.Name x p) X.env
      standAt apos.atName
      let (f,first) ← holding [ov] (getMethod ov md pl)
      callWith pos f first (backTo pos (starEach (e::es) X.env)) (backToKw pos (keywordEach [] X.env))):=by rfl) (hK:X.K=K:=by rfl) :
    JM X C E Γ Δ (.Call (.Attribute (.Name x p) md apos) (e::es) [] pos) (Zmg (C c) md (spM K C n G) [] E (Zdb i) t) (Dl.Zwz i c md G fa):=by
  subst hK
  obtain ⟨f,fd,hm,hb,F'⟩:=M.ex
  exact ⟨⟨Zrx (pv i hN hv hd hcd) hc hm F' hr hb .nil hx ha.q.out hst hpl ht⟩,Xeq hi ha.o ha.n hS⟩
theorem Xgx (he:JM X C E Γ Δ e tm fm)(hs:swapsWith e none pos.line X.env=pure false:=by rfl):JS X C E mr Γl Δl Γ Δ Γ Δ (.Expr e pos) (Zja tm) (Dl.Zmq fm):=⟨Zlj he.q hs,Zzb he.o⟩
theorem Zbz {v:TS}(Γ1 Δ1:List Nat)(h:JP X C E Γ Δ Γ1 Δ1 s u g)(hr:JMB X C E Γ1 Δ1 ss v fm):JMB X C E Γ Δ (s::ss) (Xoq u v) (Dl.Zbj g fm):=⟨Zvu h.q hr.q,Xkb h.o hr.o⟩
theorem Xhm (he:JE X C E Γ Δ 2 [] e te fe)(h1:∀i∈[0],i∈Γ:=by decide)(h2:∀i∈[0],i∈Δ:=by decide):JMB X C E Γ Δ [.Return (some e) pos] (Xos te) (Dl.Zsp fe):=⟨Zol (Xhk he.q),Xsl he.o h1 h2⟩
theorem Xpg (h:JP X C E Γ Δ Γ1 Δ1 s u g)(h1:∀i∈[0],i∈Γ1:=by decide)(h2:∀i∈[0],i∈Δ1:=by decide):JMB X C E Γ Δ [s] u (Dl.Xev g):=⟨Zol h.q,Xra h.o h1 h2⟩
theorem Zpi {K:Frag}{i:Nat}(hc:Cls K (C c))(hn:Zbs K (C c) f)(he:JE X C E Γ Δ 2 [] e te fe)(hi:i∈Δ:=by decide)(hN:X.N[i]?=some x:=by rfl)(hv:autoParam (Vis X.env.scope x) aT3._auto_1)(hd:(x==("__debug__":Str))=false:=by decide)(hcd:(x==("__classdict__":Str))=false:=by decide)
  (hs:swapsWith e (some (.Attribute (.Name x p) f p2)) pos.line X.env=pure false:=by rfl) (hK:X.K=K:=by rfl):JP X C E Γ Δ Γ Δ (.Assign [.Attribute (.Name x p) f p2] e pos) (Zxs K (Zdb i) te f) (Dl.Zxs i c f fe):=by
 subst hK
 exact ⟨⟨Xpd (pv i hN hv hd hcd) he.q.out hs⟩,Xdr hc hn hi he.o⟩
theorem Zpu {K:Frag}{i:Nat}{ap:Pos}(hc:Cls K (C c))(hn:Zbs K (C c) f)(he:JE X C E Γ Δ 2 [] e te fe)(hse:starEach [e] X.env=(false,eval e X.env)::starEach [] X.env)(hi:i∈Δ:=by decide)(hN:X.N[i]?=some x:=by rfl)(hv:autoParam (Vis X.env.scope x) aT3._auto_1)(hd:(x==("__debug__":Str))=false:=by decide)(hcd:(x==("__classdict__":Str))=false:=by decide)
  (hb:attributeBase (.Name x p) f X.env (eval (.Name x p) X.env)=eval (.Name x p) X.env:=by rfl) (hbase:attributeBase (.Attribute (.Name x p) f ap) "append" X.env (eval (.Attribute (.Name x p) f ap) X.env)=eval (.Attribute (.Name x p) f ap) X.env:=by rfl)
  (hfew:((backTo cpos (starEach [e] X.env)).all (fun x=>!x.1)&&(backToKw cpos (keywordEach [] X.env)).all (fun x=>x.1.isSome)&&decide (([e]:List Expr).length+([]:List Keyword).length+(if ([]:List Keyword).isEmpty then 0 else 1)<30))=true:=by rfl)
  (hline:(apos.endLine==cpos.line)=true:=by rfl) (hplain:(backTo cpos (starEach ([]:List Expr) X.env)).any (·.1)=false:=by rfl) (hsw:swapsWith (.Call (.Attribute (.Attribute (.Name x p) f ap) "append" apos) [e] [] cpos) none pos.line X.env=pure false:=by rfl) (hK:X.K=K:=by rfl) :
  JP X C E Γ Δ Γ Δ (.Expr (.Call (.Attribute (.Attribute (.Name x p) f ap) "append" apos) [e] [] cpos) pos) (Zja (tBM K "list" Zef (Xpf K (Zdb i) f) (Zhz te Zvr))) (Dl.Zfu i c f fe):=by
 subst hK
 exact ⟨Zlj (Xjh PySem.F.plainAttrs_list PySem.F.slot_list_append PySem.F.type_list_append Zlm ⟨Xhq (pv i hN hv hd hcd) hb⟩ (Zkp he.q Zvh hse) hbase hfew hline hse hplain) hsw,Ztb hc hn hi he.o⟩
theorem Xhy {i:Nat}{p':Pos}(hN:X.N.Nodup)(hi:X.N[i]?=some x)(hx:Loc X.env.scope x)(he:JE X C E Γ Δ 2 [] e te fe)(h0:i≠0:=by decide)(hs:swapsWith e (some (.Name x p')) pos.line X.env=pure false:=by rfl)(hf:autoParam (X.fn x=true∨X.env.scope.names.lookup x=some .local) aT0._auto_1)
  (h1:∀j∈Γ',j=i∨j∈Γ:=by decide) (h2:∀j∈Δ',j=i∨j∈Δ:=by decide):JP X C E Γ Δ Γ' Δ' (.Assign [.Name x p'] e pos) (Zmf te (Zbn i)) (Dl.Yg i fe):=⟨Zua hN hi hx he.q hs hf,Zyp he.o h0 h1 h2⟩
theorem Xbi (he:JE X C E Γ Δ m S e te fe)(hs:swapsWith e none pos.line X.env=pure false:=by rfl):JP X C E Γ Δ Γ Δ (.Expr e pos) (Zja te) (Dl.Zst fe):=⟨Zlj he.q hs,Xaw he.o⟩
theorem Xqx {cx:Expr}{tA:TT}{fA:FT}{ex:Option Expr}{rp:Pos}(hc:JT X C E Γ Δ cx tA fA):JP X C E Γ Δ Γ Δ (.If cx [.Raise ex none rp] [] pos) (Xoj tA Zml Zwa) (Dl.sIf fA Dl.Ziw Dl.sNx):=⟨Xrd hc.q (Zol (Znh (X:=X) (C:=C) (E:=E) (mr:=2) (Γl:=[]) (Δl:=[]) (Γ:=Γ) (Δ:=Δ) (Γ':=Γ) (Δ':=Δ)).q) Xbh,Xgs hc.o⟩
end
theorem Fun.okM {P:Program}{w:World}{K:Frag}{C:String→Addr}{mg:Str→Option Value}{base:Heap}{x qual:Str}{st:Stmt}{f:Addr}{fd:FuncData}{N ps:List Str}{k n:Nat}{G:FM}(F:Fun K x qual st f fd)(S:Zv N ps (Zm st))(hn:ps.length=n+1)
    (hbody:∀(cdv:Value) (A:Around) (outer:List Env) (s:Shared) (H:Hp) (E:XK),Zdx k (A.deeper (envOfC qual (Zm st) s.heap.objs.size f cdv))→
      ∃t,JMB (Xek CX0 P w K mg base N qual (Zm st) f cdv A outer s H E).nox C E0 [0] [0] (Zbl st) t G):Jx P w K mg base CX0 (k+1) f fd ps (spM K C n fun ds=>(Dl.Xiz N.length G ds).calm):=
  F.okQ S (fun vs H Q E h=>by
    obtain ⟨d0,ds,v0,vs',A0,B,rfl,h1,_,_,h2,_⟩:=h
    rw [length_cons,h2.len,h1,hn]) fun cdv A outer s H vs Q E hr h=>by
    obtain ⟨d0,ds,v0,vs',A0,B,rfl,h1,r0,nd,r,hd,p⟩:=h
    obtain ⟨t,ht⟩:=hbody cdv A outer s H E hr
    exact ⟨t,ht.q,Xbb (K:=K) (E':=E) ht.o r0 nd r hd (Xz.imp (Zfn p) (fun _ q=>q) fun _ _ z=>z.elim)⟩
section
variable {K:Frag}{C:String→Addr}{E:XK}{Γ Δ Γ' Δ' Γ1 Δ1 Γl Δl:List Nat}{m m1 m2 mr n:Nat}{S S1 S2:List (Nat×Bool)}{H:Hp}
end
section
variable {X:Cx}{C:String→Addr}{E:XK}{Γ Δ Γ' Δ' Γl Δl:List Nat}{m1 m2 n:Nat}{S2:List (Nat×Bool)}{a b e:Expr}{es:List Expr}{ta tb:TE}{fa fb:FE}{t:TA}{ff:FA}{pos p p2 cpos:Pos}{x y:Str}{CX:CXT}{k:Nat}{ps:List Str}
end
theorem allN0 {P:List Value→Prop}(h:P []):∀us:List Value,us.length=0→P us
 | [],_=>h
theorem Zlf {P:List Value→Prop}(h:∀a0,P [a0])(us:List Value)(hl:us.length=1):P us:=by
 cases us with
 | nil=>exact absurd hl (by decide)
 | cons a us=>exact allN0 (P:=fun z=>P (a::z)) (h a) us (Nat.succ.inj hl)
theorem Zex {P:List Value→Prop}(h:∀a0 a1,P [a0,a1])(us:List Value)(hl:us.length=2):P us:=by
 cases us with
 | nil=>exact absurd hl (by decide)
 | cons a us=>exact Zlf (P:=fun z=>P (a::z)) (h a) us (Nat.succ.inj hl)
theorem Zix {P:List Value→Prop}(h:∀a0 a1 a2,P [a0,a1,a2])(us:List Value)(hl:us.length=3):P us:=by
 cases us with
 | nil=>exact absurd hl (by decide)
 | cons a us=>exact Zex (P:=fun z=>P (a::z)) (h a) us (Nat.succ.inj hl)
theorem Zwt {P:List Value→Prop}(h:∀a0 a1 a2 a3,P [a0,a1,a2,a3])(us:List Value)(hl:us.length=4):P us:=by
 cases us with
 | nil=>exact absurd hl (by decide)
 | cons a us=>exact Zix (P:=fun z=>P (a::z)) (h a) us (Nat.succ.inj hl)
theorem Xgc {q:Program}{loose:List Str}{XP:(Str→Option Value)→Heap→Prop}{K:Params→Frag}{as:List Addr}{n t:Nat}{r:PySem.W.RowW}{d:DefRec}{kwd:List (Str×Expr)}{run:Value→List Value→Sem Value}
  (e:∀P,as=(K P).map (·.1)) (W:PySem.W.WalkO q loose XP (PySem.W.InK K) r d kwd run):PySem.W.WalkX q loose XP (PySem.W.X.obsZ as) (PySem.W.X.valZ K n t) r d kwd run:=
 fun w s₀ s₁ mg mb G y a o pm cd doc dV kV ho hd hcd hD hmg hg args vals as' L hpre hlay hrd hwl hlo =>
  W w s₀ s₁ mg mb G (PySem.W.InK.keeps w _ _ (PySem.W.X.z_facts e y).2.1 (PySem.W.Laid.keeps L)) a o pm cd doc dV kV ho hd hcd hD hmg hg args vals as' hpre hlay hrd hwl hlo
end L2
namespace L2
open PySem PySem.Spec PyProof.Rows
open Dl (D R FE FT FA FO FS FI FB Fl)
section
variable {K:Frag}{C:String→Addr}{E:XK}{Γ Δ Γ' Δ' Γl Δl:List Nat}{mr:Nat}
end
section
variable {X:Cx}{C:String→Addr}{E:XK}{Γ Δ Γl Δl:List Nat}{m2 mr n k:Nat}{S2:List (Nat×Bool)}{es:List Expr}{t:TA}{ff:FA}{pos p p2 p3 cpos:Pos}{x y:Str}{CX:CXT}{ps:List Str}
end
end L2
namespace L2
open PySem PySem.Spec PyProof.Rows
noncomputable def Xse (K:Frag)(C:Addr)(bmB:List Value)(newId:String)(fI:Addr):Bool:=match K.lookup C with
  | some ⟨.type "type",_,.cls cd,sl⟩=>(match cd.mro,sl.toList with
    | .ref C'::bm,[_,_,_,_,some (.builtin n),_]=>C'==C&&n==newId&&!cd.hasDel&&cd.hasDict&&PySem.W.tailIn K bmB bm&&PySem.W.nsOkIn K cd.ns&&nsIn K cd.ns "__init__"==some (some (.ref fI))
    | _,_=>false)
  | _=>false
section
variable {prog:Program}{w:World}{A:Around}{E:Value→Shared→Prop}{h:Heap}{g:Array GenState}{d:Drawn}{t:Nat}{os:OsState}
variable {nm q:Str}{C N:Addr}{bs bm bmB:List Value}{hdct:Bool}{sn:List Str}{sub:List Value}{ab:Bool}{col:Option Bool}{dd:Option Addr}{k0 k1 k2 k3 k5:Option Value}{B newId initId:String}
end
section
variable {prog:Program}{w:World}{A:Around}{E:Value→Shared→Prop}{s:Shared}{env:Env}
variable {nm q:Str}{C N:Addr}{bs bm bmB:List Value}{hdct:Bool}{sn:List Str}{sub:List Value}{ab:Bool}{col:Option Bool}{dd:Option Addr}{k0 k1 k2 k3 k5:Option Value}{B newId initId:String}
end
end L2
namespace L2
open PySem PySem.Spec PyProof.Rows
open PySem.W (Looks)
open Builtin Builtin.ObjectAttr
section
variable {prog:Program}{w:World}{A:Around}{E:Value→Shared→Prop}{h:Heap}{g:Array GenState}{d:Drawn}{t:Nat}{os:OsState}
variable {nm q:Str}{C N x:Addr}{bs bm bmB:List Value}{sn:List Str}{sub:List Value}{ab:Bool}{col:Option Bool}{dd:Option Addr}{k0 k1 k2 k3 k5:Option Value}{B newId sa owner:String}
 {name:Str} {v:Value} {fs:Array Value} {sl:Array (Option Value)}
end
end L2
namespace L2
open PySem PySem.Spec PyProof.Rows
open PySem.W (Looks)
section
variable {prog:Program}{w:World}{A:Around}{E:Value→Shared→Prop}{h:Heap}{g:Array GenState}{d:Drawn}{t:Nat}{os:OsState}
variable {nm q:Str}{C N x:Addr}{bs bm bmB:List Value}{hdct:Bool}{sn:List Str}{sub:List Value}{ab:Bool}{col:Option Bool}{dd:Option Addr}{k0 k1 k2 k3 k5:Option Value}{B newId initId:String}
end
section
variable {prog:Program}{w:World}{A:Around}{E:Value→Shared→Prop}{h:Heap}{g:Array GenState}{d:Drawn}{t:Nat}{os:OsState}{a C dx:Addr}{o:Obj}{vs:Array Value}{mA:Str→Option Value}{v:Value}{name:Str}
end
end L2
namespace L2
open PySem PySem.Spec PyProof.Rows
open Dl (D R FE FT FA FO FS FI FB Fl)
structure ErrF (K:Frag)(C:Addr)(nm:Str)(fI:Addr):Prop where
 exc:Xse K C bmV "ValueError.__new__" fI=true
 sa:findIn K (.ref C) "__setattr__"=some (some (.builtin "object.__setattr__"))
 nf:findIn K (.ref C) nm=some none
 hd:hasDictIn K C=true
noncomputable def exA (e C:Addr)(dx:Option Addr):HO:=.ext fun h=>∃t sl,h.get? e=some {cls:=.ref C,dict:=dx,data:=.fields #[.ref t,.none,.none,.none,.bool false,.none],slots:=sl}
section
variable {X:Cx}{pins:List (Addr×Obj)}{σ:St}{H:Hp}{s:Shared}
end
structure BaseI (K:Frag)(B:Addr):Prop where
 sp:specialIn K (.ref B) "__getattribute__"=some (some (.builtin "type.__getattribute__"))
 rd:PySem.W.readsIn K B (.type "type")=true
 fc:PySem.W.findCls K (.ref B) (.type "type") "__init__"=some (.val (.builtin "ValueError.__init__"))
section
variable {X:Cx}{e o value:Expr}{es:List Expr}{t:TA}{ta tv:TE}{pos pos' apos np:Pos}{b f:Str}{B:Addr}
end
noncomputable def Xpj (K:Frag)(nm:Str):Sp:=fun vs H Q _=>∃e C i fI,vs=[.ref e,.int i]∧H e=some (exA e C none)∧ErrF K C nm fI∧i.natAbs.log2<1920∧∀d,H d=none→Q .non (upd (upd H d (.xd [(nm,.int i)])) e (exA e C (some d)))
section
variable {P:Program}{w:World}{K:Frag}{mg:Str→Option Value}{base:Heap}
structure IDef (P:Program)(w:World)(K:Frag)(mg:Str→Option Value)(base:Heap)(C:Addr)(nm:Str):Prop where
 ex:∃fI fd ps,ErrF K C nm fI∧typeIn K (.ref fI)=some (.type "function")∧ps.length=2∧Binds K fd ps []∧Jx P w K mg base CX0 1 fI fd ps (Xpj K nm)
variable {C:String→Addr}{E:XK}{Γ Δ Γ' Δ' Γl Δl:List Nat}{m mr:Nat}{S:List (Nat×Bool)}
end
section
variable {X:Cx}{C:String→Addr}{E:XK}{Γ Δ Γ' Δ' Γl Δl:List Nat}{m mr:Nat}{S:List (Nat×Bool)}{e:Expr}{te:TE}{fe:FE}{np cpos pos:Pos}
end
section
variable {K:Frag}{C:String→Addr}{E:XK}{Γ Δ Γ' Δ' Γl Δl:List Nat}{m mr:Nat}{S:List (Nat×Bool)}
end
section
variable {X:Cx}{C:String→Addr}{E:XK}{Γ Δ Γ' Δ' Γl Δl:List Nat}{m m1 m2 mr:Nat}{S S1 S2:List (Nat×Bool)}{a b e:Expr}{ta tb te:TE}{fa fb fe:FE}{pos pos':Pos}
end
section
variable {K:Frag}{C:String→Addr}{E:XK}{Γ Δ Γ' Δ' Γk Δk:List Nat}{mr:Nat}{S:List (Nat×Bool)}
end
section
variable {X:Cx}{C:String→Addr}{E:XK}{Γ Δ Γk Δk:List Nat}{mr:Nat}{S:List (Nat×Bool)}{c iter:Expr}{ret:List Stmt}{u:TS}{g:FS}{pos p ip:Pos}{x:Str}{k:Nat}
end
structure Clz where
 c:Value
 i:Option Nat
 th:TS
noncomputable def tClz (K:Frag)(N:Nat)(D:Ends)(e:Addr)(cls:Value)(dx:Option Addr)(H':Hp):List Clz→Prop
  | []=>False
  | z::r=>∃b,exmOne K cls z.c=some b∧if b=true then (match z.i with
      | some i=>∀σ':St,σ'.length=N→z.th {nx:=fun _ H2=>D.nx (List.replicate N none) H2,rt:=D.rt,bk:=fun _ H2=>D.bk (List.replicate N none) H2,ct:=fun _ H2=>D.ct (List.replicate N none) H2} (σ'.set i (some (.ref e))) (upd H' e (exO e cls dx))
      | none=>∀σ':St,σ'.length=N→z.th D σ' H')
    else tClz K N D e cls dx H' r
inductive PClz (X:Cx):List ExceptHandler→List Clz→Prop
 | nil:PClz X [] []
 | named {c n:Str} {np hpos:Pos} {C:Addr} {b₀:Stmt} {suite:List Stmt} {i:Nat} {th:TS} {hs:List ExceptHandler} {zs:List Clz} (hm:X.mg c=some (.ref C)) (hg:Gl X c) (hdb:(c==("__debug__":Str))=false) (hi:X.N[i]?=some n) (hl:X.env.scope.names.lookup n=some .local)
   (hh:∀e:Addr,PSs (X.hand e) (b₀::suite) th) (hr:PClz X hs zs):PClz X (.ExceptHandler (some (.Name c np)) (some n) (b₀::suite) hpos::hs) (⟨.ref C,some i,th⟩::zs)
 | plain {c:Str} {np hpos:Pos} {C:Addr} {b₀:Stmt} {suite:List Stmt} {th:TS} {hs:List ExceptHandler} {zs:List Clz} (hm:X.mg c=some (.ref C)) (hg:Gl X c) (hdb:(c==("__debug__":Str))=false)
   (hh:∀e:Addr,PSs (X.hand e) (b₀::suite) th) (hr:PClz X hs zs):PClz X (.ExceptHandler (some (.Name c np)) none (b₀::suite) hpos::hs) (⟨.ref C,none,th⟩::zs)
section
variable {K:Frag}{C:String→Addr}{E:XK}{Γ Δ Γ1 Δ1 Γl Δl:List Nat}{mr:Nat}
inductive OClz (K:Frag)(C:String→Addr)(N mr:Nat)(Γl Δl Γ1 Δ1:List Nat):List Clz→List (List (String×Bool)×Option Nat×FS)→Prop
 | nil:OClz K C N mr Γl Δl Γ1 Δ1 [] []
 | named {c:Addr} {i:Nat} {th:TS} {fh:FS} {tb:List (String×Bool)} {Γ2 Δ2:List Nat} {Eh:XK} {zs:List Clz} {ds:List (List (String×Bool)×Option Nat×FS)} (ht:∀p∈tb,exmOne K (.ref (C p.1)) (.ref c)=some p.2) (hi:i<N) (hh:SOk K C Eh mr [] [] [] [] Γ2 Δ2 th fh)
   (hr:OClz K C N mr Γl Δl Γ1 Δ1 zs ds):OClz K C N mr Γl Δl Γ1 Δ1 (⟨.ref c,some i,th⟩::zs) ((tb,some i,fh)::ds)
 | plain {c:Addr} {th:TS} {fh:FS} {tb:List (String×Bool)} {Eh:XK} {zs:List Clz} {ds:List (List (String×Bool)×Option Nat×FS)} (ht:∀p∈tb,exmOne K (.ref (C p.1)) (.ref c)=some p.2) (hh:SOk K C Eh mr Γl Δl [] [] Γ1 Δ1 th fh)
   (hr:OClz K C N mr Γl Δl Γ1 Δ1 zs ds):OClz K C N mr Γl Δl Γ1 Δ1 (⟨.ref c,none,th⟩::zs) ((tb,none,fh)::ds)
end
inductive JClz (X:Cx)(C:String→Addr)(mr:Nat)(Γl Δl Γ1 Δ1:List Nat):List ExceptHandler→List Clz→List (List (String×Bool)×Option Nat×FS)→Prop
 | mk {hs:List ExceptHandler} {zs:List Clz} {ds:List (List (String×Bool)×Option Nat×FS)} (p:PClz X hs zs) (o:OClz X.K C X.N.length mr Γl Δl Γ1 Δ1 zs ds):JClz X C mr Γl Δl Γ1 Δ1 hs zs ds
section
variable {X:Cx}{C:String→Addr}{E:XK}{Γ Δ Γ1 Δ1 Γl Δl:List Nat}{mr:Nat}{np hpos pos:Pos}{hs:List ExceptHandler}{zs:List Clz}{ds:List (List (String×Bool)×Option Nat×FS)}{b₀:Stmt}{suite:List Stmt}{th:TS}{fh:FS}
end
section
variable {X:Cx}{C:String→Addr}{E:XK}{Γ Δ Γl Δl:List Nat}{mr:Nat}{e:Expr}{te:TE}{fe:FE}{pos p apos cpos:Pos}
def Xmy:V→V→V→Hp→(Hp→Prop)→Prop:=fun o i v H Q=>∃a H4,o=.ref a∧Xol H a i v H4∧Q H4
theorem set_dict (hu:X.A.units+64<cLine):PSet X Xmy:=by
 intro pins s σ H o i v ov iv u Q I ro ri rv h
 obtain ⟨a,H4,rfl,g,q⟩:=h
 cases (show ov=Value.ref a from ro)
 exact Xce (by omega) I g ri rv fun s4 I4=>⟨H4,I4,q⟩
end
section
variable {K:Frag}{C:String→Addr}{E:XK}{Γ Δ Γl Δl:List Nat}{m m1 m2 mr:Nat}{S S1 S2:List (Nat×Bool)}{H:Hp}
theorem Xaa {x:D}{k:Int ⊕ Str}{v:V}{B:List Addr}(e:Dl.keyD x=some k)(r:Rp K C H x v B):v=kV k:=by
 cases x with
 | int i=>cases e;exact r.1
 | str z=>cases e;exact r.1
 | _=>cases e
theorem Xbq {k:Int ⊕ Str}:∀{ks:List (Int ⊕ Str)} {xs:List V},ks.length=xs.length→((ks.zip xs).any fun kv=>decide (kv.1=k))=Dl.Xss ks k
 | [],_,_=>rfl
 | j::ks,[],h=>by cases h
 | j::ks,x::xs,h=>by
  have:=Xbq (k:=k) (ks:=ks) (xs:=xs) (by simpa using h)
  unfold Dl.Xss at *
  rw [zip_cons_cons,any_cons,any_cons,this]
theorem Xcv:EOk K C E Γ Δ 2 [] Xch (Dl.fC (.dct [] [])):=fun H0 Hb H σ ρ A Q I p q hp=>by
 refine p _ _ (sameNew hp _) ⟨[q],⟨q,[],[],rfl,Yb,rfl,RpA.nil,rfl⟩,fun a ha=>?_,fun z=>by omega,fun _=>List.nodup_cons.mpr ⟨(fun z=>nomatch z),nodup_nil⟩⟩
 have:a=q:=by simpa using ha
 subst this
 exact .inl hp
theorem Zvk {k:Int ⊕ Str}{v:V}:∀{ks:List (Int ⊕ Str)} {xs:List V},ks.length=xs.length→(ks.zip xs).map (fun kv=>if kv.1=k then (kv.1,v) else kv)=ks.zip (List.zipWith (fun j x=>if j=k then v else x) ks xs)
 | [],_,_=>rfl
 | j::ks,[],h=>by cases h
 | j::ks,x::xs,h=>by
  have:=Zvk (k:=k) (v:=v) (ks:=ks) (xs:=xs) (by simpa using h)
  rw [zip_cons_cons,map_cons,this,List.zipWith_cons_cons,zip_cons_cons]
  congr 1
  by_cases e:j=k
  ·simp [e]
  ·simp [e]
theorem RpA.repl {k:Int ⊕ Str}{d:D}{v:V}(r:Rp K C H d v []):∀{ks:List (Int ⊕ Str)} {ds:List D} {xs:List V},RpA K C H ds xs []→Dl.Xy ds=true→RpA K C H (List.zipWith (fun j x=>if j=k then d else x) ks ds) (List.zipWith (fun j x=>if j=k then v else x) ks xs) []
 | [],ds,xs,_,_=>by cases ds<;>cases xs<;>exact RpA.nil
 | j::ks,[],xs,q,_=>by
  rw [q.1]
  exact RpA.nil
 | j::ks,x::ds,xs,q,h=>by
  obtain ⟨y,l,B,B',e1,e2,e3,e4⟩:=q
  simp only [Dl.Xy,Bool.and_eq_true] at h
  subst e1
  have z:=e2.flat h.1
  subst z
  refine ⟨_,_,[],[],rfl,?_,RpA.repl r (e3.flat' h.2) h.2,rfl⟩
  show Rp K C H (if j=k then d else x) (if j=k then v else y) []
  by_cases e:j=k
  ·rw [if_pos e,if_pos e]
   exact r
  ·rw [if_neg e,if_neg e]
   exact e2
theorem RpA.snoc0 {d:D}{v:V}(r:Rp K C H d v []):∀{ds:List D} {xs:List V},RpA K C H ds xs []→RpA K C H (ds++[d]) (xs++[v]) []
 | [],xs,q=>by
  rw [q.1]
  exact ⟨v,[],[],[],rfl,r,RpA.nil,rfl⟩
 | x::ds,xs,q=>by
  obtain ⟨y,l,B,B',e1,e2,e3,e4⟩:=q
  obtain ⟨rfl,rfl⟩:=List.append_eq_nil_iff.mp e4.symm
  subst e1
  exact ⟨y,_,[],[],rfl,e2,RpA.snoc0 r e3,rfl⟩
theorem Ztt {H0 Hb H:Hp}{σ:St}{ρ:Dl.Env}{A:Nat→List Addr}{i:Nat}{ks:List (Int ⊕ Str)}{ds:List D}(I:Xd K C H0 Hb H Γ Δ σ ρ A)(e:ρ[i]?=some (some (.dct ks ds))):∃a xs l,σ[i]?=some (some (.ref a))∧H a=some (.dK (ks.zip xs))∧ks.length=ds.length∧RpA K C H ds xs l∧A i=a::l∧i<ρ.length:=by
 obtain ⟨v,h1,h2⟩:=I.rep i _ e
 obtain ⟨a,xs,B,rfl,h3,h4,h5,h6⟩:=h2
 exact ⟨a,xs,B,h1,h3,h4,h5,h6,(List.getElem?_eq_some_iff.mp e).1⟩
theorem Xgl {i:Nat}{te tk:TE}{fe fk:FE}(hi:i∈Γ:=by decide)(he:EOk K C E Γ Δ m1 S1 te fe)(hk:EOk K C E Γ Δ m2 S2 tk fk):SOk K C E mr Γl Δl Γ Δ Γ Δ (Zmf te (Zdy (Zdb i) tk Xmy)) (Dl.Xgb i fk fe):=fun H0 Hb H σ ρ A D I p=>by
 refine he H0 Hb H σ ρ A _ I (Xz.imp (Xz.bind p) (fun d q v H1 g1 r=>?_) fun c x q H' g'=>q H' (Xx.from0 I g'))
 have I1:=I.mono g1
 split at q
 ·rename_i ks ds e
  obtain ⟨a,xs,l,s1,h1,h2,r1,hA,hl⟩:=Ztt I1 e
  refine ⟨.ref a,s1,hk H0 Hb H1 σ ρ A _ I1 (Xz.imp (Xz.bind q) (fun z q w H2 g2 rz=>?_) fun c x q H' g'=>q H' (Xx.from0 I1 g'))⟩
  obtain ⟨Bz,rz,_⟩:=rz
  obtain ⟨B,rd,_⟩:=r
  split at q
  ·rename_i k hk
   split at q
   ·rename_i hf
    have hv:=Xaa hk rz
    subst hv
    have zB:=rd.flat hf.1
    subst zB
    have hx:ks.length=xs.length:=by rw [h2,r1.len]
    have r2:=(r1.same g2).flat' hf.2.1
    have rd2:=rd.same g2
    have I2:=I1.mono g2
    refine ⟨a,_,rfl,Xol.k (g2 _ _ h1) (lt_of_le_of_lt (by rw [List.length_zip];exact Nat.min_le_left _ _) (Zjj hf.2.2)),?_⟩
    unfold Dl.Xtm at q
    unfold putK
    rw [Xbq hx]
    split at q
    ·rename_i hh
     rw [if_pos hh,Zvk hx]
     obtain ⟨A',I'⟩:=I2.writeO (Γ':=Γ) (Δ':=Δ) (o':=.dK (ks.zip (List.zipWith (fun j x=>if j=k then v else x) ks xs))) (d':=.dct ks (List.zipWith (fun j x=>if j=k then d else x) ks ds)) hi hA hl s1 (fun H' q1 q2=>⟨a,_,_,rfl,q1,by rw [List.length_zipWith,h2,Nat.min_self],q2,rfl⟩) (RpA.repl rd2 r2 hf.2.1) (fun _ z=>nomatch z) (fun z=>nomatch z) (fun j hj _=>⟨hj,fun _ _ _ z=>nomatch z⟩) (fun j hj _=>⟨hj,fun _ _ z=>nomatch z⟩) (fun _=>⟨nodup_nil,(fun _ _ _ z=>nomatch z),(fun _ z=>nomatch z)⟩)
     exact q _ _ A' I'
    ·rename_i hh
     rw [if_neg hh,show ks.zip xs++[(k,v)]=(ks++[k]).zip (xs++[v]) by rw [List.zip_append hx];rfl]
     obtain ⟨A',I'⟩:=I2.writeO (Γ':=Γ) (Δ':=Δ) (o':=.dK ((ks++[k]).zip (xs++[v]))) (d':=.dct (ks++[k]) (ds++[d])) hi hA hl s1 (fun H' q1 q2=>⟨a,_,_,rfl,q1,by simp [h2],q2,rfl⟩) (RpA.snoc0 rd2 r2) (fun _ z=>nomatch z) (fun z=>nomatch z) (fun j hj _=>⟨hj,fun _ _ _ z=>nomatch z⟩) (fun j hj _=>⟨hj,fun _ _ z=>nomatch z⟩) (fun _=>⟨nodup_nil,(fun _ _ _ z=>nomatch z),(fun _ z=>nomatch z)⟩)
     exact q _ _ A' I'
   ·exact q.elim
  ·exact q.elim
 ·exact q.elim
end
section
variable {X:Cx}{C:String→Addr}{E:XK}{Γ Δ Γ' Δ' Γl Δl:List Nat}{m m1 m2 mr:Nat}{S S1 S2:List (Nat×Bool)}{a b e tg:Expr}{ta tb te:TE}{fa fb fe:FE}{p p2 pos:Pos}
theorem Xkx:JE X C E Γ Δ 2 [] (.Dict [] [] pos) Xch (Dl.fC (.dct [] [])):=⟨⟨Xhg⟩,Xcv⟩
theorem Xjs {i:Nat}{x:Str}{kx:Expr}{tk:TE}{fk:FE}(hi:i∈Γ:=by decide)(hN:X.N[i]?=some x:=by rfl)(hv:autoParam (Vis X.env.scope x) aT3._auto_1)(hd:(x==("__debug__":Str))=false:=by decide)(hcd:(x==("__classdict__":Str))=false:=by decide)
    (he:JE X C E Γ Δ m1 S1 e te fe) (hk:JE X C E Γ Δ m2 S2 kx tk fk) (hs:swapsWithSole [.Subscript (.Name x p) kx p2] e pos.line X.env=pure false:=by rfl) (hw:swappedStores [.Subscript (.Name x p) kx p2] e X.env=pure none:=by rfl) (h1:(assignEach [.Subscript (.Name x p) kx p2] X.env).map (·.2)=[assign (.Subscript (.Name x p) kx p2) X.env]:=by rfl)
    (hq:∀v,assign (.Subscript (.Name x p) kx p2) X.env v=(do
      let ov ← holding [v] (eval (.Name x p) X.env)
      let iv ← holding [v,ov] (eval kx X.env)
      standAt p2
      holding [v,ov,iv] (setItem ov iv v)
      release [v,ov,iv] []):=by intro _;rfl) (hu:X.A.units+64<cLine) :
    JS X C E mr Γl Δl Γ Δ Γ Δ (.Assign [.Subscript (.Name x p) kx p2] e pos) (Zmf te (Zdy (Zdb i) tk Xmy)) (Dl.Xgb i fk fe):=⟨Zzc he.q (Xij (qv i hN hv hd hcd) hk.q (set_dict hu) hq) hs hw h1,Xgl hi he.o hk.o⟩
noncomputable abbrev TX:=Str→St→Hp→VK→Prop
def PX (X:Cx)(es:List Expr)(t:TX):Prop:=
 ∀(out:Str) (pins:List (Addr×Obj)) (s:Shared) (σ:St) (H:Hp) (Q:VK),Inv X pins σ H s→out.length+2000*es.length≤sizeLine→t out σ H Q→
  wpAny (model X.prog X.w) X.A (joinParts out (evalEach es X.env)) (EP X pins σ Q) X.xe s
end
theorem Xjx {a b:Str}(h:a.cps.toList=b.cps.toList):a=b:=by
 cases a
 cases b
 congr 1
 exact Array.toList_inj.mp h
section
variable {K:Frag}{C:String→Addr}{E:XK}{Γ Δ:List Nat}{m m1 m2:Nat}{S S1 S2:List (Nat×Bool)}{H:Hp}
theorem one_of {y:Str}{c:Nat}(h:y.cps.toList=[c]):y=⟨#[c]⟩:=Xjx (by rw [h])
noncomputable def joinL (c:Nat):List (List Nat)→List Nat
 | []=>[]
 | [w]=>w
 | w::v::r=>w++32::c::32::joinL c (v::r)
def XOk (K:Frag)(C:String→Addr)(E:XK)(Γ Δ:List Nat)(t:TX)(f:FA):Prop:=∀(H0 Hb H:Hp) (σ:St) (ρ:Dl.Env) (A:Nat→List Addr) (Q:VK) (out:Str),PyData.strOk out=true→Xd K C H0 Hb H Γ Δ σ ρ A→
 Xz ((f ρ).bind fun xs=>Dl.oR (Dl.catO out xs)) (fun d=>∀v H',Xx H H'→Res K C 2 [] H A d v H'→Q v H') (fun c x=>∀H',Xx H H'→EC C E c x H')→t out σ H Q
end
structure JX (X:Cx)(C:String→Addr)(E:XK)(Γ Δ:List Nat)(es:List Expr)(t:TX)(f:FA):Prop where
 q:PX X es t
 o:XOk X.K C E Γ Δ t f
section
variable {X:Cx}{C:String→Addr}{E:XK}{Γ Δ:List Nat}{m m1 m2:Nat}{S S1 S2:List (Nat×Bool)}{a b e o:Expr}{es:List Expr}{ta tb te:TE}{tx:TX}{fa fb fe:FE}{f:FA}{pos p apos cpos:Pos}
end
section
variable {K:Frag}{C:String→Addr}{E:XK}{Γ Δ Γl Δl:List Nat}{m m1 m2 m3 mr:Nat}{S S1 S2 S3:List (Nat×Bool)}{H:Hp}
end
section
variable {X:Cx}{C:String→Addr}{E:XK}{Γ Δ Γ' Δ' Γl Δl:List Nat}{m m1 m2 m3 mr:Nat}{S S1 S2 S3:List (Nat×Bool)}{a b c e o:Expr}{ta tb tc te:TE}{fa fb fc fe:FE}{p p2 pos apos cpos:Pos}
end
section
variable {K:Frag}{C:String→Addr}{E:XK}{Γ Δ:List Nat}
end
section
variable {X:Cx}{C:String→Addr}{E:XK}{mr:Nat}{Γ Δ Γ' Δ' Γl Δl:List Nat}{n:Nat}{pos:Pos}
end
end L2
namespace L2
open PySem PyProof.Rows
structure Ask (prog:Program)(w:World)(A:Around)(s:Shared)(κ:SortKind)(P:Keyed→Prop)(r:Keyed→Keyed→Bool):Prop where
 run:∀{x y:Keyed} {Q:Bool→Shared→Prop} {E:Value→Shared→Prop},P x→P y→Q (r x y) s→wpAny (model prog w) A (keyLt' κ x.1 y.1) Q E s
 tr:∀{x y z:Keyed},P x→P y→P z→r y x=false→r z y=false→r z x=false
 as:∀{x y:Keyed},P x→P y→r x y=true→r y x=false
section
variable {prog:Program}{w:World}{A:Around}{E:Value→Shared→Prop}{s:Shared}{κ:SortKind}{P:Keyed→Prop}{r:Keyed→Keyed→Bool}{st:SortSt}
end
section
variable {r:Keyed→Keyed→Bool}
def Up (r:Keyed→Keyed→Bool)(l:List Keyed):Prop:=l.Pairwise fun x y=>r y x=false
structure MI (r:Keyed→Keyed→Bool)(a b out:List Keyed)(ia ib:Nat):Prop where
 pm:out.Perm (a.take ia++b.take ib)
 so:Up r out
 le:∀x∈out,∀y,(y∈a.drop ia∨y∈b.drop ib)→r y x=false
variable {a b out:List Keyed}{ia ib:Nat}{x:Keyed}
structure MJ (r:Keyed→Keyed→Bool)(a b out:List Keyed)(na nb:Nat):Prop where
 pm:out.Perm (a.drop na++b.drop nb)
 so:Up r out
 le:∀x∈out,∀y,(y∈a.take na∨y∈b.take nb)→r x y=false
end
structure SG (st st':SortSt):Prop where
 k:kindOf st'=kindOf st
 a:arrOf st'=arrOf st
 p:pendingOf st'=pendingOf st
 f:failedOf st'=failedOf st
section
variable {prog:Program}{w:World}{A:Around}{E:Value→Shared→Prop}{s:Shared}{κ:SortKind}{P:Keyed→Prop}{r:Keyed→Keyed→Bool}{st:SortSt}
variable {α:Type}
end
section
variable {prog:Program}{w:World}{A:Around}{E:Value→Shared→Prop}{s:Shared}{κ:SortKind}{P:Keyed→Prop}{r:Keyed→Keyed→Bool}{st:SortSt}
structure SC (κ:SortKind)(lo:Nat)(st st':SortSt):Prop where
 k:kindOf st'=κ
 f:failedOf st'=none
 p:pendingOf st'=pendingOf st
 m:(arrOf st').Perm (arrOf st)
 o:∀i,i<lo→(arrOf st')[i]?=(arrOf st)[i]?
variable {d0:Keyed}{lo nrem:Nat}
variable {d0:Keyed}{lo nrem:Nat}
end
noncomputable abbrev Pn:=Nat×Nat×Nat
noncomputable def Pend:Nat→List (List Keyed)→List Pn→Prop
 | _,[],[]=>True
 | off,R::Rs,p::ps=>p.1=off∧p.2.1=R.length∧Pend (off+R.length) Rs ps
 | _,_,_=>False
structure RI (κ:SortKind)(r:Keyed→Keyed→Bool)(a0:List Keyed)(st:SortSt)(Rs:List (List Keyed))(Z:List Keyed):Prop where
 k:kindOf st=κ
 f:failedOf st=none
 m:(arrOf st).toList.Perm a0
 l:(arrOf st).toList=Rs.flatten++Z
 p:Pend 0 Rs (pendingOf st).toList
 u:∀R∈Rs,Up r R∧1≤R.length
section
variable {prog:Program}{w:World}{A:Around}{E:Value→Shared→Prop}{s:Shared}{κ:SortKind}{P:Keyed→Prop}{r:Keyed→Keyed→Bool}{st:SortSt}{d0:Keyed}{a0 Z:List Keyed}{Rs:List (List Keyed)}
end
end L2
namespace L2
open PySem PySem.SeqAt PySem.MeetsSeq PySem.MeetsSeq3
open AutoSeq1 (wpAny_loadPart')
noncomputable def lexI (e l:Nat→Bool)(m n:Nat):List Nat→Bool
 | []=>decide (m<n)
 | j::js=>if e j=true then lexI e l m n js else l j
end L2
namespace L2
open PySem PySem.SeqAt PyProof.Rows
open Dl (Pc sLt pcLt Xti)
noncomputable def pP (p:Pc):PyData:=.tuple [.int p.1,.str p.2]
noncomputable def cP (c:List Pc):PyData:=.list (c.map pP)
section
variable {A:Around}{s:Shared}
end
noncomputable def cutOf (h:Heap)(v:Value):List Pc:=open Classical in if q:∃c as,Reads h v (cP c) as then q.choose else []
section
variable {prog:Program}{w:World}{A:Around}{E:Value→Shared→Prop}{s:Shared}
end
end L2
namespace L2
open PySem PySem.Spec PyProof.Rows
open Dl (D R FE FT FA FO FS FI FB Fl Pc Xti)
section
variable {K:Frag}{C:String→Addr}{E:XK}{Γ Δ Γl Δl:List Nat}{m m1 m2 m3 mr:Nat}{S S1 S2 S3:List (Nat×Bool)}{H:Hp}
theorem Xd.pathExt {H0 Hb H:Hp}{σ:St}{ρ:Jw}{A:Nat→List Addr}{i:Nat}{d d':D}{es:List D}{path:List Int}(I:Xd K C H0 Hb H Γ Δ σ ρ A)(hi:i∈Δ)(hd:ρ[i]?=some (some d))(hu:Dl.Zov (Dl.Zrg es) path d=some d') :
  ∃v b ys,σ[i]?=some (some v)∧AtP K H v path b∧H b=some (.lst ys)∧ys.length+es.length≤sizeLine∧b∈A i∧∀H2 ws B,Xx H H2→RpA K C H2 es ws B→B.Nodup→(∀a∈B,Hb a=Option.none∧∀j,a∉A j)→
   ∃A',Xd K C H0 Hb (upd H2 b (.lst (ys++ws))) Γ Δ σ (ρ.set i (some d')) A':=by
 obtain ⟨v,hs,r⟩:=I.rep i d hd
 obtain ⟨d1,d2,d3⟩:=I.deep i hi
 obtain ⟨b,ys,ds,es',l,A1,A2,p1,p2,p3,p4,p5,p6⟩:=r.path d1 hu
 unfold Dl.Zrg at p4
 split at p4
 ·rename_i hz
  cases p4
  have hbA:b∈A i:=by rw [p5];simp
  refine ⟨v,b,ys,hs,p1,p2,by rw [p3.len];exact Zee hz,hbA,fun H2 ws B g re nB hB=>?_⟩
  have hbB:b∉B:=fun z=>(hB b z).2 i hbA
  have I2:=I.mono g
  have p2':=g _ _ p2
  have ext:Ext (fun c=>c=b) H2 (upd H2 b (.lst (ys++ws))):=fun c o h=>by
   by_cases e:c=b
   ·subst e
    rw [p2'] at h
    cases h
    exact .inr ⟨rfl,.lst⟩
   ·rw [Xb e]
    exact .inl h
  have hbl:b∉l:=by
   rw [p5] at d1
   have:=(List.nodup_append.mp d1).2.1
   rw [List.cons_append] at this
   exact fun z=>(List.nodup_cons.mp this).1 (mem_append_left _ z)
  have r3:RpA K C (upd H2 b (.lst (ys++ws))) (ds++es) (ys++ws) (l++B):=
   ((p3.same g).ext ext fun a ha z=>hbl (by rw [← z];exact ha)).app (re.ext ext fun a ha z=>hbB (by rw [← z];exact ha))
  have r4:=p6 (upd H2 b (.lst (ys++ws))) (ys++ws) (l++B) (fun a o ha h=>by rw [Xb ha];exact g _ _ h) Yb r3
  have hsub:∀a∈A1++(b::(l++B)++A2),a∈A i∨(Hb a=Option.none∧∀j,a∉A j):=fun a ha=>by
   rw [p5]
   simp only [mem_append,mem_cons] at ha ⊢
   rcases ha with z | (z | z | z) | z
   ·exact .inl (.inl z)
   ·exact .inl (.inr (.inl (.inl z)))
   ·exact .inl (.inr (.inl (.inr z)))
   ·exact .inr (hB a z)
   ·exact .inl (.inr (.inr z))
  have nd:(A1++(b::(l++B)++A2)).Nodup:=by
   have pm:(A1++(b::(l++B)++A2)).Perm (A i++B):=by
    rw [p5]
    simp only [List.cons_append,append_assoc]
    refine List.Perm.append_left _ (List.Perm.cons _ (List.Perm.append_left _ ?_))
    exact List.perm_append_comm
   refine pm.nodup_iff.mpr (List.nodup_append.mpr ⟨d1,nB,fun x hx y hy e=>?_⟩)
   subst e
   exact (hB x hy).2 i hx
  exact ⟨_,I2.deepWrite hi (List.getElem?_eq_some_iff.mp hd).1 hs hbA r4 nd hsub⟩
 ·cases p4
variable {X:Cx}
end
section
variable {X:Cx}{C:String→Addr}{E:XK}{Γ Δ Γ' Δ' Γl Δl:List Nat}{m m1 m2 m3 mr:Nat}{S S1 S2 S3:List (Nat×Bool)}{a b c e o kx:Expr}{ta tb tc te tk:TE}{fa fb fc fe fk:FE}{p p1 p2 pos apos cpos:Pos}
end
end L2
namespace L2
open PySem PySem.Spec PyProof.Rows
open Dl (D R FE FT FA FO FS FI FB Fl)
structure RoomH (k:Nat)(A:Around):Prop where
 dp:A.depth+3*k+5<recursionLimit
 un:A.units+16*k+200<cLine
structure FnOkH (P:Program)(w:World)(K:Frag)(mg:Str→Option Value)(base:Heap)(k:Nat)(f:Addr)(fd:FuncData)(ps:List Str)(sp:Sp):Prop where
 len:∀vs H Q E,sp vs H Q E→vs.length=ps.length
 run:∀(A:Around) (outer:List Env) (s:Shared) (H:Hp) (args:Args) (us:List Value) (vs:List V) (Q:VK) (E:XK),RoomH k A→Xhx P w K mg base A outer s H→BindsTo s fd args (ps.zip us)→Jd vs us→sp vs H Q E→
  codeAny (model P w) A (.call (.ref f) args) (CR CX0 outer P w H s Q E) s
structure DefH (P:Program)(w:World)(K:Frag)(mg:Str→Option Value)(base:Heap)(k:Nat)(x:Str)(ps:List Str)(sp:Sp):Prop where
 ex:∃f fd,mg x=some (.ref f)∧keepIn K (.ref f)=true∧Binds K fd ps []∧FnOkH P w K mg base k f fd ps sp
noncomputable abbrev Cx.wild (X:Cx):Cx:={X with calm:=false,xe:=fun _ _=>False}
section
variable {X:Cx}{C:String→Addr}{E:XK}{Γ Δ:List Nat}{m n mr k:Nat}{S:List (Nat×Bool)}{x:Str}{p pos:Pos}{e:Expr}{es:List Expr}{t:TA}
end
end L2
namespace L2
open PySem PySem.Spec PyProof.Rows
open Dl (D R FE FT FA FO FS FI FB Fl Pc Xti)
section
variable {K:Frag}{C:String→Addr}{E:XK}{Γ Δ Γl Δl:List Nat}{m m1 m2 m3 mr:Nat}{S S1 S2 S3:List (Nat×Bool)}{H:Hp}
variable {X:Cx}
end
section
variable {X:Cx}{C:String→Addr}{E:XK}{Γ Δ Γ' Δ' Γl Δl:List Nat}{m m1 m2 m3 mr:Nat}{S S1 S2 S3:List (Nat×Bool)}{a b c e o kx:Expr}{ta tb tc te tk:TE}{fa fb fc fe fk:FE}{p p1 p2 pos apos cpos:Pos}
end
end L2
namespace L2
open PySem PySem.Spec PyProof.Rows
open Dl (D R FE FT FA FO FS FI FB Fl)
section
variable {prog:Program}{w:World}{K:Type}[DecidableEq K]{knd:HeapKind prog w K}{A:Around}{E:Value→Shared→Prop}{s:Shared}
end
section
variable {X:Cx}
variable {K:Frag}{C:String→Addr}{E:XK}{Γ Δ:List Nat}{m:Nat}{S:List (Nat×Bool)}{H:Hp}
variable {e:Expr}{te:TE}{fe:FE}{p pos:Pos}
variable {tg:Expr}
end
section
variable {X:Cx}{C:String→Addr}{E:XK}{Γ Δ:List Nat}{m n:Nat}{S:List (Nat×Bool)}{tg a b c:Expr}{t:TA}{f:FA}{p pos:Pos}
end
end L2
namespace L2
open PySem PySem.Spec PyProof.Rows
structure LamSc (X:Cx)(N:List Str)(p:Str)(sc:Scope)(cl:List (Str×Addr)):Prop where
 kind:sc.kind=.function
 co:sc.isCoroutine=false
 gen:sc.isGenerator=false
 nocell:∀x∈sc.names,x.2≠.cell
 par:sc.names.lookup p=some .local
 nd:N.Nodup
 hd:N.head?=some p
 tl:∀x∈N.tail,sc.names.lookup x=some .free
 fr:∀x,sc.names.lookup x=some .free→∃c,cl.lookup x=some c
 cls:∀x c,cl.lookup x=some c→X.env.cells.lookup x=some c
section
variable {X:Cx}{pins:List (Addr×Obj)}{σ:St}{H:Hp}{s:Shared}
end
def BMod (base:Heap)(mg:Str→Option Value):Prop:=∃bm ob,mg "__builtins__"=some (.ref bm)∧bm≠builtinsNs∧base.get? bm=some ob∧ob.cls=.type "module"∧ob.dict=some builtinsNs∧ob.data=.plain
section
variable {X:Cx}{pins:List (Addr×Obj)}{σ:St}{H:Hp}{s:Shared}{P c:Addr}{pos:Pos}{qual:Str}{params:Arguments}{body:Expr}{sc:Scope}{cl:List (Str×Addr)}{E:Value→Shared→Prop}
end
noncomputable def keysT (K:Frag)(a:Addr)(xs:List V)(tb:V→Hp→VK→Prop):List V→Hp→(List Int→Hp→Prop)→Prop
 | [],H,Q=>Q [] H
 | x::r,H,Q=>tb x H fun v H'=>∃k,v=.int k∧SqL K H' a xs∧keysT K a xs tb r H' fun ks H2=>Q (k::ks) H2
section
variable {X:Cx}{pins:List (Addr×Obj)}{σ:St}{H:Hp}{s:Shared}{a f I S:Addr}{xs:List V}{tb:V→Hp→VK→Prop}{R:Result→Shared→Prop}{Q:V→Hp→Prop}
end
section
variable {X:Cx}{pins:List (Addr×Obj)}{σ:St}{H:Hp}{s:Shared}{a f:Addr}{xs:List V}{tb:V→Hp→VK→Prop}{Q:VK}
end
structure LamOk (X:Cx)(N:List Str)(p qual:Str)(params:Arguments)(body:Expr)(sc:Scope)(cl:List (Str×Addr))(js:List Nat)(P c:Addr)(lpos:Pos):Prop where
 bm:BMod X.base X.mg
 tab:X.H₀ P=some (.tbl lpos qual)
 code:X.env.code=.ref c
 hd:PySem.W.CodeHd X.base c P
 clo:closureFor sc X.env=pure cl
 qu:X.env.qual++"<lambda>"=qual
 df:defaultsOf params X.env=([],[])
 lsc:LamSc X N p sc cl
 jsx:∀(i:Nat) (x:Str),N.tail[i]?=some x→∃j:Nat,js[i]?=some j∧X.N[j]?=some x∧Vis X.env.scope x∧X.env.kindOf x≠some .local
 len:js.length+1=N.length
 bind:∀(u pm ctv:Value) (c:Addr),bindArgs (PySem.W.kla_fn "<lambda>" qual params body sc cl pm (.ref c) ctv) ⟨[u],[]⟩=pure [(p,u)]
 dep:X.A.in1.depth<recursionLimit
 calm:X.calm=true
section
variable {X:Cx}{pins:List (Addr×Obj)}{σ:St}{H:Hp}{s:Shared}{N:List Str}{p qual:Str}{params:Arguments}{body:Expr}{sc:Scope}{cl:List (Str×Addr)}{js:List Nat}{P c:Addr}{lpos:Pos}
variable {np pos kp:Pos}{e:Expr}{te tb:TE}
end
end L2
namespace L2
open PySem PySem.Spec PyProof.Rows
open Dl (D R FE FT FA FO FS FI FB Fl)
section
variable {K:Frag}{C:String→Addr}{E:XK}{Γ Δ Γ' Δ':List Nat}{m m1 m2 mb:Nat}{S Sb:List (Nat×Bool)}{H:Hp}
end
section
variable {X:Cx}{C:String→Addr}{E:XK}{Γ Δ Γ' Δ' Γl Δl:List Nat}{m mb mr:Nat}{S Sb:List (Nat×Bool)}{N:List Str}{p qual:Str}{params:Arguments}{body:Expr}{sc:Scope}{cl:List (Str×Addr)}{js:List Nat}{P c:Addr}{lpos np pos kp p2:Pos}{e:Expr}{te tb:TE}{fe fb:FE}{x y:Str}{i j:Nat}
end
section
variable {K:Frag}{C:String→Addr}{E:XK}{Γ Δ Γ' Δ' Γl Δl:List Nat}{m mr:Nat}{S:List (Nat×Bool)}{H:Hp}
end
section
variable {X:Cx}{C:String→Addr}{E:XK}{Γ Δ Γ' Δ' Γl Δl:List Nat}{m mr:Nat}{e:Expr}{te:TE}{fe:FE}{pos pos':Pos}{x:Str}{i j:Nat}
end
structure FunL (K:Frag)(x qual:Str)(st:Stmt)(f:Addr)(fd:FuncData)(c:Addr):Prop where
 ex:∃(oc:Value) (od:Option Addr) (kV doc pm:Value) (an:Option Addr) (ct:Value) (osl:Array (Option Value)),
  fd=fnOf x qual (Zel st) (Zbl st) (Zm st) .none kV doc pm an (.ref c) ct∧K.lookup f=some ⟨oc,od,.func fd,osl⟩∧codeIn K (.ref c) qual=true
 kp:keepIn K (.ref f)=true
section
variable {P:Program}{w:World}{K:Frag}{C:String→Addr}{mg:Str→Option Value}{base:Heap}{x qual:Str}{st:Stmt}{f c:Addr}{fd:FuncData}{N ps:List Str}{k n mr:Nat}{Γ' Δ':List Nat}{g:FS}{ts:List (Addr×Pos×Str)}
end
section
variable {X:Cx}{C:String→Addr}{E:XK}{Γ Δ:List Nat}{m n mr k:Nat}{S:List (Nat×Bool)}{x:Str}{p pos:Pos}{e:Expr}{es:List Expr}{t:TA}{ts:List (Addr×Pos×Str)}
end
end L2
namespace L2
open PySem PySem.Spec PyProof.Rows
noncomputable def Zlb (T:List Addr)(K:Frag):Frag:=K.filter fun p=>!T.contains p.1
theorem Zjk {T:List Addr}{a:Addr}(h:T.contains a=true):∀K:Frag,(Zlb T K).lookup a=none
 | []=>rfl
 | (b,o)::K=>by
  unfold Zlb
  rw [List.filter_cons]
  split
  ·rename_i hb
   rw [lookup_cons]
   split
   ·rename_i e
    have e:=eq_of_beq e
    subst e
    have hb:(!T.contains a)=true:=hb
    rw [h] at hb
    cases hb
   ·exact Zjk h K
  ·exact Zjk h K
theorem Zap {T:List Addr}{a:Addr}(h:T.contains a=false):∀K:Frag,(Zlb T K).lookup a=K.lookup a
 | []=>rfl
 | (b,o)::K=>by
  unfold Zlb
  rw [List.filter_cons,lookup_cons]
  split
  ·rw [lookup_cons]
   split
   ·rfl
   ·exact Zap h K
  ·rename_i hb
   have hb:¬(!T.contains b)=true:=hb
   split
   ·rename_i e
    have e:=eq_of_beq e
    subst e
    rw [h] at hb
    exact absurd rfl hb
   ·exact Zap h K
theorem dropT_in {T:List Addr}{K:Frag}{h:Heap}(x:K.In h):(Zlb T K).In h:=fun a o e=>by
 cases q:T.contains a with
 | true=>rw [Zjk q] at e;cases e
 | false=>rw [Zap q] at e;exact x a o e
section
variable {T:List Addr}{K:Frag}{a f c:Addr}{n x qual:Str}{v:Option Value}
theorem dropT_ns (e:nsIn K a n=some v)(h:T.contains a=false:=by decide):nsIn (Zlb T K) a n=some v:=by
 unfold nsIn at e ⊢
 rw [Zap h]
 exact e
theorem Zwy (e:codeIn K (.ref c) qual=true)(h:T.contains c=false:=by decide):codeIn (Zlb T K) (.ref c) qual=true:=by
 unfold codeIn at e ⊢
 simp only [Zap h]
 exact e
theorem dropT_hd {P:Addr}(e:codeHdIn K c P=true)(h:T.contains c=false:=by decide):codeHdIn (Zlb T K) c P=true:=by
 unfold codeHdIn at e ⊢
 rw [Zap h]
 exact e
theorem Zws {oc:Value}{od:Option Addr}{fd:FuncData}{osl:Array (Option Value)}(l:K.lookup f=some ⟨oc,od,.func fd,osl⟩)(h:T.contains f=false:=by decide):keepIn (Zlb T K) (.ref f)=true:=by
 unfold keepIn
 simp only [Zap h,l]
theorem fun_mkT {st:Stmt}{oc:Value}{od an:Option Addr}{osl:Array (Option Value)}{kV doc pm ct:Value}(l:K.lookup f=some ⟨oc,od,.func (fnOf x qual (Zel st) (Zbl st) (Zm st) .none kV doc pm an (.ref c) ct),osl⟩)
  (cd:codeIn K (.ref c) qual=true) (hf:T.contains f=false:=by decide) (hc:T.contains c=false:=by decide):FunL (Zlb T K) x qual st f (fnOf x qual (Zel st) (Zbl st) (Zm st) .none kV doc pm an (.ref c) ct) c:=
 ⟨⟨oc,od,kV,doc,pm,an,ct,osl,rfl,by rw [Zap hf];exact l,Zwy cd hc⟩,Zws l hf⟩
theorem Xop {o:Obj}(l:K.lookup a=some o)(h:T.contains a=false:=by decide):(Zlb T K).lookup a=some o:=by
 rw [Zap h]
 exact l
end
end L2
namespace L2
open PySem PySem.Spec PyProof.Rows
open Dl (D R FE FT FA FO FS FI FB Fl)
section
variable {K:Frag}{C:String→Addr}{E:XK}{Γ Δ Γ' Δ' Γk Δk:List Nat}{m mr:Nat}{H H2:Hp}
end
section
variable {X:Cx}{C:String→Addr}{E:XK}{Γ Δ Γ' Δ' Γk Δk:List Nat}{m mr:Nat}{e:Expr}{te:TE}{fe:FE}{pos p p1 p2 pa pb pc pd apos cpos:Pos}
end
end L2
namespace L2
open PySem PySem.Spec PyProof.Rows
section
variable {P:Program}{w:World}{H H':Hp}{h h':Heap}{a:Addr}{o:HO}
theorem Zax.stayF (x:Zax P w H h a o)(ho:∀b,H b=some (.own a)→H' b=some (.own a))(ht:∀b xs,H b=some (.tup xs)→H' b=some (.tup xs))(hf:∀b o,H b=some (.frz o (.own 0))→H' b=some (.frz o (.own 0))):Zax P w H' h a o:=by
 induction o with
 | dT kvs =>
  obtain ⟨z,y,xs,r,ob,es,ep,e,c⟩:=x
  exact ⟨z,y,xs,Paired.mapP r fun p q z=>⟨z.1,ht _ _ z.2.1,z.2.2⟩,ob,es,ep,e,c⟩
 | ins C dx fs =>
  obtain ⟨d,r⟩:=x
  exact ⟨ho _ d,r⟩
 | frz ob u ih=>obtain ⟨e,q⟩:=x;exact ⟨e,ih q⟩
 | tbl pos qual =>
  obtain ⟨ps,e,tr,hc⟩:=x
  refine ⟨ps,e,tr,fun v hv=>?_⟩
  obtain ⟨c,o,vs,t,e1,e2,e3⟩:=hc v hv
  exact ⟨c,o,vs,t,e1,hf _ _ e2,e3⟩
 | _=>exact x
end
section
variable {X:Cx}{pins:List (Addr×Obj)}{σ:St}{H H':Hp}{s:Shared}{a:Addr}{u u':HO}{o:Obj}
theorem Inv.unfz (I:Inv X pins σ H s)(e:H a=some (.frz o u))(hu:u≠.own 0)(h0:∀o u,X.H₀ a≠some (.frz o u)):Inv X pins σ (upd H a u) s:=by
 have ne:∀{b:Addr} {v:HO},H b=some v→(∀o u,v≠.frz o u)→b≠a:=fun {b v} hb hv z=>by
  subst z
  rw [e] at hb
  cases hb
  exact hv _ _ rfl
 have nn:∀{b:Addr},H b=none→b≠a:=fun {b} hb z=>by
  subst z
  rw [e] at hb
  cases hb
 refine ⟨I.ok,I.os,I.bare,⟨I.base.keep,I.base.slot,fun b ob q n hx=>?_,I.base.there,fun b xs q=>?_,fun b ob v q=>?_,fun b p q r=>?_⟩,I.loc,I.cell,?_,fun x c q=>?_,fun p hp=>?_,fun b v q=>?_,I.len⟩
 ·have z:=I.base.free b ob q n hx
  rw [Xb (nn z)]
  exact z
 ·have z:=I.base.tups b xs q
  rw [Xb (ne z fun _ _ y=>nomatch y)]
  exact z
 ·have hb:b≠a:=fun y=>by subst y;exact h0 _ _ q
  rw [Xb hb]
  exact I.base.frzs b ob v q
 ·have z:=I.base.tbls b p q r
  rw [Xb (ne z fun _ _ y=>nomatch y)]
  exact z
 ·rw [Xb (nn I.free)]
  exact I.free
 ·have z:=I.freeC x c q
  rw [Xb (nn z)]
  exact z
 ·obtain ⟨p1,p2,p3⟩:=I.pin p hp
  refine ⟨p1,?_,p3⟩
  rw [Xb (nn p2)]
  exact p2
 ·have st:∀{b v},Zax X.prog X.w H s.heap b v→Zax X.prog X.w (upd H a u) s.heap b v:=fun {b v} x=>x.stayF (fun c q=>by rw [Xb (ne q fun _ _ y=>nomatch y)];exact q) (fun c xs q=>by rw [Xb (ne q fun _ _ y=>nomatch y)];exact q) fun c ob q2=>by
   have hc:c≠a:=fun y=>by
    rw [y,e] at q2
    cases q2
    exact hu rfl
   rw [Xb hc]
   exact q2
  by_cases hb:b=a
  ·subst hb
   rw [Yb] at q
   cases q
   exact st (I.hok b _ e).2
  ·rw [Xb hb] at q
   exact st (I.hok b v q)
theorem Inv.fz (I:Inv X pins σ H s)(e:H a=some u)(mu:Mut (H a))(hu:∀b o v,u≠.own b∧u≠.frz o v)(ho:s.heap.get? a=some o):Inv X pins σ (upd H a (.frz o u)) s∧∀o u,X.H₀ a≠some (.frz o u):=by
 refine ⟨?_,fun o' u' q=>?_⟩
 ·have new:Zax X.prog X.w (upd H a (.frz o u)) s.heap a (.frz o u):=by
   refine ⟨ho,(I.hok a u e).stayF (fun c q=>?_) (fun c xs q=>?_) fun c ob q=>?_⟩
   ·rw [Xb fun z=>by subst z;rw [e] at q;cases q;exact (hu _ o (.own 0)).1 rfl]
    exact q
   ·rw [Xb fun z=>by subst z;rw [q] at mu;exact mu]
    exact q
   ·rw [Xb fun z=>by subst z;rw [q] at mu;exact mu]
    exact q
  have z:=I.write (x:=a) (e:=a) (t':=s.toks) (h':=s.heap) mu (.inl rfl) (fun b q _ z=>z) ⟨o,ho⟩ new
  exact z
 ·have z:=I.base.frzs a o' u' q
  rw [e] at z
  cases z
  exact (hu 0 o' u').2 rfl
theorem Zzi {k:Key}{v:Value}(h:Zro k v=true):RelV (kV k) v:=by
 rcases Yw h with ⟨i,t,rfl,rfl⟩ | ⟨x,t,rfl,rfl⟩
 ·exact ⟨t,rfl⟩
 ·exact ⟨t,rfl⟩
end
noncomputable def ItDk (a:Addr)(o:Obj)(kvs:List (Key×V)):It:=
 ⟨fun i H=>H a=some (.frz o (.dK kvs))∧i<kvs.length,fun i H x H'=>H'=H∧∃kv,kvs[i]?=some kv∧x=kV kv.1,fun i H=>H a=some (.frz o (.dK kvs))∧kvs.length=i⟩
theorem KV.get {κ:Type}:∀{kvs:List (κ×V)} {vs:List (κ×Value)} {i:Nat} {p:κ×V},KV kvs vs→kvs[i]?=some p→∃u,vs[i]?=some (p.1,u)
 | _,_,_,_,.nil,e=>by simp at e
 | _,_,0,_,.cons (b:=q) r _,e=>by simp at e;subst e;exact ⟨q.2,by rw [r.1];rfl⟩
 | _,_,i+1,p,.cons _ t,e=>by
  obtain ⟨u,h⟩:=KV.get (i:=i) (p:=p) t (by simpa using e)
  exact ⟨u,by simpa using h⟩
theorem Zzk {P:Program}{w:World}{K:Frag}{tg:Expr}(a it:Addr)(o:Obj)(kvs:List (Key×V))(vs:List (Key×Value))(es:Array DictEntry)(ep:Nat)(r:KV kvs vs)(h1:o.ExactDict)(h2:o.data=.dict es ep)(h3:KeysOf (Ja P w) es)(h4:Pairs (Ja P w) es.toList vs)(h5:(vs.map (·.1)).Nodup) :
  Turn P w K tg (ItDk a o kvs) [it] it (fun i h=>h.IsKeyIter it a i vs.length ep) where
 mem:=by simp
 obj:=fun i h st b hb=>by
  have e:b=it:=by simpa using hb
  subst e
  obtain ⟨o,e,c,d⟩:=st
  exact ⟨o,e,fun v z=>by rw [d] at z;cases z⟩
 keep:=fun i h h' st k=>st.at fun o e=>k it (by simp) o e
 item:=by
  intro X hP hw hK hc i pins s σ H E I hf st hg
  subst hP hw hK
  obtain ⟨f0,f1,f2,f3,f4,f5⟩:=hf it (by simp)
  obtain ⟨hfz,hi⟩:=hg
  have ho:=(I.hok a _ hfz).1
  have hk:kvs[i]?=some kvs[i]:=getElem?_eq_getElem hi
  obtain ⟨u,hu⟩:=KV.get r hk
  refine wpAny_pyNext_dict_item (knd:=Ja X.prog X.w) st ⟨o,es,ho,h1,h2,h3,h4,h5⟩ hu fun key h' hkey st' sb=>?_
  have I1:Inv X pins σ H {s with heap:=h'}:=I.turned (t':=s.toks) (fun b o hb e=>(sb.2 b hb).trans e) f0 f1 f3 f4 f5
  obtain ⟨o',e,c,d⟩:=id st'
  exact ⟨key,rfl,Xnz (s:={s with heap:=h'}) e c d (by decide) ⟨kV kvs[i].1,H,I1,Zzi hkey,⟨rfl,_,hk,rfl⟩,st',fun b hb=>(hf b hb).1⟩⟩
 done:=by
  intro X hP hw hK hc i pins s σ H E I hf st hg
  subst hP hw hK
  obtain ⟨f0,f1,f2,f3,f4,f5⟩:=hf it (by simp)
  obtain ⟨hfz,hi⟩:=hg
  have ho:=(I.hok a _ hfz).1
  have hl:kvs.length=vs.length:=Paired.length r
  exact wpAny_pyNext_dict_end (knd:=Ja X.prog X.w) (I.ok.hd hc) st ⟨o,es,ho,h1,h2,h3,h4,h5⟩ (by simp;omega) fun h' eb=>⟨rfl,I.turned (t':=s.toks) (fun b o hb e=>eb b o hb e) f0 f1 f3 f4 f5⟩
 self:=fun _ _ _ _ _ st h=>wpAny_pyIter_keyiter st h
section
variable {X:Cx}{tg:Expr}
noncomputable def Xjr (tl:TE):TI:=fun σ H R=>tl σ H fun x H1=>∃a kvs,x=.ref a∧H1 a=some (.dK kvs)∧∀o,R (ItDk a o kvs) (upd H1 a (.frz o (.dK kvs)))
theorem Xjv {l:Expr}{tl:TE}(hl:PE X l tl):PI X tg l (Xjr tl):=by
 intro pins s σ H R I h
 refine thn (hl pins s σ H _ I h) fun v s1 hz9=>?_
 obtain ⟨x,H1,I1,r1,a,kvs,e,hq,q⟩:=hz9
 subst e
 cases r1
 obtain ⟨z,hd,vs,rel,o,es,ep,ho,h1,h2,h3,h4,h5⟩:=Xqk I1.hok hq
 refine wpAny_pyIter_dict (knd:=Ja X.prog X.w) hd ⟨o,es,ho,h1,h2,h3,h4,h5⟩ ?_
 have I2:=(I1.fz hq (by rw [hq];trivial) (fun _ _ _=>⟨(fun z=>nomatch z),(fun z=>nomatch z)⟩) ho).1
 refine ⟨s1.heap.objs.size,[s1.heap.objs.size],_,_,_,rfl,I2.kept (t':=s1.toks) fun b o e=>get?_push_of_some _ e,Zzk a _ o kvs vs es ep rel h1 h2 h3 h4 h5,⟨_,get?_push_size _ rfl,rfl,rfl⟩,fun b hb=>?_,q o⟩
 have e:b=s1.heap.objs.size:=by simpa using hb
 subst e
 exact I2.fpOk (le_refl _) (I2.hok.fresh (le_refl _))
def tUF (i:Nat)(te:TE):TE:=fun σ H Q=>∃a kvs,σ[i]?=some (some (.ref a))∧H a=some (.dK kvs)∧te σ H (fun v H'=>∃o,H' a=some (.frz o (.dK kvs))∧Q v (upd H' a (.dK kvs)))
theorem pe_uf {e:Expr}{te:TE}{i:Nat}(h:PE X e te):PE X e (tUF i te):=by
 intro pins s σ H Q I hq
 obtain ⟨a,kvs,e1,e2,hq⟩:=hq
 refine thn (h pins s σ H _ I hq) fun v s1 hz9=>?_
 obtain ⟨x,H1,I1,r1,o,hz,q⟩:=hz9
 refine ⟨x,_,I1.unfz hz (fun z=>(nomatch z)) (fun o' u' z=>?_),r1,q⟩
 have:=I.base.frzs a o' u' z
 rw [e2] at this
 cases this
end
end L2
namespace L2
open PySem PySem.Spec PyProof.Rows
open Dl (D R FE FT FA FO FS FI FB Fl)
section
variable {K:Frag}{C:String→Addr}{E:XK}{Γ Δ Γl Δl:List Nat}{m m1 m2 m3 mr:Nat}{S S1 S2 S3:List (Nat×Bool)}{H:Hp}
theorem Zrl {k:Int ⊕ Str}:∀{ks:List (Int ⊕ Str)} {ds:List D} {xs:List V},RpA K C H ds xs []→Dl.Xy ds=true→match Dl.dAt ks ds k with
  | some d=>∃v,Zuy (ks.zip xs) k=some v∧Rp K C H d v []∧Dl.flat d=true
  | none=>Zuy (ks.zip xs) k=none
 | [],ds,xs,_,_=>by cases ds<;>rfl
 | j::ks,[],xs,q,_=>by
  rw [q.1]
  rfl
 | j::ks,x::ds,xs,q,h=>by
  obtain ⟨y,l,B,B',e1,e2,e3,e4⟩:=q
  simp only [Dl.Xy,Bool.and_eq_true] at h
  subst e1
  have z:=e2.flat h.1
  subst z
  rw [Dl.dAt]
  by_cases e:j=k
  ·rw [if_pos e]
   exact ⟨y,Zjg e,e2,h.1⟩
  ·rw [if_neg e,zip_cons_cons,Zje e]
   exact Zrl (e3.flat' h.2) h.2
theorem Xcy {td ty tx:TE}{fd fy fx:FE}(hd:EOk K C E Γ Δ m1 S1 td fd)(hy:EOk K C E Γ Δ m2 S2 ty fy)(hx:EOk K C E Γ Δ m3 S3 tx fx):EOk K C E Γ Δ 2 [] (Xap td ty tx) (Dl.Zwb fd fy fx):=
  fun H0 Hb H σ ρ A Q I p=>hd H0 Hb H σ ρ A _ I (p.bind.imp (fun d q vd H1 g1 r1=>by
    obtain ⟨Bd,r1,_⟩:=r1
    cases d with
    | dct ks ds =>
      obtain ⟨a,xs,B,rfl,h1,h2,h3,_⟩:=r1
      refine ⟨a,rfl,.inl ⟨_,.inl h1⟩,hy H0 Hb H1 σ ρ A _ (I.mono g1) (q.bind.imp (fun y q vy H2 g2 r2=>hx H0 Hb H2 σ ρ A _ ((I.mono g1).mono g2) (q.bind.imp (fun z q vz H3 g3 r3=>?_) fun c x q H' g'=>q H' (g1.trans (g2.trans g')))) fun c x q H' g'=>q H' (g1.trans g'))⟩
      obtain ⟨By,r2,_⟩:=r2
      obtain ⟨Bz,r3,_⟩:=r3
      split at q
      · rename_i k hk
        split at q
        · rename_i hf
          have hvk:=Xaa hk r2
          subst hvk
          have hv:=Zrl (ks:=ks) (k:=k) ((h3.same (g2.trans g3)).flat' hf.1) hf.1
          have zB:=r3.flat hf.2
          subst zB
          refine ⟨_,Xiw.k ((g2.trans g3) _ _ h1),?_⟩
          cases e:Dl.dAt ks ds k with
          | some d =>
            rw [e] at hv q
            obtain ⟨v,v1,v2,_⟩:=hv
            rw [v1]
            exact q v H3 (g1.trans (g2.trans g3)) (Res.flat v2)
          | none =>
            rw [e] at hv q
            rw [show Zuy (ks.zip xs) k=none from hv]
            exact q vz H3 (g1.trans (g2.trans g3)) (Res.flat r3)
        · exact q.elim
      · exact q.elim
    | _=>exact q.elim) fun c x q H' g'=>q H' g')
theorem Ztr:∀{ks:List (Int ⊕ Str)} {js:List Int},Dl.Zta ks=some js→ks=js.map Sum.inl
 | [],js,h=>by cases h;rfl
 | .inl i::ks,js,h=>by
  obtain ⟨r,h1,rfl⟩:=Option.map_eq_some_iff.mp (show (Dl.Zta ks).map (i::·)=some js from h)
  rw [Ztr h1]
  rfl
 | .inr _::ks,js,h=>by cases h
theorem Zru {g:D→D→Option D}{ks:List (Int ⊕ Str)}{xs:List D}{z:D}{js:List Int}{i:Nat}{k:Int}(h:js[i]?=some k):Dl.Zhb g ks xs z (js.drop i)=(Dl.oR (Dl.dAt ks xs (.inl k))).bind fun x=>(Dl.oR (g x z)).bind fun t=>match t with
  | .bl b=>(Dl.Zhb g ks xs z (js.drop (i+1))).bind fun r=>.ok (if b then .int k::r else r)
  | _=>.bad:=by
 obtain ⟨hi,rfl⟩:=List.getElem?_eq_some_iff.mp h
 rw [List.drop_eq_getElem_cons hi]
 rfl
theorem Zxv {i n:Nat}{r:R2}{g:D→D→Option D}{te:TE}{fe:FE}(hg:GOk K C r g)(he:EOk K C E0 [] [] m2 S2 te fe)(hi:i∈Γ:=by decide) :
  EOk K C E Γ Δ 2 [] (tUF i (Zgs 1 (Zbn n) (Xjr (Zdb i)) (Zxi (tOp r (Xmz (Zdb i) (Zdb n)) te)) (Zdb n))) (Dl.Zqp g i n fe):=fun H0 Hb H σ ρ A Q I p=>by
 unfold Dl.Zqp at p
 split at p
 ·rename_i hn
  split at p
  ·rename_i ks ds e
   split at p
   ·rename_i hf
    split at p
    ·rename_i js hjs
     split at p
     ·rename_i hlim
      obtain ⟨a,xs,l,s1,h1,h2,r1,hA,hl⟩:=Ztt I e
      have hks:=Ztr hjs
      have hlk:ks.length=js.length:=by rw [hks,length_map]
      have hlx:xs.length=ks.length:=by rw [r1.len,h2]
      have r1':=r1.flat' hf
      obtain ⟨t1,t2,t3⟩:=I.top i hi a l hA
      have hσ:σ.length=n:=by rw [I.len,hn]
      have hin:i<n:=by omega
      refine ⟨a,_,s1,h1,.ref a,s1,a,_,rfl,h1,fun o Dd hD=>?_⟩
      have hDa:Dd≠a:=fun z=>by
       subst z
       rw [Yb] at hD
       cases hD
      have hHD:H Dd=none:=by
       rw [Xb hDa] at hD
       exact hD
      have ext:∀{H2:Hp},Xx (upd H a (.frz o (.dK (ks.zip xs)))) H2→Ext (fun c=>c=a) H H2:=fun {H2} g2 b ob hb=>by
       by_cases hba:b=a
       ·subst hba
        rw [h1] at hb
        cases hb
        exact .inr ⟨rfl,.dct⟩
       ·exact .inl (g2 _ _ (by rw [Xb hba];exact hb))
      have envT:∀{H2:Hp} (x:Option V),Xx (upd H a (.frz o (.dK (ks.zip xs)))) H2→Xd K C H2 H2 H2 [] [] (σ++[x]) (ρ.set i none++[none]) (fun j=>if j=i then [] else A j):=fun {H2} x g2=>by
       refine ⟨Xx.refl _,Xx.refl _,by simp [I.len],fun j d hj=>?_,fun j hj=>?_,(fun _ h=>nomatch h),(fun _ h=>nomatch h),(fun _ h=>nomatch h)⟩
       ·have hjl:j<ρ.length:=by
         by_cases hjl:j<ρ.length
         ·exact hjl
         ·rw [getElem?_append_right (by simpa using hjl)] at hj
          have:=mem_of_getElem? hj
          simp at this
        rw [getElem?_append_left (by simpa using hjl)] at hj
        rcases get_set hj with ⟨_,_,z⟩ | ⟨hji,hj⟩
        ·cases z
        ·obtain ⟨v,q1,q2⟩:=I.rep j d hj
         refine ⟨v,by rw [getElem?_append_left (by rw [I.len];exact hjl)];exact q1,?_⟩
         rw [if_neg hji]
         exact q2.ext (ext g2) fun c hc z=>by subst z;exact t3 j hji hc
       ·by_cases hji:j=i
        ·rw [if_pos hji]
        ·rw [if_neg hji]
         refine I.nil j fun d hd=>hj d ?_
         have hjl:=(List.getElem?_eq_some_iff.mp hd).1
         rw [getElem?_append_left (by simpa using hjl),getElem?_set_ne (fun z=>hji z.symm)]
         exact hd
      have p':=Zfn p.bind
      obtain ⟨z,hz,p2⟩:∃z,fe (ρ.set i none++[none])=.ok z∧Xz ((Dl.Zhb g ks ds z js).bind fun ys=>.ok (D.lst ys)) (fun d=>∀v H',Xx H H'→Res K C 2 [] H A d v H'→Q v H') (fun c x=>∀H',Xx H H'→EC C E c x H'):=by
       cases hz:fe (ρ.set i none++[none]) with
       | ok z =>
        rw [hz] at p
        exact ⟨z,rfl,p⟩
       | err c x=>rw [hz] at p;exact p.elim
       | bad=>rw [hz] at p;exact p.elim
      refine ⟨fun j mm H2=>mm=js.length - j∧j≤js.length∧Xx (upd H a (.frz o (.dK (ks.zip xs)))) H2∧∃us:List Int,us.length≤j∧H2 Dd=some (.lst (us.map V.int))∧Xz (Dl.Zhb g ks ds z (js.drop j)) (fun ys=>∀v H',Xx H H'→Res K C 2 [] H A (.lst (us.map D.int++ys)) v H'→Q v H') (fun c x=>False),⟨js.length,by simp,zero_le _,sameNew hD _,[],le_refl _,Yb,?_⟩,?_⟩
      ·rw [List.drop_zero]
       cases hd:Dl.Zhb g ks ds z js with
       | ok ys=>rw [hd] at p2;exact p2
       | err c x =>
        exfalso
        clear p2
        have:∀(js:List Int),Dl.Zhb g ks ds z js≠.err c x:=by
         intro js
         induction js with
         | nil=>intro h;cases h
         | cons k js ih =>
          intro h
          rw [Dl.Zhb] at h
          cases h1:Dl.dAt ks ds (.inl k) with
          | none=>rw [h1] at h;cases h
          | some d =>
           rw [h1] at h
           cases h2:g d z with
           | none=>rw [Dl.Zfz,Dl.Zad,h2] at h;cases h
           | some t =>
            rw [Dl.Zfz,Dl.Zad,h2,Dl.Zfz,Dl.Zad] at h
            cases t with
            | bl b =>
             cases h3:Dl.Zhb g ks ds z js with
             | ok ys=>simp only [h3,Dl.Zad] at h;cases h
             | err c' x' =>
              simp only [h3,Dl.Xcu] at h
              cases h
              exact ih h3
             | bad=>simp only [h3,Dl.Xcr] at h;cases h
            | _=>cases h
        exact this js hd
       | bad=>rw [hd] at p2;exact p2.elim
      ·rintro j mm H2 ⟨rfl,hj,g2,us,hul,hD2,pq⟩
       have hfz:H2 a=some (.frz o (.dK (ks.zip xs))):=g2 _ _ Yb
       have hzl:(ks.zip xs).length=js.length:=by rw [List.length_zip,hlx,Nat.min_self,hlk]
       by_cases hlt:j<js.length
       ·refine .inr ⟨⟨hfz,by rw [hzl];exact hlt⟩,fun H'=>j+1≤js.length∧Xx (upd H a (.frz o (.dK (ks.zip xs)))) H'∧∃us:List Int,us.length≤j+1∧H' Dd=some (.lst (us.map V.int))∧Xz (Dl.Zhb g ks ds z (js.drop (j+1))) (fun ys=>∀v H',Xx H H'→Res K C 2 [] H A (.lst (us.map D.int++ys)) v H'→Q v H') (fun c x=>False),fun H' ⟨q1,q2,q3⟩=>⟨js.length - (j+1),by omega,rfl,q1,q2,q3⟩,?_⟩
        rintro x H' ⟨rfl,kv,hkv,rfl⟩ os hos
        obtain ⟨x0,hos'⟩:∃x0,os=[x0]:=by
         cases os with
         | nil=>cases hos
         | cons x0 r =>
          cases r with
          | nil=>exact ⟨x0,rfl⟩
          | cons _ _=>simp at hos
        subst hos'
        have hk1:kv.1=.inl js[j]:=by
         have:=(List.getElem?_zip_eq_some.mp (show (ks.zip xs)[j]?=some (kv.1,kv.2) from hkv)).1
         rw [hks,getElem?_map,getElem?_eq_getElem hlt] at this
         simpa using this.symm
        have hset:(σ++[x0]).set n (some (kV kv.1))=σ++[some (kV kv.1)]:=by
         rw [List.set_append_right _ _ (by omega),hσ,sub_self]
         rfl
        show (∃os',os'.length=1∧(σ++[x0]).set n (some (kV kv.1))=σ++os')∧_
        rw [hset]
        refine ⟨⟨[some (kV kv.1)],rfl,rfl⟩,?_⟩
        rw [Zru (getElem?_eq_getElem hlt)] at pq
        cases ha:Dl.dAt ks ds (.inl js[j]) with
        | none=>rw [ha] at pq;exact pq.elim
        | some d =>
         rw [ha,Dl.Zfz,Dl.Zad] at pq
         have hv:=Zrl (ks:=ks) (k:=.inl js[j]) r1' hf
         rw [ha] at hv
         obtain ⟨v,v1,v2,v3⟩:=hv
         have v2':=Rp.ext (A:=[]) (ext g2) (by intro _ h;cases h) v2
         refine ⟨.ref a,by rw [getElem?_append_left (by omega)];exact s1,kV kv.1,?_,a,v,rfl,?_,?_⟩
         ·rw [getElem?_append_right (by omega),hσ,sub_self]
          rfl
         ·rw [hk1,← v1]
          exact .inl ⟨_,_,.inr ⟨o,hfz⟩,rfl,rfl⟩
         ·refine he H' H' H' _ _ _ _ (envT _ g2) ?_
          rw [hz]
          intro w H3 g3 rw3
          obtain ⟨Bw,rw3,_⟩:=rw3
          cases hgz:g d z with
          | none=>rw [hgz] at pq;exact pq.elim
          | some t =>
           rw [hgz,Dl.Zfz,Dl.Zad] at pq
           refine hg H3 d z t v w [] Bw _ (v2'.same g3) rw3 hgz fun u H4 Bu g4 ru _ _=>?_
           cases t with
           | bl b =>
            refine ⟨b,ru.1,?_⟩
            have g24:=g2.trans (g3.trans g4)
            have hD4:=(g3.trans g4) _ _ hD2
            have pq':=Xz.bind pq
            cases b with
            | false =>
             simp only [Bool.false_eq_true,if_false]
             exact ⟨hlt,g24,us,by omega,hD4,pq'.imp (fun ys q=>q) fun _ _ z=>z⟩
            | true =>
             simp only [if_true]
             refine ⟨kV kv.1,?_,us.map V.int,hD4,?_,hlt,?_,us++[js[j]],by simp;omega,?_,?_⟩
             ·rw [getElem?_append_right (by omega),hσ,sub_self]
              rfl
             ·rw [length_map]
              have hsl:Dl.lim<sizeLine:=by decide
              omega
             ·intro b ob hb
              have hbD:b≠Dd:=fun z=>by
               subst z
               rw [hD] at hb
               cases hb
              rw [Xb hbD]
              exact g24 _ _ hb
             ·rw [Yb,hk1]
              simp [kV]
             ·exact pq'.imp (fun ys q v' H' h1 h2=>q v' H' h1 (by simpa using h2)) fun _ _ z=>z
           | _=>exact pq.elim
       ·have hje:j=js.length:=by omega
        subst hje
        refine .inl ⟨⟨hfz,hzl⟩,o,hfz,?_⟩
        rw [List.drop_length] at pq
        have pq:∀v H',Xx H H'→Res K C 2 [] H A (.lst (us.map D.int++[])) v H'→Q v H':=pq
        rw [append_nil] at pq
        refine pq _ _ (fun b ob hb=>?_) ?_
        ·by_cases hba:b=a
         ·subst hba
          rw [Yb,← h1,hb]
         ·rw [Xb hba]
          exact g2 _ _ (by rw [Xb hba];exact hb)
        ·refine Res.new (B:=[Dd]) ⟨Dd,us.map V.int,[],rfl,?_,RpA.ints,rfl⟩ (by simp) fun b hb=>?_
         ·rw [Xb hDa]
          exact hD2
         ·rw [List.mem_singleton.mp hb]
          exact hHD
     ·exact p.elim
    ·exact p.elim
   ·exact p.elim
  ·exact p.elim
 ·exact p.elim
end
section
variable {X:Cx}{C:String→Addr}{E:XK}{Γ Δ Γ' Δ' Γl Δl:List Nat}{m m1 m2 m3 mr:Nat}{S S1 S2 S3:List (Nat×Bool)}{a b c e o:Expr}{ta tb tc te:TE}{fa fb fc fe:FE}{p p2 pos apos cpos:Pos}{n:Nat}
theorem Xmb (ha:JE X C E Γ Δ m1 S1 a ta fa)(hb:JE X C E Γ Δ m2 S2 b tb fb)(hc:JE X C E Γ Δ m3 S3 c tc fc)(hu:X.A.units+64<cLine)(hbase:attributeBase a "get" X.env (eval a X.env)=eval a X.env:=by rfl)
  (hfew:((backTo cpos (starEach [b,c] X.env)).all (fun x=>!x.1)&&(backToKw cpos (keywordEach [] X.env)).all (fun x=>x.1.isSome)&&decide (([b,c]:List Expr).length+([]:List Keyword).length+(if ([]:List Keyword).isEmpty then 0 else 1)<30))=true:=by rfl)
  (hline:(apos.endLine==cpos.line)=true:=by rfl) (htr:backTo cpos (starEach [b,c] X.env)=[(false,eval b X.env),(false,eval c X.env)]:=by rfl):JE X C E Γ Δ 2 [] (.Call (.Attribute a "get" apos) [b,c] [] cpos) (Xap ta tb tc) (Dl.Zwb fa fb fc):=
 ⟨⟨Xfr (by omega) ha.q.out hb.q.out hc.q.out ⟨hbase,hfew,hline,htr⟩⟩,Xcy ha.o hb.o hc.o⟩
theorem Xdc {x v:Str}{tp ip ep cp dp kp sp:Pos}{op:CmpOp}{sc:Scope}{i:Nat}{r:R2}{g:D→D→Option D}(esc:Scope)(N N2:List Str)(B:Xei sc esc [x] N N2)(hv:N[i]?=some v)(hvs:Vis esc v)
  (hg:∀cl C' s0 H0 fp,QG (X.blkN N2 [x] sc cl C' s0 H0 fp) (.Name x tp) (Zbn n))
  (hd1:∀cl C' s0 H0 fp,QE (X.blkN N2 [x] sc cl C' s0 H0 fp) (.Name v dp) (Zdb i)) (hk1:∀cl C' s0 H0 fp,QE (X.blkN N2 [x] sc cl C' s0 H0 fp) (.Name x kp) (Zdb n)) (he1:∀cl C' s0 H0 fp,QE (X.blkN N2 [x] sc cl C' s0 H0 fp) (.Name x ep) (Zdb n))
  (ho:∀cl C' s0 H0 fp,OpR (X.blkN N2 [x] sc cl C' s0 H0 fp) (compareOp op) r) (hgk:GOk X.K C r g) (hb:∀cl C' s0 H0 fp,JE (X.blkN N2 [x] sc cl C' s0 H0 fp) C E0 [] [] m2 S2 b tb fb) (hm:behindInMarks op b=false) (hu:X.A.units+64<cLine)
  (hi:i∈Γ:=by decide) (hesc:X.env.scope=esc:=by rfl) (hN:X.N=N:=by rfl) (hc:X.calm=true:=by rfl) (hs:∀u,foldedSetIterable (.Name v ip) X.env u=pure u:=by intro _;rfl)
  (hd:(v==("__debug__":Str))=false:=by decide) (hcd:(v==("__classdict__":Str))=false:=by decide) (hns:Xok (.Name x kp):=by intro _ _;rfl) :
  JE X C E Γ Δ 2 [] (.ListComp (.Name x ep) [⟨.Name x tp,.Name v ip,[.Compare (.Subscript (.Name v dp) (.Name x kp) sp) [op] [b] cp],0⟩] sc pos) (tUF i (Zgs 1 (Zbn n) (Xjr (Zdb i)) (Zxi (tOp r (Xmz (Zdb i) (Zdb n)) tb)) (Zdb n))) (Dl.Zqp g i n fb):=by
 subst hesc hN
 refine ⟨⟨pe_uf (Zug _ _ N2 [x] B ⟨Xjv (qv i hv hvs hd hcd).out⟩ hg (fun cl C' s0 H0 fp=>Xbm (Xbe (ho cl C' s0 H0 fp) ⟨Xmu (by show X.A.units+1<cLine;omega) (hd1 cl C' s0 H0 fp).out (hk1 cl C' s0 H0 fp).out hns⟩ (hb cl C' s0 H0 fp).q hm)) he1 rfl rfl hc hs).out⟩,Zxv hgk (hb [] 0 X.s₀ X.H₀ []).o hi⟩
end
section
variable {K:Frag}{C:String→Addr}{E:XK}{Γ Δ Γ' Δ' Γ1 Δ1 Γl Δl Γk Δk:List Nat}{m m1 m2 m3 mr:Nat}{H:Hp}{Q:VK}
end
section
variable {X:Cx}{C:String→Addr}{E:XK}{Γ Δ Γ' Δ' Γl Δl:List Nat}{mr:Nat}{pos p p2 apos cpos:Pos}{e:Expr}{te:TE}{fe:FE}
end
section
variable {K:Frag}{C:String→Addr}{E:XK}{Γ Δ Γ' Δ' Γ1 Δ1 Γl Δl Γk Δk:List Nat}{m m1 m2 m3 mr:Nat}{H:Hp}{Q:VK}
end
section
variable {X:Cx}{C:String→Addr}{E:XK}{Γ Δ Γ' Δ' Γl Δl:List Nat}{m1 m2 mr:Nat}{pos pos2 p1 p2:Pos}{e1 e2:Expr}{t1 t2:TE}{f1 f2:FE}{x y:Str}{ss:List Stmt}{v:TS}{h:FS}
end
end L2
namespace L2
open PySem PySem.Spec PyProof.Rows
open Dl (D R FE FT FA FO FS FI FB FM Fl)
section
variable {K:Frag}{C:String→Addr}{E:XK}{Γ Δ Γ' Δ' Γ1 Δ1 Γl Δl Γk Δk:List Nat}{m m1 m2 m3 mr n:Nat}{S:List (Nat×Bool)}{H:Hp}{Q:VK}
def MOkF (K:Frag)(C:String→Addr)(E:XK)(Γ Δ:List Nat)(i:Nat)(t:TE)(f:FM):Prop:=∀(H0 Hb H:Hp) (σ:St) (ρ:Jw) (A:Nat→List Addr) (Q:VK),Xd K C H0 Hb H Γ Δ σ ρ A→
 Xz (f ρ) (fun p=>∀v H' A' B,Xd K C H0 Hb H' Γ Δ σ p.2 A'→(∀b o,b∉A i→H b=some o→H' b=some o)→(∀j,j≠i→p.2[j]?=ρ[j]?∧A' j=A j)→Rp K C H' p.1 v B→B.Nodup→(∀a∈B,Hb a=none∧∀j,a∉A' j)→Q v H') (fun c x=>∀H',Xx H0 H'→EC C E c x H')→t σ H Q
theorem Zpw {i l:Nat}{c:String}{md:Str}{G:List D→R (D×D)}{t:TA}{fa:FA}(hi:i∈Δ)(ha:AOk K C E Γ Δ m S t fa)(hn:∀ρ ds,fa ρ=.ok ds→ds.length=n)(hS:∀p∈S,p.1≠i) :
  MOkF K C E Γ Δ i (Zmg (C c) md (spM K C n G) [] E (tOp (rIx K) (Zdb i) (Zdb l)) t) (Dl.Zeo i l c md G fa):=fun H0 Hb H σ ρ A Q I p=>by
 unfold Dl.Zeo at p
 split at p
 ·rename_i os nn e0 el
  split at p
  ·rename_i j c' ns ds ej
   split at p
   ·rename_i hcc
    obtain ⟨hcc,hmd⟩:=hcc
    subst hcc
    obtain ⟨jx,hjx,hjo⟩:=Option.bind_eq_some_iff.mp (show ((Dl.ixD os.length nn).bind fun j=>os[j]?.map fun o=>(j,o))=some (j,.obj c' ns ds) from ej)
    obtain ⟨oo,hoo,hoe⟩:=Option.map_eq_some_iff.mp hjo
    cases hoe
    obtain ⟨v0,hs,r0⟩:=I.rep i _ e0
    obtain ⟨vl,hsl,rl⟩:=I.rep l _ el
    obtain ⟨rfl,-⟩:=rl
    obtain ⟨a,xs,B,rfl,h1,r3,hAi⟩:=r0
    obtain ⟨B1,Bj,B2,w,rfl,hw,rj,up⟩:=r3.one_of hoo
    obtain ⟨b,dx,ws,B',rfl,hb1,hbl,rb3,hBj⟩:=id rj
    obtain ⟨d1,d2,d3⟩:=I.deep i hi
    rw [hAi] at d1 d2 d3
    have ndB:=(List.nodup_cons.mp d1).2
    have q1:=List.nodup_append.mp ndB
    have q2:=List.nodup_append.mp q1.2.1
    have haB:a∉Bj:=fun z=>(List.nodup_cons.mp d1).1 (by simp [z])
    have hjA:∀c∈Bj,c∈A i:=fun c hc=>by rw [hAi];simp [hc]
    refine ⟨_,hs,_,hsl,.inl ⟨a,xs,nn,.ref b,rfl,rfl,SqL.of h1,Xcf (by rw [r3.len];exact hjx) hw,b,dx,_,rfl,hb1,by rw [Zbu md (by rw [rb3.len,hbl]),hmd];rfl,?_⟩⟩
    refine ha H0 Hb H σ ρ A _ I ?_
    cases e:fa ρ with
    | bad=>rw [e] at p;exact p
    | err c x=>rw [e] at p;exact fun H' g'=>p H' (Xx.from0 I g')
    | ok ys =>
     rw [e] at p
     intro vs H1 g1 r2
     obtain ⟨Ba,r2,rB,_⟩:=r2
     rw [append_nil]
     have I1:=I.mono g1
     have hout:∀c∈Ba,c∉A i:=fun c hc hz=>(rB c hc).elim (fun z=>I.ne hz z) (I.deep_out hi hS hz)
     refine ⟨.obj c' ns ds,ys,_,vs,Bj,Ba,rfl,hn ρ ys e,rj.same g1,q2.1,r2,fun c hc hz=>hout c hc (hjA c hz),Xz.imp (Xz.bind (r:=G (.obj c' ns ds::ys)) p) (fun q pq v H' A1 Br hk r1 nd1 hA1 rr ndr hBr=>?_) fun c x q H' hk=>?_⟩
     ·have hA1':∀c∈A1,c∈Bj∨H1 c=Option.none:=hA1
      have ra:Rp K C H' (.lst (os.set j q.2)) (.ref a) (a::(B1++(A1++B2))):=by
       refine ⟨a,xs,_,rfl,hk a _ haB (g1 _ _ h1),?_,rfl⟩
       refine up (fun c=>c∈Bj) H' q.2 A1 (fun c o hc=>?_) (fun c hc hz=>?_) r1
       ·by_cases z:c∈Bj
        ·obtain ⟨o',ho',hm⟩:=rj.isl c z
         rw [hc] at ho'
         cases ho'
         exact .inr ⟨z,hm⟩
        ·exact .inl (hk c o z (g1 _ _ hc))
       ·rcases List.mem_append.mp hc with z | z
        ·exact q1.2.2 c z c (by simp [hz]) rfl
        ·exact q2.2.2 c hz c z rfl
      have new:∀{c},H1 c=Option.none→∀k,c∉A k:=fun {c} hc k hz=>I1.ne hz hc
      have nd':(a::(B1++(A1++B2))).Nodup:=by
       refine List.nodup_cons.mpr ⟨fun z=>?_,List.nodup_append.mpr ⟨q1.1,List.nodup_append.mpr ⟨nd1,q2.2.1,fun x hx y hy exy=>?_⟩,fun x hx y hy exy=>?_⟩⟩
       ·rcases List.mem_append.mp z with z | z
        ·exact (List.nodup_cons.mp d1).1 (by simp [z])
        ·rcases List.mem_append.mp z with z | z
         ·rcases hA1' a z with y | y
          ·exact haB y
          ·exact new y i (by rw [hAi];exact .head _)
         ·exact (List.nodup_cons.mp d1).1 (by simp [z])
       ·subst exy
        rcases hA1' x hx with z | z
        ·exact q2.2.2 x z x hy rfl
        ·exact new z i (by rw [hAi];simp [hy])
       ·subst exy
        rcases List.mem_append.mp hy with z | z
        ·rcases hA1' x z with w | w
         ·exact q1.2.2 x hx x (by simp [w]) rfl
         ·exact new w i (by rw [hAi];simp [hx])
        ·exact q1.2.2 x hx x (by simp [z]) rfl
      refine pq v H' _ Br (I1.deepTo hi (List.getElem?_eq_some_iff.mp e0).1 hs (fun c o hc hz=>hk c o (fun w=>hc (hjA c w)) hz) ra nd' fun c hc=>?_) (fun c o hc hz=>hk c o (fun w=>hc (hjA c w)) (g1 _ _ hz)) (fun k hk'=>⟨getElem?_set_ne fun z=>hk' z.symm,if_neg hk'⟩) rr ndr fun c hc=>⟨?_,fun k=>?_⟩
      ·rw [hAi]
       rcases List.mem_cons.mp hc with rfl | hc
       ·exact .inl (.head _)
       ·rcases List.mem_append.mp hc with z | z
        ·exact .inl (by simp [z])
        ·rcases List.mem_append.mp z with z | z
         ·rcases hA1' c z with w | w
          ·exact .inl (by simp [w])
          ·exact .inr ⟨I1.same.free w,new w⟩
         ·exact .inl (by simp [z])
      ·exact (hBr c hc).1.elim (fun z=>d3 c (by simp [z])) fun z=>I1.same.free z
      ·by_cases e1:k=i
       ·rw [if_pos e1]
        intro z
        rcases List.mem_cons.mp z with rfl | z
        ·exact (hBr c hc).1.elim haB fun y=>new y i (by rw [hAi];exact .head _)
        ·rcases List.mem_append.mp z with z | z
         ·exact (hBr c hc).1.elim (fun w=>q1.2.2 c z c (by simp [w]) rfl) fun y=>new y i (by rw [hAi];simp [z])
         ·rcases List.mem_append.mp z with z | z
          ·exact (hBr c hc).2 z
          ·exact (hBr c hc).1.elim (fun w=>q2.2.2 c w c z rfl) fun y=>new y i (by rw [hAi];simp [z])
       ·rw [if_neg e1]
        exact fun hj=>(hBr c hc).1.elim (fun z=>d2 k e1 c (by simp [z]) hj) fun z=>new z k hj
     ·refine q H' fun b o h=>hk b o (fun z=>?_) (I1.same b o (I.s0 b o h))
      have:=d3 b (by simp [z])
      rw [I.s0 b o h] at this
      cases this
   ·exact p.elim
  ·exact p.elim
 ·exact p.elim
theorem AtP.one {H:Hp}{v:V}:∀{path:List Int} {v:V} {b b':Addr},AtP K H v path b→AtP K H v path b'→b=b'
 | [],v,b,b',h,g=>by
  have h:v=.ref b:=h
  have g:v=.ref b':=g
  rw [h] at g
  exact V.ref.inj g
 | k::path,v,b,b',h,g=>by
  obtain ⟨p,zs,u,e,hq,ha,hu⟩:=h
  obtain ⟨p2,zs2,u2,e2,hq2,ha2,hu2⟩:=g
  rw [e] at e2
  cases e2
  have ez:zs=zs2:=by
   rcases hq with hq | hq<;>rcases hq2 with hq2 | hq2<;>rw [hq] at hq2<;>cases hq2<;>rfl
  subst ez
  rw [ha] at ha2
  cases ha2
  exact AtP.one (v:=u) hu hu2
theorem Xgh {i j l:Nat}{tm:TE}{fm:FM}(hm:MOkF K C E Γ Δ j tm fm)(hi:i∈Δ:=by decide)(hij:i≠j:=by decide) :
    SOk K C E mr Γl Δl Γ Δ Γ Δ (Zja (tBM K "list" Zsh (tOp (rIx K) (Zdb i) (Zdb l)) (Zhz tm Zvr))) (Dl.Zsb i l fm):=fun H0 Hb H σ ρ A D I p=>by
  unfold Dl.Zsb at p
  split at p
  · rename_i d n e0 el
    obtain ⟨vl,hsl,rl⟩:=I.rep l _ el
    obtain ⟨rfl,-⟩:=rl
    cases hf:fm ρ with
    | bad=>rw [hf] at p;exact p.elim
    | err c x =>
      rw [hf] at p
      exact p.elim
    | ok q =>
      rw [hf] at p
      have p:Xz (match q.1 with
        | .lst es=>match Dl.Zov (Dl.Zrg es) [n] d with
          | some d'=>R.ok (Fl.nx (q.2.set i (some d')))
          | none=>.bad
        | _=>.bad) _ _:=p
      split at p
      · rename_i es hq
        split at p
        · rename_i d' hu
          obtain ⟨v,b,ys,hs,hat,hb,hz,hbA,_⟩:=I.pathExt hi e0 hu
          refine ⟨v,hs,_,hsl,Xtk hat fun u hu'=>?_⟩
          have hu':u=.ref b:=hu'
          subst hu'
          refine ⟨.inl ⟨rfl,ys,SqL.of hb⟩,hm H0 Hb H σ ρ A _ I ?_⟩
          rw [hf]
          intro w H' A' B I' fr sm rr ndr hBr
          have d2:=(I.deep i hi).2.1
          have e0':q.2[i]?=some (some d):=(sm i hij).1.trans e0
          obtain ⟨v',b',ys',hs',hat',hb',hz',hbA',up⟩:=I'.pathExt hi e0' hu
          rw [hs] at hs'
          cases hs'
          have nj:∀c∈A i,c∉A j:=fun c hc=>d2 j (fun z=>hij z.symm) c hc
          have hat2:AtP K H' v [n] b:=by
            obtain ⟨p0,zs,u,e1,hq1,ha1,hu1⟩:=hat
            have:p0∈A i∨H p0=some (.tup zs):=by
              rcases hq1 with z | z
              · left
                obtain ⟨v2,hs2,r⟩:=I.rep i d e0
                rw [hs] at hs2
                cases hs2
                subst e1
                cases d with
                | lst ds =>
                  obtain ⟨a,xs,B,e,_,_,hA⟩:=r
                  cases e
                  rw [hA]
                  exact .head _
                | tup ds =>
                  obtain ⟨a,xs,e,h1,_⟩:=r
                  cases e
                  rw [z] at h1
                  cases h1
                | _=>cases hu
              · exact .inr z
            refine ⟨p0,zs,u,e1,?_,ha1,hu1⟩
            rcases this with z | z
            · exact hq1.imp (fun y=>fr _ _ (nj _ z) y) fun y=>fr _ _ (nj _ z) y
            · refine .inr (fr _ _ (fun y=>?_) z)
              obtain ⟨o,ho,hm'⟩:=I.is y
              rw [z] at ho
              cases ho
              cases hm'
          have eb:b=b':=AtP.one (v:=v) hat2 hat'
          subst eb
          have hbk:=fr _ _ (nj _ hbA) hb
          rw [hb'] at hbk
          cases hbk
          rw [hq] at rr
          obtain ⟨c,zs,B2,rfl,e2,e3,e4⟩:=rr
          subst e4
          obtain ⟨A2,I2⟩:=up H' zs B2 (Xx.refl _) e3 (List.nodup_cons.mp ndr).2 fun a ha=>hBr a (.tail _ ha)
          exact ⟨b,c,ys,zs,rfl,rfl,hb',e2,by rw [e3.len];exact hz,p σ _ A2 I2⟩
        · exact p.elim
      · exact p.elim
  · exact p.elim
end
section
variable {X:Cx}{C:String→Addr}{E:XK}{Γ Δ Γ' Δ' Γl Δl:List Nat}{m m2 mr n:Nat}{S2:List (Nat×Bool)}{e:Expr}{es:List Expr}{t:TA}{fa:FA}{pos p p1 p2 p3 p4 p5 apos cpos mpos mapos:Pos}{c:String}{md x y kx:Str}{CX:CXT}{k:Nat}{ps:List Str}{tm:TE}{fm:FM}
structure JMF (X:Cx)(C:String→Addr)(E:XK)(Γ Δ:List Nat)(j:Nat)(e:Expr)(t:TE)(f:FM):Prop where
 q:QE X e t
 o:MOkF X.K C E Γ Δ j t f
theorem Xeb {K:Frag}{G:List D→R (D×D)}{pl:Sem Bool}(i l:Nat)(hc:Cls K (C c))(M:Zdc X.prog X.w K X.mg X.base CX k (C c) md ps (spM K C n G))(hr:Zdx k X.A)(hx:Zbp CX X E)(ha:JA X C E Γ Δ m2 S2 (e::es) n t fa)(hi:i∈Δ:=by decide)(hS:∀p∈S2,p.1≠i:=by decide)
    (hN:X.N[i]?=some x:=by rfl) (hv:autoParam (Vis X.env.scope x) aT3._auto_1) (hd:(x==("__debug__":Str))=false:=by decide) (hcd:(x==("__classdict__":Str))=false:=by decide)
    (hN2:X.N[l]?=some kx:=by rfl) (hv2:autoParam (Vis X.env.scope kx) aT3._auto_1) (hd2:(kx==("__debug__":Str))=false:=by decide) (hcd2:(kx==("__classdict__":Str))=false:=by decide) (hs:Xok (.Name kx p2):=by intro _ _;rfl)
    (hst:starEach (e::es) X.env=(false,eval e X.env)::starEach es X.env:=by rfl) (hpl:(backTo pos (starEach es X.env)).any (·.1)=false:=by rfl)
    (ht:eval (.Call (.Attribute (.Subscript (.Name x p) (.Name kx p2) p3) md apos) (e::es) [] pos) X.env=(do
      let ov ← eval (.Subscript (.Name x p) (.Name kx p2) p3) X.env
      standAt apos.atName
      let (f,first) ← holding [ov] (getMethod ov md pl)
      callWith pos f first (backTo pos (starEach (e::es) X.env)) (backToKw pos (keywordEach [] X.env))):=by rfl) (hK:X.K=K:=by rfl) :
    JMF X C E Γ Δ i (.Call (.Attribute (.Subscript (.Name x p) (.Name kx p2) p3) md apos) (e::es) [] pos) (Zmg (C c) md (spM K C n G) [] E (tOp (rIx K) (Zdb i) (Zdb l)) t) (Dl.Zeo i l c md G fa):=by
  subst hK
  obtain ⟨f,fd,hm,hb,F'⟩:=M.ex
  exact ⟨⟨Zrx (Xfq Zvc (qv i hN hv hd hcd) (qv l hN2 hv2 hd2 hcd2) hs).out hc hm F' hr hb .nil hx ha.q.out hst hpl ht⟩,Zpw hi ha.o ha.n hS⟩
theorem Zyl {K:Frag}{G:List D→R (D×D)}{pl:Sem Bool}(i l:Nat)(hc:Cls K (C c))(M:Zdc X.prog X.w K X.mg X.base CX k (C c) md ps (spM K C 0 G))(hr:Zdx k X.A)(hx:Zbp CX X E)(hi:i∈Δ:=by decide)
    (hN:X.N[i]?=some x:=by rfl) (hv:autoParam (Vis X.env.scope x) aT3._auto_1) (hd:(x==("__debug__":Str))=false:=by decide) (hcd:(x==("__classdict__":Str))=false:=by decide)
    (hN2:X.N[l]?=some kx:=by rfl) (hv2:autoParam (Vis X.env.scope kx) aT3._auto_1) (hd2:(kx==("__debug__":Str))=false:=by decide) (hcd2:(kx==("__classdict__":Str))=false:=by decide) (hs:Xok (.Name kx p2):=by intro _ _;rfl)
    (ht:eval (.Call (.Attribute (.Subscript (.Name x p) (.Name kx p2) p3) md apos) [] [] pos) X.env=(do
      let ov ← eval (.Subscript (.Name x p) (.Name kx p2) p3) X.env
      standAt apos.atName
      let (f,first) ← holding [ov] (getMethod ov md pl)
      callWith pos f first (backTo pos (starEach [] X.env)) (backToKw pos (keywordEach [] X.env))):=by rfl) (hK:X.K=K:=by rfl) :
    JMF X C E Γ Δ i (.Call (.Attribute (.Subscript (.Name x p) (.Name kx p2) p3) md apos) [] [] pos) (Zmg (C c) md (spM K C 0 G) [] E (tOp (rIx K) (Zdb i) (Zdb l)) Zvr) (Dl.Zeo i l c md G Dl.Zt):=by
  subst hK
  obtain ⟨f,fd,hm,hb,F'⟩:=M.ex
  exact ⟨⟨Ztq (Xfq Zvc (qv i hN hv hd hcd) (qv l hN2 hv2 hd2 hcd2) hs).out hc hm F' hr hb .nil hx ht⟩,Zpw hi (S:=[]) Ztc Zsi (fun _ h=>nomatch h)⟩
theorem Xah {i j l:Nat}(he:JMF X C E Γ Δ j e tm fm)(hse:starEach [e] X.env=(false,eval e X.env)::starEach [] X.env:=by rfl)(hi:i∈Δ:=by decide)(hij:i≠j:=by decide)
  (hN:X.N[i]?=some x:=by rfl) (hv:autoParam (Vis X.env.scope x) aT3._auto_1) (hd:(x==("__debug__":Str))=false:=by decide) (hcd:(x==("__classdict__":Str))=false:=by decide)
  (hN2:X.N[l]?=some kx:=by rfl) (hv2:autoParam (Vis X.env.scope kx) aT3._auto_1) (hd2:(kx==("__debug__":Str))=false:=by decide) (hcd2:(kx==("__classdict__":Str))=false:=by decide) (hs:Xok (.Name kx p2):=by intro _ _;rfl)
  (hbase:attributeBase (.Subscript (.Name x p) (.Name kx p2) p3) "extend" X.env (eval (.Subscript (.Name x p) (.Name kx p2) p3) X.env)=eval (.Subscript (.Name x p) (.Name kx p2) p3) X.env:=by rfl)
  (hfew:((backTo cpos (starEach [e] X.env)).all (fun x=>!x.1)&&(backToKw cpos (keywordEach [] X.env)).all (fun x=>x.1.isSome)&&decide (([e]:List Expr).length+([]:List Keyword).length+(if ([]:List Keyword).isEmpty then 0 else 1)<30))=true:=by rfl)
  (hline:(apos.endLine==cpos.line)=true:=by rfl) (hplain:(backTo cpos (starEach ([]:List Expr) X.env)).any (·.1)=false:=by rfl) (hsw:swapsWith (.Call (.Attribute (.Subscript (.Name x p) (.Name kx p2) p3) "extend" apos) [e] [] cpos) none pos.line X.env=pure false:=by rfl) :
  JS X C E mr Γl Δl Γ Δ Γ Δ (.Expr (.Call (.Attribute (.Subscript (.Name x p) (.Name kx p2) p3) "extend" apos) [e] [] cpos) pos) (Zja (tBM X.K "list" Zsh (tOp (rIx X.K) (Zdb i) (Zdb l)) (Zhz tm Zvr))) (Dl.Zsb i l fm):=
 ⟨Zlj (Xjh PySem.F.plainAttrs_list PySem.F.slot_list_extend PySem.F.type_list_extend Zzf (Xfq Zvc (qv i hN hv hd hcd) (qv l hN2 hv2 hd2 hcd2) hs) (Zkp he.q Zvh hse) hbase hfew hline hse hplain) hsw,Xgh he.o hi hij⟩
end
end L2
namespace Dl
open PySem
noncomputable def Zuu:FS:=
  (Xp (sIf (cOr (cE (f2 gLt (fV 1) (fC (.int 0)))) (cOr (cE (f2 gGt (fV 2) (fA Zac (Zd (fV 0) Zt)))) (cE (f2 gGt (fV 1) (fV 2))))) Ziw sNx)
    (Zao (fA Xso (Zd (fSl gSl (fV 0) (Zhu (fV 1)) (Zhu (fV 2))) Zt))))
noncomputable def Zci (ds:List D):R D:=(run 3 Zuu ds).calm
noncomputable def Zec:FS:=
 (sIf (cE (f2 gGt (fV 1) (fV 2))) (Yg 1 (f1 Xs (f2 gIx (fV 0) (fV 1)))) (Yg 2 (f1 Xs (f2 gIx (fV 0) (fV 2)))))
noncomputable def Zog:FS:=
  (Xp (Zir 100000 (cE (f2 gNe (fV 1) (fV 2))) Zec)
    (Zao (f1 Xs (fV 1))))
noncomputable def Zar (ds:List D):R D:=(run 3 Zog ds).calm
noncomputable def Zgd:FS:=
 (Yg 2 (f2 Zln (f2 Jj (f2 Jj (f2 Zcm (fV 2) (fC (.int 48271))) (f2 Zln (fV 3) (fC (.int 1000003)))) (fC (.int 1))) (fC (.int 2147483647))))
noncomputable def Zsg:FS:=
  (Xp (sIf (cE (f2 gLt (fV 1) (fA Zac (Zd (fV 0) Zt)))) (Zao (f1 Xs (f2 gIx (fV 0) (fV 1)))) sNx)
    (Xp (Yg 2 (fC (.int 5)))
    (Xp (Zlt (Zcv (fSl gSl (fV 0) Zmb (Zhu (fC (.int 63))))) (Xo 3) Zgd)
    (Zao (f2 Zln (f2 Jj (fV 2) (f2 Zcm (fC (.int 7919)) (fV 1))) (fC (.int 1000003)))))))
noncomputable def Zbe (ds:List D):R D:=(run 4 Zsg ds).calm
noncomputable def Zwk:FS:=
  (Xp (Yg 2 (f2 Zln (f2 Zmw (f2 Jj (f2 Jj (f2 Zln (fV 0) (fC (.int 2147483629))) (f2 Zcm (fC (.int 1013)) (fV 1))) (fC (.int 7919))) (fC (.int 3))) (fC (.int 2147483647))))
    (Xp (Yg 3 (f2 Zln (f2 Jj (f2 Jj (f2 Zcm (fV 2) (fC (.int 40699))) (f2 Zcm (f2 Zcm (fC (.int 3793)) (fV 1)) (fV 1))) (fC (.int 11))) (fC (.int 2147483399))))
    (Zao (f2 Xoh (fV 3) (fC (.int 101))))))
noncomputable def Zbw (ds:List D):R D:=(run 4 Zwk ds).calm
noncomputable def Zdj:FS:=
 (Zmh 1 (f2 Jj (f2 gIx (fV 1) (f1 Zss (fC (.int 1)))) (fV 2)))
noncomputable def Zkf:FS:=
  (Xp (Yg 1 (fA Ju (Zd (fC (.int 0)) Zt)))
    (Xp (Zlt (Zcv (fV 0)) (Xo 2) Zdj)
    (Zao (fV 1))))
noncomputable def Yu (ds:List D):R D:=(run 3 Zkf ds).calm
noncomputable def Zrj:FS:=
  (Xp (Yg 3 (f2 Jj (fV 2) (f2 gIx (fV 1) (fC (.int 1)))))
    (Xp (sIf (cOr (cE (f2 gLt (fV 2) (fC (.int 0)))) (cE (f2 gGe (fV 3) (fA Zac (Zd (fV 0) Zt))))) (Zao (fC (.bl false))) sNx)
    (Zao (f2 gLe (f2 Zdy (f2 gIx (fV 0) (fV 3)) (f2 gIx (fV 0) (fV 2))) (f2 gIx (fV 1) (fC (.int 3)))))))
noncomputable def Jl (ds:List D):R D:=(run 4 Zrj ds).calm
noncomputable def Zio:FS:=
  (Xp (Xix (f1 Xs (f2 gIx (fV 0) (fV 1))) (Xll (Ziz (Xo 3) (Ziz (Xo 4) Xit))))
    (Xp (sIf (cE (f2 gNe (fV 4) (fC (.str ("":Str))))) (Zmh 2 (fA Zjb (Zd (f1 Xs (fV 3)) (Zd (f1 Xs (fV 4)) Zt)))) sNx)
    (Yg 1 (f1 Xs (fV 3)))))
noncomputable def Zxm:FS:=
  (Xp (Yg 2 (fA Ju Zt))
    (Xp (Zir 100000 (cE (f2 gGt (fV 1) (fC (.int 0)))) Zio)
    (Zao (f2 Xmq (fV 2) (f1 Zss (fC (.int 1)))))))
noncomputable def Zak (ds:List D):R D:=(run 5 Zxm ds).calm
noncomputable def Zfl:FS:=
  (Xp (Yg 1 (f1 Xs (f2 gIx (f2 gIx (fV 0) (fV 1)) (fC (.int 0)))))
    (Zmh 2 (f1 Xs (fV 1))))
noncomputable def Zqf:FS:=
  (Xp (Yg 2 (fA Ju (Zd (f1 Xs (fV 1)) Zt)))
    (Xp (Zir 100000 (cE (f2 gGt (fV 1) (fC (.int 0)))) Zfl)
    (Zao (fV 2))))
noncomputable def Zaj (ds:List D):R D:=(run 3 Zqf ds).calm
noncomputable def Zko:FM:=
  (Zbj (Zxs 0 "Feed" ("kinds":Str) (fA Zjd (Zd (fV 1) Zt)))
    (Zbj (Zxs 0 "Feed" ("weights":Str) (fA Ju Zt))
    (Zbj (Zxs 0 "Feed" ("tops":Str) (fA Ju (Zd (fC (.int 0)) Zt)))
    (Xev (Zxs 0 "Feed" ("shut":Str) (fC (.bl false)))))))
noncomputable def Jp (ds:List D):R (D×D):=(Xiz 2 Zko ds).calm
noncomputable def Zbo:FS:=
 (sIf (cE (f1 (Zdd "Feed" ("shut":Str)) (fV 0))) Ziw sNx)
noncomputable def Xm (ds:List D):R D:=(run 1 Zbo ds).calm
noncomputable def Zhf:FS:=
 (Zao (f1 Xs (f1 (Zdd "Feed" ("shut":Str)) (fV 0))))
noncomputable def Jr (ds:List D):R D:=(run 1 Zhf ds).calm
noncomputable def Zie:FS:=
 (Zao (fA Zjd (Zd (f1 (Zdd "Feed" ("weights":Str)) (fV 0)) Zt)))
noncomputable def Jm (ds:List D):R D:=(run 1 Zie ds).calm
noncomputable def Zil:FS:=
 (Zao (f1 Xs (f2 gIx (f1 (Zdd "Feed" ("tops":Str)) (fV 0)) (f1 Zss (fC (.int 1))))))
noncomputable def Ya (ds:List D):R D:=(run 1 Zil ds).calm
noncomputable def Xts:FS:=
  (Xp (Yg 3 (f2 Jj (fV 2) (f2 gIx (fV 1) (fC (.int 1)))))
    (Xp (sIf (cOr (cE (f2 gLt (fV 2) (fC (.int 0)))) (cE (f2 gGt (fV 3) (fA Zac (Zd (fV 0) Zt))))) (Zao (fC (.bl false))) sNx)
    (Zao (f2 gLe (Xv Zci (Zd (fV 0) (Zd (fV 2) (Zd (fV 3) Zt)))) (f2 gIx (fV 1) (fC (.int 3)))))))
noncomputable def Znd (ds:List D):R D:=(run 4 Xts ds).calm
noncomputable def Zfp:FS:=
 (Zao (Xcn (f2 gGt (f2 Jj (fV 2) (f2 gIx (fV 1) (fC (.int 1)))) (fA Zac (Zd (fV 0) Zt))) (f2 gLe (Xv Zci (Zd (fV 0) (Zd (fV 2) (Zd (fA Zac (Zd (fV 0) Zt)) Zt)))) (f2 gIx (fV 1) (fC (.int 3))))))
noncomputable def Jn (ds:List D):R D:=(run 3 Zfp ds).calm
noncomputable def Zik:FS:=
  (sIf (cE (f2 gLt (fV 3) (f2 Zmw (fC (.int 10)) (fC (.int 18))))) (Zmh 5 (f2 Zln (Xv Zbw (Zd (fV 3) (Zd (fV 6) Zt))) (f2 gIx (fV 2) (fV 6)))) (sIf (cE (f2 gGt (fV 4) (fC (.int 0)))) (Xp (Zmh 5 (f2 Zln (fV 4) (f2 gIx (fV 2) (fV 6))))
    (Yg 4 (f2 Xoh (fV 4) (f2 gIx (fV 2) (fV 6))))) (Xp (Yg 7 (Xv Zbe (Zd (fV 0) (Zd (f2 Zln (f2 Jj (f2 Jj (fV 1) (fC (.int 1))) (fV 6)) (fC (.int 63))) Zt))))
    (Zmh 5 (f2 Zln (Xv Zbw (Zd (fV 7) (Zd (fV 6) Zt))) (f2 gIx (fV 2) (fV 6)))))))
noncomputable def Zwd:FS:=
  (Xp (Yg 3 (Xv Zbe (Zd (fV 0) (Zd (fV 1) Zt))))
    (Xp (Yg 4 (f1 Xs (fV 3)))
    (Xp (Yg 5 (fA Ju Zt))
    (Xp (Zlt (Zjc (Zd (fA Zac (Zd (fV 2) Zt)) Zt)) (Xo 6) Zik)
    (Zao (fV 5))))))
noncomputable def Yt (ds:List D):R D:=(run 8 Zwd ds).calm
noncomputable def Zdt:FS:=
  (Xp (Yg 7 (f2 Zdy (fV 4) (f2 gIx (fV 6) (fC (.int 1)))))
    (sIf (cE (Xv Jl (Zd (fV 2) (Zd (fV 6) (Zd (fV 7) Zt))))) (Yg 5 (fA Xgf (Zd (fV 5) (Zd (f2 Jj (f2 gIx (fV 3) (fV 7)) (f2 gIx (fV 6) (fC (.int 2)))) Zt)))) sNx))
noncomputable def Zdr:FS:=
  (Xp (Yg 5 (f1 Xs (f2 gIx (fV 3) (f1 Zss (fC (.int 1))))))
    (Xp (Zlt (Zcv (fV 1)) (Xo 6) Zdt)
    (Zmh 3 (f1 Xs (fV 5)))))
noncomputable def Zlz:FS:=
  (Xp (Yg 2 (Xv Yu (Zd (fV 0) Zt)))
    (Xp (Yg 3 (fA Ju (Zd (fC (.int 0)) Zt)))
    (Xp (Zlt (Zsr (Zd (fC (.int 1)) (Zd (fA Zac (Zd (fV 2) Zt)) Zt))) (Xo 4) Zdr)
    (Zao (fV 3)))))
noncomputable def Xg (ds:List D):R D:=(run 8 Zlz ds).calm
noncomputable def Zbk:FS:=
 (Xgb 2 (fV 4) (f2 Jj (Zwb (fV 2) (fV 4) (fC (.int 0))) (fC (.int 1))))
noncomputable def Zab:FS:=
 (Zlt (Zcv (Xv Zaj (Zd (fV 0) (Zd (fV 3) Zt)))) (Xo 4) Zbk)
noncomputable def Zmc:FS:=
  (Xp (Yg 2 (fC (.dct [] [])))
    (Xp (Zlt (Zcv (fV 1)) (Xo 3) Zab)
    (Zao (fA Xgf (Zd (Zqp gEq 2 5 (fA Zac (Zd (fV 1) Zt))) Zt)))))
noncomputable def Jg (ds:List D):R D:=(run 5 Zmc ds).calm
noncomputable def Zun:FS:=
 (Zao (Zgw 3 1 (Zcv (fV 1)) (Xo 3) (cE (Xv Znd (Zd (fV 0) (Zd (fV 3) (Zd (f2 Zdy (fV 2) (f2 gIx (fV 3) (fC (.int 1)))) Zt))))) (f1 Xs (fV 3))))
noncomputable def Zbf (ds:List D):R D:=(run 3 Zun ds).calm
noncomputable def Zcs:FS:=
  (Xp (Yg 9 (f2 Jj (f2 Zcm (fC (.int 3)) (fV 8)) (fC (.int 6))))
    (Xp (Yg 10 (f1 Xs (f2 gIx (fA Ju (Zd (fC (.int 1)) (Zd (fC (.int 2)) (Zd (fC (.int 3)) (Zd (fC (.int 4)) (Zd (fC (.int 5)) (Zd (fC (.int 6)) (Zd (fC (.int 2)) (Zd (fC (.int 3)) (Zd (fC (.int 11)) (Zd (fC (.int 40)) (Zd (f2 gIx (fA Ju (Zd (fC (.int 150)) (Zd (fC (.int 200)) Zt))) (f2 Zln (fV 8) (fC (.int 2)))) Zt)))))))))))) (f2 gIx (fV 4) (fV 9)))))
    (Xp (Yg 11 (f2 Jj (fC (.int 1)) (f2 gIx (fV 4) (f2 Jj (fV 9) (fC (.int 1))))))
    (Xp (sIf (cE (f2 gEq (f2 gIx (fV 4) (fC (.int 3))) (fC (.int 1)))) (Yg 11 (f2 Jj (f2 Zcm (fC (.int 3)) (fV 10)) (f2 Zln (f2 gIx (fV 4) (f2 Jj (fV 9) (fC (.int 1)))) (fC (.int 4))))) sNx)
    (Xp (sIf (cE (f2 gEq (f2 gIx (fV 4) (fC (.int 3))) (fC (.int 2)))) (Yg 11 (f2 Jj (fC (.int 1)) (f2 Zln (f2 gIx (fV 4) (f2 Jj (fV 9) (fC (.int 1)))) (fC (.int 3))))) sNx)
    (Xp (sIf (cE (f2 gEq (f2 gIx (fV 4) (fC (.int 3))) (fC (.int 3)))) (Yg 11 (f1 Xs (fV 10))) sNx)
    (Xp (Yg 12 (fA Xom (Zd (f2 Zcm (f2 gIx (fA Ju (Zd (fC (.int 0)) (Zd (fC (.int 0)) (Zd (fC (.int 1)) (Zd (fC (.int 2)) (Zd (fC (.int 3)) (Zd (fC (.int 12)) Zt))))))) (f2 gIx (fV 4) (f2 Jj (fV 9) (fC (.int 2))))) (fV 5)) (Zd (f2 Zdy (f2 Zmw (fC (.int 10)) (fC (.int 18))) (fC (.int 1))) Zt))))
    (Xp (Yg 13 (f1 Xs (f2 gIx (fV 3) (f2 Zln (f2 Jj (f2 gIx (fV 4) (fC (.int 4))) (f2 Zcm (f2 Jj (f2 Zcm (fC (.int 2)) (f2 gIx (fV 4) (fC (.int 5)))) (fC (.int 1))) (fV 8))) (fC (.int 16))))))
    (Zmh 7 (fA Zjb (Zd (f1 Xs (fV 13)) (Zd (f1 Xs (fV 10)) (Zd (fA Xom (Zd (f2 Zcm (fV 11) (fV 6)) (Zd (f2 Zmw (fC (.int 10)) (fC (.int 18))) Zt))) (Zd (f1 Xs (fV 12)) Zt))))))))))))))
noncomputable def Zqg:FS:=
  (Xp (Yg 3 (fA Ju (Zd (fC (.str ("a":Str))) (Zd (fC (.str ("ab":Str))) (Zd (fC (.str ("abc":Str))) (Zd (fC (.str ("b":Str))) (Zd (fC (.str ("ba":Str))) (Zd (fC (.str ("z":Str))) (Zd (fC (.str ("zzzzzzzz":Str))) (Zd (fC (.str ("roll":Str))) (Zd (fC (.str ("cut":Str))) (Zd (fC (.str ("by":Str))) Zt))))))))))))
    (Xp (Yg 3 (f2 Jj (fV 3) (fA Ju (Zd (fC (.str ("aab":Str))) (Zd (fC (.str ("zz":Str))) (Zd (fC (.str ("kind":Str))) (Zd (fC (.str ("qsvw":Str))) (Zd (fC (.str ("fghjmp":Str))) (Zd (fC (.str ("x":Str))) Zt)))))))))
    (Xp (Yg 4 (Xv Yt (Zd (fV 0) (Zd (fV 1) (Zd (f2 Jj (fA Ju (Zd (f2 Jj (fV 2) (fC (.int 1))) (Zd (fC (.int 4)) (Zd (fC (.int 4)) (Zd (fC (.int 4)) (Zd (fC (.int 16)) (Zd (fC (.int 4)) Zt))))))) (f2 Zcm (fA Ju (Zd (fC (.int 11)) (Zd (fC (.int 40)) (Zd (fC (.int 6)) Zt)))) (fV 2))) Zt)))))
    (Xp (Yg 5 (f1 Xs (f2 gIx (fA Ju (Zd (fC (.int 1)) (Zd (fC (.int 1)) (Zd (fC (.int 7)) (Zd (f2 Zmw (fC (.int 10)) (fC (.int 17))) Zt))))) (f2 gIx (fV 4) (fC (.int 1))))))
    (Xp (Yg 6 (f1 Xs (f2 gIx (fA Ju (Zd (fC (.int 1)) (Zd (fC (.int 1)) (Zd (f2 Zmw (fC (.int 10)) (fC (.int 6))) (Zd (f2 Zcm (fC (.int 25)) (f2 Zmw (fC (.int 10)) (fC (.int 15)))) Zt))))) (f2 gIx (fV 4) (fC (.int 2))))))
    (Xp (Yg 7 (fA Ju Zt))
    (Xp (Zlt (Zjc (Zd (f2 gIx (fV 4) (fC (.int 0))) Zt)) (Xo 8) Zcs)
    (Zao (fV 7)))))))))
noncomputable def Zbh (ds:List D):R D:=(run 14 Zqg ds).calm
noncomputable def Zsv:FS:=
 (Zao (f1 Xs (f2 gIx (fA Ju (Zd (fC (.int 1)) (Zd (fC (.int 1)) (Zd (fC (.int 7)) (Zd (f2 Zmw (fC (.int 10)) (fC (.int 17))) Zt))))) (f2 gIx (Xv Yt (Zd (fV 0) (Zd (fV 1) (Zd (fA Ju (Zd (f2 Jj (fV 2) (fC (.int 1))) (Zd (fC (.int 4)) Zt))) Zt)))) (fC (.int 1))))))
noncomputable def Zcf (ds:List D):R D:=(run 3 Zsv ds).calm
noncomputable def Zgm:FS:=
  (Xp (Yg 8 (f2 Jj (f2 Zcm (fC (.int 2)) (fV 7)) (fC (.int 3))))
    (Xp (Yg 9 (fC (.int 0)))
    (Xp (sIf (cE (f2 gLt (f2 gIx (fV 4) (fV 8)) (f2 gIx (fA Ju (Zd (fC (.int 0)) (Zd (fC (.int 1)) (Zd (fC (.int 3)) (Zd (fC (.int 6)) Zt))))) (f2 gIx (fV 4) (fC (.int 1)))))) (Yg 9 (f1 Xs (f2 gIx (fA Ju (Zd (fV 3) (Zd (fV 3) (Zd (f2 Zcm (fC (.int 2)) (fV 3)) (Zd (f2 Zcm (fC (.int 3)) (fV 3)) (Zd (fV 5) Zt)))))) (f2 gIx (fV 4) (f2 Jj (fV 8) (fC (.int 1))))))) sNx)
    (Zmh 6 (f1 Xs (fV 9))))))
noncomputable def Zsu:FS:=
  (Xp (Yg 4 (Xv Yt (Zd (fV 0) (Zd (fV 1) (Zd (f2 Jj (fA Ju (Zd (f2 Jj (fV 2) (fC (.int 1))) (Zd (fC (.int 4)) (Zd (fC (.int 3)) Zt)))) (f2 Zcm (fA Ju (Zd (fC (.int 8)) (Zd (fC (.int 5)) Zt))) (fV 2))) Zt)))))
    (Xp (Yg 5 (f2 Zcm (fC (.int 9)) (fV 3)))
    (Xp (sIf (cE (f2 gEq (f2 gIx (fV 4) (fC (.int 2))) (fC (.int 0)))) (Yg 5 (f2 Zmw (fC (.int 10)) (fC (.int 18)))) sNx)
    (Xp (Yg 6 (fA Ju Zt))
    (Xp (Zlt (Zjc (Zd (f2 gIx (fV 4) (fC (.int 0))) Zt)) (Xo 7) Zgm)
    (Zao (fV 6)))))))
noncomputable def Zca (ds:List D):R D:=(run 10 Zsu ds).calm
noncomputable def Zep:FS:=
  (Xp (Yg 8 (Xcn (f2 gGt (f2 Jj (fV 6) (f2 gIx (fV 7) (fC (.int 1)))) (fV 4)) (f2 gLe (f2 Zdy (f2 gIx (fV 2) (fV 4)) (f2 gIx (fV 2) (fV 6))) (f2 gIx (fV 7) (fC (.int 3))))))
    (sIf (Xid (cE (fV 8)) (Xid (cE (f2 gGt (f2 Jj (f2 gIx (fV 3) (fV 6)) (f2 gIx (fV 7) (fC (.int 2)))) (f2 gIx (fV 3) (fV 4)))) (cE (f2 Zkz (fV 6) (fV 5))))) (Zmh 5 (f1 Xs (fV 6))) sNx))
noncomputable def Zem:FS:=
 (Zlt (Zcv (fV 1)) (Xo 7) Zep)
noncomputable def Znm:FS:=
  (Xp (Yg 2 (Xv Yu (Zd (fV 0) Zt)))
    (Xp (Yg 3 (Xv Xg (Zd (fV 0) (Zd (fV 1) Zt))))
    (Xp (Yg 4 (fA Zac (Zd (fV 0) Zt)))
    (Xp (Yg 5 (fA Ju Zt))
    (Xp (Zlt (Zjc (Zd (fV 4) Zt)) (Xo 6) Zem)
    (Zao (f2 Jj (fV 5) (fA Ju (Zd (fV 4) Zt)))))))))
noncomputable def Zas (ds:List D):R D:=(run 9 Znm ds).calm
noncomputable def Zgt:FS:=
  (sIf (cE (f2 gEq (f2 gIx (fV 3) (fV 5)) (f2 gIx (fV 3) (f2 Zdy (fV 5) (fC (.int 1)))))) (Zmh 4 (fA Zjb (Zd (f2 Zdy (fV 5) (fC (.int 1))) (Zd (fC (.str ("":Str))) Zt)))) (Xp (Yg 6 (Zgw 7 1 (Zcv (fV 1)) (Xo 7) (cE (Xv Jl (Zd (fV 2) (Zd (fV 7) (Zd (f2 Zdy (fV 5) (f2 gIx (fV 7) (fC (.int 1)))) Zt))))) (f1 Xs (fV 7))))
    (Xp (Yg 6 (Zgw 7 1 (Zcv (fV 6)) (Xo 7) (cE (f2 gEq (f2 Jj (f2 gIx (fV 3) (f2 Zdy (fV 5) (f2 gIx (fV 7) (fC (.int 1))))) (f2 gIx (fV 7) (fC (.int 2)))) (f2 gIx (fV 3) (fV 5)))) (f1 Xs (fV 7))))
    (Zmh 4 (fA Zjb (Zd (f2 Zdy (fV 5) (f2 gIx (f2 gIx (fV 6) (fC (.int 0))) (fC (.int 1)))) (Zd (f1 Xs (f2 gIx (f2 gIx (fV 6) (fC (.int 0))) (fC (.int 0)))) Zt)))))))
noncomputable def Zrv:FS:=
  (Xp (Yg 2 (Xv Yu (Zd (fV 0) Zt)))
    (Xp (Yg 3 (Xv Xg (Zd (fV 0) (Zd (fV 1) Zt))))
    (Xp (Yg 4 (fA Ju (Zd (fA Zjb (Zd (fC (.int 0)) (Zd (fC (.str ("":Str))) Zt))) Zt)))
    (Xp (Zlt (Zsr (Zd (fC (.int 1)) (Zd (fA Zac (Zd (fV 2) Zt)) Zt))) (Xo 5) Zgt)
    (Zao (fV 4))))))
noncomputable def Zcg (ds:List D):R D:=(run 7 Zrv ds).calm
noncomputable def Zly:FS:=
  (Xp (sIf (cE (f2 gEq (fV 1) (fA Zac (Zd (f1 (Zdd "Feed" ("weights":Str)) (fV 0)) Zt)))) (Zao (fC (.bl true))) sNx)
    (Xp (sIf (cE (f1 (Zdd "Feed" ("shut":Str)) (fV 0))) (Zao (fC (.bl false))) sNx)
    (Xp (Yg 2 (Zgw 3 1 (Zcv (f1 (Zdd "Feed" ("kinds":Str)) (fV 0))) (Xo 3) (cE (Xv Jn (Zd (f1 (Zdd "Feed" ("weights":Str)) (fV 0)) (Zd (fV 3) (Zd (fV 1) Zt))))) (f1 Xs (fV 3))))
    (Zao (fA Xpp (Zd (Zgw 3 1 (Zcv (fV 2)) (Xo 3) Xcm (f2 gGt (f2 Jj (f2 gIx (f1 (Zdd "Feed" ("tops":Str)) (fV 0)) (fV 1)) (f2 gIx (fV 3) (fC (.int 2)))) (Jc "Feed" ("worth":Str) Ya (fV 0) Zt))) Zt))))))
noncomputable def Ji (ds:List D):R D:=(run 3 Zly ds).calm
noncomputable def Zwc:FS:=
  (Xp (Yg 3 (fA Zac (Zd (fV 2) Zt)))
    (Xp (Yg 4 (Zgw 5 1 (Zcv (Xv Zbf (Zd (fV 0) (Zd (fV 1) (Zd (fV 3) Zt))))) (Xo 5) Xcm (f2 Jj (f2 gIx (fV 2) (f2 Zdy (fV 3) (f2 gIx (fV 5) (fC (.int 1))))) (f2 gIx (fV 5) (fC (.int 2))))))
    (Zao (fA Xgf (Zd (f2 Jj (fA Ju (Zd (f2 gIx (fV 2) (f1 Zss (fC (.int 1)))) Zt)) (fV 4)) Zt)))))
noncomputable def Zaz (ds:List D):R D:=(run 5 Zwc ds).calm
noncomputable def Zgn:FS:=
 (sIf (cE (f2 gEq (f2 Jj (f2 gIx (fV 2) (f2 Zdy (fV 3) (f2 gIx (fV 4) (fC (.int 1))))) (f2 gIx (fV 4) (fC (.int 2)))) (f2 gIx (fV 2) (fV 3)))) (Zao (f1 Xs (fV 4))) sNx)
noncomputable def Zse:FS:=
  (Xp (sIf (cE (f2 gEq (f2 gIx (fV 2) (fV 3)) (f2 gIx (fV 2) (f2 Zdy (fV 3) (fC (.int 1)))))) (Zao (fC .non)) sNx)
    (Xp (Zlt (Zcv (Xv Zbf (Zd (fV 0) (Zd (fV 1) (Zd (fV 3) Zt))))) (Xo 4) Zgn)
    (Zao (fC .non))))
noncomputable def Yx (ds:List D):R D:=(run 5 Zse ds).calm
noncomputable def Zpz:FS:=
  (Xp (Yg 4 (Xv Zcf (Zd (fV 0) (Zd (fV 1) (Zd (fV 3) Zt)))))
    (Zao (fA Zjb (Zd (Xv Zca (Zd (fV 0) (Zd (f2 Jj (fV 1) (fC (.int 1))) (Zd (fV 2) (Zd (fV 4) Zt))))) (Zd (Xv Zbh (Zd (fV 0) (Zd (fV 1) (Zd (fV 3) Zt)))) Zt)))))
noncomputable def Zam (ds:List D):R D:=(run 5 Zpz ds).calm
noncomputable def Zgi:FS:=
 (Zao (Zgw 1 1 (Zjc (Zd (fA Zac (Zd (f1 (Zdd "Feed" ("tops":Str)) (fV 0)) Zt)) Zt)) (Xo 1) (cE (Jc "Feed" ("is_open":Str) Ji (fV 0) (Zd (fV 1) Zt))) (f1 Xs (fV 1))))
noncomputable def Xn (ds:List D):R D:=(run 1 Zgi ds).calm
noncomputable def Zky:FS:=
 (Zmh 2 (Xv Zaz (Zd (fV 0) (Zd (fV 1) (Zd (fV 2) Zt)))))
noncomputable def Zql:FS:=
  (Xp (Yg 2 (fA Ju (Zd (fC (.int 0)) Zt)))
    (Xp (Zir 100000 (cE (f2 gLe (fA Zac (Zd (fV 2) Zt)) (fA Zac (Zd (fV 0) Zt)))) Zky)
    (Zao (fV 2))))
noncomputable def Zda (ds:List D):R D:=(run 3 Zql ds).calm
noncomputable def Zdu:FS:=
  (Xp (Yg 5 (Xv Yx (Zd (fV 0) (Zd (fV 1) (Zd (fV 2) (Zd (fV 3) Zt))))))
    (sIf (cE (f2 gIs (fV 5) (fC .non))) (Xiq 3 Zdy (fC (.int 1))) (Xp (Xiq 3 Zdy (f2 gIx (fV 5) (fC (.int 1))))
    (Zmh 4 (fA Zjb (Zd (f1 Xs (fV 3)) (Zd (f1 Xs (f2 gIx (fV 5) (fC (.int 0)))) Zt)))))))
noncomputable def Zlp:FS:=
  (Xp (Yg 4 (fA Ju Zt))
    (Xp (Zir 100000 (cE (f2 gGt (fV 3) (fC (.int 0)))) Zdu)
    (Zao (f1 Zyy (fV 4)))))
noncomputable def Yv (ds:List D):R D:=(run 6 Zlp ds).calm
noncomputable def Zqj:FS:=
  (Xp (Yg 4 (Xv Yx (Zd (fV 0) (Zd (fV 1) (Zd (fV 2) (Zd (fV 3) Zt))))))
    (Zao (fIf (cE (f2 gIs (fV 4) (fC .non))) (f2 Zdy (fV 3) (fC (.int 1))) (f2 Zdy (fV 3) (f2 gIx (fV 4) (fC (.int 1)))))))
noncomputable def Zal (ds:List D):R D:=(run 5 Zqj ds).calm
noncomputable def Xtv:FS:=
  (Xp (Yg 2 (Xv Zda (Zd (fV 0) (Zd (fV 1) Zt))))
    (Zao (fA Zjb (Zd (f1 Xs (f2 gIx (fV 2) (f1 Zss (fC (.int 1))))) (Zd (Xv Yv (Zd (fV 0) (Zd (fV 1) (Zd (fV 2) (Zd (fA Zac (Zd (fV 0) Zt)) Zt))))) Zt)))))
noncomputable def Zpy (ds:List D):R D:=(run 3 Xtv ds).calm
noncomputable def Zoj:FS:=
 (Zao (f2 Jj (fA Ju (Zd (fC (.int 0)) Zt)) (Zgw 3 1 (Zsr (Zd (fC (.int 1)) (Zd (fA Zac (Zd (fV 2) Zt)) Zt))) (Xo 3) Xcm (Xv Zal (Zd (fV 0) (Zd (fV 1) (Zd (fV 2) (Zd (fV 3) Zt))))))))
noncomputable def Zau (ds:List D):R D:=(run 3 Zoj ds).calm
noncomputable def Zcz:FS:=
 (Zao (Xv Yv (Zd (f1 (Zdd "Feed" ("weights":Str)) (fV 0)) (Zd (f1 (Zdd "Feed" ("kinds":Str)) (fV 0)) (Zd (f1 (Zdd "Feed" ("tops":Str)) (fV 0)) (Zd (fV 1) Zt))))))
noncomputable def Xw (ds:List D):R D:=(run 2 Zcz ds).calm
noncomputable def Zfj:FS:=
 (Zao (Jc "Feed" ("told_up_to":Str) Xw (fV 0) (Zd (fA Zac (Zd (f1 (Zdd "Feed" ("weights":Str)) (fV 0)) Zt)) Zt)))
noncomputable def Yf (ds:List D):R D:=(run 1 Zfj ds).calm
noncomputable def Zds:FS:=
 (Yg 2 (Xv Zar (Zd (fV 1) (Zd (fV 2) (Zd (fV 3) Zt)))))
noncomputable def Zma:FS:=
  (Xp (Yg 1 (Xv Zau (Zd (f1 (Zdd "Feed" ("weights":Str)) (fV 0)) (Zd (f1 (Zdd "Feed" ("kinds":Str)) (fV 0)) (Zd (f1 (Zdd "Feed" ("tops":Str)) (fV 0)) Zt)))))
    (Xp (Yg 2 (fA Zac (Zd (f1 (Zdd "Feed" ("weights":Str)) (fV 0)) Zt)))
    (Xp (Zlt (Zcv (Jc "Feed" ("open_starts":Str) Xn (fV 0) Zt)) (Xo 3) Zds)
    (Zao (fV 2)))))
noncomputable def Yk (ds:List D):R D:=(run 4 Zma ds).calm
noncomputable def Zls:FS:=
 (Zao (fA Zjb (Zd (Jc "Feed" ("worth":Str) Ya (fV 0) Zt) (Zd (f1 Xs (f2 gIx (Xv Zpy (Zd (f2 Jj (f1 (Zdd "Feed" ("weights":Str)) (fV 0)) (f2 Zcm (fA Ju (Zd (fC (.int 0)) Zt)) (fV 1))) (Zd (f1 (Zdd "Feed" ("kinds":Str)) (fV 0)) Zt))) (fC (.int 0)))) Zt))))
noncomputable def Yj (ds:List D):R D:=(run 2 Zls ds).calm
noncomputable def Zkq:FS:=
 (Zao (Jc "Feed" ("told_up_to":Str) Xw (fV 0) (Zd (Jc "Feed" ("settled":Str) Yk (fV 0) Zt) Zt)))
noncomputable def Yd (ds:List D):R D:=(run 1 Zkq ds).calm
noncomputable def Ztm:FM:=
  (Zbj (Zst (Jc "Feed" ("refuse_closed":Str) Xm (fV 0) Zt))
    (Zbj (sIf (cE (f2 gGe (fA Zac (Zd (f1 (Zdd "Feed" ("weights":Str)) (fV 0)) Zt)) (fC (.int 200)))) Ziw sNx)
    (Zbj (Yg 2 (fA Zac (Zd (Jc "Feed" ("sure":Str) Yd (fV 0) Zt) Zt)))
    (Zbj (Zfu 0 "Feed" ("weights":Str) (f1 Xs (fV 1)))
    (Zbj (Zfu 0 "Feed" ("tops":Str) (Xv Zaz (Zd (f1 (Zdd "Feed" ("weights":Str)) (fV 0)) (Zd (f1 (Zdd "Feed" ("kinds":Str)) (fV 0)) (Zd (f1 (Zdd "Feed" ("tops":Str)) (fV 0)) Zt)))))
    (Zsp (fSl gSl (Jc "Feed" ("sure":Str) Yd (fV 0) Zt) (Zhu (fV 2)) Zmb)))))))
noncomputable def Zbb (ds:List D):R (D×D):=(Xiz 3 Ztm ds).calm
noncomputable def Ziv:FM:=
  (Zbj (Zst (Jc "Feed" ("refuse_closed":Str) Xm (fV 0) Zt))
    (Zbj (Yg 1 (fA Zac (Zd (Jc "Feed" ("sure":Str) Yd (fV 0) Zt) Zt)))
    (Zbj (Zxs 0 "Feed" ("shut":Str) (fC (.bl true)))
    (Zsp (fSl gSl (Jc "Feed" ("sure":Str) Yd (fV 0) Zt) (Zhu (fV 1)) Zmb)))))
noncomputable def Zan (ds:List D):R (D×D):=(Xiz 2 Ziv ds).calm
@[simp] theorem ev_fC (d:D)(ρ:Env):fC d ρ=.ok d:=(rfl)
@[simp] theorem ev_f1 (g:D→Option D)(a:FE)(ρ:Env):f1 g a ρ=(a ρ).bind fun x=>oR (g x):=(rfl)
@[simp] theorem ev_f2 (g:D→D→Option D)(a b:FE)(ρ:Env):f2 g a b ρ=(a ρ).bind fun x=>(b ρ).bind fun y=>oR (g x y):=(rfl)
@[simp] theorem Xmt (ρ:Env):Zt ρ=.ok []:=(rfl)
@[simp] theorem Xgq (a:FE)(r:FA)(ρ:Env):Zd a r ρ=(a ρ).bind fun x=>(r ρ).bind fun xs=>.ok (x::xs):=(rfl)
@[simp] theorem ev_fA (g:List D→Option D)(a:FA)(ρ:Env):fA g a ρ=(a ρ).bind fun xs=>oR (g xs):=(rfl)
@[simp] theorem Xfw (F:List D→R D)(a:FA)(ρ:Env):Xv F a ρ=(a ρ).bind F:=(rfl)
@[simp] theorem ev_fV0 (d:D)(ρ:Env):fV 0 (some d::ρ)=.ok d:=(rfl)
@[simp] theorem ev_fVs (i:Nat)(o:Option D)(ρ:Env):fV (i+1) (o::ρ)=fV i ρ:=by simp [fV]
@[simp] theorem ev_cE (a:FE)(ρ:Env):cE a ρ=(a ρ).bind fun d=>match d with | .bl b=>.ok b | _=>.bad:=(rfl)
@[simp] theorem Xko (a:FT)(ρ:Env):Xju a ρ=(a ρ).bind fun b=>.ok (!b):=(rfl)
@[simp] theorem Xao (a b:FT)(ρ:Env):Xid a b ρ=(a ρ).bind fun x=>if x then b ρ else .ok false:=(rfl)
@[simp] theorem Xhz (a b:FT)(ρ:Env):cOr a b ρ=(a ρ).bind fun x=>if x then .ok true else b ρ:=(rfl)
@[simp] theorem ev_cYes (ρ:Env):Xcm ρ=.ok true:=(rfl)
@[simp] theorem Xax (a b:FE)(ρ:Env):Xcn a b ρ=(a ρ).bind fun x=>match x with | .bl true=>b ρ | .bl false=>.ok (.bl false) | _=>.bad:=(rfl)
@[simp] theorem ev_fOr (a b:FE)(ρ:Env):fOr a b ρ=(a ρ).bind fun x=>match x with | .bl true=>.ok (.bl true) | .bl false=>b ρ | _=>.bad:=(rfl)
@[simp] theorem Xio (c:FT)(a b:FE)(ρ:Env):fIf c a b ρ=(c ρ).bind fun x=>if x then a ρ else b ρ:=(rfl)
@[simp] theorem Xua (g g':D→D→Option D)(a b c:FE)(ρ:Env):Xsb g g' a b c ρ=(a ρ).bind fun x=>(b ρ).bind fun y=>(oR (g x y)).bind fun z=>match z with | .bl true=>(c ρ).bind fun w=>oR (g' y w) | .bl false=>.ok (.bl false) | _=>.bad:=(rfl)
@[simp] theorem Xsm (g:D→Option Int→Option Int→Option D)(a:FE)(l h:FO)(ρ:Env):fSl g a l h ρ=(a ρ).bind fun x=>(l ρ).bind fun lo=>(h ρ).bind fun hi=>oR (g x lo hi):=(rfl)
@[simp] theorem ev_oNone (ρ:Env):Zmb ρ=.ok none:=(rfl)
@[simp] theorem Xct (a:FE)(ρ:Env):Zhu a ρ=(a ρ).bind fun d=>match d with | .int i=>.ok (some i) | _=>.bad:=(rfl)
@[simp] theorem Xgg (a:FE)(ρ:Env):Zcv a ρ=(a ρ).bind fun d=>match d with | .lst xs=>if xs.length≤lim then .ok xs else .bad | .scr ns=>if ns.length≤lim then .ok (ns.map D.int) else .bad | _=>.bad:=(rfl)
@[simp] theorem ev_jTup (a:FE)(ρ:Env):jTup a ρ=(a ρ).bind fun d=>match d with | .tup xs=>if xs.length≤lim then .ok xs else .bad | _=>.bad:=(rfl)
@[simp] theorem Xcq (a:FA)(ρ:Env):Zjc a ρ=(a ρ).bind fun ds=>match ds with | [.int j]=>if -1000000000≤j∧j≤1000000 then .ok (Zdq 0 j.toNat) else .bad | _=>.bad:=(rfl)
noncomputable def Zgk (ds:List D):R (List D):=match ds with
 | [.int i,.int j]=>if -1000000000≤i∧i≤1000000000∧-1000000000≤j∧j≤1000000000∧(j - i).toNat≤lim then .ok (Zdq i (j - i).toNat) else .bad
 | _=>.bad
@[simp] theorem Xfo (a:FA)(ρ:Env):Zsr a ρ=(a ρ).bind Zgk:=(rfl)
theorem Zzw {i j:Int}{n:Nat}(hn:n=(j - i).toNat)(h1:-1000000≤i)(h2:i≤1000000)(h3:-1000000≤j)(h4:j≤1000000)(h5:n≤1000000):Zgk [.int i,.int j]=.ok (Zdq i n):=by
 subst hn
 unfold Zgk
 simp only []
 rw [if_pos ⟨by omega,by omega,by omega,by omega,h5⟩]
@[simp] theorem Xdh (n k:Nat)(it:FI)(b:FB)(c:FT)(e:FE)(ρ:Env):Zgw n k it b c e ρ=if ρ.length=n then (it ρ).bind fun xs=>(Zcx k b c e ρ xs).calm.bind fun ys=>.ok (.lst ys) else .bad:=(rfl)
@[simp] theorem ev_sNx (ρ:Env):sNx ρ=.ok (.nx ρ):=(rfl)
@[simp] theorem Xrl (ρ:Env):Ziw ρ=.bad:=(rfl)
@[simp] theorem Xca (a b:FS)(ρ:Env):Xp a b ρ=(a ρ).bind fun fl=>match fl with | .nx ρ'=>b ρ' | fl=>.ok fl:=(rfl)
@[simp] theorem Xoc (i:Nat)(e:FE)(ρ:Env):Yg i e ρ=(e ρ).bind fun d=>.ok (.nx (ρ.set i (some d))):=(rfl)
@[simp] theorem Xnb (e:FE)(ρ:Env):Zao e ρ=(e ρ).bind fun d=>.ok (.ret d):=(rfl)
@[simp] theorem Xiu (c:FT)(a b:FS)(ρ:Env):sIf c a b ρ=(c ρ).bind fun x=>if x then a ρ else b ρ:=(rfl)
@[simp] theorem Xlx (i:Nat)(e:FE)(ρ:Env):Zmh i e ρ=(fV i ρ).bind fun v=>match v with | .lst xs=>(e ρ).bind fun d=>if xs.length<lim then .ok (.nx (ρ.set i (some (.lst (xs++[d]))))) else .bad | _=>.bad:=by
 unfold Zmh fV
 split
 ·rename_i xs e;simp [e]
 ·rename_i h
  split
  ·rename_i d e
   cases d<;>simp
   rename_i xs
   exact absurd e (h xs)
  ·rfl
@[simp] theorem Xox (c:String)(f:FA)(ρ:Env):Xpb c f ρ=(f ρ).bind fun _=>.err c none:=(rfl)
@[simp] theorem ev_sAug (i:Nat)(g:D→D→Option D)(e:FE)(ρ:Env):Xiq i g e ρ=(fV i ρ).bind fun x=>(e ρ).bind fun y=>(oR (g x y)).bind fun z=>.ok (.nx (ρ.set i (some z))):=by
 unfold Xiq fV
 split
 ·rename_i x e;simp
 ·rfl
@[simp] theorem Xks (it:FI)(b:FB)(s:FS)(ρ:Env):Zlt it b s ρ=(it ρ).bind fun xs=>Zdw b s xs ρ:=(rfl)
@[simp] theorem Xqb (n:Nat)(c:FT)(s:FS)(ρ:Env):Zir n c s ρ=Zbr c s n ρ:=(rfl)
@[simp] theorem ev_sAsg (e:FE)(b:FB)(ρ:Env):Xix e b ρ=(e ρ).bind fun d=>(b d ρ).calm.bind fun ρ'=>.ok (.nx ρ'):=(rfl)
@[simp] theorem ev_bName (i:Nat)(d:D)(ρ:Env):Xo i d ρ=.ok (ρ.set i (some d)):=(rfl)
@[simp] theorem ev_bNil (ρ:Env):Xit [] ρ=.ok ρ:=(rfl)
@[simp] theorem ev_bCons (b:FB)(r:List D→Env→R Env)(d:D)(ds:List D)(ρ:Env):Ziz b r (d::ds) ρ=(b d ρ).bind fun ρ'=>r ds ρ':=(rfl)
@[simp] theorem ev_bTup (r:List D→Env→R Env)(ds:List D)(ρ:Env):Xll r (.tup ds) ρ=r ds ρ:=(rfl)
@[simp] theorem ev_run (N:Nat)(b:FS)(ds:List D):run N b ds=(b (ds.map some++List.replicate (N - ds.length) none)).bind fun fl=>match fl with | .nx _=>.ok .non | .ret d=>.ok d | _=>.bad:=(rfl)
@[simp] theorem forD_nil (b:FB)(s:FS)(ρ:Env):Zdw b s [] ρ=.ok (.nx ρ):=(rfl)
theorem Zqh (b:FB)(s:FS)(x:D)(xs:List D)(ρ:Env):Zdw b s (x::xs) ρ=(b x ρ).calm.bind fun ρ1=>(s ρ1).bind fun fl=>match fl with | .nx ρ2=>Zdw b s xs ρ2 | .cnt ρ2=>Zdw b s xs ρ2 | .brk ρ2=>.ok (.nx ρ2) | .ret d=>.ok (.ret d):=rfl
@[simp] theorem add_ii (i j:Int):Jj (.int i) (.int j)=some (.int (i+j)):=rfl
@[simp] theorem addI_ii (i j:Int):gAddI (.int i) (.int j)=some (.int (i+j)):=rfl
@[simp] theorem sub_ii (i j:Int):Zdy (.int i) (.int j)=some (.int (i - j)):=rfl
@[simp] theorem lt_ii (i j:Int):gLt (.int i) (.int j)=some (.bl (decide (i<j))):=rfl
@[simp] theorem le_ii (i j:Int):gLe (.int i) (.int j)=some (.bl (decide (i≤j))):=rfl
@[simp] theorem gt_ii (i j:Int):gGt (.int i) (.int j)=some (.bl (decide (j<i))):=rfl
@[simp] theorem ge_ii (i j:Int):gGe (.int i) (.int j)=some (.bl (decide (j≤i))):=rfl
@[simp] theorem neg_i (i:Int):Zss (.int i)=some (.int (-i)):=rfl
@[simp] theorem not_b (b:Bool):gNot (.bl b)=some (.bl (!b)):=rfl
@[simp] theorem Zei (i j:Int):gEq (.int i) (.int j)=some (.bl (decide (i=j))):=show some (D.bl (i==j))=_ from congrArg (fun b=>some (D.bl b)) (by by_cases h:i=j<;>simp [h])
@[simp] theorem ne_ii (i j:Int):gNe (.int i) (.int j)=some (.bl (!decide (i=j))):=show some (D.bl (!(i==j)))=_ from congrArg (fun b=>some (D.bl (!b))) (by by_cases h:i=j<;>simp [h])
@[simp] theorem eq_bb (i j:Bool):gEq (.bl i) (.bl j)=some (.bl (i==j)):=rfl
@[simp] theorem ne_bb (i j:Bool):gNe (.bl i) (.bl j)=some (.bl (!(i==j))):=rfl
@[simp] theorem is_n (x:D):gIs x .non=some (.bl (Zlv x)):=rfl
@[simp] theorem isNot_n (x:D):Xir x .non=some (.bl (!Zlv x)):=rfl
@[simp] theorem is_b (b c:Bool):gIs (.bl b) (.bl c)=some (.bl (b==c)):=rfl
@[simp] theorem isNot_b (b c:Bool):Xir (.bl b) (.bl c)=some (.bl (!(b==c))):=rfl
@[simp] theorem Xpr:Zlv .non=true:=rfl
@[simp] theorem isNon_i (i:Int):Zlv (.int i)=false:=rfl
@[simp] theorem isNon_b (i:Bool):Zlv (.bl i)=false:=rfl
@[simp] theorem isNon_l (i:List D):Zlv (.lst i)=false:=rfl
@[simp] theorem isNon_t (i:List D):Zlv (.tup i)=false:=rfl
theorem Xip {i j:Int}(h:(-(2 ^ 64)<i∧i<2 ^ 64)∨(-(2 ^ 64)<j∧j<2 ^ 64)):Zcm (.int i) (.int j)=some (.int (i*j)):=by
 have:(short i||short j)=true:=by simp [short];exact h
 simp [Zcm,this]
theorem Zcw {i j:Int}(h:0<j):Zln (.int i) (.int j)=some (.int (i % j)):=by simp [Zln,h]
theorem div_ii {i j:Int}(h:0<j)(h2:j<2 ^ 200):Xoh (.int i) (.int j)=some (.int (i / j)):=by simp only [Xoh];rw [if_pos ⟨h,h2⟩]
theorem Zrd {i j:Int}(h:0≤j)(h2:j≤1000000)(h3:i.natAbs<2 ^ 64):Zmw (.int i) (.int j)=some (.int (i ^ j.toNat)):=by simp only [Zmw];rw [if_pos ⟨h,h2,h3⟩]
@[simp] theorem pow10_6:Zmw (.int 10) (.int 6)=some (.int 1000000):=by
 rw [Zrd (by omega) (by omega) (by decide)]
 rfl
@[simp] theorem Xha:Zmw (.int 10) (.int 15)=some (.int 1000000000000000):=by
 rw [Zrd (by omega) (by omega) (by decide)]
 rfl
@[simp] theorem Zvi:Zmw (.int 10) (.int 17)=some (.int 100000000000000000):=by
 rw [Zrd (by omega) (by omega) (by decide)]
 rfl
@[simp] theorem Zji:Zmw (.int 10) (.int 18)=some (.int 1000000000000000000):=by
 rw [Zrd (by omega) (by omega) (by decide)]
 rfl
@[simp] theorem flat_i (i:Int):flat (.int i)=true:=rfl
@[simp] theorem flat_b (i:Bool):flat (.bl i)=true:=rfl
@[simp] theorem flat_s (i:Str):flat (.str i)=true:=rfl
@[simp] theorem flat_n:flat .non=true:=rfl
@[simp] theorem flat_t (xs:List D):flat (.tup xs)=Xy xs:=rfl
@[simp] theorem flatA_n:Xy []=true:=rfl
@[simp] theorem flatA_c (x:D)(xs:List D):Xy (x::xs)=(flat x&&Xy xs):=rfl
theorem Zaa {α:Type}{f:α→D}(h:∀a,flat (f a)=true):∀xs:List α,Xy (xs.map f)=true
 | []=>rfl
 | x::xs=>by simp [h x,Zaa h xs]
@[simp] theorem Zhm (ns:List Int):Xy (ns.map D.int)=true:=Zaa (fun _=>rfl) ns
@[simp] theorem gFlat_i (i:Int):Xs (.int i)=some (.int i):=rfl
@[simp] theorem gFlat_b (i:Bool):Xs (.bl i)=some (.bl i):=rfl
@[simp] theorem gFlat_s (i:Str):Xs (.str i)=some (.str i):=rfl
@[simp] theorem gFlat_n:Xs .non=some .non:=rfl
@[simp] theorem ints_map (ns:List Int):intsOf (ns.map D.int)=some ns:=by
 induction ns with
 | nil=>rfl
 | cons n ns ih=>simp [intsOf,ih]
@[simp] theorem len_l (xs:List D):Zac [.lst xs]=some (.int xs.length):=(rfl)
@[simp] theorem len_t (xs:List D):Zac [.tup xs]=some (.int xs.length):=(rfl)
@[simp] theorem len_scr (xs:List Int):Zac [.scr xs]=some (.int xs.length):=(rfl)
@[simp] theorem sum_ints (ns:List Int):Xso [.lst (ns.map D.int)]=some (.int ns.sum):=by simp [Xso]
@[simp] theorem Xrk (i j:Int):Xgf [.int i,.int j]=some (.int (max i j)):=by
 simp only [Xgf]
 congr 2
 by_cases h:j > i
 ·rw [if_pos h];omega
 ·rw [if_neg h];omega
@[simp] theorem Xhp (i j:Int):Xom [.int i,.int j]=some (.int (min i j)):=by
 simp only [Xom]
 congr 2
 by_cases h:j<i
 ·rw [if_pos h];omega
 ·rw [if_neg h];omega
theorem Zux {ns:List Int}(h:ns≠[]):Xgf [.lst (ns.map D.int)]=some (.int (Zxr ns)):=by simp [Xgf,h]
@[simp] theorem isI_i (c:String)(i:Int):Xou c (.int i)=some (.bl (c=="int")):=rfl
@[simp] theorem isI_b (c:String)(i:Bool):Xou c (.bl i)=some (.bl (c=="bool"||c=="int")):=rfl
@[simp] theorem isI_l (c:String)(i:List D):Xou c (.lst i)=some (.bl (c=="list")):=rfl
@[simp] theorem isI_t (c:String)(i:List D):Xou c (.tup i)=some (.bl (c=="tuple")):=rfl
@[simp] theorem isI_s (c:String)(i:Str):Xou c (.str i)=some (.bl (c=="str")):=rfl
@[simp] theorem isI_n (c:String):Xou c .non=some (.bl false):=rfl
theorem Zsy {α:Type}{xs:List α}{i:Int}{k:Nat}{x:α}(e:i=(k:Int))(h:xs[k]?=some x):atD xs i=some x:=by
 subst e
 have hk:=(List.getElem?_eq_some_iff.mp h).1
 unfold atD ixD
 rw [if_pos (by omega),if_pos (by omega)]
 simpa using h
theorem Xda {α:Type}(xs:List α)(x:α):atD (xs++[x]) (-1)=some x:=by
 unfold atD ixD
 rw [if_neg (by omega),if_pos (by simp;omega)]
 simp only [Option.bind_some]
 have:(-1+(((xs++[x]).length:Nat):Int)).toNat=xs.length:=by simp;omega
 rw [this]
 simp
theorem ix_l {xs:List D}{i:Int}{k:Nat}{x:D}(e:i=(k:Int))(h:xs[k]?=some x):gIx (.lst xs) (.int i)=some x:=Zsy e h
theorem ix_t {xs:List D}{i:Int}{k:Nat}{x:D}(e:i=(k:Int))(h:xs[k]?=some x):gIx (.tup xs) (.int i)=some x:=Zsy e h
@[simp] theorem ixL_l (xs:List D)(y:D):gIxL (.lst xs) y=gIx (.lst xs) y:=(rfl)
@[simp] theorem listV_l (xs:List D):Xre [.lst xs]=some (.lst xs):=(rfl)
@[simp] theorem Xnx (xs:List D)(x:D):gIx (.lst (xs++[x])) (.int (-1))=some x:=Xda xs x
theorem Yz {ns:List Int}{i:Int}{k:Nat}(e:i=(k:Int))(h:k<ns.length):gIx (.lst (ns.map D.int)) (.int i)=some (.int (ns.getD k 0)):=ix_l e (by simp [h,List.getD])
theorem Xdq {ns:List Int}(h:ns≠[]):gIx (.lst (ns.map D.int)) (.int (-1))=some (.int (ns.getD (ns.length - 1) 0)):=by
 have e:=List.dropLast_concat_getLast h
 have e2:ns.getD (ns.length - 1) 0=ns.getLast h:=by
  have hl:ns.length - 1<ns.length:=by have:=List.length_pos_iff.mpr h;omega
  rw [List.getLast_eq_getElem]
  simp [List.getD,hl]
 rw [e2]
 conv=>lhs;rw [← e,map_append,List.map_singleton]
 exact Xnx _ _
theorem Xlj {α β:Type}(f:α→β)(xs:List α)(lo hi:Option Int):cut (xs.map f) lo hi=(cut xs lo hi).map f:=by
 unfold cut
 rw [length_map,map_take,map_drop]
theorem Xqf {α:Type}{xs:List α}{a b:Int}(h0:0≤a)(h1:a≤b)(h2:b≤xs.length):cut xs (some a) (some b)=(xs.drop a.toNat).take (b.toNat - a.toNat):=by
 unfold cut Xjb
 simp only []
 rw [if_neg (by omega),if_neg (by omega),min_eq_left (by omega),min_eq_left (by omega)]
theorem Xik {α:Type}{xs:List α}{b:Int}(h0:0≤b):cut xs none (some b)=xs.take b.toNat:=by
 unfold cut Xjb
 simp only []
 rw [if_neg (by omega),List.drop_zero,Nat.sub_zero]
 by_cases h:b.toNat≤xs.length
 ·rw [min_eq_left h]
 ·rw [Nat.min_eq_right (by omega),take_of_length_le (le_refl _),take_of_length_le (by omega)]
theorem Xcz {α:Type}{xs:List α}{a:Int}(h0:0≤a):cut xs (some a) none=xs.drop a.toNat:=by
 unfold cut Xjb
 simp only []
 rw [if_neg (by omega)]
 by_cases h:a.toNat≤xs.length
 ·rw [min_eq_left h,take_of_length_le (by simp)]
 ·rw [Nat.min_eq_right (by omega),List.drop_of_length_le (le_refl _),List.drop_of_length_le (by omega)]
  simp
@[simp] theorem sl_ints (ns:List Int)(lo hi:Option Int):gSl (.lst (ns.map D.int)) lo hi=some (.lst ((cut ns lo hi).map D.int)):=by
 simp [gSl,Xlj]
@[simp] theorem sl_scr (ns:List Int)(lo hi:Option Int):gSl (.scr ns) lo hi=some (.lst ((cut ns lo hi).map D.int)):=(rfl)
@[simp] theorem lst_lim (xs:List D)(h:xs.length≤lim):Ju xs=some (.lst xs):=by unfold Ju;rw [if_pos h]
@[simp] theorem gLst_0:Ju []=some (.lst []):=rfl
@[simp] theorem gLst_1 (a:D):Ju [a]=some (.lst [a]):=rfl
@[simp] theorem gLst_2 (a b:D):Ju [a,b]=some (.lst [a,b]):=rfl
@[simp] theorem gLst_3 (a b c:D):Ju [a,b,c]=some (.lst [a,b,c]):=rfl
@[simp] theorem gLst_4 (a0 a1 a2 a3:D):Ju [a0,a1,a2,a3]=some (.lst [a0,a1,a2,a3]):=rfl
@[simp] theorem gLst_5 (a0 a1 a2 a3 a4:D):Ju [a0,a1,a2,a3,a4]=some (.lst [a0,a1,a2,a3,a4]):=rfl
@[simp] theorem gLst_6 (a0 a1 a2 a3 a4 a5:D):Ju [a0,a1,a2,a3,a4,a5]=some (.lst [a0,a1,a2,a3,a4,a5]):=rfl
@[simp] theorem gLst_10 (a0 a1 a2 a3 a4 a5 a6 a7 a8 a9:D):Ju [a0,a1,a2,a3,a4,a5,a6,a7,a8,a9]=some (.lst [a0,a1,a2,a3,a4,a5,a6,a7,a8,a9]):=rfl
@[simp] theorem gLst_11 (a0 a1 a2 a3 a4 a5 a6 a7 a8 a9 a10:D):Ju [a0,a1,a2,a3,a4,a5,a6,a7,a8,a9,a10]=some (.lst [a0,a1,a2,a3,a4,a5,a6,a7,a8,a9,a10]):=rfl
@[simp] theorem gTup_2 (a b:D):Zjb [a,b]=some (.tup [a,b]):=rfl
@[simp] theorem gTup_3 (a b c:D):Zjb [a,b,c]=some (.tup [a,b,c]):=rfl
@[simp] theorem gTup_4 (a b c d:D):Zjb [a,b,c,d]=some (.tup [a,b,c,d]):=rfl
@[simp] theorem Ziq {α β:Type}(a:α)(f:α→R β):((R.ok a).calm).bind f=f a:=(rfl)
theorem Zdk {b:FB}{s:FS}{xs:List D}{P:Nat→Env→Prop}{Rr:R Fl→Prop}{ρ:Env}(h0:P 0 ρ)
  (hs:∀i x ρ,xs[i]?=some x→P i ρ→∃ρ1,b x ρ=.ok ρ1∧((∃ρ2,(s ρ1=.ok (.nx ρ2)∨s ρ1=.ok (.cnt ρ2))∧P (i+1) ρ2)∨(∃d,s ρ1=.ok (.ret d)∧Rr (.ok (.ret d)))∨∃ρ2,s ρ1=.ok (.brk ρ2)∧Rr (.ok (.nx ρ2))))
  (hd:∀ρ,P xs.length ρ→Rr (.ok (.nx ρ))):Rr (Zdw b s xs ρ):=by
 have key:∀n i ρ,n+i=xs.length→P i ρ→Rr (Zdw b s (xs.drop i) ρ):=by
  intro n
  induction n with
  | zero =>
   intro i ρ hn p
   rw [List.drop_of_length_le (by omega)]
   have e:i=xs.length:=by omega
   subst e
   exact hd ρ p
  | succ n ih =>
   intro i ρ hn p
   have hi:i<xs.length:=by omega
   rw [List.drop_eq_getElem_cons hi,Zqh]
   obtain ⟨ρ1,e1,h⟩:=hs i xs[i] ρ (getElem?_eq_getElem hi) p
   rw [e1,Ziq]
   rcases h with ⟨ρ2,e2 | e2,p2⟩ | ⟨d,e2,p2⟩ | ⟨ρ2,e2,p2⟩
   ·rw [e2];exact ih (i+1) ρ2 (by omega) p2
   ·rw [e2];exact ih (i+1) ρ2 (by omega) p2
   ·rw [e2];exact p2
   ·rw [e2];exact p2
 have:=key xs.length 0 ρ (by omega) h0
 simpa using this
theorem Xjq {b:FB}{s:FS}{xs:List D}{ρ:Env}(st:Nat→Env)(h0:st 0=ρ)(hs:∀i x,xs[i]?=some x→∃ρ1,b x (st i)=.ok ρ1∧s ρ1=.ok (.nx (st (i+1)))):Zdw b s xs ρ=.ok (.nx (st xs.length)):=by
 refine Zdk (P:=fun i ρ=>ρ=st i) (Rr:=fun r=>r=.ok (.nx (st xs.length))) h0.symm (fun i x ρ hx e=>?_) (fun ρ e=>by rw [e])
 subst e
 obtain ⟨ρ1,e1,e2⟩:=hs i x hx
 exact ⟨ρ1,e1,.inl ⟨_,.inl e2,rfl⟩⟩
theorem Xdg {lo:Int}{n i:Nat}(h:i<n):(Zdq lo n)[i]?=some (.int (lo+i)):=by simp [Zdq,h]
theorem Zju {lo:Int}{n i:Nat}{x:D}(h:(Zdq lo n)[i]?=some x):i<n∧x=.int (lo+i):=by
 have hi:=(List.getElem?_eq_some_iff.mp h).1
 have hn:i<n:=by simpa [Zdq] using hi
 rw [Xdg hn] at h
 exact ⟨hn,(Option.some.inj h).symm⟩
@[simp] theorem Zbd (lo:Int)(n:Nat):(Zdq lo n).length=n:=by simp [Zdq]
theorem Xob {k:Nat}{b:FB}{c:FT}{e:FE}{ρ:Env}{α:Type}{enc:α→D}{ρ1:α→Env}{p:α→Bool}{v:α→D}{xs:List α}(h:∀x∈xs,b (enc x) (ρ++List.replicate k none)=.ok (ρ1 x)∧c (ρ1 x)=.ok (p x)∧(p x=true→e (ρ1 x)=.ok (v x))):Zcx k b c e ρ (xs.map enc)=.ok ((xs.filter p).map v):=by
 induction xs with
 | nil=>rfl
 | cons x xs ih =>
  obtain ⟨h0,h1,h2⟩:=h x (.head _)
  have ih:=ih fun y hy=>h y (.tail _ hy)
  rw [map_cons]
  unfold Zcx
  rw [h0,Ziq,h1]
  cases hp:p x with
  | false=>simp [ih,hp]
  | true=>simp [ih,hp,h2 hp]
theorem Zxe {n:Nat}{c:FT}{e:FE}{ρ:Env}{α:Type}{enc:α→D}{p:α→Bool}{v:α→D}{xs:List α}(hn:ρ.length=n)(h:∀x∈xs,c (ρ++[some (enc x)])=.ok (p x)∧(p x=true→e (ρ++[some (enc x)])=.ok (v x))):Zcx 1 (Xo n) c e ρ (xs.map enc)=.ok ((xs.filter p).map v):=
  Xob (ρ1:=fun x=>ρ++[some (enc x)]) fun x hx=>⟨by
    show R.ok ((ρ++[none]).set n (some (enc x)))=_
    rw [← hn,List.set_append_right _ _ (le_refl _),sub_self]
    rfl,h x hx⟩
theorem Zzu {n:Nat}{e:FE}{ρ:Env}{α:Type}{enc:α→D}{v:α→D}{xs:List α}(hn:ρ.length=n)(h:∀x∈xs,e (ρ++[some (enc x)])=.ok (v x)):Zcx 1 (Xo n) Xcm e ρ (xs.map enc)=.ok (xs.map v):=by
 have:=Zxe (p:=fun _=>true) (c:=Xcm) hn (xs:=xs) (enc:=enc) (e:=e) (v:=v) fun x hx=>⟨rfl,fun _=>h x hx⟩
 rw [this,List.filter_eq_self.mpr fun _ _=>rfl]
theorem Xfz {c:FT}{s:FS}{ρ:Env}{n:Nat}(m:Nat)(st:Nat→Env)(h0:st 0=ρ)(hn:m<n)(hs:∀i,i<m→c (st i)=.ok true∧s (st i)=.ok (.nx (st (i+1))))(hd:c (st m)=.ok false):Zbr c s n ρ=.ok (.nx (st m)):=by
 have key:∀k i n,k+i=m→k<n→Zbr c s n (st i)=.ok (.nx (st m)):=by
  intro k
  induction k with
  | zero =>
   intro i n hi hn
   have e:i=m:=by omega
   subst e
   obtain ⟨n,rfl⟩:∃k,n=k+1:=⟨n - 1,by omega⟩
   simp [Zbr,hd]
  | succ k ih =>
   intro i n hi hn
   obtain ⟨n,rfl⟩:∃k,n=k+1:=⟨n - 1,by omega⟩
   obtain ⟨h1,h2⟩:=hs i (by omega)
   simp only [Zbr,h1,Zad,if_true,h2]
   exact ih (i+1) n (by omega) (by omega)
 rw [← h0]
 exact key m 0 n (by omega) hn
theorem Zu {i:Nat}{e:FE}{ρ:Env}{d:D}(h:e ρ=.ok d):Yg i e ρ=.ok (.nx (ρ.set i (some d))):=by rw [Xoc,h];rfl
theorem Zo {a b:FS}{ρ ρ':Env}{r:R Fl}(h:a ρ=.ok (.nx ρ'))(h2:b ρ'=r):Xp a b ρ=r:=by rw [Xca,h];exact h2
theorem Jh {g:D→Option D}{a:FE}{ρ:Env}{x z:D}(ha:a ρ=.ok x)(h:g x=some z):f1 g a ρ=.ok z:=by rw [ev_f1,ha];show oR (g x)=_;rw [h];rfl
theorem Zl {g:D→D→Option D}{a b:FE}{ρ:Env}{x y z:D}(ha:a ρ=.ok x)(hb:b ρ=.ok y)(h:g x y=some z):f2 g a b ρ=.ok z:=by rw [ev_f2,ha,hb];show oR (g x y)=_;rw [h];rfl
theorem Js {g:List D→Option D}{a:FA}{ρ:Env}{xs:List D}{z:D}(ha:a ρ=.ok xs)(h:g xs=some z):fA g a ρ=.ok z:=by rw [ev_fA,ha];show oR (g xs)=_;rw [h];rfl
theorem Zc {a:FE}{r:FA}{ρ:Env}{x:D}{xs:List D}(ha:a ρ=.ok x)(hr:r ρ=.ok xs):Zd a r ρ=.ok (x::xs):=by rw [Xgq,ha,hr];rfl
theorem Xl {F:List D→R D}{a:FA}{ρ:Env}{xs:List D}{d:D}(ha:a ρ=.ok xs)(h:F xs=.ok d):Xv F a ρ=.ok d:=by rw [Xfw,ha];exact h
theorem Yl {a:FE}{ρ:Env}{b:Bool}(h:a ρ=.ok (.bl b)):cE a ρ=.ok b:=by rw [ev_cE,h];rfl
theorem Zbc {c:FT}{a b:FS}{ρ:Env}{r:R Fl}(hc:c ρ=.ok true)(h:a ρ=r):sIf c a b ρ=r:=by rw [Xiu,hc];exact h
theorem Yn {c:FT}{a b:FS}{ρ:Env}{r:R Fl}(hc:c ρ=.ok false)(h:b ρ=r):sIf c a b ρ=r:=by rw [Xiu,hc];exact h
theorem Zge {i:Nat}{e:FE}{ρ:Env}{xs:List D}{d:D}(hv:fV i ρ=.ok (.lst xs))(h:e ρ=.ok d)(hl:xs.length<lim):Zmh i e ρ=.ok (.nx (ρ.set i (some (.lst (xs++[d]))))):=by rw [Xlx,hv,h];exact if_pos hl
theorem Jf {e:FE}{ρ:Env}{d:D}(h:e ρ=.ok d):Zao e ρ=.ok (.ret d):=by rw [Xnb,h];rfl
theorem Znk {a:FA}{ρ:Env}{j:Int}(h:a ρ=.ok [.int j])(h1:-1000000000≤j∧j≤1000000):Zjc a ρ=.ok (Zdq 0 j.toNat):=by rw [Xcq,h];exact if_pos h1
theorem Zdv {it:FI}{b:FB}{s:FS}{ρ:Env}{xs:List D}{r:R Fl}(h:it ρ=.ok xs)(h2:Zdw b s xs ρ=r):Zlt it b s ρ=r:=by rw [Xks,h];exact h2
theorem Je {N:Nat}{q:FS}{ds:List D}{d:D}(h:q (ds.map some++List.replicate (N - ds.length) none)=.ok (.ret d)):(run N q ds).calm=.ok d:=by unfold run;rw [h];rfl
theorem Zud {a b:Int}(h0:0≤a)(h1:a≤1000000):Zcm (.int a) (.int b)=some (.int (a*b)):=Xip (.inl ⟨by omega,by omega⟩)
theorem Zgb {a b:FS}{ρ:Env}{d:D}(h:a ρ=.ok (.ret d)):Xp a b ρ=.ok (.ret d):=by rw [Xca,h];rfl
theorem mulR {a b:Int}(h0:0≤b)(h1:b≤1000000):Zcm (.int a) (.int b)=some (.int (a*b)):=Xip (.inr ⟨by omega,by omega⟩)
theorem Zcc {a:FE}{ρ:Env}{xs:List D}(h:a ρ=.ok (.lst xs))(hl:xs.length≤lim):Zcv a ρ=.ok xs:=by rw [Xgg,h];exact if_pos hl
theorem Xqr {i:Nat}{g:D→D→Option D}{e:FE}{ρ:Env}{v d z:D}(hv:fV i ρ=.ok v)(he:e ρ=.ok d)(h:g v d=some z):Xiq i g e ρ=.ok (.nx (ρ.set i (some z))):=by simp [hv,he,h]
theorem Xpq {c:FT}{a b:FE}{ρ:Env}{r:R D}(hc:c ρ=.ok true)(h:a ρ=r):fIf c a b ρ=r:=by rw [Xio,hc];exact h
theorem Xpz {c:FT}{a b:FE}{ρ:Env}{r:R D}(hc:c ρ=.ok false)(h:b ρ=r):fIf c a b ρ=r:=by rw [Xio,hc];exact h
theorem Zfm {a b:FT}{ρ:Env}{r:R Bool}(h:a ρ=.ok true)(h2:b ρ=r):Xid a b ρ=r:=by rw [Xao,h];exact h2
theorem Znt {a b:FT}{ρ:Env}(h:a ρ=.ok false):Xid a b ρ=.ok false:=by rw [Xao,h];rfl
theorem Zyb {a b:FE}{ρ:Env}{r:R D}(h:a ρ=.ok (.bl true))(h2:b ρ=r):Xcn a b ρ=r:=by rw [Xax,h];exact h2
theorem Xjc {a b:FE}{ρ:Env}(h:a ρ=.ok (.bl false)):Xcn a b ρ=.ok (.bl false):=by rw [Xax,h];rfl
theorem Zri {p:Prop}[Decidable p](h:p):some (D.bl (decide p))=some (D.bl true):=congrArg (fun b=>some (D.bl b)) (decide_eq_true h)
theorem Zrf {p:Prop}[Decidable p](h:¬p):some (D.bl (decide p))=some (D.bl false):=congrArg (fun b=>some (D.bl b)) (decide_eq_false h)
theorem Zmk {a:FT}{ρ:Env}{b:Bool}(h:a ρ=.ok b):Xju a ρ=.ok (!b):=by rw [Xko,h];rfl
theorem Zim {a b:FT}{ρ:Env}{r:R Bool}(h:a ρ=.ok false)(h2:b ρ=r):cOr a b ρ=r:=by rw [Xhz,h];exact h2
theorem Xfe {e:FE}{b:FB}{ρ ρ':Env}{d:D}(h:e ρ=.ok d)(hb:b d ρ=.ok ρ'):Xix e b ρ=.ok (.nx ρ'):=by
 unfold Xix
 rw [h]
 show (b d ρ).calm.bind _=_
 rw [hb]
 rfl
theorem Xot {g:D→Option Int→Option Int→Option D}{a:FE}{l h:FO}{ρ:Env}{x z:D}{lo hi:Option Int}(ha:a ρ=.ok x)(hl:l ρ=.ok lo)(hh:h ρ=.ok hi)(hg:g x lo hi=some z):fSl g a l h ρ=.ok z:=by
 rw [Xsm,ha]
 show (l ρ).bind _=_
 rw [hl]
 show (h ρ).bind _=_
 rw [hh]
 show oR (g x lo hi)=_
 rw [hg]
 rfl
theorem Zay {c:String}{m:Str}{F:List D→R D}{a:FE}{args:FA}{ρ:Env}{ns:List Str}{xs ys:List D}{r:R D}(ha:a ρ=.ok (.obj c ns xs))(hm:fIx m ns=none)(hs:args ρ=.ok ys)(h:F (.obj c ns xs::ys)=r):Jc c m F a args ρ=r:=by
 unfold Jc
 rw [ha]
 show (if c=c∧fIx m ns=none then (args ρ).bind fun ys=>F (.obj c ns xs::ys) else .bad)=r
 rw [if_pos ⟨rfl,hm⟩,hs]
 exact h
theorem Xau {c:String}{G:List D→R (D×D)}{args:FA}{ρ:Env}{ys:List D}{d:D}(ha:args ρ=.ok ys)(h:G (.obj c [] []::ys)=.ok (.non,d)):Zpk c G args ρ=.ok d:=by
 unfold Zpk
 rw [ha]
 show (G (.obj c [] []::ys)).bind _=_
 rw [h]
 rfl
theorem Zze {a:FA}{ρ:Env}{ds xs:List D}(h:a ρ=.ok ds)(h1:Zgk ds=.ok xs):Zsr a ρ=.ok xs:=by rw [Xfo,h];exact h1
theorem Zkl {n k:Nat}{it:FI}{b:FB}{c:FT}{e:FE}{ρ:Env}{xs ys:List D}(hn:ρ.length=n)(h:it ρ=.ok xs)(h1:Zcx k b c e ρ xs=.ok ys):Zgw n k it b c e ρ=.ok (.lst ys):=by
 rw [Xdh,if_pos hn,h]
 show (Zcx k b c e ρ xs).calm.bind _=_
 rw [h1]
 rfl
theorem Xii {a b:FT}{ρ:Env}(h:a ρ=.ok true):cOr a b ρ=.ok true:=by rw [Xhz,h];rfl
theorem Zld {a:FE}{ρ:Env}{i:Int}(h:a ρ=.ok (.int i)):Zhu a ρ=.ok (some i):=by rw [Xct,h];rfl
theorem Xnp {i:Nat}{c:String}{m:Str}{G:List D→R (D×D)}{args:FA}{ρ:Env}{ns:List Str}{xs ys:List D}{d o':D}(hi:ρ[i]?=some (some (.obj c ns xs)))(hm:fIx m ns=none)(ha:args ρ=.ok ys)(h:G (.obj c ns xs::ys)=.ok (d,o')):Zmq (Zwz i c m G args) ρ=.ok (.nx (ρ.set i (some o'))):=by
 unfold Zmq Zwz
 rw [hi]
 show (if c=c∧fIx m ns=none then (args ρ).bind fun ys=>(G (.obj c ns xs::ys)).bind fun p=>.ok (p.1,ρ.set i (some p.2)) else .bad).bind _=_
 rw [if_pos ⟨rfl,hm⟩,ha]
 show ((G (.obj c ns xs::ys)).bind _).bind _=_
 rw [h]
 rfl
set_option genInjectivity true in
structure Kd where
 name:Str
 w:Int
 wo:Int
 al:Int
noncomputable def kD (k:Kd):D:=.tup [.str k.name,.int k.w,.int k.wo,.int k.al]
noncomputable def iD (ns:List Int):D:=.lst (ns.map D.int)
noncomputable def tD (ks:List Kd):D:=.lst (ks.map kD)
noncomputable def pD (p:Int×Str):D:=.tup [.int p.1,.str p.2]
noncomputable def psD (ps:List (Int×Str)):D:=.lst (ps.map pD)
@[simp] theorem flat_kD (k:Kd):flat (kD k)=true:=rfl
@[simp] theorem flat_pD (k:Int×Str):flat (pD k)=true:=rfl
@[simp] theorem Xdl (k:Kd):Xs (kD k)=some (kD k):=rfl
@[simp] theorem gFlat_pD (k:Int×Str):Xs (pD k)=some (pD k):=rfl
@[simp] theorem Znp (ks:List (Int×Str)):Xy (ks.map pD)=true:=Zaa (fun _=>rfl) ks
@[simp] theorem kD_0 (k:Kd):gIx (kD k) (.int 0)=some (.str k.name):=ix_t (k:=0) rfl rfl
@[simp] theorem Zre (k:Kd):gIx (kD k) (.int 1)=some (.int k.w):=ix_t (k:=1) rfl rfl
@[simp] theorem Xqv (k:Kd):gIx (kD k) (.int 2)=some (.int k.wo):=ix_t (k:=2) rfl rfl
@[simp] theorem kD_3 (k:Kd):gIx (kD k) (.int 3)=some (.int k.al):=ix_t (k:=3) rfl rfl
noncomputable def pre (ns:List Int)(i:Nat):Int:=(ns.take i).sum
theorem Xjy (ns:List Int)(a b:Nat)(h:a≤b):((ns.drop a).take (b - a)).sum=pre ns b - pre ns a:=by
 unfold pre
 have e:ns.take b=ns.take a++(ns.drop a).take (b - a):=by
  have:=List.take_add (l:=ns) (i:=a) (j:=b - a)
  rw [show a+(b - a)=b by omega] at this
  exact this
 rw [e,List.sum_append]
 omega
theorem Zus {ns:List Int}{i:Nat}{x:Int}(h:ns[i]?=some x):pre ns (i+1)=pre ns i+x:=by
 unfold pre
 rw [List.take_add_one,h,List.sum_append]
 simp
noncomputable def good (ns:List Int)(k:Kd)(p:Int):Bool:=decide (0≤p∧p+k.w≤ns.length∧pre ns (p+k.w).toNat - pre ns p.toNat≤k.al)
theorem Zra {ns:List Int}{b e:Int}(h0:0≤b)(h1:b≤e)(h2:e≤ns.length):Zci [iD ns,.int b,.int e]=.ok (.int (pre ns e.toNat - pre ns b.toNat)):=by
 have a1:¬b<0:=by omega
 have a2:¬(ns.length:Int)<e:=by omega
 have a3:¬e<b:=by omega
 simp [-map_take,-map_drop,Zci,Zuu,iD,a1,a2,a3,Xqf h0 h1 h2,Xjy _ _ _ (show b.toNat≤e.toNat by omega)]
theorem Xlv (ns:List Int)(k:Kd)(p:Int)(hw:1≤k.w):Znd [iD ns,kD k,.int p]=.ok (.bl (good ns k p)):=by
 have l1:Zac [iD ns]=some (.int ns.length):=by simp [iD]
 by_cases h0:p<0
 ·have e:good ns k p=false:=decide_eq_false (by omega)
  rw [e]
  exact Je (Zo (Zu (Zl rfl (Zl rfl rfl (Zre k)) rfl)) (Zgb (Zbc (Xii (Yl (Zl rfl rfl (Zri h0)))) (Jf rfl))))
 ·by_cases h1:(ns.length:Int)<p+k.w
  ·have e:good ns k p=false:=decide_eq_false (by omega)
   rw [e]
   exact Je (Zo (Zu (Zl rfl (Zl rfl rfl (Zre k)) rfl)) (Zgb (Zbc (Zim (Yl (Zl rfl rfl (Zrf h0))) (Yl (Zl rfl (Js (Zc rfl rfl) l1) (Zri h1)))) (Jf rfl))))
  ·have hs:=Zra (ns:=ns) (b:=p) (e:=p+k.w) (by omega) (by omega) (by omega)
   have e:good ns k p=decide (pre ns (p+k.w).toNat - pre ns p.toNat≤k.al):=by
    unfold good
    apply decide_eq_decide.mpr
    constructor
    ·exact fun z=>z.2.2
    ·exact fun z=>⟨by omega,by omega,z⟩
   rw [e]
   exact Je (Zo (Zu (Zl rfl (Zl rfl rfl (Zre k)) rfl)) (Zo (Yn (Zim (Yl (Zl rfl rfl (Zrf h0))) (Yl (Zl rfl (Js (Zc rfl rfl) l1) (Zrf h1)))) rfl) (Jf (Zl (Xl (Zc rfl (Zc rfl (Zc rfl rfl))) hs) (Zl rfl rfl (kD_3 k)) rfl))))
noncomputable def Xt (ns:List Int):List Int:=(List.range (ns.length+1)).map (pre ns)
theorem Zjh (ns:List Int):(Xt ns).length=ns.length+1:=by simp [Xt]
theorem Xaj (ns:List Int){k:Nat}(h:k≤ns.length):(Xt ns).getD k 0=pre ns k:=by
 unfold Xt
 have h':k<ns.length+1:=by omega
 simp [List.getD,h']
theorem Zto (ns:List Int)(h:ns.length≤1000):Yu [iD ns]=.ok (iD (Xt ns)):=by
  have hl:ns.length≤lim:=by show _≤1000000;omega
  have hf:=Xjq (b:=Xo 2) (s:=Zdj) (xs:=ns.map D.int) (ρ:=[some (iD ns),some (.lst [.int 0]),none])
    (fun i=>[some (iD ns),some (.lst (((List.range i).map (pre ns)).map D.int++[.int (pre ns i)])),match i with | 0=>none | i+1=>some (.int (ns.getD i 0))]) rfl (fun i x hx=>by
      rw [getElem?_map] at hx
      obtain ⟨y,hy,rfl⟩:=Option.map_eq_some_iff.mp hx
      have hi:=(List.getElem?_eq_some_iff.mp hy).1
      refine ⟨_,rfl,?_⟩
      have hlen:i+1<1000000:=by omega
      simp [-map_map,Zdj,hlen,Zus hy,range_succ,hy])
  simp only [length_map] at hf
  simp [Yu,Zkf,iD,hl] at hf ⊢
  simp [hf,Xt,range_succ]
theorem Xbg (ns:List Int)(k:Kd)(p:Int)(hw:1≤k.w):Jl [iD (Xt ns),kD k,.int p]=.ok (.bl (good ns k p)):=by
 have hsl:=Zjh ns
 have l1:Zac [iD (Xt ns)]=some (.int (Xt ns).length):=by simp [iD]
 by_cases h0:p<0
 ·have e:good ns k p=false:=decide_eq_false (by omega)
  rw [e]
  exact Je (Zo (Zu (Zl rfl (Zl rfl rfl (Zre k)) rfl)) (Zgb (Zbc (Xii (Yl (Zl rfl rfl (Zri h0)))) (Jf rfl))))
 ·by_cases h1:((Xt ns).length:Int)≤p+k.w
  ·have e:good ns k p=false:=decide_eq_false (by omega)
   rw [e]
   exact Je (Zo (Zu (Zl rfl (Zl rfl rfl (Zre k)) rfl)) (Zgb (Zbc (Zim (Yl (Zl rfl rfl (Zrf h0))) (Yl (Zl rfl (Js (Zc rfl rfl) l1) (Zri h1)))) (Jf rfl))))
  ·have e:good ns k p=decide (pre ns (p+k.w).toNat - pre ns p.toNat≤k.al):=by
    unfold good
    apply decide_eq_decide.mpr
    constructor
    ·exact fun z=>z.2.2
    ·exact fun z=>⟨by omega,by omega,z⟩
   have i1:=Yz (ns:=Xt ns) (i:=p+k.w) (k:=(p+k.w).toNat) (by omega) (by omega)
   have i2:=Yz (ns:=Xt ns) (i:=p) (k:=p.toNat) (by omega) (by omega)
   rw [Xaj ns (by omega)] at i1 i2
   rw [e]
   exact Je (Zo (Zu (Zl rfl (Zl rfl rfl (Zre k)) rfl)) (Zo (Yn (Zim (Yl (Zl rfl rfl (Zrf h0))) (Yl (Zl rfl (Js (Zc rfl rfl) l1) (Zrf h1)))) rfl) (Jf (Zl (Zl (Zl rfl rfl i1) (Zl rfl rfl i2) rfl) (Zl rfl rfl (kD_3 k)) rfl))))
theorem Xbt (ns:List Int)(hn:ns.length≤63){i:Int}(h0:0≤i)(h1:i<1000000):∃n:Int,Zbe [.scr ns,.int i]=.ok (.int n):=by
 have c:(cE (f2 gLt (fV 1) (fA Zac (Zd (fV 0) Zt)))) [some (.scr ns),some (.int i),none,none]=.ok (decide (i<ns.length)):=Yl (Zl rfl (Js (Zc rfl rfl) rfl) rfl)
 by_cases h:i<ns.length
 ·have hi:i.toNat<ns.length:=(toNat_lt h0).mpr h
  have e:gIx (.scr ns) (.int i)=some (.int (ns.getD i.toNat 0)):=congrArg (Option.map D.int) (Zsy (k:=i.toNat) (Int.toNat_of_nonneg h0).symm (by simp [List.getD,hi]))
  exact ⟨_,Je (Zgb (Zbc (c.trans (congrArg Dl.R.ok (decide_eq_true h))) (Jf (Jh (Zl rfl rfl e) rfl))))⟩
 ·have key:∃seed:Int,∃o,Zdw (Xo 3) Zgd ((ns.take 63).map D.int) [some (.scr ns),some (.int i),some (.int 5),none]=.ok (.nx [some (.scr ns),some (.int i),some (.int seed),o]):=by
   refine Zdk (P:=fun _ ρ=>∃seed:Int,∃o,ρ=[some (.scr ns),some (.int i),some (.int seed),o]) (Rr:=fun r=>∃seed:Int,∃o,r=.ok (.nx [some (.scr ns),some (.int i),some (.int seed),o])) ⟨5,none,rfl⟩ ?_ ?_
   ·rintro j x ρ hx ⟨seed,o,rfl⟩
    rw [getElem?_map] at hx
    obtain ⟨y,hy,rfl⟩:=Option.map_eq_some_iff.mp hx
    exact ⟨_,rfl,.inl ⟨_,.inl (Zu (Zl (Zl (Zl (Zl rfl rfl (mulR (by decide) (by decide))) (Zl rfl rfl (Zcw (by decide))) rfl) rfl rfl) rfl (Zcw (by decide)))),_,_,rfl⟩⟩
   ·rintro ρ ⟨seed,o,rfl⟩
    exact ⟨seed,o,rfl⟩
  obtain ⟨seed,o,e⟩:=key
  have hc:cut ns none (some 63)=ns.take 63:=Xik (by decide)
  have hl:(Zcv (fSl gSl (fV 0) Zmb (Zhu (fC (.int 63))))) [some (.scr ns),some (.int i),some (.int 5),none]=.ok ((ns.take 63).map D.int):=by
   have hm:min 63 ns.length≤lim:=by show _≤1000000;omega
   simp [-map_take,hc,hm]
  exact ⟨_,Je (Zo (Yn (c.trans (congrArg Dl.R.ok (decide_eq_false h))) rfl) (Zo (Zu rfl) (Zo (Zdv hl e) (Jf (Zl (Zl rfl (Zl rfl rfl (Zud (by decide) (by decide))) rfl) rfl (Zcw (by decide)))))))⟩
theorem Xia (c:Int){k:Int}(h0:0≤k)(h1:k<1000000):∃n:Int,Zbw [.int c,.int k]=.ok (.int n):=by
 have n0:0≤c % 2147483629+1013*k+7919:=Int.add_nonneg (Int.add_nonneg (emod_nonneg _ (by decide)) (mul_nonneg (by decide) h0)) (by decide)
 have n1:c % 2147483629+1013*k+7919<2147483629+1013*1000000+7919:=Int.add_lt_add_right (Int.add_lt_add_of_lt_of_le (emod_lt_of_pos _ (by decide)) (Int.mul_le_mul_of_nonneg_left (Int.le_of_lt h1) (by decide))) _
 have b:(c % 2147483629+1013*k+7919).natAbs<2 ^ 64:=Int.ofNat_lt.mp (by rw [Int.natAbs_of_nonneg n0];exact Int.lt_trans n1 (by decide))
 have e1:=Zrd (i:=c % 2147483629+1013*k+7919) (j:=3) (by decide) (by decide) b
 exact ⟨_,Je (Zo (Zu (Zl (Zl (Zl (Zl (Zl rfl rfl (Zcw (by decide))) (Zl rfl rfl (Zud (by decide) (by decide))) rfl) rfl rfl) rfl e1) rfl (Zcw (by decide)))) (Zo (Zu (Zl (Zl (Zl (Zl rfl rfl (mulR (by decide) (by decide))) (Zl (Zl rfl rfl (Zud (by decide) (by decide))) rfl (mulR h0 (Int.le_of_lt h1))) rfl) rfl rfl) rfl (Zcw (by decide)))) (Jf (Zl rfl rfl (div_ii (by decide) (by decide))))))⟩
structure Row (ms os:List Int):Prop where
 len:os.length=ms.length
 at_:∀k,k<ms.length→0≤os.getD k 0∧os.getD k 0<ms.getD k 0
theorem Row.nil (ms:List Int):Row (ms.take 0) []:=⟨by simp,fun k hk=>by simp at hk⟩
theorem Row.all {ms os:List Int}(h:Row (ms.take ms.length) os):Row ms os:=by
 rw [List.take_length] at h
 exact h
theorem Row.push {ms os:List Int}{k:Nat}{v:Int}(h:Row (ms.take k) os)(hk:k<ms.length)(h0:0≤v)(h1:v<ms.getD k 0):Row (ms.take (k+1)) (os++[v]):=by
 have hl:=h.len
 rw [length_take] at hl
 have hm:min k ms.length=k:=by omega
 have hm':min (k+1) ms.length=k+1:=by omega
 refine ⟨by rw [length_append,length_take,hm',length_singleton];omega,fun j hj=>?_⟩
 rw [length_take,hm'] at hj
 by_cases e:j=k
 ·subst e
  have e1:(os++[v]).getD j 0=v:=by
   have:os.length=j:=by omega
   simp [List.getD,← this]
  have e2:(ms.take (j+1)).getD j 0=ms.getD j 0:=by simp [List.getD,List.getElem?_take]
  rw [e1,e2]
  exact ⟨h0,h1⟩
 ·have hj':j<k:=by omega
  have q:=h.at_ j (by rw [length_take];omega)
  have e1:(os++[v]).getD j 0=os.getD j 0:=by
   have:j<os.length:=by omega
   simp [List.getD,getElem?_append_left this]
  have e2:(ms.take (k+1)).getD j 0=(ms.take k).getD j 0:=by
   have h1:j<k+1:=by omega
   simp [List.getD,List.getElem?_take,hj',h1]
  rw [e1,e2]
  exact q
theorem Zck {P:Int→Prop}{ws:List Int}{i:Nat}(h:∀w∈ws,P w)(hi:i<ws.length):P (ws.getD i 0):=by
 have e:ws.getD i 0=ws[i]:=by simp [List.getD,hi]
 rw [e]
 exact h _ (getElem_mem hi)
theorem Xkl (ns:List Int)(hn:ns.length≤63){i:Int}(h0:0≤i)(h1:i<1000)(ms:List Int)(hm:ms.length≤2000)(hms:∀m∈ms,0<m∧m<2 ^ 200):∃os,Yt [.scr ns,.int i,iD ms]=.ok (iD os)∧Row ms os:=by
 obtain ⟨c,hc⟩:=Xbt ns hn h0 (show i<1000000 by omega)
 have key:=Zdk (b:=Xo 6) (s:=Zik) (xs:=Zdq 0 ms.length) (ρ:=[some (.scr ns),some (.int i),some (iD ms),some (.int c),some (.int c),some (.lst []),none,none])
  (P:=fun k ρ=>∃(l:Int) (os:List Int) (o6 o7:Option D),Row (ms.take k) os∧ρ=[some (.scr ns),some (.int i),some (iD ms),some (.int c),some (.int l),some (iD os),o6,o7])
  (Rr:=fun r=>∃(l:Int) (os:List Int) (o6 o7:Option D),Row ms os∧r=.ok (.nx [some (.scr ns),some (.int i),some (iD ms),some (.int c),some (.int l),some (iD os),o6,o7]))
  ⟨c,[],none,none,Row.nil ms,rfl⟩ ?_ ?_
 ·obtain ⟨l,os,o6,o7,hr,e⟩:=key
  refine ⟨os,?_,hr⟩
  have b1:-1000000000≤(ms.length:Int)∧(ms.length:Int)≤1000000:=by omega
  have gl:Zac [iD ms]=some (.int ms.length):=by simp [iD]
  exact Je (Zo (Zu (Xl (Zc rfl (Zc rfl rfl)) hc)) (Zo (Zu (Jh rfl rfl)) (Zo (Zu rfl) (Zo (Zdv (Znk (Zc (Js (Zc rfl rfl) gl) rfl) b1) e) (Jf rfl)))))
 ·rintro k x ρ hx ⟨l,os,o6,o7,hr,rfl⟩
  obtain ⟨hk,rfl⟩:=Zju hx
  rw [zero_add]
  have hol:os.length=k:=by have:=hr.len;rw [length_take] at this;omega
  have hlim:(os.map D.int).length<lim:=by rw [length_map];show _<1000000;omega
  have c1:∀o5:Option D,(cE (f2 gLt (fV 3) (f2 Zmw (fC (.int 10)) (fC (.int 18))))) [some (.scr ns),some (.int i),some (iD ms),some (.int c),some (.int l),o5,some (.int k),o7]=.ok (decide (c<1000000000000000000)):=fun _=>Yl (Zl rfl (Zl rfl rfl Zji) rfl)
  have ap:∀v:Int,iD (os++[v])=.lst (os.map D.int++[.int v]):=fun v=>congrArg D.lst map_append
  have hmk:=Zck hms hk
  have ix:=Yz (ns:=ms) (i:=(k:Int)) (k:=k) rfl hk
  have md:∀z:Int,Zln (.int z) (.int (ms.getD k 0))=some (.int (z % ms.getD k 0)):=fun z=>Zcw hmk.1
  have nn:∀z:Int,0≤z % ms.getD k 0∧z % ms.getD k 0<ms.getD k 0:=fun z=>⟨emod_nonneg _ (Int.ne_of_gt hmk.1),emod_lt_of_pos _ hmk.1⟩
  have k0:0≤(k:Int)∧(k:Int)<1000000:=by omega
  obtain ⟨x1,hx1⟩:=Xia c k0.1 k0.2
  obtain ⟨c2,hc2⟩:=Xbt ns hn (i:=(i+1+k) % 63) (emod_nonneg _ (by decide)) (Int.lt_trans (emod_lt_of_pos _ (by decide)) (by decide))
  obtain ⟨x2,hx2⟩:=Xia c2 k0.1 k0.2
  refine ⟨_,rfl,.inl ?_⟩
  by_cases a1:c<1000000000000000000
  ·refine ⟨[some (.scr ns),some (.int i),some (iD ms),some (.int c),some (.int l),some (iD (os++[x1 % ms.getD k 0])),some (.int k),o7],.inl ?_,l,_,_,o7,hr.push hk (nn x1).1 (nn x1).2,rfl⟩
   rw [ap]
   exact Zbc ((c1 _).trans (congrArg Dl.R.ok (decide_eq_true a1))) (Zge rfl (Zl (Xl (Zc rfl (Zc rfl rfl)) hx1) (Zl rfl rfl ix) (md x1)) hlim)
  ·by_cases a2:0<l
   ·refine ⟨[some (.scr ns),some (.int i),some (iD ms),some (.int c),some (.int (l / ms.getD k 0)),some (iD (os++[l % ms.getD k 0])),some (.int k),o7],.inl ?_,_,_,_,o7,hr.push hk (nn l).1 (nn l).2,rfl⟩
    rw [ap]
    exact Yn ((c1 _).trans (congrArg Dl.R.ok (decide_eq_false a1))) (Zbc (Yl (Zl rfl rfl (congrArg (fun b=>some (D.bl b)) (decide_eq_true a2)))) (Zo (Zge rfl (Zl rfl (Zl rfl rfl ix) (md l)) hlim) (Zu (Zl rfl (Zl rfl rfl ix) (div_ii hmk.1 hmk.2)))))
   ·refine ⟨[some (.scr ns),some (.int i),some (iD ms),some (.int c),some (.int l),some (iD (os++[x2 % ms.getD k 0])),some (.int k),some (.int c2)],.inl ?_,l,_,_,_,hr.push hk (nn x2).1 (nn x2).2,rfl⟩
    rw [ap]
    exact Yn ((c1 _).trans (congrArg Dl.R.ok (decide_eq_false a1))) (Yn (Yl (Zl rfl rfl (congrArg (fun b=>some (D.bl b)) (decide_eq_false a2)))) (Zo (Zu (Xl (Zc rfl (Zc (Zl (Zl (Zl rfl rfl rfl) rfl rfl) rfl (Zcw (by decide))) rfl)) hc2)) (Zge rfl (Zl (Xl (Zc rfl (Zc rfl rfl)) hx2) (Zl rfl rfl ix) (md x2)) hlim)))
 ·rintro ρ ⟨l,os,o6,o7,hr,rfl⟩
  rw [Zbd] at hr
  exact ⟨l,os,o6,o7,hr.all,rfl⟩
theorem Ztu (ns:List Int)(hn:ns.length≤63){i:Int}(h0:0≤i)(h1:i<1000)(ms:List Int)(hm:ms.length≤1000)(hms:∀m∈ms,0<m∧m<2 ^ 200):∃os,Yt [.scr ns,.int i,iD ms]=.ok (iD os)∧Row ms os:=Xkl ns hn h0 h1 ms (le_trans hm (by decide)) hms
theorem Zih (ws:List Int){i:Int}(h0:0≤i)(h1:i<ws.length):gIx (.lst (ws.map D.int)) (.int i)=some (.int (ws.getD i.toNat 0)):=Yz (by omega) (by omega)
theorem Zjo (l:List Int):∀n:Nat,(List.replicate n l).flatten.length=n*l.length
 | 0=>by simp
 | n+1=>by rw [replicate_succ,flatten_cons,length_append,Zjo l n,Nat.succ_mul,Nat.add_comm]
theorem Xkg (l:List Int)(n:Nat):(List.replicate n (l.map D.int)).flatten=(List.replicate n l).flatten.map D.int:=by
 rw [List.map_flatten,List.map_replicate]
theorem Xab {ws:List Int}{m:Int}(h0:0≤m)(h1:m≤200)(hl:ws.length≤1000):Zcm (.lst (ws.map D.int)) (.int m)=some (iD (List.replicate m.toNat ws).flatten):=by
  simp only [Zcm]
  rw [if_pos ⟨by omega,by
    rw [length_map]
    show ws.length*m.toNat≤1000000
    have:ws.length*m.toNat≤1000*200:=Nat.mul_le_mul hl (by omega)
    omega,by omega,Zhm ws⟩,Xkg]
  rfl
theorem Zgg {xs ys:List Int}(h:xs.length+ys.length≤1000000):Jj (iD xs) (iD ys)=some (iD (xs++ys)):=by
 show (if (xs.map D.int).length+(ys.map D.int).length≤lim∧Xy (xs.map D.int)∧Xy (ys.map D.int) then some (D.lst (xs.map D.int++ys.map D.int)) else none)=_
 rw [if_pos ⟨by rw [length_map,length_map];exact h,Zhm _,Zhm _⟩,← map_append]
 rfl
theorem Ztv (x y:Int):∀(n k:Nat),k<n→(List.replicate n [x,y]).flatten.getD (2*k) 0=x∧(List.replicate n [x,y]).flatten.getD (2*k+1) 0=y
 | 0,k,h=>by omega
 | n+1,0,_=>by simp [replicate_succ,flatten_cons,List.getD]
 | n+1,k+1,h=>by
  have q:=Ztv x y n k (by omega)
  have e1:2*(k+1)=2*k+2:=by omega
  rw [replicate_succ,flatten_cons,e1]
  exact q
theorem Zvv (x y z:Int):∀(n k:Nat),k<n→(List.replicate n [x,y,z]).flatten.getD (3*k) 0=x∧(List.replicate n [x,y,z]).flatten.getD (3*k+1) 0=y∧(List.replicate n [x,y,z]).flatten.getD (3*k+2) 0=z
 | 0,k,h=>by omega
 | n+1,0,_=>by simp [replicate_succ,flatten_cons,List.getD]
 | n+1,k+1,h=>by
  have q:=Zvv x y z n k (by omega)
  have e1:3*(k+1)=3*k+3:=by omega
  rw [replicate_succ,flatten_cons,e1]
  exact q
theorem Xaf {l:List Int}{n:Nat}{z:Int}(h:z∈(List.replicate n l).flatten):z∈l:=by
 obtain ⟨l',hl,hz⟩:=List.mem_flatten.mp h
 rwa [(List.mem_replicate.mp hl).2] at hz
noncomputable def Zby:List Str:=["a","ab","abc","b","ba","z","zzzzzzzz","roll","cut","by","aab","zz","kind","qsvw","fghjmp","x"]
theorem Xde:∀j:Nat,j<16→∀k:Nat,k<16→Zby.getD j ""=Zby.getD k ""→j=k:=by decide +kernel
noncomputable def nameAt (s4 s5:Int)(k:Nat):Str:=Zby.getD ((s4+(2*s5+1)*(k:Int)) % 16).toNat ""
theorem Xdt:∀t:Nat,t<4→∀j:Nat,j<8→∀k:Nat,k<8→((2*(t:Int)+1)*j - (2*(t:Int)+1)*k) % 16=0→j=k:=by decide +kernel
theorem Zwu {s4 s5:Int}(h0:0≤s5)(h1:s5<4){j k:Nat}(hj:j<8)(hk:k<8)(e:nameAt s4 s5 j=nameAt s4 s5 k):j=k:=by
 have lt:∀x:Int,(x % 16).toNat<16:=fun x=>(toNat_lt (emod_nonneg x (by decide))).mpr (emod_lt_of_pos x (by decide))
 have q:=congrArg Int.ofNat (Xde _ (lt _) _ (lt _) e)
 have q1:(s4+(2*s5+1)*(j:Int)) % 16=(s4+(2*s5+1)*(k:Int)) % 16:=(Int.toNat_of_nonneg (emod_nonneg _ (by decide))).symm.trans (q.trans (Int.toNat_of_nonneg (emod_nonneg _ (by decide))))
 have q2:=Int.emod_eq_emod_iff_emod_sub_eq_zero.mp q1
 rw [Int.add_sub_add_left] at q2
 obtain ⟨t,rfl⟩:=Int.eq_ofNat_of_zero_le h0
 exact Xdt t (Int.ofNat_lt.mp h1) j hj k hk q2
theorem Zxg (s4 s5:Int)(k:Nat):nameAt s4 s5 k∈Zby:=by
 unfold nameAt
 have h:((s4+(2*s5+1)*(k:Int)) % 16).toNat<Zby.length:=by show _<16;omega
 have e:Zby.getD ((s4+(2*s5+1)*(k:Int)) % 16).toNat ""=Zby[((s4+(2*s5+1)*(k:Int)) % 16).toNat]:=by simp [List.getD,h]
 rw [e]
 exact getElem_mem h
structure Zuw (k:Kd):Prop where
 nm:k.name∈Zby
 w1:1≤k.w
 w2:k.w≤200
 o1:1≤k.wo
 o2:k.wo≤1000000000000000000
 a1:0≤k.al
 a2:k.al<1000000000000000000
structure Xnl (ks:List Kd):Prop where
 ok:∀k∈ks,Zuw k
 nd:(ks.map (·.name)).Nodup
theorem Xlr {i:Int}(h0:0≤i)(h1:i<16):gIx (.lst (Zby.map D.str)) (.int i)=some (.str (Zby.getD i.toNat "")):=ix_l (k:=i.toNat) (by omega) (by
  have h:i.toNat<Zby.length:=by show _<16;omega
  simp [List.getD,h])
theorem Znu {ms:List Int}(h:∀m∈ms,0<m∧m≤1000000):∀m∈ms,0<m∧m<2 ^ 200:=fun m hm=>⟨(h m hm).1,Int.lt_of_le_of_lt (h m hm).2 (by decide)⟩
theorem four {x:Int}(h:0≤x∧x<4):x=0∨x=1∨x=2∨x=3:=by
 obtain ⟨n,rfl⟩:=Int.eq_ofNat_of_zero_le h.1
 match n,Int.ofNat_lt.mp h.2 with
 | 0,_=>exact .inl rfl
 | 1,_=>exact .inr (.inl rfl)
 | 2,_=>exact .inr (.inr (.inl rfl))
 | 3,_=>exact .inr (.inr (.inr rfl))
theorem Zvs {x m:Int}(hm:0<m):0≤x % m∧x % m<m:=⟨emod_nonneg _ (Int.ne_of_gt hm),emod_lt_of_pos _ hm⟩
theorem Xgk {d0 d1 d2 o9 o10 o11 o12 o13:Option D}{O:D}{T:List D}{fl gn bw wd am x3 x4 x5 x6 x7 x8:Int}{k:Nat}{nm:Str}
    (j0:gIx O (.int (3*(k:Int)+6))=some (.int x6)) (j1:gIx O (.int (3*(k:Int)+6+1))=some (.int x7)) (j2:gIx O (.int (3*(k:Int)+6+2))=some (.int x8))
    (j3:gIx O (.int 3)=some (.int x3)) (j4:gIx O (.int 4)=some (.int x4)) (j5:gIx O (.int 5)=some (.int x5))
    (ib:gIx (.lst [.int 150,.int 200]) (.int ((k:Int) % 2))=some (.int bw))
    (iw:gIx (.lst [.int 1,.int 2,.int 3,.int 4,.int 5,.int 6,.int 2,.int 3,.int 11,.int 40,.int bw]) (.int x6)=some (.int wd))
    (ia:gIx (.lst [.int 0,.int 0,.int 1,.int 2,.int 3,.int 12]) (.int x8)=some (.int am))
    (iN:gIx (.lst (Zby.map D.str)) (.int ((x4+(2*x5+1)*(k:Int)) % 16))=some (.str nm))
    (w1:1≤wd∧wd≤200) (c7:0≤x7∧x7<40) (c3:0≤x3∧x3<4) (c5:0≤x5∧x5<4) (m1:0≤am∧am≤12) (sl:T.length<lim) :
    ∃wo:Int,(1≤wo∧wo≤1000)∧Zcs [d0,d1,d2,some (.lst (Zby.map D.str)),some O,some (.int fl),some (.int gn),some (.lst T),some (.int k),o9,o10,o11,o12,o13] =
      .ok (.nx [d0,d1,d2,some (.lst (Zby.map D.str)),some O,some (.int fl),some (.int gn),some (.lst (T++[.tup [.str nm,.int wd,.int (min (wo*gn) 1000000000000000000),.int (min (am*fl) 999999999999999999)]])),some (.int k),some (.int (3*(k:Int)+6)),some (.int wd),some (.int wo),some (.int (min (am*fl) 999999999999999999)),some (.str nm)]):=by
  obtain ⟨wo,hb,mid⟩:∃wo:Int,(1≤wo∧wo≤1000)∧∀Q:FS,(Xp (sIf (cE (f2 gEq (f2 gIx (fV 4) (fC (.int 3))) (fC (.int 1)))) (Yg 11 (f2 Jj (f2 Zcm (fC (.int 3)) (fV 10)) (f2 Zln (f2 gIx (fV 4) (f2 Jj (fV 9) (fC (.int 1)))) (fC (.int 4))))) sNx)
    (Xp (sIf (cE (f2 gEq (f2 gIx (fV 4) (fC (.int 3))) (fC (.int 2)))) (Yg 11 (f2 Jj (fC (.int 1)) (f2 Zln (f2 gIx (fV 4) (f2 Jj (fV 9) (fC (.int 1)))) (fC (.int 3))))) sNx)
    (Xp (sIf (cE (f2 gEq (f2 gIx (fV 4) (fC (.int 3))) (fC (.int 3)))) (Yg 11 (f1 Xs (fV 10))) sNx) Q))) [d0,d1,d2,some (.lst (Zby.map D.str)),some O,some (.int fl),some (.int gn),some (.lst T),some (.int k),some (.int (3*(k:Int)+6)),some (.int wd),some (.int (1+x7)),o12,o13] =
      Q [d0,d1,d2,some (.lst (Zby.map D.str)),some O,some (.int fl),some (.int gn),some (.lst T),some (.int k),some (.int (3*(k:Int)+6)),some (.int wd),some (.int wo),o12,o13]:=by
    rcases four c3 with rfl | rfl | rfl | rfl
    · exact ⟨1+x7,⟨Int.le_add_of_nonneg_right c7.1,Int.le_trans (Int.add_le_add_left (Int.le_of_lt c7.2) 1) (by decide)⟩,fun Q=>Zo (Yn (Yl (Zl (Zl rfl rfl j3) rfl rfl)) rfl) (Zo (Yn (Yl (Zl (Zl rfl rfl j3) rfl rfl)) rfl) (Zo (Yn (Yl (Zl (Zl rfl rfl j3) rfl rfl)) rfl) rfl))⟩
    · exact ⟨3*wd+x7 % 4,⟨Int.le_trans (show (1:Int)≤3*1+0 by decide) (Int.add_le_add (Int.mul_le_mul_of_nonneg_left w1.1 (by decide)) (Zvs (by decide)).1),Int.le_trans (Int.add_le_add (Int.mul_le_mul_of_nonneg_left w1.2 (by decide)) (Int.le_of_lt (Zvs (by decide)).2)) (by decide)⟩,fun Q=>Zo (Zbc (Yl (Zl (Zl rfl rfl j3) rfl rfl)) (Zu (Zl (Zl rfl rfl (Zud (by decide) (by decide))) (Zl (Zl rfl (Zl rfl rfl rfl) j1) rfl (Zcw (by decide))) rfl))) (Zo (Yn (Yl (Zl (Zl rfl rfl j3) rfl rfl)) rfl) (Zo (Yn (Yl (Zl (Zl rfl rfl j3) rfl rfl)) rfl) rfl))⟩
    · exact ⟨1+x7 % 3,⟨Int.le_add_of_nonneg_right (Zvs (by decide)).1,Int.le_trans (Int.add_le_add_left (Int.le_of_lt (Zvs (by decide)).2) 1) (by decide)⟩,fun Q=>Zo (Yn (Yl (Zl (Zl rfl rfl j3) rfl rfl)) rfl) (Zo (Zbc (Yl (Zl (Zl rfl rfl j3) rfl rfl)) (Zu (Zl rfl (Zl (Zl rfl (Zl rfl rfl rfl) j1) rfl (Zcw (by decide))) rfl))) (Zo (Yn (Yl (Zl (Zl rfl rfl j3) rfl rfl)) rfl) rfl))⟩
    · exact ⟨wd,⟨w1.1,Int.le_trans w1.2 (by decide)⟩,fun Q=>Zo (Yn (Yl (Zl (Zl rfl rfl j3) rfl rfl)) rfl) (Zo (Yn (Yl (Zl (Zl rfl rfl j3) rfl rfl)) rfl) (Zo (Zbc (Yl (Zl (Zl rfl rfl j3) rfl rfl)) (Zu (Jh rfl rfl))) rfl))⟩
  exact ⟨wo,hb,Zo (Zu (Zl (Zl rfl rfl (Zud (by decide) (by decide))) rfl rfl)) (Zo (Zu (Jh (Zl (Js (Zc rfl (Zc rfl (Zc rfl (Zc rfl (Zc rfl (Zc rfl (Zc rfl (Zc rfl (Zc rfl (Zc rfl (Zc (Zl rfl (Zl rfl rfl (Zcw (by decide))) ib) rfl))))))))))) rfl) (Zl rfl rfl j0) iw) rfl)) (Zo (Zu (Zl rfl (Zl rfl (Zl rfl rfl rfl) j1) rfl)) ((mid _).trans
    (Zo (Zu (Js (Zc (Zl (Zl rfl (Zl rfl (Zl rfl rfl rfl) j2) ia) rfl (Zud m1.1 (Int.le_trans m1.2 (by decide)))) (Zc (Zl (Zl rfl rfl Zji) rfl (show Zdy (.int 1000000000000000000) (.int 1)=some (.int 999999999999999999) from rfl)) rfl)) (Xhp _ _)))
    (Zo (Zu (Jh (Zl rfl (Zl (Zl (Zl rfl rfl j4) (Zl (Zl (Zl rfl (Zl rfl rfl j5) (Zud (by decide) (by decide))) rfl rfl) rfl (Zud (Int.add_nonneg (mul_nonneg (by decide) c5.1) (by decide)) (Int.le_trans (Int.add_le_add_right (Int.mul_le_mul_of_nonneg_left (Int.le_of_lt c5.2) (by decide)) 1) (by decide)))) rfl) rfl (Zcw (by decide))) iN) rfl))
    (Zge rfl (Js (Zc (Jh rfl rfl) (Zc (Jh rfl rfl) (Zc (Js (Zc (Zl rfl rfl (Zud (Int.le_trans (by decide) hb.1) (Int.le_trans hb.2 (by decide)))) (Zc (Zl rfl rfl Zji) rfl)) (Xhp _ _)) (Zc (Jh rfl rfl) rfl)))) rfl) sl))))))⟩
theorem under {x m:Int}{k:Nat}(h:k<x.toNat)(hx:x<m+1):k<m.toNat:=by omega
theorem Xdw {P:Int→Prop}{l:List Int}{b:Int}(h:∀z∈l,P z)(hb:P b):∀z∈l++[b],P z:=List.forall_mem_append.mpr ⟨h,fun _ hz=>List.mem_singleton.mp hz▸hb⟩
theorem Xqd {k j m:Nat}(h:k<m)(hj:j<3):3*k+(j+6)<6+m*3:=by omega
theorem Xew (ns:List Int)(hn:ns.length≤63){i m:Int}(h0:0≤i)(h1:i<1000)(m0:0≤m)(m1:m≤8):∃ks,Zbh [.scr ns,.int i,.int m]=.ok (tD ks)∧(ks.length:Int)≤m∧Xnl ks:=by
  have m8:m.toNat≤8:=Int.toNat_le.mpr m1
  have m24:6+m.toNat*3≤30:=Nat.add_le_add_left (Nat.mul_le_mul_right 3 m8) 6
  have ms_eq:Jj (iD [m+1,4,4,4,16,4]) (iD (List.replicate m.toNat [11,40,6]).flatten)=some (iD ([m+1,4,4,4,16,4]++(List.replicate m.toNat [11,40,6]).flatten)):=Zgg (by
    rw [Zjo]
    exact le_trans m24 (by decide))
  have mr:=Xab (ws:=[11,40,6]) m0 (Int.le_trans m1 (by decide)) (by decide)
  have hml:([m+1,4,4,4,16,4]++(List.replicate m.toNat [(11:Int),40,6]).flatten).length=6+m.toNat*3:=by rw [length_append,Zjo];rfl
  obtain ⟨os,hos,R⟩:=Ztu ns hn h0 h1 ([m+1,4,4,4,16,4]++(List.replicate m.toNat [11,40,6]).flatten) (by rw [hml];exact le_trans m24 (by decide)) (Znu (List.forall_mem_append.mpr ⟨List.forall_mem_cons.mpr ⟨⟨Int.lt_add_one_of_le m0,Int.le_trans (Int.add_le_add_right m1 1) (by decide)⟩,by decide⟩,fun z hz=>(by decide:∀z∈[(11:Int),40,6],0<z∧z≤1000000) z (Xaf hz)⟩))
  have hol:os.length=6+m.toNat*3:=by rw [R.len,hml]
  have hlt:∀{j:Nat},j<6→j<([m+1,4,4,4,16,4]++(List.replicate m.toNat [(11:Int),40,6]).flatten).length:=fun h=>by rw [hml];exact lt_of_lt_of_le h (le_add_right _ _)
  have hlo:∀{j:Nat},j<6→j<os.length:=fun h=>by rw [hol];exact lt_of_lt_of_le h (le_add_right _ _)
  have tri:∀k j:Nat,k<m.toNat→j<3→3*k+(j+6)<6+m.toNat*3:=fun _ _ h hj=>Xqd h hj
  have a0:0≤os.getD 0 0∧os.getD 0 0<m+1:=R.at_ 0 (hlt (by decide))
  have a1:0≤os.getD 1 0∧os.getD 1 0<4:=R.at_ 1 (hlt (by decide))
  have a2:0≤os.getD 2 0∧os.getD 2 0<4:=R.at_ 2 (hlt (by decide))
  have a3:0≤os.getD 3 0∧os.getD 3 0<4:=R.at_ 3 (hlt (by decide))
  have a4:0≤os.getD 4 0∧os.getD 4 0<16:=R.at_ 4 (hlt (by decide))
  have a5:0≤os.getD 5 0∧os.getD 5 0<4:=R.at_ 5 (hlt (by decide))
  have b3:∀k:Nat,k<m.toNat→(0≤os.getD (3*k+6) 0∧os.getD (3*k+6) 0<11)∧(0≤os.getD (3*k+7) 0∧os.getD (3*k+7) 0<40)∧(0≤os.getD (3*k+8) 0∧os.getD (3*k+8) 0<6):=fun k hk=>by
    obtain ⟨g1,g2,g3⟩:=Zvv 11 40 6 m.toNat k hk
    have e:∀j:Nat,([m+1,4,4,4,16,4]++(List.replicate m.toNat [(11:Int),40,6]).flatten).getD (j+6) 0=(List.replicate m.toNat [(11:Int),40,6]).flatten.getD j 0:=fun j=>rfl
    have r1:=R.at_ (3*k+6) (by rw [hml];exact tri k 0 hk (by decide))
    have r2:=R.at_ (3*k+7) (by rw [hml];exact tri k 1 hk (by decide))
    have r3:=R.at_ (3*k+8) (by rw [hml];exact tri k 2 hk (by decide))
    rw [e (3*k),g1] at r1
    rw [show 3*k+7=(3*k+1)+6 from rfl,e (3*k+1),g2] at r2
    rw [show 3*k+8=(3*k+2)+6 from rfl,e (3*k+2),g3] at r3
    exact ⟨r1,r2,r3⟩
  have ix:∀k:Nat,k<os.length→∀j:Int,j=(k:Int)→gIx (.lst (os.map D.int)) (.int j)=some (.int (os.getD k 0)):=fun k hk j e=>Yz e hk
  obtain ⟨fl,hfl⟩:∃fl,fl=([1,1,7,100000000000000000]:List Int).getD (os.getD 1 0).toNat 0:=⟨_,rfl⟩
  obtain ⟨gn,hgn⟩:∃gn,gn=([1,1,1000000,25000000000000000]:List Int).getD (os.getD 2 0).toNat 0:=⟨_,rfl⟩
  have fl1:1≤fl∧fl≤100000000000000000:=by
    rw [hfl]
    exact Zck (P:=fun z=>1≤z∧z≤100000000000000000) (by decide) (show _<4 from (toNat_lt a1.1).mpr a1.2)
  have gn1:1≤gn∧gn≤25000000000000000:=by
    rw [hgn]
    exact Zck (P:=fun z=>1≤z∧z≤25000000000000000) (by decide) (show _<4 from (toNat_lt a2.1).mpr a2.2)
  have i1:gIx (.lst [.int 1,.int 1,.int 7,.int 100000000000000000]) (.int (os.getD 1 0))=some (.int fl):=by rw [hfl];exact Zih [1,1,7,100000000000000000] a1.1 a1.2
  have i2:gIx (.lst [.int 1,.int 1,.int 1000000,.int 25000000000000000]) (.int (os.getD 2 0))=some (.int gn):=by rw [hgn];exact Zih [1,1,1000000,25000000000000000] a2.1 a2.2
  have key:=Zdk (b:=Xo 8) (s:=Zcs) (xs:=Zdq 0 (os.getD 0 0).toNat) (ρ:=[some (.scr ns),some (.int i),some (.int m),some (.lst (Zby.map D.str)),some (iD os),some (.int fl),some (.int gn),some (.lst []),none,none,none,none,none,none])
    (P:=fun k ρ=>∃(ks:List Kd) (o8 o9 o10 o11 o12 o13:Option D),ks.length=k∧(∀x∈ks,Zuw x)∧ks.map (·.name)=(List.range k).map (nameAt (os.getD 4 0) (os.getD 5 0))∧ρ=[some (.scr ns),some (.int i),some (.int m),some (.lst (Zby.map D.str)),some (iD os),some (.int fl),some (.int gn),some (tD ks),o8,o9,o10,o11,o12,o13])
    (Rr:=fun r=>∃(ks:List Kd) (o8 o9 o10 o11 o12 o13:Option D),ks.length=(os.getD 0 0).toNat∧(∀x∈ks,Zuw x)∧ks.map (·.name)=(List.range ks.length).map (nameAt (os.getD 4 0) (os.getD 5 0))∧r=.ok (.nx [some (.scr ns),some (.int i),some (.int m),some (.lst (Zby.map D.str)),some (iD os),some (.int fl),some (.int gn),some (tD ks),o8,o9,o10,o11,o12,o13]))
    ⟨[],none,none,none,none,none,none,rfl,(fun _ h=>nomatch h),rfl,rfl⟩ ?_ ?_
  · obtain ⟨ks,o8,o9,o10,o11,o12,o13,kl,kok,knm,e⟩:=key
    have k8:ks.length≤8:=by rw [kl];exact Int.toNat_le.mpr (Int.le_trans (Int.lt_add_one_iff.mp a0.2) m1)
    refine ⟨ks,?_,by rw [kl,Int.toNat_of_nonneg a0.1];exact Int.lt_add_one_iff.mp a0.2,kok,?_⟩
    · have b1:-1000000000≤os.getD 0 0∧os.getD 0 0≤1000000:=⟨Int.le_trans (by decide) a0.1,Int.le_trans (Int.lt_add_one_iff.mp a0.2) (Int.le_trans m1 (by decide))⟩
      have hp:Jj (.lst [.str ("a":Str),.str ("ab":Str),.str ("abc":Str),.str ("b":Str),.str ("ba":Str),.str ("z":Str),.str ("zzzzzzzz":Str),.str ("roll":Str),.str ("cut":Str),.str ("by":Str)]) (.lst [.str ("aab":Str),.str ("zz":Str),.str ("kind":Str),.str ("qsvw":Str),.str ("fghjmp":Str),.str ("x":Str)])=some (.lst (Zby.map D.str)):=rfl
      have mr':Zcm (.lst [.int 11,.int 40,.int 6]) (.int m)=_:=mr
      have ms':Jj (.lst [.int (m+1),.int 4,.int 4,.int 4,.int 16,.int 4]) (iD (List.replicate m.toNat [11,40,6]).flatten)=_:=ms_eq
      generalize iD ([m+1,4,4,4,16,4]++(List.replicate m.toNat [11,40,6]).flatten)=Mv at hos ms'
      generalize iD (List.replicate m.toNat [11,40,6]).flatten=Mw at mr' ms'
      exact Je (Zo (Zu rfl) (Zo (Zu (Zl rfl rfl hp)) (Zo (Zu (Xl (Zc rfl (Zc rfl (Zc (Zl (Js (Zc (Zl rfl rfl rfl) rfl) rfl) (Zl rfl rfl mr') ms') rfl))) hos))
        (Zo (Zu (Jh (Zl (Js (Zc rfl (Zc rfl (Zc rfl (Zc (Zl rfl rfl Zvi) rfl)))) rfl) (Zl rfl rfl (ix 1 (hlo (by decide)) 1 rfl)) i1) rfl))
        (Zo (Zu (Jh (Zl (Js (Zc rfl (Zc rfl (Zc (Zl rfl rfl (show Zmw (.int 10) (.int 6)=some (.int 1000000) by simp)) (Zc (Zl rfl (Zl rfl rfl Xha) (show Zcm (.int 25) (.int 1000000000000000)=some (.int 25000000000000000) from Zud (by decide) (by decide))) rfl)))) rfl) (Zl rfl rfl (ix 2 (hlo (by decide)) 2 rfl)) i2) rfl))
        (Zo (Zu rfl) (Zo (Zdv (Znk (Zc (Zl rfl rfl (ix 0 (hlo (by decide)) 0 rfl)) rfl) b1) e) (Jf rfl))))))))
    · rw [knm,List.nodup_iff_pairwise_ne,List.pairwise_map]
      refine List.Pairwise.imp_of_mem ?_ (List.nodup_iff_pairwise_ne.mp List.nodup_range)
      intro i j hi hj hij e
      have hi:=List.mem_range.mp hi
      have hj:=List.mem_range.mp hj
      exact hij (Zwu a5.1 a5.2 (lt_of_lt_of_le hi (le_trans k8 (by decide))) (lt_of_lt_of_le hj (le_trans k8 (by decide))) e)
  · rintro k x ρ hx ⟨ks,o8,o9,o10,o11,o12,o13,kl,kok,knm,rfl⟩
    obtain ⟨hk,rfl⟩:=Zju hx
    rw [zero_add]
    have hkm:k<m.toNat:=under hk a0.2
    obtain ⟨c1,c2,c3⟩:=b3 k hkm
    have j0:=ix (3*k+6) (by rw [hol];exact tri k 0 hkm (by decide)) (3*k+6) rfl
    have j1:=ix (3*k+7) (by rw [hol];exact tri k 1 hkm (by decide)) (3*k+6+1) (Int.add_assoc _ 6 1)
    have j2:=ix (3*k+8) (by rw [hol];exact tri k 2 hkm (by decide)) (3*k+6+2) (Int.add_assoc _ 6 2)
    have j3:=ix 3 (hlo (by decide)) 3 rfl
    have j4:=ix 4 (hlo (by decide)) 4 rfl
    have j5:=ix 5 (hlo (by decide)) 5 rfl
    obtain ⟨bw,hbw⟩:∃bw,bw=([150,200]:List Int).getD ((k:Int) % 2).toNat 0:=⟨_,rfl⟩
    have k2:0≤(k:Int) % 2∧(k:Int) % 2<2:=⟨emod_nonneg _ (by decide),emod_lt_of_pos _ (by decide)⟩
    have bw1:1≤bw∧bw≤200:=by
      rw [hbw]
      exact Zck (P:=fun z=>1≤z∧z≤200) (by decide) (show _<2 from (toNat_lt k2.1).mpr k2.2)
    have ib:gIx (.lst [.int 150,.int 200]) (.int ((k:Int) % 2))=some (.int bw):=by rw [hbw];exact Zih [150,200] k2.1 k2.2
    obtain ⟨wd,hwd⟩:∃wd,wd=([1,2,3,4,5,6,2,3,11,40,bw]:List Int).getD (os.getD (3*k+6) 0).toNat 0:=⟨_,rfl⟩
    have wd1:1≤wd∧wd≤200:=by
      rw [hwd]
      exact Zck (P:=fun z=>1≤z∧z≤200) (Xdw (l:=[1,2,3,4,5,6,2,3,11,40]) (by decide) bw1) (show _<11 from (toNat_lt c1.1).mpr c1.2)
    have iw:gIx (.lst [.int 1,.int 2,.int 3,.int 4,.int 5,.int 6,.int 2,.int 3,.int 11,.int 40,.int bw]) (.int (os.getD (3*k+6) 0))=some (.int wd):=by rw [hwd];exact Zih [1,2,3,4,5,6,2,3,11,40,bw] c1.1 c1.2
    obtain ⟨am,ham⟩:∃am,am=([0,0,1,2,3,12]:List Int).getD (os.getD (3*k+8) 0).toNat 0:=⟨_,rfl⟩
    have am1:0≤am∧am≤12:=by
      rw [ham]
      exact Zck (P:=fun z=>0≤z∧z≤12) (by decide) (show _<6 from (toNat_lt c3.1).mpr c3.2)
    have ia:gIx (.lst [.int 0,.int 0,.int 1,.int 2,.int 3,.int 12]) (.int (os.getD (3*k+8) 0))=some (.int am):=by rw [ham];exact Zih [0,0,1,2,3,12] c3.1 c3.2
    have iN:=Xlr (i:=(os.getD 4 0+(2*os.getD 5 0+1)*(k:Int)) % 16) (emod_nonneg _ (by decide)) (emod_lt_of_pos _ (by decide))
    have sl:(ks.map kD).length<lim:=by rw [length_map,kl];exact lt_of_lt_of_le hkm (le_trans m8 (by decide))
    obtain ⟨wo,wo1,turn⟩:=Xgk (d0:=some (.scr ns)) (d1:=some (.int i)) (d2:=some (.int m)) (o9:=o9) (o10:=o10) (o11:=o11) (o12:=o12) (o13:=o13) (fl:=fl) (gn:=gn) j0 j1 j2 j3 j4 j5 ib iw ia iN wd1 c2 a3 a5 am1 sl
    have pr:0≤am*fl:=mul_nonneg am1.1 (Int.le_trans (by decide) fl1.1)
    have wg:1≤wo*gn:=Int.mul_le_mul wo1.1 gn1.1 (by decide) (Int.le_trans (by decide) wo1.1)
    have kd:Zuw ⟨nameAt (os.getD 4 0) (os.getD 5 0) k,wd,min (wo*gn) 1000000000000000000,min (am*fl) 999999999999999999⟩:=⟨Zxg _ _ _,wd1.1,wd1.2,Int.le_min.mpr ⟨wg,by decide⟩,Int.min_le_right _ _,Int.le_min.mpr ⟨pr,by decide⟩,Int.lt_of_le_of_lt (Int.min_le_right _ _) (by decide)⟩
    refine ⟨_,rfl,.inl ⟨[some (.scr ns),some (.int i),some (.int m),some (.lst (Zby.map D.str)),some (iD os),some (.int fl),some (.int gn),some (tD (ks++[⟨nameAt (os.getD 4 0) (os.getD 5 0) k,wd,min (wo*gn) 1000000000000000000,min (am*fl) 999999999999999999⟩])),some (.int k),some (.int (3*k+6)),some (.int wd),some (.int wo),some (.int (min (am*fl) 999999999999999999)),some (.str (nameAt (os.getD 4 0) (os.getD 5 0) k))],.inl ?_,_,_,_,_,_,_,_,?_,?_,?_,rfl⟩⟩
    · rw [show tD (ks++[⟨nameAt (os.getD 4 0) (os.getD 5 0) k,wd,min (wo*gn) 1000000000000000000,min (am*fl) 999999999999999999⟩])=.lst (ks.map kD++[.tup [.str (nameAt (os.getD 4 0) (os.getD 5 0) k),.int wd,.int (min (wo*gn) 1000000000000000000),.int (min (am*fl) 999999999999999999)]]) from congrArg D.lst map_append]
      exact turn
    · rw [length_append,kl];rfl
    · intro x hx
      rcases List.mem_append.mp hx with h | h
      · exact kok x h
      · rw [List.mem_singleton.mp h];exact kd
    · rw [map_append,knm,range_succ,map_append]
      rfl
  · rintro ρ ⟨ks,o8,o9,o10,o11,o12,o13,kl,kok,knm,rfl⟩
    rw [Zbd] at kl
    exact ⟨ks,o8,o9,o10,o11,o12,o13,kl,kok,by rw [kl];rw [Zbd] at knm;exact knm,rfl⟩
theorem Xmp (ns:List Int)(hn:ns.length≤63){i m:Int}(h0:0≤i)(h1:i<1000)(m0:0≤m)(m1:m≤1000):∃fl:Int,Zcf [.scr ns,.int i,.int m]=.ok (.int fl)∧1≤fl∧fl≤100000000000000000:=by
 obtain ⟨os,hos,R⟩:=Ztu ns hn h0 h1 [m+1,4] (by decide:2≤1000) (Znu (List.forall_mem_cons.mpr ⟨⟨by omega,by omega⟩,by decide⟩))
 have hol:os.length=2:=R.len
 have a1:0≤os.getD 1 0∧os.getD 1 0<4:=R.at_ 1 (by decide:1<2)
 obtain ⟨fl,hfl⟩:∃fl,fl=([1,1,7,100000000000000000]:List Int).getD (os.getD 1 0).toNat 0:=⟨_,rfl⟩
 have fl1:1≤fl∧fl≤100000000000000000:=by
  rw [hfl]
  exact Zck (P:=fun z=>1≤z∧z≤100000000000000000) (by decide) (show _<4 from (toNat_lt a1.1).mpr a1.2)
 have i1:gIx (.lst [.int 1,.int 1,.int 7,.int 100000000000000000]) (.int (os.getD 1 0))=some (.int fl):=by rw [hfl];exact Zih [1,1,7,100000000000000000] a1.1 a1.2
 have i0:=Yz (ns:=os) (i:=1) (k:=1) rfl (by rw [hol];decide)
 exact ⟨fl,Je (Jf (Jh (Zl (Js (Zc rfl (Zc rfl (Zc rfl (Zc (Zl rfl rfl Zvi) rfl)))) rfl) (Zl (Xl (Zc rfl (Zc rfl (Zc (Js (Zc (Zl rfl rfl rfl) rfl) rfl) rfl))) hos) rfl i0) i1) rfl)),fl1⟩
theorem Xny (ns:List Int)(hn:ns.length≤63){i m fl:Int}(h0:0≤i)(h1:i<1000)(m0:0≤m)(m1:m≤200)(f0:1≤fl)(f1:fl≤100000000000000000):∃ws,Zca [.scr ns,.int i,.int m,.int fl]=.ok (iD ws)∧(ws.length:Int)≤m∧∀w∈ws,0≤w∧w≤1000000000000000000:=by
  have ms_eq:Jj (iD [m+1,4,3]) (iD (List.replicate m.toNat [8,5]).flatten)=some (iD ([m+1,4,3]++(List.replicate m.toNat [8,5]).flatten)):=Zgg (by
    rw [Zjo]
    show 3+m.toNat*2≤1000000
    omega)
  have mr:=Xab (ws:=[8,5]) m0 (show m≤200 by omega) (by decide)
  have hml:([m+1,4,3]++(List.replicate m.toNat [(8:Int),5]).flatten).length=3+m.toNat*2:=by rw [length_append,Zjo];rfl
  obtain ⟨os,hos,R⟩:=Ztu ns hn h0 h1 ([m+1,4,3]++(List.replicate m.toNat [8,5]).flatten) (by omega) (Znu (List.forall_mem_append.mpr ⟨List.forall_mem_cons.mpr ⟨⟨by omega,by omega⟩,by decide⟩,fun z hz=>(by decide:∀z∈[(8:Int),5],0<z∧z≤1000000) z (Xaf hz)⟩))
  have hol:os.length=3+m.toNat*2:=by rw [R.len,hml]
  have hlt:∀{j:Nat},j<3→j<([m+1,4,3]++(List.replicate m.toNat [(8:Int),5]).flatten).length:=fun h=>by rw [hml];exact lt_of_lt_of_le h (le_add_right _ _)
  have hlo:∀{j:Nat},j<3→j<os.length:=fun h=>by rw [hol];exact lt_of_lt_of_le h (le_add_right _ _)
  have tri:∀k j:Nat,k<m.toNat→j<2→2*k+(j+3)<3+m.toNat*2:=fun k j h hj=>by omega
  have a0:0≤os.getD 0 0∧os.getD 0 0<m+1:=R.at_ 0 (hlt (by decide))
  have a1:0≤os.getD 1 0∧os.getD 1 0<4:=R.at_ 1 (hlt (by decide))
  have a2:0≤os.getD 2 0∧os.getD 2 0<3:=R.at_ 2 (hlt (by decide))
  have b2:∀k:Nat,k<m.toNat→(0≤os.getD (2*k+3) 0∧os.getD (2*k+3) 0<8)∧(0≤os.getD (2*k+4) 0∧os.getD (2*k+4) 0<5):=fun k hk=>by
    obtain ⟨g1,g2⟩:=Ztv 8 5 m.toNat k hk
    have e:∀j:Nat,([m+1,4,3]++(List.replicate m.toNat [(8:Int),5]).flatten).getD (j+3) 0=(List.replicate m.toNat [(8:Int),5]).flatten.getD j 0:=fun j=>rfl
    have r1:=R.at_ (2*k+3) (by rw [hml];exact tri k 0 hk (by decide))
    have r2:=R.at_ (2*k+4) (by rw [hml];exact tri k 1 hk (by decide))
    rw [e (2*k),g1] at r1
    rw [show 2*k+4=(2*k+1)+3 from rfl,e (2*k+1),g2] at r2
    exact ⟨r1,r2⟩
  have ix:∀k:Nat,k<os.length→∀j:Int,j=(k:Int)→gIx (.lst (os.map D.int)) (.int j)=some (.int (os.getD k 0)):=fun k hk j e=>Yz e hk
  obtain ⟨gr,hgr,gr1⟩:∃gr:Int,gr=(if os.getD 2 0=0 then 1000000000000000000 else 9*fl)∧0≤gr∧gr≤1000000000000000000:=by
    refine ⟨_,rfl,?_⟩
    split
    · exact ⟨by decide,by decide⟩
    · exact ⟨mul_nonneg (by decide) (Int.le_trans (by decide) f0),Int.le_trans (Int.mul_le_mul_of_nonneg_left f1 (by decide)) (by decide)⟩
  obtain ⟨th,hth⟩:∃th,th=([0,1,3,6]:List Int).getD (os.getD 1 0).toNat 0:=⟨_,rfl⟩
  have ith:gIx (.lst [.int 0,.int 1,.int 3,.int 6]) (.int (os.getD 1 0))=some (.int th):=by rw [hth];exact Zih [0,1,3,6] a1.1 a1.2
  have key:=Zdk (b:=Xo 7) (s:=Zgm) (xs:=Zdq 0 (os.getD 0 0).toNat) (ρ:=[some (.scr ns),some (.int i),some (.int m),some (.int fl),some (iD os),some (.int gr),some (.lst []),none,none,none])
    (P:=fun k ρ=>∃(ws:List Int) (o7 o8 o9:Option D),ws.length=k∧(∀x∈ws,0≤x∧x≤1000000000000000000)∧ρ=[some (.scr ns),some (.int i),some (.int m),some (.int fl),some (iD os),some (.int gr),some (iD ws),o7,o8,o9])
    (Rr:=fun r=>∃(ws:List Int) (o7 o8 o9:Option D),ws.length=(os.getD 0 0).toNat∧(∀x∈ws,0≤x∧x≤1000000000000000000)∧r=.ok (.nx [some (.scr ns),some (.int i),some (.int m),some (.int fl),some (iD os),some (.int gr),some (iD ws),o7,o8,o9]))
    ⟨[],none,none,none,rfl,(fun _ h=>nomatch h),rfl⟩ ?_ ?_
  · obtain ⟨ws,o7,o8,o9,wl,wok,e⟩:=key
    refine ⟨ws,?_,by omega,wok⟩
    have b1:-1000000000≤os.getD 0 0∧os.getD 0 0≤1000000:=by omega
    have mr':Zcm (.lst [.int 8,.int 5]) (.int m)=_:=mr
    have ms':Jj (.lst [.int (m+1),.int 4,.int 3]) (iD (List.replicate m.toNat [8,5]).flatten)=_:=ms_eq
    generalize iD ([m+1,4,3]++(List.replicate m.toNat [8,5]).flatten)=Mv at hos ms'
    generalize iD (List.replicate m.toNat [8,5]).flatten=Mw at mr' ms'
    have t1:Zcm (.int 9) (.int fl)=some (.int (9*fl)):=Zud (by decide) (by decide)
    have body:∀Q r,Q [some (.scr ns),some (.int i),some (.int m),some (.int fl),some (iD os),some (.int gr),none,none,none,none]=r→(Xp (Yg 5 (f2 Zcm (fC (.int 9)) (fV 3))) (Xp (sIf (cE (f2 gEq (f2 gIx (fV 4) (fC (.int 2))) (fC (.int 0)))) (Yg 5 (f2 Zmw (fC (.int 10)) (fC (.int 18)))) sNx) Q)) [some (.scr ns),some (.int i),some (.int m),some (.int fl),some (iD os),none,none,none,none,none]=r:=fun Q r h=>by
      have c:∀z:Option D,(cE (f2 gEq (f2 gIx (fV 4) (fC (.int 2))) (fC (.int 0)))) [some (.scr ns),some (.int i),some (.int m),some (.int fl),some (iD os),z,none,none,none,none]=.ok (os.getD 2 0==0):=fun z=>Yl (Zl (Zl rfl rfl (ix 2 (hlo (by decide)) 2 rfl)) rfl rfl)
      by_cases d:os.getD 2 0=0
      · rw [if_pos d] at hgr
        exact Zo (Zu (Zl rfl rfl t1)) (Zo (Zbc ((c _).trans (by rw [d];rfl)) (Zu (Zl rfl rfl Zji))) (by rw [hgr] at h;exact h))
      · rw [if_neg d] at hgr
        exact Zo (Zu (Zl rfl rfl t1)) (Zo (Yn ((c _).trans (congrArg Dl.R.ok (beq_false_of_ne d))) rfl) (by rw [hgr] at h;exact h))
    exact Je (Zo (Zu (Xl (Zc rfl (Zc rfl (Zc (Zl (Js (Zc (Zl rfl rfl rfl) rfl) rfl) (Zl rfl rfl mr') ms') rfl))) hos)) (body _ _ (Zo (Zu rfl) (Zo (Zdv (Znk (Zc (Zl rfl rfl (ix 0 (hlo (by decide)) 0 rfl)) rfl) b1) e) (Jf rfl)))))
  · rintro k x ρ hx ⟨ws,o7,o8,o9,wl,wok,rfl⟩
    obtain ⟨hk,rfl⟩:=Zju hx
    rw [zero_add]
    have hkm:k<m.toNat:=under hk a0.2
    obtain ⟨c1,c2⟩:=b2 k hkm
    have j0:=ix (2*k+3) (by rw [hol];exact tri k 0 hkm (by decide)) (2*k+3) rfl
    have j1:=ix (2*k+4) (by rw [hol];exact tri k 1 hkm (by decide)) (2*k+3+1) (Int.add_assoc _ 3 1)
    have jj:=ix 1 (hlo (by decide)) 1 rfl
    have sl:ws.length<lim:=by show _<1000000;omega
    obtain ⟨wt,hwt⟩:∃wt,wt=([fl,fl,2*fl,3*fl,gr]:List Int).getD (os.getD (2*k+4) 0).toNat 0:=⟨_,rfl⟩
    have wt1:0≤wt∧wt≤1000000000000000000:=by
      rw [hwt]
      have g:∀n:Int,1≤n→n≤3→0≤n*fl∧n*fl≤1000000000000000000:=fun n n0 n1=>⟨mul_nonneg (Int.le_trans (by decide) n0) (Int.le_trans (by decide) f0),Int.le_trans (Int.mul_le_mul n1 f1 (Int.le_trans (by decide) f0) (by decide)) (by decide)⟩
      have g1:0≤fl∧fl≤1000000000000000000:=⟨Int.le_trans (by decide) f0,Int.le_trans f1 (by decide)⟩
      exact Zck (P:=fun z=>0≤z∧z≤1000000000000000000) (List.forall_mem_cons.mpr ⟨g1,List.forall_mem_cons.mpr ⟨g1,List.forall_mem_cons.mpr ⟨g 2 (by decide) (by decide),List.forall_mem_cons.mpr ⟨g 3 (by decide) (by decide),List.forall_mem_cons.mpr ⟨gr1,fun _ h=>nomatch h⟩⟩⟩⟩⟩) (show _<5 from (toNat_lt c2.1).mpr c2.2)
    have iw:gIx (.lst [.int fl,.int fl,.int (2*fl),.int (3*fl),.int gr]) (.int (os.getD (2*k+4) 0))=some (.int wt):=by rw [hwt];exact Zih [fl,fl,2*fl,3*fl,gr] c2.1 c2.2
    have t1:Zcm (.int 2) (.int fl)=some (.int (2*fl)):=Zud (by decide) (by decide)
    have t2:Zcm (.int 3) (.int fl)=some (.int (3*fl)):=Zud (by decide) (by decide)
    have t3:Zcm (.int 2) (.int (k:Int))=some (.int (2*k)):=Zud (by decide) (by decide)
    have c:(cE (f2 gLt (f2 gIx (fV 4) (fV 8)) (f2 gIx (fA Ju (Zd (fC (.int 0)) (Zd (fC (.int 1)) (Zd (fC (.int 3)) (Zd (fC (.int 6)) Zt))))) (f2 gIx (fV 4) (fC (.int 1)))))) [some (.scr ns),some (.int i),some (.int m),some (.int fl),some (iD os),some (.int gr),some (iD ws),some (.int k),some (.int (2*k+3)),some (.int 0)]=.ok (decide (os.getD (2*k+3) 0<th)):=Yl (Zl (Zl rfl rfl j0) (Zl rfl (Zl rfl rfl jj) ith) (by simp))
    have sl':(ws.map D.int).length<lim:=by rw [length_map];exact sl
    have all:∀z:Int,0≤z∧z≤1000000000000000000→∀x∈ws++[z],0≤x∧x≤1000000000000000000:=fun z hz x hx=>by
      rcases List.mem_append.mp hx with h | h
      · exact wok x h
      · rw [List.mem_singleton.mp h];exact hz
    refine ⟨_,rfl,.inl ?_⟩
    by_cases d:os.getD (2*k+3) 0<th
    · refine ⟨[some (.scr ns),some (.int i),some (.int m),some (.int fl),some (iD os),some (.int gr),some (iD (ws++[wt])),some (.int k),some (.int (2*k+3)),some (.int wt)],.inl ?_,_,_,_,_,by rw [length_append,wl];rfl,all wt wt1,rfl⟩
      rw [show iD (ws++[wt])=.lst (ws.map D.int++[.int wt]) from congrArg D.lst map_append]
      exact Zo (Zu (Zl (Zl rfl rfl t3) rfl rfl)) (Zo (Zu rfl) (Zo (Zbc (c.trans (congrArg Dl.R.ok (decide_eq_true d))) (Zu (Jh (Zl (Js (Zc rfl (Zc rfl (Zc (Zl rfl rfl t1) (Zc (Zl rfl rfl t2) rfl)))) rfl) (Zl rfl (Zl rfl rfl rfl) j1) iw) rfl))) (Zge rfl (Jh rfl rfl) sl')))
    · refine ⟨[some (.scr ns),some (.int i),some (.int m),some (.int fl),some (iD os),some (.int gr),some (iD (ws++[0])),some (.int k),some (.int (2*k+3)),some (.int 0)],.inl ?_,_,_,_,_,by rw [length_append,wl];rfl,all 0 ⟨by decide,by decide⟩,rfl⟩
      rw [show iD (ws++[0])=.lst (ws.map D.int++[.int 0]) from congrArg D.lst map_append]
      exact Zo (Zu (Zl (Zl rfl rfl t3) rfl rfl)) (Zo (Zu rfl) (Zo (Yn (c.trans (congrArg Dl.R.ok (decide_eq_false d))) rfl) (Zge rfl (Jh rfl rfl) sl')))
  · rintro ρ ⟨ws,o7,o8,o9,wl,wok,rfl⟩
    rw [Zbd] at wl
    exact ⟨ws,o7,o8,o9,wl,wok,rfl⟩
theorem Zvq (ns:List Int)(hn:ns.length≤63){i m c:Int}(h0:0≤i)(h1:i<900)(m0:0≤m)(m1:m≤200)(c0:0≤c)(c1:c≤8):∃ws ks,Zam [.scr ns,.int i,.int m,.int c]=.ok (.tup [iD ws,tD ks])∧(ws.length:Int)≤m∧(∀w∈ws,0≤w∧w≤1000000000000000000)∧(ks.length:Int)≤c∧Xnl ks:=by
 obtain ⟨fl,e1,f0,f1⟩:=Xmp ns hn h0 (show i<1000 by omega) c0 (show c≤1000 by omega)
 obtain ⟨ws,e2,w1,w2⟩:=Xny ns hn (i:=i+1) (by omega) (by omega) m0 m1 f0 f1
 obtain ⟨ks,e3,k1,k2⟩:=Xew ns hn h0 (show i<1000 by omega) c0 c1
 exact ⟨ws,ks,Je (Zo (Zu (Xl (Zc rfl (Zc rfl (Zc rfl rfl))) e1)) (Jf (Js (Zc (Xl (Zc rfl (Zc (Zl rfl rfl rfl) (Zc rfl (Zc rfl rfl)))) e2) (Zc (Xl (Zc rfl (Zc rfl (Zc rfl rfl))) e3) rfl)) rfl))),w1,w2,k1,k2⟩
end Dl
namespace Dl
noncomputable def S:Nat→(Nat→Int)→Int
 | 0,_=>0
 | n+1,f=>S n f+f n
noncomputable def pth (e:Nat→Nat→Int)(a:Nat):Nat→List Int
 | 0=>[1]
 | d+1=>pth e a d++[S (d+1) fun i=>e (a+i) (a+d+1)*(pth e a d).getD i 0]
noncomputable def W (e:Nat→Nat→Int)(a d:Nat):Int:=(pth e a d).getD d 0
end Dl
namespace Dl
open PySem
theorem Zqn (ns:List Int)(ks:List Kd)(e:Int)(hk:ks.length≤1000)(hw:∀k∈ks,1≤k.w):Zbf [iD ns,tD ks,.int e]=.ok (tD (ks.filter fun k=>good ns k (e - k.w))):=by
 have hl:ks.length≤lim:=by show _≤1000000;omega
 have hc:=Zxe (n:=3) (ρ:=[some (iD ns),some (tD ks),some (.int e)]) (enc:=kD) (p:=fun k=>good ns k (e - k.w)) (v:=kD) (xs:=ks)
  (c:=cE (Xv Znd (Zd (fV 0) (Zd (fV 3) (Zd (f2 Zdy (fV 2) (f2 gIx (fV 3) (fC (.int 1)))) Zt))))) (e:=f1 Xs (fV 3)) rfl fun k hk=>by
   constructor
   ·simp [Xlv ns k (e - k.w) (hw k hk)]
   ·intro _;simp
 simp [Zbf,Zun,tD,hl] at hc ⊢
 simp [hc]
noncomputable def Xns (ns:List Int)(ks:List Kd)(cs:List Int):Int:=cs.getD (cs.length - 1) 0+((ks.filter fun k=>good ns k ((cs.length:Int) - k.w)).map fun k=>cs.getD ((cs.length:Int) - k.w).toNat 0).sum
noncomputable def cnts (ns:List Int)(ks:List Kd):Nat→List Int
 | 0=>[1]
 | j+1=>cnts ns ks j++[Xns ns ks (cnts ns ks j)]
noncomputable def cnt (ns:List Int)(ks:List Kd)(j:Nat):Int:=(cnts ns ks j).getD j 0
theorem Zdn {ns:List Int}{k:Kd}{p:Int}(h:good ns k p=true):0≤p∧p+k.w≤ns.length:=by
 have:=of_decide_eq_true h
 exact ⟨this.1,this.2.1⟩
theorem Zer {ns:List Int}{j:Nat}(h:ns.length=j+1):gIx (.lst (ns.map D.int)) (.int (-1))=some (.int (ns.getD j 0)):=by
 rw [Xdq (by intro z;rw [z] at h;simp at h),h,Nat.add_sub_cancel]
noncomputable abbrev Cut:=List (Int×Str)×Int
noncomputable def addK (ns:List Int)(rows:List (List Cut))(e:Nat)(k:Kd):List Cut:=if good ns k ((e:Int) - k.w)=true then (rows.getD ((e:Int) - k.w).toNat []).map fun c=>(c.1++[((e:Int) - k.w,k.name)],c.2+k.wo) else []
noncomputable def rowOf (ns:List Int)(ks:List Kd)(rows:List (List Cut)):List Cut:=rows.getD (rows.length - 1) []++(ks.map (addK ns rows rows.length)).flatten
noncomputable def Xrg (ns:List Int)(ks:List Kd):Nat→List (List Cut)
 | 0=>[[([],0)]]
 | j+1=>Xrg ns ks j++[rowOf ns ks (Xrg ns ks j)]
mutual
theorem Zup:∀d:D,dep d≤20→eqv d d=true
 | .non,_=>rfl
 | .bl b,_=>beq_self_eq_true b
 | .int b,_=>beq_self_eq_true b
 | .str b,_=>beq_self_eq_true b
 | .lst xs,h=>Zjq xs (Nat.le_of_succ_le h)
 | .tup xs,h=>Zjq xs (Nat.le_of_succ_le h)
 | .scr _,h=>absurd h (by decide:¬100≤20)
 | .rng _ _,h=>absurd h (by decide:¬100≤20)
 | .exc _ _,h=>absurd h (by decide:¬100≤20)
 | .obj _ _ _,h=>absurd h (by decide:¬100≤20)
 | .dct _ _,h=>absurd h (by decide:¬100≤20)
 | .dtt _ _,h=>absurd h (by decide:¬100≤20)
theorem Zjq:∀xs:List D,Zho xs≤20→Xmh xs xs=true
 | [],_=>rfl
 | x::xs,h=>by
  have a:dep x≤20∧Zho xs≤20:=Nat.max_le.mp h
  show (eqv x x&&Xmh xs xs)=true
  rw [Zup x a.1,Zjq xs a.2]
  rfl
end
theorem Zuv {d:D}(h:dep d≤20):gEq d d=some (.bl true):=by
 unfold gEq
 rw [if_pos ⟨h,h⟩,Zup d h]
theorem Zvt {α:Type}{f:α→D}{n:Nat}(h:∀a,dep (f a)≤n):∀xs:List α,Zho (xs.map f)≤n
 | []=>zero_le _
 | x::xs=>by
  rw [map_cons,Zho]
  have:=h x
  have:=Zvt h xs
  omega
theorem Xtn (ns:List Int):dep (iD ns)≤1:=by
 rw [iD,dep]
 have:=Zvt (f:=D.int) (n:=0) (fun _=>by simp [dep]) ns
 omega
theorem Ziu:∀(r:List Int) (x:Int),x≤r.foldl max x∧∀y∈r,y≤r.foldl max x
 | [],x=>⟨Int.le_refl _,fun _ h=>nomatch h⟩
 | z::r,x=>by
  obtain ⟨h1,h2⟩:=Ziu r (max x z)
  rw [foldl_cons]
  refine ⟨by omega,fun y hy=>?_⟩
  rcases List.mem_cons.mp hy with e | e
  ·subst e;omega
  ·exact h2 y e
theorem Zhc:∀(r:List Int) (x:Int),r.foldl max x=x∨r.foldl max x∈r
 | [],x=>.inl rfl
 | z::r,x=>by
  rw [foldl_cons]
  rcases Zhc r (max x z) with h | h
  ·rw [h]
   by_cases hz:z≤x
   ·exact .inl (by omega)
   ·refine .inr ?_
    rw [show max x z=z by omega]
    exact .head _
  ·exact .inr (.tail _ h)
theorem Zyz {xs:List Int}{y:Int}(h:y∈xs):y≤Zxr xs:=by
 cases xs with
 | nil=>cases h
 | cons x r =>
  obtain ⟨h1,h2⟩:=Ziu r x
  show y≤r.foldl max x
  rcases List.mem_cons.mp h with e | e
  ·subst e;exact h1
  ·exact h2 y e
theorem Zub {xs:List Int}(h:xs≠[]):Zxr xs∈xs:=by
 cases xs with
 | nil=>exact absurd rfl h
 | cons x r =>
  show r.foldl max x∈_
  rcases Zhc r x with e | e
  ·rw [e];exact .head _
  ·exact .tail _ e
theorem Xkm {xs:List Int}{m:Int}(h:m∈xs)(h':∀y∈xs,y≤m):Zxr xs=m:=by
 have a:=Zyz h
 have b:=h' _ (Zub (xs:=xs) fun e=>by rw [e] at h;cases h)
 omega
noncomputable def Zew (ns:List Int)(ks:List Kd)(ts:List Int):Int:=Zxr (ts.getD (ts.length - 1) 0::(ks.filter fun k=>good ns k ((ts.length:Int) - k.w)).map fun k=>ts.getD ((ts.length:Int) - k.w).toNat 0+k.wo)
noncomputable def hts (ns:List Int)(ks:List Kd):Nat→List Int
 | 0=>[0]
 | j+1=>hts ns ks j++[Zew ns ks (hts ns ks j)]
theorem Jb (ns:List Int)(ks:List Kd):∀j,(hts ns ks j).length=j+1
 | 0=>rfl
 | j+1=>by rw [hts,length_append,Jb ns ks j];rfl
noncomputable def ht (ns:List Int)(ks:List Kd)(j:Nat):Int:=(hts ns ks j).getD j 0
theorem Zcl (ns:List Int)(ks:List Kd):∀(j i:Nat),i≤j→(hts ns ks j).getD i 0=ht ns ks i
 | 0,i,h=>by
  have:i=0:=by omega
  subst this
  rfl
 | j+1,i,h=>by
  by_cases e:i=j+1
  ·subst e;rfl
  ·have:=Jb ns ks j
   rw [← Zcl ns ks j i (by omega),hts]
   simp only [List.getD]
   rw [getElem?_append_left (by omega)]
theorem Znr (ns:List Int)(ks:List Kd)(hw:∀k∈ks,1≤k.w)(j:Nat):ht ns ks (j+1)=Zxr (ht ns ks j::(ks.filter fun k=>good ns k ((j+1:Nat) - k.w)).map fun k=>ht ns ks (((j+1:Nat):Int) - k.w).toNat+k.wo):=by
 have hl:=Jb ns ks j
 have e:ht ns ks (j+1)=Zew ns ks (hts ns ks j):=by
  unfold ht
  rw [hts]
  simp only [List.getD]
  rw [getElem?_append_right (by omega),hl]
  simp
 rw [e,Zew,hl,show j+1 - 1=j by omega,Zcl ns ks j j (le_refl _)]
 congr 2
 refine List.map_congr_left fun k hk=>?_
 obtain ⟨k1,k2⟩:=List.mem_filter.mp hk
 have:=Zdn k2
 have:=hw k k1
 rw [Zcl ns ks j _ (by omega)]
theorem Xmr (ns:List Int)(ks:List Kd)(hw:∀k∈ks,1≤k.w)(j:Nat):ht ns ks j≤ht ns ks (j+1):=by
 rw [Znr ns ks hw j]
 exact Zyz (.head _)
theorem ht_is (ns:List Int)(ks:List Kd)(hw:∀k∈ks,1≤k.w)(j:Nat):ht ns ks (j+1)=ht ns ks j∨∃k∈ks,good ns k ((j+1:Nat) - k.w)=true∧ht ns ks (((j+1:Nat):Int) - k.w).toNat+k.wo=ht ns ks (j+1):=by
 have h:=Zub (xs:=ht ns ks j::(ks.filter fun k=>good ns k ((j+1:Nat) - k.w)).map fun k=>ht ns ks (((j+1:Nat):Int) - k.w).toNat+k.wo) (fun e=>nomatch e)
 rw [← Znr ns ks hw j] at h
 rcases List.mem_cons.mp h with e | e
 ·exact .inl e
 ·obtain ⟨k,k1,k2⟩:=List.mem_map.mp e
  obtain ⟨k3,k4⟩:=List.mem_filter.mp k1
  exact .inr ⟨k,k3,k4,k2⟩
theorem Zlg (ns:List Int)(ks:List Kd)(ts:List Int){j:Nat}(hl:ts.length=j+1)(hj:j<1000)(hk:ks.length≤1000)(hw:∀k∈ks,1≤k.w):Zaz [iD ns,tD ks,iD ts]=.ok (.int (Zew ns ks ts)):=by
 have he:=Zqn ns ks (ts.length:Int) hk hw
 have hc:=Zzu (n:=5) (ρ:=[some (iD ns),some (tD ks),some (iD ts),some (.int ts.length),none]) (enc:=kD) (v:=fun k:Kd=>.int (ts.getD ((ts.length:Int) - k.w).toNat 0+k.wo)) (xs:=ks.filter fun k=>good ns k ((ts.length:Int) - k.w))
  (e:=f2 Jj (f2 gIx (fV 2) (f2 Zdy (fV 3) (f2 gIx (fV 5) (fC (.int 1))))) (f2 gIx (fV 5) (fC (.int 2)))) rfl fun k hk=>by
   obtain ⟨k1,k2⟩:=List.mem_filter.mp hk
   have bd:=Zdn k2
   have hw1:=hw k k1
   have ix:=Yz (ns:=ts) (i:=(ts.length:Int) - k.w) (k:=((ts.length:Int) - k.w).toNat) (by omega) (by omega)
   have ix':gIx (iD ts) (.int ((ts.length:Int) - k.w))=_:=ix
   exact Zl (Zl rfl (Zl rfl (Zl rfl rfl (Zre k)) rfl) ix') (Zl rfl rfl (Xqv k)) rfl
 have hlast:=Zer (ns:=ts) hl
 have hlast':gIx (iD ts) (.int (-1))=_:=hlast
 have hlen:Zac [iD ts]=some (.int ts.length):=by simp [iD]
 have hf:(ks.filter fun k=>good ns k ((ts.length:Int) - k.w)).length≤ks.length:=length_filter_le _ _
 unfold Zew
 rw [show ts.length - 1=j by omega]
 have hmm:((ks.filter fun k=>good ns k ((ts.length:Int) - k.w)).map fun k:Kd=>D.int (ts.getD ((ts.length:Int) - k.w).toNat 0+k.wo))=((ks.filter fun k=>good ns k ((ts.length:Int) - k.w)).map fun k:Kd=>ts.getD ((ts.length:Int) - k.w).toNat 0+k.wo).map D.int:=by rw [map_map];rfl
 rw [hmm] at hc
 have hML:((ks.filter fun k=>good ns k ((ts.length:Int) - k.w)).map fun k:Kd=>ts.getD ((ts.length:Int) - k.w).toNat 0+k.wo).length≤1000:=by rw [length_map];omega
 have he':Zbf [iD ns,tD ks,.int ts.length]=.ok (.lst ((ks.filter fun k=>good ns k ((ts.length:Int) - k.w)).map kD)):=he
 have hEL':((ks.filter fun k=>good ns k ((ts.length:Int) - k.w)).map kD).length≤lim:=by rw [length_map];show _≤1000000;omega
 have ha:=Zgg (xs:=[ts.getD j 0]) (ys:=(ks.filter fun k=>good ns k ((ts.length:Int) - k.w)).map fun k:Kd=>ts.getD ((ts.length:Int) - k.w).toNat 0+k.wo) (by rw [length_singleton];omega)
 have hmx:=Zux (ns:=ts.getD j 0::(ks.filter fun k=>good ns k ((ts.length:Int) - k.w)).map fun k:Kd=>ts.getD ((ts.length:Int) - k.w).toNat 0+k.wo) (by simp)
 exact Je (Zo (Zu (Js (Zc rfl rfl) hlen)) (Zo (Zu (Zkl rfl (Zcc (Xl (Zc rfl (Zc rfl (Zc rfl rfl))) he') hEL') hc)) (Jf (Js (Zc (Zl (Js (Zc (Zl rfl (Jh rfl rfl) hlast') rfl) rfl) rfl ha) rfl) hmx))))
theorem Zwn (ns:List Int)(ks:List Kd)(hn:ns.length≤900)(hk:ks.length≤1000)(hw:∀k∈ks,1≤k.w):Zda [iD ns,tD ks]=.ok (iD (hts ns ks ns.length)):=by
  have h:=Xfz (c:=cE (f2 gLe (fA Zac (Zd (fV 2) Zt)) (fA Zac (Zd (fV 0) Zt)))) (s:=Zky) (n:=100000) (ρ:=[some (iD ns),some (tD ks),some (.lst [.int 0])]) ns.length (fun i=>[some (iD ns),some (tD ks),some (iD (hts ns ks i))]) rfl (by omega) (fun i hi=>by
      have hl:=Jb ns ks i
      have nt:=Zlg ns ks (hts ns ks i) (j:=i) hl (by omega) hk hw
      have l1:Zac [iD (hts ns ks i)]=some (.int ((i+1:Nat):Int)):=by simp [iD,hl]
      have l2:Zac [iD ns]=some (.int ns.length):=by simp [iD]
      have e1:iD (hts ns ks (i+1))=.lst ((hts ns ks i).map D.int++[.int (Zew ns ks (hts ns ks i))]):=by
        rw [hts,iD,map_append]
        rfl
      refine ⟨?_,?_⟩
      · exact Yl (Zl (Js (Zc rfl rfl) l1) (Js (Zc rfl rfl) l2) (Zri (Int.ofNat_le.mpr hi)))
      · have hlim':((hts ns ks i).map D.int).length<lim:=by rw [length_map,hl];show _<1000000;omega
        rw [e1]
        exact Zge rfl (Xl (Zc rfl (Zc rfl (Zc rfl rfl))) nt) hlim') (by
      have hl:=Jb ns ks ns.length
      have l1:Zac [iD (hts ns ks ns.length)]=some (.int ((ns.length+1:Nat):Int)):=by simp [iD,hl]
      have l2:Zac [iD ns]=some (.int ns.length):=by simp [iD]
      generalize iD ns=A at *
      generalize iD (hts ns ks ns.length)=T at *
      simp [l1,l2]
      omega)
  generalize iD ns=A at *
  generalize tD ks=B at *
  generalize iD (hts ns ks ns.length)=T at *
  simp [Zda,Zql,h]
theorem eq_str (a b:Str):gEq (.str a) (.str b)=some (.bl (a==b)):=rfl
theorem eq_int (a b:Int):gEq (.int a) (.int b)=some (.bl (a==b)):=rfl
theorem ne_int (a b:Int):gNe (.int a) (.int b)=some (.bl (!(a==b))):=rfl
theorem Zrc {ns:List Int}{k:Kd}{p:Int}{c:Nat}(h0:1≤k.w)(h:p+k.w≤c)(hc:c≤ns.length):good (ns.take c) k p=good ns k p:=by
 have pt:∀i,i≤c→pre (ns.take c) i=pre ns i:=fun i hi=>by
  unfold pre
  rw [List.take_take,min_eq_left hi]
 unfold good
 apply decide_eq_decide.mpr
 have hl:(ns.take c).length=c:=by rw [length_take];omega
 constructor
 ·rintro ⟨a1,a2,a3⟩
  rw [pt _ (by omega),pt _ (by omega)] at a3
  exact ⟨a1,by omega,a3⟩
 ·rintro ⟨a1,a2,a3⟩
  rw [hl,pt _ (by omega),pt _ (by omega)]
  exact ⟨a1,by omega,a3⟩
theorem Zxw {ns:List Int}{ks:List Kd}(hw:∀k∈ks,1≤k.w){c:Nat}(hc:c≤ns.length):∀j,j≤c→ht (ns.take c) ks j=ht ns ks j:=by
 intro j
 induction j using Nat.strongRecOn with
 | _ j ih =>
  intro hj
  cases j with
  | zero=>rfl
  | succ j =>
   rw [Znr _ ks hw j,Znr ns ks hw j,ih j (by omega) (by omega)]
   have e:(ks.filter fun k=>good (ns.take c) k ((j+1:Nat) - k.w))=ks.filter fun k=>good ns k ((j+1:Nat) - k.w):=List.filter_congr fun k hk=>Zrc (hw k hk) (by omega) hc
   rw [e]
   congr 2
   refine List.map_congr_left fun k hk=>?_
   obtain ⟨k1,k2⟩:=List.mem_filter.mp hk
   have:=Zdn k2
   have:=hw k k1
   rw [ih _ (by omega) (by omega)]
inductive Way (ns:List Int)(ks:List Kd):Nat→Nat→Int→Prop where
 | nil (a:Nat):Way ns ks a a 0
 | skip {a b:Nat} {w:Int}:Way ns ks a b w→b+1≤ns.length→Way ns ks a (b+1) w
 | piece {a b:Nat} {w:Int} {k:Kd}:Way ns ks a b w→k∈ks→good ns k (b:Int)=true→Way ns ks a (b+k.w.toNat) (w+k.wo)
section
variable {ns:List Int}{ks:List Kd}
end
theorem Zox (ns:List Int)(ks:List Kd)(ts:List Int)(e:Int):∀(l:List Kd) (m:Int),l.foldl (fun m k=>if good ns k (e - k.w)=true then max m (ts.getD (e - k.w).toNat 0+k.wo) else m) m=((l.filter fun k=>good ns k (e - k.w)).map fun k=>ts.getD (e - k.w).toNat 0+k.wo).foldl max m
 | [],m=>rfl
 | k::l,m=>by
  rw [foldl_cons,Zox ns ks ts e l]
  by_cases h:good ns k (e - k.w)=true
  ·rw [if_pos h,List.filter_cons_of_pos (p:=fun k:Kd=>good ns k (e - k.w)) h,map_cons,foldl_cons]
  ·rw [if_neg h,List.filter_cons_of_neg (p:=fun k:Kd=>good ns k (e - k.w)) h]
theorem Zdg (ns:List Int)(ks:List Kd)(hn:ns.length≤900)(hk:ks.length≤1000)(hw:∀k∈ks,1≤k.w):Xg [iD ns,tD ks]=.ok (iD (hts ns ks ns.length)):=by
  have hsum:=Zto ns (by omega)
  have hsl:=Zjh ns
  have hkl:(ks.map kD).length≤lim:=by rw [length_map];show _≤1000000;omega
  have inner:∀(j:Nat),j<ns.length→∀(o6 o7:Option D),∃o6' o7',Zdw (Xo 6) Zdt (ks.map kD) [some (iD ns),some (tD ks),some (iD (Xt ns)),some (iD (hts ns ks j)),some (.int ((j+1:Nat):Int)),some (.int (ht ns ks j)),o6,o7] =
      .ok (.nx [some (iD ns),some (tD ks),some (iD (Xt ns)),some (iD (hts ns ks j)),some (.int ((j+1:Nat):Int)),some (.int (Zew ns ks (hts ns ks j))),o6',o7']):=by
    intro j hj o6 o7
    have hl:=Jb ns ks j
    refine Zdk (P:=fun i ρ=>∃o6 o7,ρ=[some (iD ns),some (tD ks),some (iD (Xt ns)),some (iD (hts ns ks j)),some (.int ((j+1:Nat):Int)),some (.int ((ks.take i).foldl (fun m k=>if good ns k (((j+1:Nat):Int) - k.w)=true then max m ((hts ns ks j).getD (((j+1:Nat):Int) - k.w).toNat 0+k.wo) else m) (ht ns ks j))),o6,o7])
      (Rr:=fun r=>∃o6' o7',r=.ok (.nx [some (iD ns),some (tD ks),some (iD (Xt ns)),some (iD (hts ns ks j)),some (.int ((j+1:Nat):Int)),some (.int (Zew ns ks (hts ns ks j))),o6',o7'])) ⟨o6,o7,rfl⟩ ?_ ?_
    · rintro i x ρ hx ⟨a6,a7,rfl⟩
      rw [getElem?_map] at hx
      obtain ⟨k,hk',rfl⟩:=Option.map_eq_some_iff.mp hx
      have hkm:=mem_of_getElem? hk'
      have hw1:=hw k hkm
      rw [List.take_add_one,hk']
      simp only [Option.toList_some,List.foldl_append,foldl_cons,List.foldl_nil]
      generalize (ks.take i).foldl (fun m k=>if good ns k (((j+1:Nat):Int) - k.w)=true then max m ((hts ns ks j).getD (((j+1:Nat):Int) - k.w).toNat 0+k.wo) else m) (ht ns ks j)=M
      have hg:=Xbg ns k (((j+1:Nat):Int) - k.w) hw1
      refine ⟨_,rfl,.inl ?_⟩
      cases hgv:good ns k (((j+1:Nat):Int) - k.w) with
      | false =>
        rw [hgv] at hg
        rw [if_neg (by simp)]
        refine ⟨[some (iD ns),some (tD ks),some (iD (Xt ns)),some (iD (hts ns ks j)),some (.int ((j+1:Nat):Int)),some (.int M),some (kD k),some (.int (((j+1:Nat):Int) - k.w))],.inl ?_,_,_,rfl⟩
        exact Zo (Zu (Zl rfl (Zl rfl rfl (Zre k)) rfl)) (Yn (Yl (Xl (Zc rfl (Zc rfl (Zc rfl rfl))) hg)) rfl)
      | true =>
        rw [hgv] at hg
        rw [if_pos rfl]
        have bd:=Zdn hgv
        have ix:=Yz (ns:=hts ns ks j) (i:=((j+1:Nat):Int) - k.w) (k:=(((j+1:Nat):Int) - k.w).toNat) (by omega) (by omega)
        have ix':gIx (iD (hts ns ks j)) (.int (((j+1:Nat):Int) - k.w))=_:=ix
        refine ⟨[some (iD ns),some (tD ks),some (iD (Xt ns)),some (iD (hts ns ks j)),some (.int ((j+1:Nat):Int)),some (.int (max M ((hts ns ks j).getD (((j+1:Nat):Int) - k.w).toNat 0+k.wo))),some (kD k),some (.int (((j+1:Nat):Int) - k.w))],.inl ?_,_,_,rfl⟩
        exact Zo (Zu (Zl rfl (Zl rfl rfl (Zre k)) rfl)) (Zbc (Yl (Xl (Zc rfl (Zc rfl (Zc rfl rfl))) hg)) (Zu (Js (Zc rfl (Zc (Zl (Zl rfl rfl ix') (Zl rfl rfl (Xqv k)) rfl) rfl)) (Xrk _ _))))
    · rintro ρ ⟨a6,a7,rfl⟩
      refine ⟨a6,a7,?_⟩
      rw [length_map,take_of_length_le (le_refl _),Zox ns ks]
      have e:Zew ns ks (hts ns ks j)=((ks.filter fun k=>good ns k (((j+1:Nat):Int) - k.w)).map fun k=>(hts ns ks j).getD (((j+1:Nat):Int) - k.w).toNat 0+k.wo).foldl max (ht ns ks j):=by
        unfold Zew Zxr
        rw [hl,show j+1 - 1=j by omega]
        rfl
      rw [e]
  have hf:=Zdk (b:=Xo 4) (s:=Zdr) (xs:=Zdq 1 ns.length) (ρ:=[some (iD ns),some (tD ks),some (iD (Xt ns)),some (.lst [.int 0]),none,none,none,none])
    (P:=fun j ρ=>∃o4 o5 o6 o7,ρ=[some (iD ns),some (tD ks),some (iD (Xt ns)),some (iD (hts ns ks j)),o4,o5,o6,o7]) (Rr:=fun r=>∃o4 o5 o6 o7,r=.ok (.nx [some (iD ns),some (tD ks),some (iD (Xt ns)),some (iD (hts ns ks ns.length)),o4,o5,o6,o7])) ⟨none,none,none,none,rfl⟩ (by
      rintro j x ρ hx ⟨o4,o5,o6,o7,rfl⟩
      obtain ⟨hj,rfl⟩:=Zju hx
      have e1:(1:Int)+(j:Int)=((j+1:Nat):Int):=by omega
      rw [e1]
      obtain ⟨o6',o7',hin⟩:=inner j hj o6 o7
      have hl:=Jb ns ks j
      have ix:=Zer (ns:=hts ns ks j) hl
      rw [Zcl ns ks j j (le_refl _)] at ix
      have hlim:((hts ns ks j).map D.int).length<lim:=by rw [length_map,hl];show _<1000000;omega
      refine ⟨_,rfl,.inl ⟨[some (iD ns),some (tD ks),some (iD (Xt ns)),some (iD (hts ns ks (j+1))),some (.int ((j+1:Nat):Int)),some (.int (Zew ns ks (hts ns ks j))),o6',o7'],.inl ?_,_,_,_,_,rfl⟩⟩
      have e:iD (hts ns ks (j+1))=.lst ((hts ns ks j).map D.int++[.int (Zew ns ks (hts ns ks j))]):=by
        rw [hts,iD,map_append]
        rfl
      rw [e]
      exact Zo (Zu (Jh (Zl rfl (Jh rfl rfl) ix) rfl)) (Zo (Zdv (Zcc rfl hkl) hin) (Zge rfl (Jh rfl rfl) hlim))) (fun ρ h=>by
      obtain ⟨o4,o5,o6,o7,rfl⟩:=h
      rw [Zbd]
      exact ⟨_,_,_,_,rfl⟩)
  obtain ⟨o4,o5,o6,o7,hf⟩:=hf
  have l1:Zac [iD (Xt ns)]=some (.int ((ns.length:Int)+1)):=by simp [iD,hsl]
  have b1:-1000000000≤(1:Int)∧(1:Int)≤1000000000∧-1000000000≤(ns.length:Int)+1∧(ns.length:Int)+1≤1000000000∧((ns.length:Int)+1 - 1).toNat≤lim:=⟨by omega,by omega,by omega,by omega,by show _≤1000000;omega⟩
  have b2:((ns.length:Int)+1 - 1).toNat=ns.length:=by omega
  have rg:Zgk [.int 1,.int ((ns.length:Int)+1)]=.ok (Zdq 1 ns.length):=by unfold Zgk;simp only [];rw [if_pos b1,b2]
  exact Je (Zo (Zu (Xl (Zc rfl rfl) hsum)) (Zo (Zu rfl) (Zo (Zdv (Zze (Zc rfl (Zc (Js (Zc rfl rfl) l1) rfl)) rg) hf) (Jf rfl))))
noncomputable def V {α:Type}:R α→(α→Prop)→Prop
 | .ok a,Q=>Q a
 | .err _ _,_=>False
 | .bad,_=>False
@[simp] theorem V_ok {α:Type}(a:α)(Q:α→Prop):V (.ok a) Q=Q a:=(rfl)
theorem Zpo {α β:Type}(r:R α)(f:α→R β)(Q:β→Prop):V (r.bind f) Q=V r fun a=>V (f a) Q:=by cases r<;>rfl
theorem V.imp {α:Type}{r:R α}{Q Q':α→Prop}(h:V r Q)(g:∀a,Q a→Q' a):V r Q':=by
 cases r with
 | ok a=>exact g a h
 | err _ _=>exact h
 | bad=>exact h
theorem V.ex {α:Type}{r:R α}{Q:α→Prop}(h:V r Q):∃a,r=.ok a∧Q a:=by
 cases r with
 | ok a=>exact ⟨a,rfl,h⟩
 | err _ _=>exact h.elim
 | bad=>exact h.elim
theorem V.eq {α:Type}{r:R α}{a:α}(h:V r (·=a)):r=.ok a:=by
 obtain ⟨b,e,rfl⟩:=h.ex
 exact e
theorem V.of {α:Type}{r:R α}{a:α}{Q:α→Prop}(e:r=.ok a)(h:Q a):V r Q:=by rw [e];exact h
noncomputable def turn (b:FB)(s:FS)(x:D)(ρ:Env):R Fl:=(b x ρ).calm.bind s
noncomputable def Tn (P:Env→Prop)(Q:Fl→Prop):Fl→Prop
 | .nx ρ=>P ρ
 | .cnt ρ=>P ρ
 | .brk ρ=>Q (.nx ρ)
 | .ret d=>Q (.ret d)
@[simp] theorem Tn_nx (P:Env→Prop)(Q:Fl→Prop)(ρ:Env):Tn P Q (.nx ρ)=P ρ:=(rfl)
@[simp] theorem Tn_cnt (P:Env→Prop)(Q:Fl→Prop)(ρ:Env):Tn P Q (.cnt ρ)=P ρ:=(rfl)
@[simp] theorem Tn_brk (P:Env→Prop)(Q:Fl→Prop)(ρ:Env):Tn P Q (.brk ρ)=Q (.nx ρ):=(rfl)
@[simp] theorem Tn_ret (P:Env→Prop)(Q:Fl→Prop)(d:D):Tn P Q (.ret d)=Q (.ret d):=(rfl)
theorem Xbf {b:FB}{s:FS}{Q:Fl→Prop}{P:List D→Env→Prop}(hs:∀x r ρ,P (x::r) ρ→V (turn b s x ρ) (Tn (P r) Q))(hd:∀ρ,P [] ρ→Q (.nx ρ)):∀{xs:List D} {ρ:Env},P xs ρ→V (Zdw b s xs ρ) Q
 | [],ρ,h=>hd ρ h
 | x::xs,ρ,h=>by
  have t:=hs x xs ρ h
  unfold turn at t
  rw [Zpo] at t
  rw [Zqh,Zpo]
  refine t.imp fun ρ1 q=>?_
  rw [Zpo]
  refine q.imp fun fl q=>?_
  cases fl with
  | nx ρ2=>exact Xbf hs hd q
  | cnt ρ2=>exact Xbf hs hd q
  | brk ρ2=>exact q
  | ret d=>exact q
theorem Zoy {α:Type}{enc:α→D}{b:FB}{s:FS}{Q:Fl→Prop}{P:List α→Env→Prop}(hs:∀x r ρ,P (x::r) ρ→V (turn b s (enc x) ρ) (Tn (P r) Q))(hd:∀ρ,P [] ρ→Q (.nx ρ)){xs:List α}{ρ:Env}(h:P xs ρ):V (Zdw b s (xs.map enc) ρ) Q:=by
 refine Xbf (P:=fun ds ρ=>∃ys:List α,ds=ys.map enc∧P ys ρ) (fun x r ρ p=>?_) (fun ρ p=>?_) ⟨xs,rfl,h⟩
 ·obtain ⟨ys,e,p⟩:=p
  cases ys with
  | nil=>cases e
  | cons y ys =>
   rw [map_cons,List.cons.injEq] at e
   obtain ⟨rfl,rfl⟩:=e
   refine (hs y ys ρ p).imp fun fl q=>?_
   cases fl with
   | nx ρ2=>exact ⟨ys,rfl,q⟩
   | cnt ρ2=>exact ⟨ys,rfl,q⟩
   | brk ρ2=>exact q
   | ret d=>exact q
 ·obtain ⟨ys,e,p⟩:=p
  cases ys with
  | nil=>exact hd ρ p
  | cons y ys=>cases e
theorem Xrq {b:FB}{s:FS}{Q:Fl→Prop}{P:Nat→Env→Prop}{xs:List D}{ρ:Env}(h0:P 0 ρ)(hs:∀i x ρ,xs[i]?=some x→P i ρ→V (turn b s x ρ) (Tn (P (i+1)) Q))(hd:∀ρ,P xs.length ρ→Q (.nx ρ)):V (Zdw b s xs ρ) Q:=by
 refine Xbf (P:=fun r ρ=>∃i,r=xs.drop i∧i≤xs.length∧P i ρ) (fun x r ρ p=>?_) (fun ρ p=>?_) ⟨0,rfl,zero_le _,h0⟩
 ·obtain ⟨i,e,hi,p⟩:=p
  have hl:i<xs.length:=by
   rcases Nat.lt_or_ge i xs.length with q | q
   ·exact q
   ·rw [List.drop_of_length_le q] at e;cases e
  rw [List.drop_eq_getElem_cons hl,List.cons.injEq] at e
  obtain ⟨rfl,rfl⟩:=e
  refine (hs i _ ρ (getElem?_eq_getElem hl) p).imp fun fl q=>?_
  cases fl with
  | nx ρ2=>exact ⟨i+1,rfl,hl,q⟩
  | cnt ρ2=>exact ⟨i+1,rfl,hl,q⟩
  | brk ρ2=>exact q
  | ret d=>exact q
 ·obtain ⟨i,e,hi,p⟩:=p
  have:i=xs.length:=by
   have:=congrArg List.length e
   rw [List.length_drop,length_nil] at this
   omega
  subst this
  exact hd ρ p
theorem Xtt {b:FB}{s:FS}{Q:Fl→Prop}{P:Nat→Env→Prop}{lo:Int}{n:Nat}{ρ:Env}(h0:P 0 ρ)(hs:∀i ρ,i<n→P i ρ→V (turn b s (.int (lo+i)) ρ) (Tn (P (i+1)) Q))(hd:∀ρ,P n ρ→Q (.nx ρ)):V (Zdw b s (Zdq lo n) ρ) Q:=
  Xrq h0 (fun i x ρ hx p=>by
    obtain ⟨hi,rfl⟩:=Zju hx
    exact hs i ρ hi p) (fun ρ p=>hd ρ (by rw [Zbd] at p;exact p))
theorem Zzh {b:FB}{s:FS}{Q:Fl→Prop}{P:Nat→Env→Prop}{n:Nat}{ρ:Env}(h0:P 0 ρ)(hs:∀(i:Nat) ρ,i<n→P i ρ→V (turn b s (.int (i:Int)) ρ) (Tn (P (i+1)) Q))(hd:∀ρ,P n ρ→Q (.nx ρ)):V (Zdw b s (Zdq 0 n) ρ) Q:=
 Xtt h0 (fun i ρ hi p=>by rw [zero_add];exact hs i ρ hi p) hd
theorem Zno {c:FT}{s:FS}{Q:Fl→Prop}{P:Nat→Env→Prop}(hs:∀e ρ,P e ρ→V (c ρ) fun b=>if b=true then V (s ρ) (Tn (fun ρ'=>∃e',e'<e∧P e' ρ') Q) else Q (.nx ρ)):∀(e n:Nat) (ρ:Env),e<n→P e ρ→V (Zbr c s n ρ) Q:=by
 intro e
 induction e using Nat.strongRecOn with
 | _ e ih =>
  intro n ρ hn p
  obtain ⟨n,rfl⟩:∃k,n=k+1:=⟨n - 1,by omega⟩
  rw [Zbr,Zpo]
  refine (hs e ρ p).imp fun b q=>?_
  cases b with
  | false=>exact q
  | true =>
   rw [if_pos rfl,Zpo]
   rw [if_pos rfl] at q
   refine V.imp q fun fl q=>?_
   cases fl with
   | nx ρ2=>obtain ⟨e',he,p'⟩:=q;exact ih e' he n ρ2 (by omega) p'
   | cnt ρ2=>obtain ⟨e',he,p'⟩:=q;exact ih e' he n ρ2 (by omega) p'
   | brk ρ2=>exact q
   | ret d=>exact q
@[simp] theorem Zha (i:Nat)(s:FS)(x:D)(ρ:Env):turn (Xo i) s x ρ=s (ρ.set i (some x)):=(rfl)
@[simp] theorem ev_fJoin (a b:FE)(ρ:Env):fJoin a b ρ=(a ρ).bind fun x=>match x with | .str s=>(b ρ).bind fun y=>oR (Xsn (.str s) y) | _=>.bad:=(rfl)
@[simp] theorem calm_bad {α:Type}:(R.bad:R α).calm=.bad:=(rfl)
@[simp] theorem gLst_7 (a0 a1 a2 a3 a4 a5 a6:D):Ju [a0,a1,a2,a3,a4,a5,a6]=some (.lst [a0,a1,a2,a3,a4,a5,a6]):=rfl
@[simp] theorem gLst_8 (a0 a1 a2 a3 a4 a5 a6 a7:D):Ju [a0,a1,a2,a3,a4,a5,a6,a7]=some (.lst [a0,a1,a2,a3,a4,a5,a6,a7]):=rfl
@[simp] theorem gLst_9 (a0 a1 a2 a3 a4 a5 a6 a7 a8:D):Ju [a0,a1,a2,a3,a4,a5,a6,a7,a8]=some (.lst [a0,a1,a2,a3,a4,a5,a6,a7,a8]):=rfl
theorem Zxj {n m:Nat}{z:Str}(h:plain n z=true)(e:n≤m):plain m z=true:=by
 unfold plain at *
 rw [Bool.and_eq_true] at *
 exact ⟨decide_eq_true (le_trans (of_decide_eq_true h.1) e),h.2⟩
theorem Xtb {n m:Nat}{x y:Str}(h:plain n x=true)(g:plain m y=true):plain (n+m) (x++y)=true:=by
 unfold plain at *
 rw [Bool.and_eq_true] at *
 have hl:(x++y).length=x.length+y.length:=by
  show (x.cps++y.cps).size=x.cps.size+y.cps.size
  exact Array.size_append
 refine ⟨decide_eq_true ?_,?_⟩
 ·have:=of_decide_eq_true h.1
  have:=of_decide_eq_true g.1
  omega
 ·have e:(x++y).cps.toList=x.cps.toList++y.cps.toList:=Array.toList_append
  rw [e,List.all_append,h.2,g.2]
  rfl
theorem plain_up {n:Nat}{x:Str}(h:plain n x=true):plain n ⟨x.cps.map upC⟩=true:=by
 unfold plain at *
 rw [Bool.and_eq_true] at *
 refine ⟨decide_eq_true ?_,?_⟩
 ·have:=of_decide_eq_true h.1
  have e:(Str.mk (x.cps.map upC)).length=x.length:=Array.size_map
  omega
 ·rw [List.all_eq_true] at *
  intro c hc
  rw [Array.toList_map] at hc
  obtain ⟨d,hd,rfl⟩:=List.mem_map.mp hc
  have:=of_decide_eq_true (h.2 d hd)
  refine decide_eq_true ?_
  unfold upC
  split<;>omega
theorem Xoi:∀z∈Zby,plain 8 z=true:=by decide +kernel
theorem add_str {x y:Str}{n m:Nat}(h:plain n x=true)(g:plain m y=true)(e:n+m≤1000):Jj (.str x) (.str y)=some (.str (x++y)):=by
 unfold Jj
 simp only []
 unfold plain at h g
 rw [Bool.and_eq_true] at h g
 have:=of_decide_eq_true h.1
 have:=of_decide_eq_true g.1
 rw [if_pos (by show _≤1000000;omega)]
theorem up_str {x:Str}{n:Nat}(h:plain n x=true)(e:n≤1000):Xhr (.str x)=some (.str ⟨x.cps.map upC⟩):=by
 unfold Xhr
 simp only []
 rw [if_pos (Zxj h e)]
theorem nd_at {ks:List Kd}(nd:(ks.map (·.name)).Nodup){i j:Nat}{x y:Kd}(hx:ks[i]?=some x)(hy:ks[j]?=some y)(e:x.name=y.name):i=j:=by
 have hi:(ks.map (·.name))[i]?=some x.name:=by rw [getElem?_map,hx];rfl
 have hj:(ks.map (·.name))[j]?=some y.name:=by rw [getElem?_map,hy];rfl
 obtain ⟨li,ei⟩:=List.getElem?_eq_some_iff.mp hi
 obtain ⟨lj,ej⟩:=List.getElem?_eq_some_iff.mp hj
 have pw:=List.pairwise_iff_getElem.mp nd
 rcases Nat.lt_trichotomy i j with h | h | h
 ·exact absurd (ei.trans (e.trans ej.symm)) (pw i j li lj h)
 ·exact h
 ·exact absurd (ej.trans (e.symm.trans ei.symm)) (pw j i lj li h)
noncomputable def eL:Nat→List Int→List D
 | _,[]=>[]
 | k,w::r=>.tup [.int (k:Int),.int w]::eL (k+1) r
theorem neX {d:D}(h:dep d≤20):gNe d d=some (.bl false):=by
 have hs:=Zuv h
 simp only [gEq] at hs
 rw [if_pos ⟨h,h⟩] at hs
 have:eqv d d=true:=by simpa using hs
 simp only [gNe]
 rw [if_pos ⟨h,h⟩,this]
 rfl
theorem depI (ws:List Int):dep (iD ws)≤20:=by
 have:=Xtn ws
 omega
noncomputable def rg (k n:Nat):List D:=(List.range' k n).map fun (j:Nat)=>D.int (0+(j:Int))
@[simp] theorem ev_mbRet (e:FE)(ρ:Env):Zsp e ρ=(e ρ).bind fun d=>.ok (d,ρ):=(rfl)
@[simp] theorem Xpl (s:FS)(r:FM)(ρ:Env):Zbj s r ρ=(s ρ).bind fun fl=>match fl with | .nx ρ'=>r ρ' | _=>.bad:=(rfl)
@[simp] theorem ev_mbEnd (s:FS)(ρ:Env):Xev s ρ=(s ρ).bind fun fl=>match fl with | .nx ρ'=>.ok (.non,ρ') | _=>.bad:=(rfl)
@[simp] theorem ev_runM (N:Nat)(G:FM)(ds:List D):Xiz N G ds=(G (ds.map some++List.replicate (N - ds.length) none)).bind fun p=>match p.2[0]? with | some (some d)=>.ok (p.1,d) | _=>.bad:=(rfl)
@[simp] theorem ev_sDrop (e:FE)(ρ:Env):Zst e ρ=(e ρ).bind fun _=>.ok (.nx ρ):=(rfl)
@[simp] theorem Xrt (e:FM)(ρ:Env):Zmq e ρ=(e ρ).bind fun p=>.ok (.nx p.2):=(rfl)
@[simp] theorem ev_sSetM (i:Nat)(e:FM)(ρ:Env):sSetM i e ρ=(e ρ).bind fun p=>.ok (.nx (p.2.set i (some p.1))):=(rfl)
@[simp] theorem ev_sIfM (c:FMT)(a b:FS)(ρ:Env):sIfM c a b ρ=(c ρ).bind fun p=>if p.1 then a p.2 else b p.2:=(rfl)
@[simp] theorem ev_mE (a:FM)(ρ:Env):mE a ρ=(a ρ).bind fun p=>match p.1 with | .bl b=>.ok (b,p.2) | _=>.bad:=(rfl)
@[simp] theorem ev_mNot (a:FMT)(ρ:Env):mNot a ρ=(a ρ).bind fun p=>.ok (!p.1,p.2):=(rfl)
@[simp] theorem ev_mAnd (a:FT)(b:FMT)(ρ:Env):mAnd a b ρ=(a ρ).bind fun x=>if x then b ρ else .ok (false,ρ):=(rfl)
@[simp] theorem Xpy (F:List D→R D)(a:FM)(ρ:Env):Xsw F a ρ=(a ρ).bind fun p=>(F [p.1]).bind fun d=>.ok (d,p.2):=(rfl)
noncomputable def fNs:List Str:=["kinds","weights","tops","shut"]
noncomputable def oF (a b c d:D):D:=.obj "Feed" fNs [a,b,c,d]
theorem Xhc:fIx "kinds" fNs=some 0:=by decide +kernel
theorem Zmy:fIx "weights" fNs=some 1:=by decide +kernel
theorem Xcj:fIx "tops" fNs=some 2:=by decide +kernel
theorem Zzg:fIx "shut" fNs=some 3:=by decide +kernel
@[simp] theorem Zjf (a b c d:D):Zdd "Feed" "kinds" (oF a b c d)=some a:=by simp only [Zdd,oF,Xhc];rfl
@[simp] theorem Zai (a b c d:D):Zdd "Feed" "weights" (oF a b c d)=some b:=by simp only [Zdd,oF,Zmy];rfl
@[simp] theorem Zjx (a b c d:D):Zdd "Feed" "tops" (oF a b c d)=some c:=by simp only [Zdd,oF,Xcj];rfl
@[simp] theorem Xmi (a b c d:D):Zdd "Feed" "shut" (oF a b c d)=some d:=by simp only [Zdd,oF,Zzg];rfl
@[simp] theorem Zwo (a c d v:D)(ys:List D)(h:ys.length<lim):Xlz "Feed" "weights" v (oF a (.lst ys) c d)=some (oF a (.lst (ys++[v])) c d):=by
 simp only [Xlz,oF,Zmy]
 show (if ys.length<lim then _ else _)=_
 rw [if_pos h]
 rfl
@[simp] theorem Xjm (a b d v:D)(ys:List D)(h:ys.length<lim):Xlz "Feed" "tops" v (oF a b (.lst ys) d)=some (oF a b (.lst (ys++[v])) d):=by
 simp only [Xlz,oF,Xcj]
 show (if ys.length<lim then _ else _)=_
 rw [if_pos h]
 rfl
@[simp] theorem pt_shut (a b c d v:D):Zxu "Feed" "shut" v (oF a b c d)=some (oF a b c v):=by
 simp only [Zxu,oF,Zzg]
 rfl
noncomputable def Zeu (m:Str):Bool:=(fIx m fNs).isNone
theorem Xqu {s:FS}{r:FM}{ρ ρ':Env}{p:R (D×Env)}(h:s ρ=.ok (.nx ρ'))(h2:r ρ'=p):Zbj s r ρ=p:=by unfold Zbj;rw [h];exact h2
theorem Xkp {e:FE}{ρ:Env}{d:D}(h:e ρ=.ok d):Zsp e ρ=.ok (d,ρ):=by unfold Zsp;rw [h];rfl
theorem Xuc {N:Nat}{G:FM}{ds:List D}{d o:D}{ρ:Env}(h:G (ds.map some++List.replicate (N - ds.length) none)=.ok (d,ρ))(h0:ρ[0]?=some (some o)):(Xiz N G ds).calm=.ok (d,o):=by
 unfold Xiz
 rw [h]
 show (match ρ[0]? with | some (some d')=>R.ok (d,d') | _=>.bad).calm=_
 rw [h0]
 rfl
theorem Xsd {e:FE}{ρ:Env}{d:D}(h:e ρ=.ok d):Zst e ρ=.ok (.nx ρ):=by unfold Zst;rw [h];rfl
theorem Zvb {i:Nat}{c:String}{f:Str}{e:FE}{ρ:Env}{o d o':D}{ys:List D}(ho:ρ[i]?=some (some o))(hg:Zdd c f o=some (.lst ys))(he:e ρ=.ok d)(ha:Xlz c f d o=some o'):Zfu i c f e ρ=.ok (.nx (ρ.set i (some o'))):=by simp [Zfu,ho,hg,he,ha]
theorem Zcb {m:Str}(h:Zeu m=true):fIx m fNs=none:=Option.isNone_iff_eq_none.mp h
@[simp] theorem Zti:Zeu "take"=true:=by decide +kernel
@[simp] theorem Zvj:Zeu "close"=true:=by decide +kernel
@[simp] theorem Zzl:Zeu "refuse_closed"=true:=by decide +kernel
@[simp] theorem Xai:Zeu "closed"=true:=by decide +kernel
@[simp] theorem Xel:Zeu "cells"=true:=by decide +kernel
@[simp] theorem Znn:Zeu "worth"=true:=by decide +kernel
@[simp] theorem Zhh:Zeu "cutting"=true:=by decide +kernel
@[simp] theorem Zth:Zeu "sure"=true:=by decide +kernel
@[simp] theorem nf_told:Zeu "told_up_to"=true:=by decide +kernel
@[simp] theorem Zxc:Zeu "settled"=true:=by decide +kernel
@[simp] theorem Zqq:Zeu "open_starts"=true:=by decide +kernel
@[simp] theorem Xnu:Zeu "is_open"=true:=by decide +kernel
@[simp] theorem Zmo:Zeu "between"=true:=by decide +kernel
noncomputable def thM (m:Str)(F:List D→R D)(args:FA)(ρ:Env):D→R D
 | .obj c' ns xs=>if c'="Feed"∧fIx m ns=none then (args ρ).bind fun ys=>F (.obj c' ns xs::ys) else .bad
 | _=>.bad
@[simp] theorem ev_fMeth (m:Str)(F:List D→R D)(e:FE)(args:FA)(ρ:Env):Jc "Feed" m F e args ρ=(e ρ).bind (thM m F args ρ):=by
 unfold Jc
 cases e ρ with
 | ok d=>cases d<;>rfl
 | err _ _=>rfl
 | bad=>rfl
@[simp] theorem thM_of (m:Str)(F:List D→R D)(args:FA)(ρ:Env)(a b c d:D)(h:Zeu m=true):thM m F args ρ (oF a b c d)=(args ρ).bind fun ys=>F (oF a b c d::ys):=by
 have h':fIx m fNs=none:=by simpa [Zeu] using h
 simp only [thM,oF,h']
 rfl
theorem Zzx (i:Nat)(f:Str)(e:FE)(ρ:Env):Zxs i "Feed" f e ρ=(e ρ).bind fun d=>match ρ[i]? with | some (some o)=>(oR (Zxu "Feed" f d o)).bind fun o'=>.ok (.nx (ρ.set i (some o'))) | _=>.bad:=(rfl)
noncomputable def Zcn (ns:List Int)(ks:List Kd)(e:Nat)(k:Kd):Bool:=decide (ht ns ks ((e:Int) - k.w).toNat+k.wo=ht ns ks e)
noncomputable def Zaq (ns:List Int)(ks:List Kd)(e:Nat):Option Kd:=if ht ns ks e=ht ns ks (e - 1) then none else (ks.filter fun k=>good ns k ((e:Int) - k.w)).find? (Zcn ns ks e)
noncomputable def oKd:Option Kd→D
 | none=>.non
 | some k=>kD k
theorem Zba {ns:List Int}{ks:List Kd}{e:Nat}{k:Kd}(h:Zaq ns ks e=some k):k∈ks∧good ns k ((e:Int) - k.w)=true∧ht ns ks ((e:Int) - k.w).toNat+k.wo=ht ns ks e∧ht ns ks e≠ht ns ks (e - 1):=by
 unfold Zaq at h
 split at h
 ·cases h
 ·rename_i hh
  have h1:=List.mem_filter.mp (List.mem_of_find?_eq_some h)
  have h2:=List.find?_some h
  exact ⟨h1.1,h1.2,by simpa [Zcn] using h2,hh⟩
theorem Zwp {ns:List Int}{ks:List Kd}(hw:∀k∈ks,1≤k.w){e:Nat}(h:Zaq ns ks e=none):ht ns ks e=ht ns ks (e - 1):=by
 cases e with
 | zero=>rfl
 | succ e =>
  unfold Zaq at h
  split at h
  ·assumption
  ·rename_i hh
   rcases ht_is ns ks hw e with q | ⟨k,k1,k2,k3⟩
   ·exact absurd q hh
   ·have:=List.find?_eq_none.mp h k (List.mem_filter.mpr ⟨k1,k2⟩)
    exact absurd k3 (by simpa [Zcn] using this)
theorem Zuc (ns:List Int)(ks:List Kd)(hn:ns.length≤900)(hk:ks.length≤1000)(hw:∀k∈ks,1≤k.w){e:Nat}(h1:1≤e)(he:e≤ns.length):Yx [iD ns,tD ks,iD (hts ns ks ns.length),.int e]=.ok (oKd (Zaq ns ks e)):=by
 have hl:=Jb ns ks ns.length
 have at_:∀(i:Int) (q:Nat),i=q→q≤ns.length→gIx (iD (hts ns ks ns.length)) (.int i)=some (.int (ht ns ks q)):=fun i q h1 h2=>by
  have:=Yz (ns:=hts ns ks ns.length) (i:=i) (k:=q) h1 (by omega)
  rw [Zcl ns ks _ _ h2] at this
  exact this
 have a1:=at_ (e:Int) e rfl he
 have a2:=at_ ((e:Int) - 1) (e - 1) (by omega) (by omega)
 by_cases hh:ht ns ks e=ht ns ks (e - 1)
 ·have el:Zaq ns ks e=none:=if_pos hh
  rw [el]
  exact Je (Zgb (Zbc (Yl (Zl (Zl rfl rfl a1) (Zl rfl (Zl rfl rfl rfl) a2) ((Zei _ _).trans (congrArg (fun b=>some (D.bl b)) (decide_eq_true hh))))) (Jf rfl)))
 ·have el:Zaq ns ks e=(ks.filter fun k=>good ns k ((e:Int) - k.w)).find? (Zcn ns ks e):=if_neg hh
  have hend:Zbf [iD ns,tD ks,.int e]=.ok (.lst ((ks.filter fun k=>good ns k ((e:Int) - k.w)).map kD)):=Zqn ns ks (e:Int) hk hw
  have hEL:((ks.filter fun k=>good ns k ((e:Int) - k.w)).map kD).length≤lim:=by
   rw [length_map]
   have:=length_filter_le (fun k:Kd=>good ns k ((e:Int) - k.w)) ks
   show _≤1000000
   omega
  have key:V (Zdw (Xo 4) Zgn ((ks.filter fun k=>good ns k ((e:Int) - k.w)).map kD) [some (iD ns),some (tD ks),some (iD (hts ns ks ns.length)),some (.int e),none])
    (fun fl=>match fl with | .ret d=>d=oKd (Zaq ns ks e) | .nx _=>Zaq ns ks e=none | _=>False):=by
   refine Zoy (P:=fun r ρ=>(∃o,ρ=[some (iD ns),some (tD ks),some (iD (hts ns ks ns.length)),some (.int e),o])∧r.find? (Zcn ns ks e)=Zaq ns ks e∧∀k∈r,k∈ks∧good ns k ((e:Int) - k.w)=true) (fun k r ρ p=>?_) (fun ρ p=>?_) ⟨⟨none,rfl⟩,el.symm,fun k hm=>List.mem_filter.mp hm⟩
   ·obtain ⟨⟨o,rfl⟩,hf,hm⟩:=p
    obtain ⟨k1,k2⟩:=hm k (.head _)
    have bd:=Zdn k2
    have hw1:=hw k k1
    have a3:=at_ ((e:Int) - k.w) ((e:Int) - k.w).toNat (by omega) (by omega)
    by_cases q:ht ns ks ((e:Int) - k.w).toNat+k.wo=ht ns ks e
    ·have hq:Zcn ns ks e k=true:=by simpa [Zcn] using q
     rw [List.find?_cons_of_pos hq] at hf
     refine V.of (a:=.ret (kD k)) ?_ ?_
     ·exact Zbc (Yl (Zl (Zl (Zl rfl (Zl rfl (Zl rfl rfl (Zre k)) rfl) a3) (Zl rfl rfl (Xqv k)) rfl) (Zl rfl rfl a1) ((Zei _ _).trans (congrArg (fun b=>some (D.bl b)) (decide_eq_true q))))) (Jf (Jh rfl (Xdl k)))
     ·show kD k=oKd (Zaq ns ks e)
      rw [← hf]
      rfl
    ·have hq:¬Zcn ns ks e k=true:=by simpa [Zcn] using q
     rw [List.find?_cons_of_neg hq] at hf
     refine V.of (a:=.nx [some (iD ns),some (tD ks),some (iD (hts ns ks ns.length)),some (.int e),some (kD k)]) ?_ (by exact ⟨⟨_,rfl⟩,hf,fun k hk=>hm k (.tail _ hk)⟩)
     exact Yn (Yl (Zl (Zl (Zl rfl (Zl rfl (Zl rfl rfl (Zre k)) rfl) a3) (Zl rfl rfl (Xqv k)) rfl) (Zl rfl rfl a1) ((Zei _ _).trans (congrArg (fun b=>some (D.bl b)) (decide_eq_false q))))) rfl
   ·obtain ⟨_,hf,_⟩:=p
    exact hf.symm
  obtain ⟨fl,k1,k2⟩:=key.ex
  have c1:∀Q r,Q [some (iD ns),some (tD ks),some (iD (hts ns ks ns.length)),some (.int e),none]=r→(Xp (sIf (cE (f2 gEq (f2 gIx (fV 2) (fV 3)) (f2 gIx (fV 2) (f2 Zdy (fV 3) (fC (.int 1)))))) (Zao (fC .non)) sNx) Q) [some (iD ns),some (tD ks),some (iD (hts ns ks ns.length)),some (.int e),none]=r:=fun Q r h=>Zo (Yn (Yl (Zl (Zl rfl rfl a1) (Zl rfl (Zl rfl rfl rfl) a2) ((Zei _ _).trans (congrArg (fun b=>some (D.bl b)) (decide_eq_false hh))))) rfl) h
  have jl:=Zcc (Xl (Zc (a:=fV 0) (ρ:=[some (iD ns),some (tD ks),some (iD (hts ns ks ns.length)),some (.int e),none]) rfl (Zc (a:=fV 1) rfl (Zc (a:=fV 3) rfl (Xmt _)))) hend) hEL
  cases fl with
  | ret d=>exact (Je (c1 _ _ (Zgb (Zdv jl k1)))).trans (congrArg Dl.R.ok k2)
  | nx ρ =>
   have k2:Zaq ns ks e=none:=k2
   rw [k2]
   exact Je (c1 _ _ (Zo (Zdv jl k1) (Jf rfl)))
  | brk _=>exact k2.elim
  | cnt _=>exact k2.elim
noncomputable def stp (ns:List Int)(ks:List Kd)(e:Nat):Nat:=match Zaq ns ks e with
 | none=>e - 1
 | some k=>((e:Int) - k.w).toNat
theorem Jz {ns:List Int}{ks:List Kd}(hw:∀k∈ks,1≤k.w){e:Nat}(h:1≤e):stp ns ks e<e:=by
 unfold stp
 cases hl:Zaq ns ks e with
 | none=>show e - 1<e;omega
 | some k =>
  have:=hw k (Zba hl).1
  show ((e:Int) - k.w).toNat<e
  omega
theorem Ztz (ns:List Int)(ks:List Kd):stp ns ks 0=0:=by
 have:Zaq ns ks 0=none:=if_pos rfl
 unfold stp
 rw [this]
noncomputable def pcF (ns:List Int)(ks:List Kd)(e:Nat):List (Int×Str):=match Zaq ns ks e with
 | none=>[]
 | some k=>[((stp ns ks e:Int),k.name)]
noncomputable def Zpa (ns:List Int)(ks:List Kd):Nat→Nat→List (Int×Str)
 | 0,_=>[]
 | n+1,e=>if e=0 then [] else Zpa ns ks n (stp ns ks e)++pcF ns ks e
noncomputable def Xq (ns:List Int)(ks:List Kd)(e:Nat):List (Int×Str):=Zpa ns ks e e
theorem Xfj {ns:List Int}{ks:List Kd}(hw:∀k∈ks,1≤k.w):∀(e n m:Nat),e≤n→e≤m→Zpa ns ks n e=Zpa ns ks m e:=by
 intro e
 induction e using Nat.strongRecOn with
 | _ e ih =>
  intro n m hn hm
  cases e with
  | zero=>cases n<;>cases m<;>simp [Zpa]
  | succ e =>
   obtain ⟨n,rfl⟩:∃k,n=k+1:=⟨n - 1,by omega⟩
   obtain ⟨m,rfl⟩:∃k,m=k+1:=⟨m - 1,by omega⟩
   have:=Jz (ns:=ns) hw (e:=e+1) (by omega)
   rw [Zpa,Zpa,if_neg (by omega),if_neg (by omega),ih _ this n m (by omega) (by omega)]
theorem Zht (ns:List Int)(ks:List Kd):Xq ns ks 0=[]:=rfl
theorem Zbv {ns:List Int}{ks:List Kd}(hw:∀k∈ks,1≤k.w){e:Nat}(h:1≤e):Xq ns ks e=Xq ns ks (stp ns ks e)++pcF ns ks e:=by
 obtain ⟨e,rfl⟩:∃k,e=k+1:=⟨e - 1,by omega⟩
 have:=Jz (ns:=ns) hw (e:=e+1) (by omega)
 unfold Xq
 rw [Zpa,if_neg (by omega),Xfj hw _ e (stp ns ks (e+1)) (by omega) (le_refl _)]
theorem Zla {ns:List Int}{ks:List Kd}(hw:∀k∈ks,1≤k.w):∀e,(Xq ns ks e).length≤e:=by
 intro e
 induction e using Nat.strongRecOn with
 | _ e ih =>
  cases e with
  | zero=>simp [Zht]
  | succ e =>
   have:=Jz (ns:=ns) hw (e:=e+1) (by omega)
   have h2:=ih _ this
   rw [Zbv hw (by omega),length_append]
   have:(pcF ns ks (e+1)).length≤1:=by
    unfold pcF
    split<;>simp
   omega
theorem Xat (ns:List Int)(ks:List Kd)(hn:ns.length≤900)(hk:ks.length≤1000)(hw:∀k∈ks,1≤k.w){n:Nat}(hnn:n≤ns.length):Yv [iD ns,tD ks,iD (hts ns ks ns.length),.int n]=.ok (psD (Xq ns ks n)):=by
 have key:V (Zbr (cE (f2 gGt (fV 3) (fC (.int 0)))) Zdu 100000 [some (iD ns),some (tD ks),some (iD (hts ns ks ns.length)),some (.int n),some (.lst []),none]) (fun fl=>∃o,fl=.nx [some (iD ns),some (tD ks),some (iD (hts ns ks ns.length)),some (.int 0),some (psD (Xq ns ks n).reverse),o]):=by
  refine Zno (P:=fun e ρ=>e≤ns.length∧∃(ps:List (Int×Str)) (o:Option D),ps.length+e≤ns.length∧ρ=[some (iD ns),some (tD ks),some (iD (hts ns ks ns.length)),some (.int e),some (psD ps),o]∧Xq ns ks n=Xq ns ks e++ps.reverse) (fun e ρ p=>?_) n 100000 _ (by omega) ⟨hnn,[],none,by simpa using hnn,rfl,by simp⟩
  obtain ⟨he,ps,o,hps,rfl,hc⟩:=p
  cases e with
  | zero =>
   refine V.of (a:=false) ?_ ?_
   ·exact Yl (Zl rfl rfl rfl)
   ·rw [if_neg (by decide)]
    rw [Zht,List.nil_append] at hc
    exact ⟨o,by rw [hc,List.reverse_reverse];rfl⟩
  | succ e =>
   refine V.of (a:=true) ?_ ?_
   ·exact Yl (Zl rfl rfl (congrArg (fun b=>some (D.bl b)) (decide_eq_true (Int.natCast_pos.mpr (Nat.succ_pos e)))))
   ·rw [if_pos rfl]
    have hlk:=Zuc ns ks hn hk hw (e:=e+1) (by omega) he
    have hst:=Jz (ns:=ns) (ks:=ks) hw (e:=e+1) (by omega)
    have hts':=Zbv (ns:=ns) hw (e:=e+1) (by omega)
    cases hl:Zaq ns ks (e+1) with
    | none =>
     rw [hl] at hlk
     have es:stp ns ks (e+1)=e:=by unfold stp;rw [hl];rfl
     have ep:pcF ns ks (e+1)=[]:=by unfold pcF;rw [hl]
     refine V.of (a:=.nx [some (iD ns),some (tD ks),some (iD (hts ns ks ns.length)),some (.int e),some (psD ps),some .non]) ?_ ?_
     ·have e1:((e+1:Nat):Int) - 1=(e:Int):=by omega
      have hlk:Yx [iD ns,tD ks,iD (hts ns ks ns.length),.int ((e+1:Nat):Int)]=.ok .non:=hlk
      exact Zo (Zu (Xl (Zc rfl (Zc rfl (Zc rfl (Zc rfl rfl)))) hlk)) (Zbc (Yl (Zl rfl rfl rfl)) (Xqr rfl rfl (congrArg (fun z=>some (D.int z)) e1)))
     ·exact ⟨e,by omega,by omega,ps,_,by omega,rfl,by rw [hc,hts',es,ep,append_nil]⟩
    | some k =>
     rw [hl] at hlk
     obtain ⟨k1,hg,q1,q2⟩:=Zba hl
     have bd:=Zdn hg
     have hw1:=hw k k1
     have es:stp ns ks (e+1)=(((e+1:Nat):Int) - k.w).toNat:=by unfold stp;rw [hl]
     have ep:pcF ns ks (e+1)=[((stp ns ks (e+1):Int),k.name)]:=by unfold pcF;rw [hl]
     obtain ⟨d,hd⟩:∃d:Nat,((e+1:Nat):Int) - k.w=(d:Int):=⟨(((e+1:Nat):Int) - k.w).toNat,by omega⟩
     have es2:stp ns ks (e+1)=d:=by omega
     refine V.of (a:=.nx [some (iD ns),some (tD ks),some (iD (hts ns ks ns.length)),some (.int d),some (psD (ps++[((d:Int),k.name)])),some (kD k)]) ?_ ?_
     ·have hlim:(ps.map pD).length<lim:=by rw [length_map];show _<1000000;omega
      rw [show psD (ps++[((d:Int),k.name)])=.lst (ps.map pD++[.tup [.int d,.str k.name]]) from congrArg D.lst map_append]
      exact Zo (Zu (Xl (Zc rfl (Zc rfl (Zc rfl (Zc rfl rfl)))) hlk)) (Yn (Yl (Zl rfl rfl rfl)) (Zo (Xqr rfl (Zl rfl rfl (Zre k)) (congrArg (fun z=>some (D.int z)) hd)) (Zge rfl (Js (Zc (Jh rfl rfl) (Zc (Jh (Zl rfl rfl (kD_0 k)) rfl) rfl)) rfl) hlim)))
     ·exact ⟨d,by omega,by omega,_,_,by rw [length_append,length_singleton];omega,rfl,by rw [hc,hts',ep,es2,List.reverse_append,List.reverse_singleton,append_assoc]⟩
 obtain ⟨fl,h1,o,rfl⟩:=key.ex
 have e6:psD (Xq ns ks n)=.lst ((Xq ns ks n).reverse.map pD).reverse:=by rw [psD,← List.map_reverse,List.reverse_reverse]
 have hr:Zyy (.lst ((Xq ns ks n).reverse.map pD))=some (.lst ((Xq ns ks n).reverse.map pD).reverse):=if_pos (Znp _)
 rw [e6]
 exact Je (Zo (Zu rfl) (Zo h1 (Jf (Jh rfl hr))))
theorem Xlu (ns:List Int)(ks:List Kd)(hn:ns.length≤900)(hk:ks.length≤1000)(hw:∀k∈ks,1≤k.w){e:Nat}(h1:1≤e)(he:e≤ns.length):Zal [iD ns,tD ks,iD (hts ns ks ns.length),.int e]=.ok (.int (stp ns ks e)):=by
 have hlk:=Zuc ns ks hn hk hw h1 he
 cases hl:Zaq ns ks e with
 | none =>
  rw [hl] at hlk
  have hlk:Yx [iD ns,tD ks,iD (hts ns ks ns.length),.int e]=.ok .non:=hlk
  have es:(stp ns ks e:Int)=(e:Int) - 1:=by unfold stp;rw [hl];show ((e - 1:Nat):Int)=_;omega
  rw [es]
  exact Je (Zo (Zu (Xl (Zc rfl (Zc rfl (Zc rfl (Zc rfl rfl)))) hlk)) (Jf (Xpq (Yl (Zl rfl rfl rfl)) (Zl rfl rfl rfl))))
 | some k =>
  rw [hl] at hlk
  have hlk:Yx [iD ns,tD ks,iD (hts ns ks ns.length),.int e]=.ok (kD k):=hlk
  obtain ⟨k1,hg,_⟩:=Zba hl
  have bd:=Zdn hg
  have es:(stp ns ks e:Int)=(e:Int) - k.w:=by unfold stp;rw [hl];show ((((e:Int) - k.w).toNat:Nat):Int)=_;omega
  rw [es]
  exact Je (Zo (Zu (Xl (Zc rfl (Zc rfl (Zc rfl (Zc rfl rfl)))) hlk)) (Jf (Xpz (Yl (Zl rfl rfl rfl)) (Zl rfl (Zl rfl rfl (Zre k)) rfl))))
noncomputable def Zod (ns:List Int)(ks:List Kd):List Int:=(List.range (ns.length+1)).map fun e=>(stp ns ks e:Int)
theorem Xdx (ns:List Int)(ks:List Kd){e:Nat}(h:e≤ns.length):(Zod ns ks).getD e 0=stp ns ks e:=by
 unfold Zod
 rw [getD_eq_getElem?_getD,getElem?_map,List.getElem?_range (by omega)]
 rfl
theorem Xen (ns:List Int)(ks:List Kd)(hn:ns.length≤900)(hk:ks.length≤1000)(hw:∀k∈ks,1≤k.w):Zau [iD ns,tD ks,iD (hts ns ks ns.length)]=.ok (iD (Zod ns ks)):=by
 have hl:=Jb ns ks ns.length
 have gl:Zac [iD (hts ns ks ns.length)]=some (.int ((ns.length+1:Nat):Int)):=by simp [iD,hl]
 have hr:Zgk [.int 1,.int ((ns.length+1:Nat):Int)]=.ok (Zdq 1 ns.length):=Zzw (by omega) (by omega) (by omega) (by omega) (by omega) (by omega)
 have er:Zdq 1 ns.length=(List.range ns.length).map fun (j:Nat)=>D.int ((1:Int)+(j:Int)):=rfl
 have hc:Zcx 1 (Xo 3) Xcm (Xv Zal (Zd (fV 0) (Zd (fV 1) (Zd (fV 2) (Zd (fV 3) Zt))))) [some (iD ns),some (tD ks),some (iD (hts ns ks ns.length))] (Zdq 1 ns.length)=.ok ((List.range ns.length).map fun (j:Nat)=>D.int (stp ns ks (j+1))):=by
  rw [er]
  refine Zzu rfl fun j hj=>?_
  have hj:=List.mem_range.mp hj
  have:=Xlu ns ks hn hk hw (e:=j+1) (by omega) (by omega)
  have e1:(1:Int)+(j:Int)=((j+1:Nat):Int):=by omega
  rw [e1]
  exact Xl (Zc rfl (Zc rfl (Zc rfl (Zc rfl rfl)))) this
 have el:iD (Zod ns ks)=.lst ([D.int 0]++(List.range ns.length).map fun (j:Nat)=>D.int (stp ns ks (j+1))):=by
  unfold iD Zod
  rw [List.range_succ_eq_map,map_cons,map_cons,map_map,map_map,Ztz]
  rfl
 have hfl:Xy ((List.range ns.length).map fun (j:Nat)=>D.int (stp ns ks (j+1)))=true:=Zaa (fun _=>rfl) _
 have hlen:1+((List.range ns.length).map fun (j:Nat)=>D.int (stp ns ks (j+1))).length≤lim:=by simp;show _≤1000000;omega
 have hadd:Jj (.lst [.int 0]) (.lst ((List.range ns.length).map fun (j:Nat)=>D.int (stp ns ks (j+1))))=some (.lst ([D.int 0]++(List.range ns.length).map fun (j:Nat)=>D.int (stp ns ks (j+1)))):=by
  exact if_pos ⟨hlen,rfl,hfl⟩
 rw [el]
 exact Je (Jf (Zl rfl (Zkl rfl (Zze (Zc rfl (Zc (Js (Zc rfl rfl) gl) rfl)) hr) hc) hadd))
noncomputable def cst (ns:List Int)(ks:List Kd):Nat→Nat→Nat→Nat
 | 0,a,_=>a
 | n+1,a,b=>if a=b then a else if b<a then cst ns ks n (stp ns ks a) b else cst ns ks n a (stp ns ks b)
theorem Zyx (ns:List Int)(ks:List Kd)(hn:ns.length≤900)(hw:∀k∈ks,1≤k.w){a b:Nat}(ha:a≤ns.length)(hb:b≤ns.length):Zar [iD (Zod ns ks),.int a,.int b]=.ok (.int (cst ns ks (a+b) a b)):=by
 have hl:(Zod ns ks).length=ns.length+1:=by simp [Zod]
 have at_:∀e:Nat,e≤ns.length→gIx (iD (Zod ns ks)) (.int e)=some (.int (stp ns ks e)):=fun e he=>by
  have:=Yz (ns:=Zod ns ks) (i:=(e:Int)) (k:=e) rfl (by rw [hl];exact Nat.lt_succ_of_le he)
  rw [Xdx ns ks he] at this
  exact this
 have key:V (Zbr (cE (f2 gNe (fV 1) (fV 2))) Zec 100000 [some (iD (Zod ns ks)),some (.int a),some (.int b)]) (fun fl=>fl=.nx [some (iD (Zod ns ks)),some (.int (cst ns ks (a+b) a b)),some (.int (cst ns ks (a+b) a b))]):=by
  refine Zno (P:=fun e ρ=>∃x y:Nat,x≤ns.length∧y≤ns.length∧x+y≤e∧ρ=[some (iD (Zod ns ks)),some (.int x),some (.int y)]∧cst ns ks e x y=cst ns ks (a+b) a b) (fun e ρ p=>?_) (a+b) 100000 _ (lt_of_le_of_lt (Nat.add_le_add (le_trans ha hn) (le_trans hb hn)) (by decide)) ⟨a,b,ha,hb,le_refl _,rfl,rfl⟩
  obtain ⟨x,y,hx,hy,he,rfl,hc⟩:=p
  have a1:=at_ x hx
  have a2:=at_ y hy
  refine V.of (a:=!decide ((x:Int)=(y:Int))) (Yl (Zl rfl rfl (ne_ii _ _))) ?_
  by_cases q:x=y
  ·subst q
   rw [if_neg (by simp)]
   have:cst ns ks e x x=x:=by cases e<;>simp [cst]
   rw [this] at hc
   rw [hc]
  ·rw [if_pos (by rw [decide_eq_false fun z:(x:Int)=y=>q (Int.ofNat_inj.mp z)];rfl)]
   have he0:0<e:=lt_of_lt_of_le (Nat.pos_of_ne_zero fun z=>q ((Nat.eq_zero_of_add_eq_zero z).1.trans (Nat.eq_zero_of_add_eq_zero z).2.symm)) he
   obtain ⟨e,rfl⟩:∃k,e=k+1:=⟨e - 1,(Nat.succ_pred_eq_of_pos he0).symm⟩
   rw [cst,if_neg q] at hc
   by_cases q2:y<x
   ·rw [if_pos q2] at hc
    have:=Jz (ns:=ns) hw (e:=x) (lt_of_le_of_lt (zero_le _) q2)
    refine V.of (a:=.nx [some (iD (Zod ns ks)),some (.int (stp ns ks x)),some (.int y)]) ?_ (by exact ⟨e,lt_succ_self e,_,y,le_trans (le_of_lt this) hx,hy,Nat.le_of_lt_succ (lt_of_lt_of_le (Nat.add_lt_add_right this y) he),rfl,hc⟩)
    have q3:(y:Int)<(x:Int):=Int.ofNat_lt.mpr q2
    exact Zbc (Yl (Zl rfl rfl (congrArg (fun b=>some (D.bl b)) (decide_eq_true q3)))) (Zu (Jh (Zl rfl rfl a1) rfl))
   ·rw [if_neg q2] at hc
    have:=Jz (ns:=ns) hw (e:=y) (lt_of_le_of_lt (zero_le _) (Nat.lt_of_le_of_ne (Nat.le_of_not_lt q2) q))
    refine V.of (a:=.nx [some (iD (Zod ns ks)),some (.int x),some (.int (stp ns ks y))]) ?_ (by exact ⟨e,lt_succ_self e,x,_,hx,le_trans (le_of_lt this) hy,Nat.le_of_lt_succ (lt_of_lt_of_le (Nat.add_lt_add_left this x) he),rfl,hc⟩)
    have q3:¬(y:Int)<(x:Int):=fun z=>q2 (Int.ofNat_lt.mp z)
    exact Yn (Yl (Zl rfl rfl (congrArg (fun b=>some (D.bl b)) (decide_eq_false q3)))) (Zu (Jh (Zl rfl rfl a2) rfl))
 obtain ⟨fl,h1,rfl⟩:=key.ex
 exact Je (Zo h1 (Jf (Jh rfl rfl)))
theorem Zvz {ns:List Int}{ks:List Kd}(hw:∀k∈ks,1≤k.w):∀(n a b:Nat),cst ns ks n a b≤a
 | 0,a,b=>le_refl _
 | n+1,a,b=>by
  rw [cst]
  split
  ·exact le_refl _
  ·split
   ·have h1:=Zvz hw n (stp ns ks a) b (ns:=ns)
    have h2:=Jz (ns:=ns) hw (e:=a) (by omega)
    omega
   ·exact Zvz hw n a (stp ns ks b)
noncomputable def fD (ks:List Kd)(ns:List Int)(b:Bool):D:=oF (tD ks) (iD ns) (iD (hts ns ks ns.length)) (.bl b)
theorem Zrk (ks:List Kd):Jp [.obj "Feed" [] [],tD ks]=.ok (.non,fD ks [] false):=by
 have h:Zjd [tD ks]=some (tD ks):=by
  have:Xy (ks.map kD)=true:=Zaa (fun _=>rfl) _
  simp [Zjd,tD,this]
 have e1:∀d,Zxu "Feed" "kinds" d (.obj "Feed" [] [])=some (.obj "Feed" ["kinds"] [d]):=fun d=>rfl
 have e2:∀a d,Zxu "Feed" "weights" d (.obj "Feed" ["kinds"] [a])=some (.obj "Feed" ["kinds","weights"] [a,d]):=fun a d=>by
  have:fIx "weights" ["kinds"]=none:=by decide +kernel
  simp only [Zxu,this]
  rfl
 have e3:∀a b d,Zxu "Feed" "tops" d (.obj "Feed" ["kinds","weights"] [a,b])=some (.obj "Feed" ["kinds","weights","tops"] [a,b,d]):=fun a b d=>by
  have:fIx "tops" ["kinds","weights"]=none:=by decide +kernel
  simp only [Zxu,this]
  rfl
 have e4:∀a b c d,Zxu "Feed" "shut" d (.obj "Feed" ["kinds","weights","tops"] [a,b,c])=some (oF a b c d):=fun a b c d=>by
  have:fIx "shut" ["kinds","weights","tops"]=none:=by decide +kernel
  simp only [Zxu,this]
  rfl
 have e5:fD ks [] false=oF (tD ks) (.lst []) (.lst [.int 0]) (.bl false):=rfl
 rw [e5]
 have g1:Ju [.int 0]=some (.lst [.int 0]):=rfl
 have g2:Ju []=some (.lst []):=rfl
 generalize tD ks=B at *
 simp [Jp,Zko,Zzx,h,e1,e2,e3,e4,g1,g2]
theorem Zor (ks:List Kd)(ns:List Int)(b:Bool):Ya [fD ks ns b]=.ok (.int (ht ns ks ns.length)):=by
 have hl:=Jb ns ks ns.length
 have ix:=Zer (ns:=hts ns ks ns.length) hl
 rw [Zcl ns ks _ _ (le_refl _)] at ix
 have ix':gIx (iD (hts ns ks ns.length)) (.int (-1))=_:=ix
 unfold fD
 generalize iD (hts ns ks ns.length)=T at *
 generalize iD ns=A at *
 generalize tD ks=B at *
 simp [Ya,Zil,ix']
theorem Zqo (ks:List Kd)(ns:List Int):Xm [fD ks ns false]=.ok .non:=by
 unfold fD
 generalize iD (hts ns ks ns.length)=T at *
 generalize iD ns=A at *
 generalize tD ks=B at *
 simp [Xm,Zbo]
theorem Xds (ks:List Kd)(ns:List Int)(b:Bool):Jm [fD ks ns b]=.ok (iD ns):=by
 have h:Zjd [iD ns]=some (iD ns):=by
  have:Xy (ns.map D.int)=true:=Zaa (fun _=>rfl) _
  simp [Zjd,iD,this]
 unfold fD
 generalize iD (hts ns ks ns.length)=T at *
 generalize iD ns=A at *
 generalize tD ks=B at *
 simp [Jm,Zie,h]
theorem Zza (ks:List Kd)(ns:List Int)(b:Bool):Jr [fD ks ns b]=.ok (.bl b):=by
 unfold fD
 generalize iD (hts ns ks ns.length)=T at *
 generalize iD ns=A at *
 generalize tD ks=B at *
 simp [Jr,Zhf]
noncomputable def Zmm (ns:List Int)(k:Kd)(p:Nat):Bool:=decide ((ns.length:Int)<(p:Int)+k.w)&&decide (pre ns ns.length - pre ns p≤k.al)
theorem Xof (ns:List Int)(k:Kd){p:Nat}(hp:p≤ns.length):Jn [iD ns,kD k,.int p]=.ok (.bl (Zmm ns k p)):=by
 have hs:=Zra (ns:=ns) (b:=p) (e:=ns.length) (by omega) (by omega) (by omega)
 rw [toNat_natCast,toNat_natCast] at hs
 have l2:Zac [iD ns]=some (.int ns.length):=by simp [iD]
 have z1:gIx (kD k) (.int 1)=some (.int k.w):=rfl
 have z3:gIx (kD k) (.int 3)=some (.int k.al):=rfl
 unfold Zmm
 generalize iD ns=A at *
 generalize pre ns ns.length - pre ns p=S at *
 generalize (ns.length:Int)=N at *
 generalize (p:Int)=P at *
 by_cases q:N<P+k.w
 ·simp [Jn,Zfp,hs,l2,z1,z3,q]
 ·simp [Jn,Zfp,hs,l2,z1,z3,q]
noncomputable def opn (ns:List Int)(ks:List Kd)(b:Bool)(p:Nat):Bool:=p==ns.length||(!b&&ks.any fun k=>Zmm ns k p&&decide (ht ns ks ns.length<ht ns ks p+k.wo))
theorem Xji (ks:List Kd)(ns:List Int)(b:Bool)(hk:ks.length≤1000){p:Nat}(hp:p≤ns.length):Ji [fD ks ns b,.int p]=.ok (.bl (opn ns ks b p)):=by
 have hl:=Jb ns ks ns.length
 have l2:Zac [iD ns]=some (.int ns.length):=by simp [iD]
 have hw:=Zor ks ns b
 have ix:=Yz (ns:=hts ns ks ns.length) (i:=(p:Int)) (k:=p) rfl (by omega)
 rw [Zcl ns ks _ _ hp] at ix
 have ix':gIx (iD (hts ns ks ns.length)) (.int p)=_:=ix
 have hkl:(ks.map kD).length≤lim:=by rw [length_map];show _≤1000000;omega
 have ekd:tD ks=.lst (ks.map kD):=rfl
 have efd:fD ks ns b=oF (tD ks) (iD ns) (iD (hts ns ks ns.length)) (.bl b):=rfl
 by_cases q:p=ns.length
 ·have e1:opn ns ks b p=true:=by simp [opn,q]
  rw [e1,q]
  exact Je (Zgb (Zbc (Yl (Zl rfl (Js (Zc (Jh rfl rfl) rfl) l2) ((Zei _ _).trans (congrArg (fun b=>some (D.bl b)) (decide_eq_true rfl))))) (Jf rfl)))
 ·have q':¬(p:Int)=(ns.length:Int):=by omega
  cases b with
  | true =>
   have e1:opn ns ks true p=false:=by simp [opn,q]
   rw [e1]
   exact Je (Zo (Yn (Yl (Zl rfl (Js (Zc (Jh rfl rfl) rfl) l2) ((Zei _ _).trans (congrArg (fun b=>some (D.bl b)) (decide_eq_false q'))))) rfl) (Zgb (Zbc (Yl (Jh rfl rfl)) (Jf rfl))))
  | false =>
   have hc1:Zcx 1 (Xo 3) (cE (Xv Jn (Zd (f1 (Zdd "Feed" ("weights":Str)) (fV 0)) (Zd (fV 3) (Zd (fV 1) Zt))))) (f1 Xs (fV 3)) [some (fD ks ns false),some (.int p),none] (ks.map kD)=.ok ((ks.filter fun k=>Zmm ns k p).map kD):=by
    refine Zxe rfl fun k hk'=>?_
    have hg:=Xof ns k hp
    have hf:Xs (kD k)=some (kD k):=rfl
    exact ⟨Yl (Xl (Zc (Jh rfl (Zai _ _ _ _)) (Zc rfl (Zc rfl rfl))) hg),fun _=>Jh rfl hf⟩
   have hkf:((ks.filter fun k=>Zmm ns k p).map kD).length≤lim:=by
    rw [length_map]
    have:=length_filter_le (fun k:Kd=>Zmm ns k p) ks
    show _≤1000000
    omega
   have hc2:Zcx 1 (Xo 3) Xcm (f2 gGt (f2 Jj (f2 gIx (f1 (Zdd "Feed" ("tops":Str)) (fV 0)) (fV 1)) (f2 gIx (fV 3) (fC (.int 2)))) (Jc "Feed" ("worth":Str) Ya (fV 0) Zt)) [some (fD ks ns false),some (.int p),some (.lst ((ks.filter fun k=>Zmm ns k p).map kD))] ((ks.filter fun k=>Zmm ns k p).map kD) =
     .ok ((ks.filter fun k=>Zmm ns k p).map fun k=>D.bl (decide (ht ns ks ns.length<ht ns ks p+k.wo))):=by
    refine Zzu rfl fun k hk'=>?_
    have z2:gIx (kD k) (.int 2)=some (.int k.wo):=rfl
    exact Zl (Zl (Zl (Jh rfl (Zjx _ _ _ _)) rfl ix') (Zl rfl rfl z2) rfl) (Zay rfl (Zcb Znn) rfl hw) rfl
   have hb:∀l:List Kd,bools (l.map fun k=>D.bl (decide (ht ns ks ns.length<ht ns ks p+k.wo)))=some (l.map fun k=>decide (ht ns ks ns.length<ht ns ks p+k.wo)):=fun l=>by
    induction l with
    | nil=>rfl
    | cons k l ih=>simp [bools,ih]
   have hany:Xpp [.lst ((ks.filter fun k=>Zmm ns k p).map fun k=>D.bl (decide (ht ns ks ns.length<ht ns ks p+k.wo)))]=some (.bl (opn ns ks false p)):=by
    simp only [Xpp,hb,Option.bind_some]
    congr 2
    simp only [opn,beq_iff_eq,q,List.any_map,List.any_filter,Bool.not_false,Bool.true_and]
    simp [q]
   exact Je (Zo (Yn (Yl (Zl rfl (Js (Zc (Jh rfl (Zai _ _ _ _)) rfl) l2) ((Zei _ _).trans (Zrf q')))) rfl) (Zo (Yn (Yl (Jh rfl (Xmi _ _ _ _))) rfl) (Zo (Zu (Zkl rfl (Zcc (Jh rfl (Zjf _ _ _ _)) hkl) hc1)) (Jf (Js (Zc (Zkl rfl (Zcc rfl hkf) hc2) rfl) hany)))))
noncomputable def starts (ns:List Int)(ks:List Kd)(b:Bool):List Nat:=(List.range (ns.length+1)).filter (opn ns ks b)
noncomputable def nD (l:List Nat):D:=.lst (l.map fun (e:Nat)=>D.int (e:Int))
theorem Zpl (ks:List Kd)(ns:List Int)(b:Bool)(hn:ns.length≤900)(hk:ks.length≤1000):Xn [fD ks ns b]=.ok (nD (starts ns ks b)):=by
 have hl:=Jb ns ks ns.length
 have gl:Zac [iD (hts ns ks ns.length)]=some (.int ((ns.length+1:Nat):Int)):=by simp [iD,hl]
 have er:Zdq 0 (ns.length+1)=(List.range (ns.length+1)).map fun e:Nat=>D.int (e:Int):=by simp [Zdq]
 have hc:Zcx 1 (Xo 1) (cE (Jc "Feed" ("is_open":Str) Ji (fV 0) (Zd (fV 1) Zt))) (f1 Xs (fV 1)) [some (fD ks ns b)] (Zdq 0 (ns.length+1))=.ok ((starts ns ks b).map fun (e:Nat)=>D.int (e:Int)):=by
  rw [er]
  refine Zxe rfl fun p hp=>?_
  have hp:=List.mem_range.mp hp
  have ho:=Xji ks ns b hk (p:=p) (by omega)
  have hf:Xs (.int (p:Int))=some (.int p):=rfl
  exact ⟨Yl (Zay rfl (Zcb Xnu) (Zc rfl rfl) ho),fun _=>Jh rfl hf⟩
 have hb:(-1000000000:Int)≤((ns.length+1:Nat):Int)∧((ns.length+1:Nat):Int)≤1000000:=by omega
 exact Je (Jf (Zkl rfl (Znk (Zc (Js (Zc (Jh rfl (Zjx _ _ _ _)) rfl) gl) rfl) hb) hc))
noncomputable def Zdp (ns:List Int)(ks:List Kd)(b:Bool):Nat:=(starts ns ks b).foldl (fun s p=>cst ns ks (s+p) s p) ns.length
theorem Zig {ns:List Int}{ks:List Kd}(hw:∀k∈ks,1≤k.w):∀(l:List Nat) (s:Nat),l.foldl (fun s p=>cst ns ks (s+p) s p) s≤s
 | [],s=>le_refl _
 | p::l,s=>by
  have h1:=Zig hw l (cst ns ks (s+p) s p) (ns:=ns)
  have h2:=Zvz (ns:=ns) hw (s+p) s p
  rw [foldl_cons]
  omega
theorem Zni {ns:List Int}{ks:List Kd}(hw:∀k∈ks,1≤k.w)(b:Bool):Zdp ns ks b≤ns.length:=Zig hw _ _
theorem Zmi (ks:List Kd)(ns:List Int)(b:Bool)(hn:ns.length≤900)(hk:ks.length≤1000)(hw:∀k∈ks,1≤k.w):Yk [fD ks ns b]=.ok (.int (Zdp ns ks b)):=by
 have hs:=Xen ns ks hn hk hw
 have ho:=Zpl ks ns b hn hk
 have l2:Zac [iD ns]=some (.int ns.length):=by simp [iD]
 have hlen:((starts ns ks b).map fun (e:Nat)=>D.int (e:Int)).length≤lim:=by
  rw [length_map]
  have:(starts ns ks b).length≤(List.range (ns.length+1)).length:=length_filter_le _ _
  rw [length_range] at this
  show _≤1000000
  omega
 have hmem:∀p∈starts ns ks b,p≤ns.length:=fun p hp=>by
  have:=List.mem_range.mp (List.mem_filter.mp hp).1
  omega
 have key:V (Zdw (Xo 3) Zds ((starts ns ks b).map fun (e:Nat)=>D.int (e:Int)) [some (fD ks ns b),some (iD (Zod ns ks)),some (.int ns.length),none]) (fun fl=>∃o,fl=.nx [some (fD ks ns b),some (iD (Zod ns ks)),some (.int (Zdp ns ks b)),o]):=by
  refine Zoy (P:=fun r ρ=>∃(s:Nat) (o:Option D),ρ=[some (fD ks ns b),some (iD (Zod ns ks)),some (.int s),o]∧s≤ns.length∧(∀p∈r,p≤ns.length)∧r.foldl (fun s p=>cst ns ks (s+p) s p) s=Zdp ns ks b) (fun p r ρ q=>?_) (fun ρ q=>?_) ⟨ns.length,none,rfl,le_refl _,hmem,rfl⟩
  ·obtain ⟨s,o,rfl,h1,h2,h3⟩:=q
   have hp:=h2 p (.head _)
   have hc:=Zyx ns ks hn hw h1 hp
   have hle:=Zvz (ns:=ns) hw (s+p) s p
   refine V.of (a:=.nx [some (fD ks ns b),some (iD (Zod ns ks)),some (.int (cst ns ks (s+p) s p)),some (.int p)]) ?_ (by exact ⟨_,_,rfl,by omega,fun q hq=>h2 q (.tail _ hq),h3⟩)
   exact Zu (Xl (Zc rfl (Zc rfl (Zc rfl rfl))) hc)
  ·obtain ⟨s,o,rfl,h1,h2,h3⟩:=q
   have h3:s=Zdp ns ks b:=h3
   rw [← h3]
   exact ⟨o,rfl⟩
 obtain ⟨fl,h1,o,rfl⟩:=key.ex
 have ho':Xn [fD ks ns b]=.ok (.lst ((starts ns ks b).map fun (e:Nat)=>D.int (e:Int))):=ho
 exact Je (Zo (Zu (Xl (Zc (Jh rfl (Zai _ _ _ _)) (Zc (Jh rfl (Zjf _ _ _ _)) (Zc (Jh rfl (Zjx _ _ _ _)) rfl))) hs)) (Zo (Zu (Js (Zc (Jh rfl (Zai _ _ _ _)) rfl) l2)) (Zo (Zdv (Zcc (Zay rfl (Zcb Zqq) rfl ho') hlen) h1) (Jf rfl))))
theorem Zmz (ks:List Kd)(ns:List Int)(b:Bool)(hn:ns.length≤900)(hk:ks.length≤1000)(hw:∀k∈ks,1≤k.w){e:Nat}(he:e≤ns.length):Xw [fD ks ns b,.int e]=.ok (psD (Xq ns ks e)):=by
 have h:=Xat ns ks hn hk hw he
 unfold fD
 generalize psD (Xq ns ks e)=PP at *
 generalize iD (hts ns ks ns.length)=T at *
 generalize iD ns=A at *
 generalize tD ks=B at *
 generalize (e:Int)=EE at *
 simp [Xw,Zcz,h]
theorem Zkx (ks:List Kd)(ns:List Int)(b:Bool)(hn:ns.length≤900)(hk:ks.length≤1000)(hw:∀k∈ks,1≤k.w):Yd [fD ks ns b]=.ok (psD (Xq ns ks (Zdp ns ks b))):=by
 have h1:=Zmi ks ns b hn hk hw
 have h2:=Zmz ks ns b hn hk hw (Zni (ns:=ns) hw b)
 unfold fD at *
 generalize psD (Xq ns ks (Zdp ns ks b))=PP at *
 generalize iD (hts ns ks ns.length)=T at *
 generalize iD ns=A at *
 generalize tD ks=B at *
 generalize (Zdp ns ks b:Int)=EE at *
 simp [Yd,Zkq,h1,h2]
theorem Zib (ks:List Kd)(ns:List Int)(b:Bool)(hn:ns.length≤900)(hk:ks.length≤1000)(hw:∀k∈ks,1≤k.w):Yf [fD ks ns b]=.ok (psD (Xq ns ks ns.length)):=by
 have h2:=Zmz ks ns b hn hk hw (le_refl ns.length)
 have l2:Zac [iD ns]=some (.int ns.length):=by simp [iD]
 unfold fD at *
 generalize psD (Xq ns ks ns.length)=PP at *
 generalize iD (hts ns ks ns.length)=T at *
 generalize iD ns=A at *
 generalize tD ks=B at *
 generalize (ns.length:Int)=EE at *
 simp [Yf,Zfj,l2,h2]
theorem Xmx {ns:List Int}{ks:List Kd}(hw:∀k∈ks,1≤k.w)(w:Int):hts (ns++[w]) ks ns.length=hts ns ks ns.length:=by
 refine List.ext_getElem? fun i=>?_
 have l1:=Jb (ns++[w]) ks ns.length
 have l2:=Jb ns ks ns.length
 by_cases hi:i≤ns.length
 ·have h1:=Zcl (ns++[w]) ks ns.length i hi
  have h2:=Zcl ns ks ns.length i hi
  have ht':=Zxw (ns:=ns++[w]) (ks:=ks) hw (c:=ns.length) (by simp) i hi
  rw [List.take_left' rfl] at ht'
  rw [← ht',← h2] at h1
  rw [getD_eq_getElem?_getD,getD_eq_getElem?_getD,getElem?_eq_getElem (by omega),getElem?_eq_getElem (by omega)] at h1
  rw [getElem?_eq_getElem (by omega),getElem?_eq_getElem (by omega)]
  simpa using h1
 ·rw [getElem?_eq_none (by omega),getElem?_eq_none (by omega)]
theorem Xeh {ns:List Int}{ks:List Kd}(hw:∀k∈ks,1≤k.w)(w:Int):hts (ns++[w]) ks (ns++[w]).length=hts ns ks ns.length++[Zew (ns++[w]) ks (hts ns ks ns.length)]:=by
 rw [length_append,length_singleton]
 show hts (ns++[w]) ks ns.length++[Zew (ns++[w]) ks (hts (ns++[w]) ks ns.length)]=_
 rw [Xmx hw]
noncomputable def Zwi (ns:List Int)(ks:List Kd)(w:Int):List (Int×Str):=(Xq (ns++[w]) ks (Zdp (ns++[w]) ks false)).drop (Xq ns ks (Zdp ns ks false)).length
theorem Xak (ps:List (Int×Str))(n:Nat):gSl (psD ps) (some (n:Int)) none=some (psD (ps.drop n)):=by
 have hf:Xy (ps.map pD)=true:=Znp ps
 simp only [gSl,psD,hf,if_true]
 rw [Xcz (by omega),toNat_natCast,map_drop]
theorem Zzp (ks:List Kd)(ns:List Int)(w:Int)(hn:ns.length<200)(hk:ks.length≤1000)(hw:∀k∈ks,1≤k.w):Zbb [fD ks ns false,.int w]=.ok (psD (Zwi ns ks w),fD ks (ns++[w]) false):=by
 have h1:=Zqo ks ns
 have h2:=Zkx ks ns false (by omega) hk hw
 have hlen:(ns++[w]).length=ns.length+1:=by simp
 have h3:=Zkx ks (ns++[w]) false (by omega) hk hw
 have hl:=Jb ns ks ns.length
 have h4:=Zlg (ns++[w]) ks (hts ns ks ns.length) hl (by omega) hk hw
 have h5:=Xak (Xq (ns++[w]) ks (Zdp (ns++[w]) ks false)) (Xq ns ks (Zdp ns ks false)).length
 have g1:Zac [psD (Xq ns ks (Zdp ns ks false))]=some (.int (Xq ns ks (Zdp ns ks false)).length):=by simp [psD]
 have l2:Zac [iD ns]=some (.int ns.length):=by simp [iD]
 have en:¬(200:Int)≤(ns.length:Int):=by omega
 have ew:iD (ns++[w])=.lst (ns.map D.int++[.int w]):=by simp [iD]
 have et:iD (hts (ns++[w]) ks (ns++[w]).length)=.lst ((hts ns ks ns.length).map D.int++[.int (Zew (ns++[w]) ks (hts ns ks ns.length))]):=by rw [Xeh hw];simp [iD]
 have z1:(ns.map D.int).length<lim:=by rw [length_map];show _<1000000;omega
 have z2:((hts ns ks ns.length).map D.int).length<lim:=by rw [length_map,hl];show _<1000000;omega
 have ef:fD ks (ns++[w]) false=oF (tD ks) (.lst (ns.map D.int++[.int w])) (.lst ((hts ns ks ns.length).map D.int++[.int (Zew (ns++[w]) ks (hts ns ks ns.length))])) (.bl false):=by unfold fD;rw [ew,et]
 have ef0:fD ks ns false=oF (tD ks) (.lst (ns.map D.int)) (.lst ((hts ns ks ns.length).map D.int)) (.bl false):=rfl
 have el0:iD ns=.lst (ns.map D.int):=rfl
 have el1:iD (hts ns ks ns.length)=.lst ((hts ns ks ns.length).map D.int):=rfl
 rw [ef] at h3 ⊢
 rw [ew] at h4
 unfold Zwi
 exact Xuc (Xqu (Xsd (Zay rfl (Zcb Zzl) rfl h1)) (Xqu (Yn (Yl (Zl (Js (Zc (Jh rfl (Zai _ _ _ _)) rfl) l2) rfl (Zrf en))) rfl) (Xqu (Zu (Js (Zc (Zay rfl (Zcb Zth) rfl h2) rfl) g1)) (Xqu (Zvb rfl (Zai _ _ _ _) (Jh rfl rfl) (Zwo _ _ _ _ _ z1)) (Xqu (Zvb rfl (Zjx _ _ _ _) (Xl (Zc (Jh rfl (Zai _ _ _ _)) (Zc (Jh rfl (Zjf _ _ _ _)) (Zc (Jh rfl (Zjx _ _ _ _)) rfl))) h4) (Xjm _ _ _ _ _ z2)) (Xkp (Xot (Zay rfl (Zcb Zth) rfl h3) rfl rfl h5))))))) rfl
noncomputable def Zfg (ns:List Int)(ks:List Kd):List (Int×Str):=(Xq ns ks (Zdp ns ks true)).drop (Xq ns ks (Zdp ns ks false)).length
theorem Zum (ks:List Kd)(ns:List Int)(hn:ns.length≤900)(hk:ks.length≤1000)(hw:∀k∈ks,1≤k.w):Zan [fD ks ns false]=.ok (psD (Zfg ns ks),fD ks ns true):=by
 have h1:=Zqo ks ns
 have h2:=Zkx ks ns false hn hk hw
 have h3:=Zkx ks ns true hn hk hw
 have h5:=Xak (Xq ns ks (Zdp ns ks true)) (Xq ns ks (Zdp ns ks false)).length
 have g1:Zac [psD (Xq ns ks (Zdp ns ks false))]=some (.int (Xq ns ks (Zdp ns ks false)).length):=by simp [psD]
 unfold Zfg
 unfold fD at *
 generalize psD ((Xq ns ks (Zdp ns ks true)).drop (Xq ns ks (Zdp ns ks false)).length)=RS at *
 generalize psD (Xq ns ks (Zdp ns ks true))=P2 at *
 generalize ((Xq ns ks (Zdp ns ks false)).length:Int)=LL at *
 generalize psD (Xq ns ks (Zdp ns ks false))=P1 at *
 generalize iD (hts ns ks ns.length)=T at *
 generalize iD ns=A at *
 generalize tD ks=B at *
 simp only [Zan,Ziv]
 simp [h1,h2,g1,Zzx,h3,h5]
theorem Zqy {r:Int}(h0:0≤r)(h1:r≤1000)(x:Int):Zcm (.lst [.int x]) (.int r)=some (iD (List.replicate r.toNat x)):=by
 have e:(List.replicate r.toNat [D.int x]).flatten=(List.replicate r.toNat x).map D.int:=by
  rw [List.map_replicate]
  induction r.toNat with
  | zero=>rfl
  | succ n ih=>rw [replicate_succ,flatten_cons,ih,replicate_succ];rfl
 simp only [Zcm]
 rw [if_pos ⟨by omega,by simp only [length_cons,length_nil];show _≤1000000;omega,by omega,rfl⟩,e]
 rfl
theorem Zyw (ns:List Int)(ks:List Kd)(hn:ns.length≤900)(hk:ks.length≤1000)(hw:∀k∈ks,1≤k.w):Zpy [iD ns,tD ks]=.ok (.tup [.int (ht ns ks ns.length),psD (Xq ns ks ns.length)]):=by
 have h1:=Xat ns ks hn hk hw (le_refl ns.length)
 have hh:=Zwn ns ks hn hk hw
 have ix:=Zer (ns:=hts ns ks ns.length) (Jb ns ks ns.length)
 rw [Zcl ns ks _ _ (le_refl _)] at ix
 have ix':gIx (iD (hts ns ks ns.length)) (.int (-1))=_:=ix
 have l2:Zac [iD ns]=some (.int ns.length):=by simp [iD]
 exact Je (Zo (Zu (Xl (Zc rfl (Zc rfl rfl)) hh)) (Jf (Js (Zc (Jh (Zl rfl (Jh rfl rfl) ix') rfl) (Zc (Xl (Zc rfl (Zc rfl (Zc rfl (Zc (Js (Zc rfl rfl) l2) rfl)))) h1) rfl)) rfl)))
theorem Zmt (ks:List Kd)(ns:List Int)(b:Bool){r:Int}(h0:0≤r)(h1:r≤300)(hn:ns.length≤300)(hk:ks.length≤1000)(hw:∀k∈ks,1≤k.w) :
  Yj [fD ks ns b,.int r]=.ok (.tup [.int (ht ns ks ns.length),.int (ht (ns++List.replicate r.toNat 0) ks (ns++List.replicate r.toNat 0).length)]):=by
 have hw':=Zor ks ns b
 have hl:(ns++List.replicate r.toNat (0:Int)).length≤900:=by rw [length_append,length_replicate];omega
 have hb:=Zyw (ns++List.replicate r.toNat 0) ks hl hk hw
 have hm:=Zqy h0 (Int.le_trans h1 (by decide)) 0
 have ha:=Zgg (xs:=ns) (ys:=List.replicate r.toNat 0) (by rw [length_replicate];omega)
 exact Je (Jf (Js (Zc (Zay rfl (Zcb Znn) rfl hw') (Zc (Jh (Zl (Xl (Zc (Zl (Jh rfl (Zai _ _ _ _)) (Zl rfl rfl hm) ha) (Zc (Jh rfl (Zjf _ _ _ _)) rfl)) hb) rfl rfl) rfl) rfl)) rfl))
theorem Xmo (ns:List Int)(ks:List Kd)(hn:ns.length≤900)(hk:ks.length≤1000)(hw:∀k∈ks,1≤k.w){e:Nat}(he:e≤ns.length){k:Kd}(hl:Zaq ns ks e=some k) :
  ∃r,((ks.filter fun k=>good ns k ((e:Int) - k.w)).filter (Zcn ns ks e))=k::r:=by
 have h:(ks.filter fun k=>good ns k ((e:Int) - k.w)).find? (Zcn ns ks e)=some k:=by
  have q:=(Zba hl).2.2.2
  unfold Zaq at hl
  rw [if_neg q] at hl
  exact hl
 rw [← List.head?_filter] at h
 cases hf:(ks.filter fun k=>good ns k ((e:Int) - k.w)).filter (Zcn ns ks e) with
 | nil=>rw [hf] at h;cases h
 | cons x r=>rw [hf] at h;cases h;exact ⟨r,rfl⟩
theorem Zvf {ns:List Int}(h0:∀w∈ns,0≤w):∀{a b:Nat},a≤b→pre ns a≤pre ns b:=by
 intro a b hab
 obtain ⟨d,rfl⟩:∃d,b=a+d:=⟨b - a,(Nat.add_sub_of_le hab).symm⟩
 induction d with
 | zero=>exact Int.le_refl _
 | succ d ih =>
  have:=ih (le_add_right _ _)
  by_cases hl:a+d<ns.length
  ·have e:=Zus (ns:=ns) (i:=a+d) (getElem?_eq_getElem hl)
   rw [← Nat.add_assoc,e]
   exact Int.le_trans this (Int.le_add_of_nonneg_right (h0 _ (getElem_mem hl)))
  ·have e:pre ns (a+(d+1))=pre ns (a+d):=by
    unfold pre
    rw [take_of_length_le (by omega),take_of_length_le (by omega)]
   omega
theorem pre_app (xs ys:List Int)(j:Nat):pre (xs++ys) (xs.length+j)=xs.sum+pre ys j:=by
 unfold pre
 rw [List.take_append,take_of_length_le (by omega),List.sum_append]
 congr 3
 omega
theorem Xhw (xs ys:List Int){j:Nat}(h:j≤xs.length):pre (xs++ys) j=pre xs j:=by
 unfold pre
 rw [List.take_append_of_le_length h]
inductive Pth (ns:List Int)(ks:List Kd):Nat→Nat→Prop where
 | here (a:Nat):Pth ns ks a a
 | step {a x:Nat}:1≤a→Pth ns ks (stp ns ks a) x→Pth ns ks a x
theorem Pth.trans {ns:List Int}{ks:List Kd}{a b c:Nat}(h1:Pth ns ks a b)(h2:Pth ns ks b c):Pth ns ks a c:=by
 induction h1 with
 | here a=>exact h2
 | step h _ ih=>exact .step h (ih h2)
theorem Pth.le {ns:List Int}{ks:List Kd}(hw:∀k∈ks,1≤k.w){a b:Nat}(h:Pth ns ks a b):b≤a:=by
 induction h with
 | here a=>exact le_refl _
 | step h _ ih =>
  have:=Jz (ns:=ns) hw h
  omega
theorem Pth.next {ns:List Int}{ks:List Kd}{a b:Nat}(h:Pth ns ks a b)(hne:a≠b):1≤a∧Pth ns ks (stp ns ks a) b:=by
 cases h with
 | here=>exact absurd rfl hne
 | step h h'=>exact ⟨h,h'⟩
theorem Zop {ns:List Int}{ks:List Kd}(hw:∀k∈ks,1≤k.w):∀(n a b:Nat),a+b≤n→Pth ns ks a (cst ns ks n a b)∧Pth ns ks b (cst ns ks n a b)
 | 0,a,b,h=>by
  have h1:a=0:=by omega
  have h2:b=0:=by omega
  subst h1 h2
  exact ⟨.here _,.here _⟩
 | n+1,a,b,h=>by
  rw [cst]
  split
  ·rename_i e
   subst e
   exact ⟨.here _,.here _⟩
  ·split
   ·have hl:=Jz (ns:=ns) hw (e:=a) (by omega)
    obtain ⟨p,q⟩:=Zop hw n (stp ns ks a) b (ns:=ns) (by omega)
    exact ⟨.step (by omega) p,q⟩
   ·have hl:=Jz (ns:=ns) hw (e:=b) (by omega)
    obtain ⟨p,q⟩:=Zop hw n a (stp ns ks b) (ns:=ns) (by omega)
    exact ⟨p,.step (by omega) q⟩
theorem Zon {ns:List Int}{ks:List Kd}(hw:∀k∈ks,1≤k.w):∀(n a b x:Nat),a+b≤n→Pth ns ks a x→Pth ns ks b x→Pth ns ks (cst ns ks n a b) x
 | 0,a,b,x,h,p,q=>by
  have h1:a=0:=by omega
  subst h1
  exact p
 | n+1,a,b,x,h,p,q=>by
  rw [cst]
  split
  ·exact p
  ·rename_i hne
   have la:=p.le hw
   have lb:=q.le hw
   split
   ·have hl:=Jz (ns:=ns) hw (e:=a) (by omega)
    exact Zon hw n _ b x (by omega) (p.next (by omega)).2 q
   ·have hl:=Jz (ns:=ns) hw (e:=b) (by omega)
    exact Zon hw n a _ x (by omega) p (q.next (by omega)).2
theorem Zpm {ns:List Int}{ks:List Kd}(hw:∀k∈ks,1≤k.w):∀(l:List Nat) (s:Nat),Pth ns ks s (l.foldl (fun s p=>cst ns ks (s+p) s p) s)∧∀p∈l,Pth ns ks p (l.foldl (fun s p=>cst ns ks (s+p) s p) s)
 | [],s=>⟨.here _,fun _ h=>nomatch h⟩
 | p::l,s=>by
  obtain ⟨c1,c2⟩:=Zop (ns:=ns) hw (s+p) s p (le_refl _)
  obtain ⟨h1,h2⟩:=Zpm hw l (cst ns ks (s+p) s p) (ns:=ns)
  refine ⟨c1.trans h1,fun q hq=>?_⟩
  rcases List.mem_cons.mp hq with e | hq
  ·subst e
   exact c2.trans h1
  ·exact h2 q hq
theorem Zkw {ns:List Int}{ks:List Kd}(hw:∀k∈ks,1≤k.w){x:Nat}:∀(l:List Nat) (s:Nat),Pth ns ks s x→(∀p∈l,Pth ns ks p x)→Pth ns ks (l.foldl (fun s p=>cst ns ks (s+p) s p) s) x
 | [],s,h,_=>h
 | p::l,s,h,hl=>Zkw hw l _ (Zon hw _ _ _ _ (le_refl _) h (hl p (.head _))) fun q hq=>hl q (.tail _ hq)
theorem Zhd {ns:List Int}{ks:List Kd}(hw:∀k∈ks,1≤k.w)(b:Bool):Pth ns ks ns.length (Zdp ns ks b)∧∀p∈starts ns ks b,Pth ns ks p (Zdp ns ks b):=Zpm hw _ _
theorem Zqr {ns:List Int}{ks:List Kd}(hw:∀k∈ks,1≤k.w){a x:Nat}(h:Pth ns ks a x):∃r,Xq ns ks a=Xq ns ks x++r∧∀p∈r,(x:Int)≤p.1:=by
 induction h with
 | here a=>exact ⟨[],by simp,fun _ h=>nomatch h⟩
 | @step a x h1 hp ih =>
  obtain ⟨r,e,hr⟩:=ih
  have hx:=hp.le hw
  refine ⟨r++pcF ns ks a,by rw [Zbv hw h1,e,append_assoc],fun p hm=>?_⟩
  rcases List.mem_append.mp hm with z | z
  ·exact hr p z
  ·unfold pcF at z
   split at z
   ·cases z
   ·rw [List.mem_singleton.mp z]
    show (x:Int)≤(stp ns ks a:Int)
    omega
theorem Xfg {ns os:List Int}{k:Kd}{p:Int}(h0:1≤k.w)(h:p+k.w≤ns.length):good (ns++os) k p=good ns k p:=by
 have:=Zrc (ns:=ns++os) (k:=k) (p:=p) (c:=ns.length) h0 h (by simp)
 rw [List.take_left' rfl] at this
 exact this.symm
theorem Zif {ns os:List Int}{ks:List Kd}(hw:∀k∈ks,1≤k.w){j:Nat}(hj:j≤ns.length):ht (ns++os) ks j=ht ns ks j:=by
 have:=Zxw (ns:=ns++os) (ks:=ks) hw (c:=ns.length) (by simp) j hj
 rw [List.take_left' rfl] at this
 exact this.symm
theorem Zmn {α:Type}{p q:α→Bool}:∀{l:List α},(∀x∈l,p x=q x)→l.find? p=l.find? q
 | [],_=>rfl
 | x::l,h=>by
  rw [find?_cons,find?_cons,h x (.head _),Zmn fun y hy=>h y (.tail _ hy)]
theorem Zqu {ns os:List Int}{ks:List Kd}(hw:∀k∈ks,1≤k.w){j:Nat}(hj:j≤ns.length):Zaq (ns++os) ks j=Zaq ns ks j:=by
 unfold Zaq
 rw [Zif hw hj,Zif hw (j:=j - 1) (by omega)]
 split
 ·rfl
 ·have e1:(ks.filter fun k=>good (ns++os) k ((j:Int) - k.w))=ks.filter fun k=>good ns k ((j:Int) - k.w):=List.filter_congr fun k hk=>Xfg (hw k hk) (by omega)
  rw [e1]
  refine Zmn fun k hk=>?_
  have hk':=(List.mem_filter.mp hk).1
  have h1:=hw k hk'
  unfold Zcn
  rw [Zif hw hj,Zif hw (j:=((j:Int) - k.w).toNat) (by omega)]
theorem Zrt {ns os:List Int}{ks:List Kd}(hw:∀k∈ks,1≤k.w){j:Nat}(hj:j≤ns.length):stp (ns++os) ks j=stp ns ks j:=by
 unfold stp
 rw [Zqu hw hj]
theorem Zyd {ns os:List Int}{ks:List Kd}(hw:∀k∈ks,1≤k.w):∀j,j≤ns.length→Xq (ns++os) ks j=Xq ns ks j:=by
 intro j
 induction j using Nat.strongRecOn with
 | _ j ih =>
  intro hj
  cases j with
  | zero=>rfl
  | succ j =>
   have hl:=Jz (ns:=ns) hw (e:=j+1) (by omega)
   rw [Zbv hw (by omega),Zbv (ns:=ns) hw (by omega),Zrt hw hj,ih _ hl (by omega)]
   congr 1
   unfold pcF
   rw [Zqu hw hj,Zrt hw hj]
theorem Pth.app {ns os:List Int}{ks:List Kd}(hw:∀k∈ks,1≤k.w){a x:Nat}(h:Pth ns ks a x)(ha:a≤ns.length):Pth (ns++os) ks a x:=by
 induction h with
 | here a=>exact .here _
 | @step a x h1 hp ih =>
  have hl:=Jz (ns:=ns) hw h1
  refine .step h1 ?_
  rw [Zrt hw ha]
  exact ih (by omega)
theorem Xmk {ns:List Int}{ks:List Kd}(hw:∀k∈ks,1≤k.w){i j:Nat}(h:i≤j):ht ns ks i≤ht ns ks j:=by
 obtain ⟨d,rfl⟩:∃d,j=i+d:=⟨j - i,by omega⟩
 induction d with
 | zero=>exact Int.le_refl _
 | succ d ih =>
  have:=Xmr ns ks hw (i+d)
  have:=ih (by omega)
  rw [← Nat.add_assoc]
  omega
theorem Zrq {ns os:List Int}{ks:List Kd}(hw:∀k∈ks,1≤k.w)(h0:∀w∈os,0≤w):∀e,ns.length≤e→e≤(ns++os).length→∃q∈starts ns ks false,Pth (ns++os) ks e q:=by
 intro e
 induction e using Nat.strongRecOn with
 | _ e ih =>
  intro h1 h2
  by_cases he:e=ns.length
  ·subst he
   exact ⟨_,List.mem_filter.mpr ⟨List.mem_range.mpr (lt_succ_self _),by simp [opn]⟩,.here _⟩
  ·have hlt:ns.length<e:=Nat.lt_of_le_of_ne h1 (Ne.symm he)
   have e1:1≤e:=Nat.succ_le_of_lt (lt_of_le_of_lt (zero_le _) hlt)
   have hl:=Jz (ns:=ns++os) hw (e:=e) e1
   by_cases hq:ns.length≤stp (ns++os) ks e
   ·obtain ⟨q,q1,q2⟩:=ih _ hl hq (le_trans (le_of_lt hl) h2)
    exact ⟨q,q1,.step e1 q2⟩
   ·refine ⟨stp (ns++os) ks e,?_,.step e1 (.here _)⟩
    cases hk:Zaq (ns++os) ks e with
    | none =>
     exfalso
     have es:stp (ns++os) ks e=e - 1:=by unfold stp;rw [hk]
     rw [es] at hq
     exact hq (Nat.le_sub_one_of_lt hlt)
    | some k =>
     obtain ⟨k1,hg,q1,q2⟩:=Zba hk
     have hw1:=hw k k1
     have es:stp (ns++os) ks e=((e:Int) - k.w).toNat:=by unfold stp;rw [hk]
     simp only [good,decide_eq_true_eq] at hg
     obtain ⟨g1,g2,g3⟩:=hg
     rw [← es] at q1 g3
     rw [Int.sub_add_cancel,toNat_natCast] at g3
     have eq:((((e:Int) - k.w).toNat:Nat):Int)=(e:Int) - k.w:=Int.toNat_of_nonneg g1
     rw [← es] at eq
     generalize hp:stp (ns++os) ks e=p at *
     have hpn:p≤ns.length:=le_of_lt (Nat.lt_of_not_le hq)
     refine List.mem_filter.mpr ⟨List.mem_range.mpr (Nat.lt_succ_of_le hpn),?_⟩
     have t1:=Zif (os:=os) (ks:=ks) hw hpn
     have t2:=Zif (os:=os) (ks:=ks) hw (le_refl ns.length)
     have t3:=Xmk (ns:=ns++os) hw (i:=ns.length) (j:=e - 1) (Nat.le_sub_one_of_lt hlt)
     have t4:=Xmk (ns:=ns++os) hw (i:=e - 1) (j:=e) (Nat.sub_le _ _)
     have p1:=Xhw ns os hpn
     have p2:=pre_app ns os (e - ns.length)
     have p3:0≤pre os (e - ns.length):=Zvf (a:=0) h0 (zero_le _)
     have p4:pre ns ns.length=ns.sum:=by unfold pre;rw [take_of_length_le (le_refl _)]
     rw [Nat.add_sub_of_le h1] at p2
     have hgo:Zmm ns k p=true:=by
      simp only [Zmm,Bool.and_eq_true,decide_eq_true_eq]
      constructor
      ·rw [eq,Int.sub_add_cancel]
       exact Int.ofNat_lt.mpr hlt
      ·rw [p1,p2] at g3
       rw [p4]
       exact Int.le_trans (Int.sub_le_sub_right (Int.le_add_of_nonneg_right p3) _) g3
     have hh:ht ns ks ns.length<ht ns ks p+k.wo:=by omega
     simp only [opn,Bool.or_eq_true,Bool.and_eq_true,any_eq_true]
     exact .inr ⟨rfl,k,k1,hgo,by simpa using hh⟩
theorem Zic {ns os:List Int}{ks:List Kd}(hw:∀k∈ks,1≤k.w)(h0:∀w∈os,0≤w){e:Nat}(h1:ns.length≤e)(h2:e≤(ns++os).length):Pth (ns++os) ks e (Zdp ns ks false):=by
 obtain ⟨q,q1,q2⟩:=Zrq hw h0 e h1 h2
 have hq:=List.mem_range.mp (List.mem_filter.mp q1).1
 exact q2.trans (((Zhd (ns:=ns) hw false).2 q q1).app hw (by omega))
theorem Zob {ns os:List Int}{ks:List Kd}(hw:∀k∈ks,1≤k.w)(h0:∀w∈os,0≤w):Pth (ns++os) ks (Zdp (ns++os) ks false) (Zdp ns ks false):=by
 refine Zkw hw _ _ (Zic hw h0 (by simp) (le_refl _)) fun p hp=>?_
 obtain ⟨p1,p2⟩:=List.mem_filter.mp hp
 have p1:=List.mem_range.mp p1
 by_cases hpn:ns.length≤p
 ·exact Zic hw h0 hpn (by omega)
 ·have hps:p∈starts ns ks false:=by
   refine List.mem_filter.mpr ⟨List.mem_range.mpr (by omega),?_⟩
   simp only [opn,Bool.or_eq_true,Bool.and_eq_true,any_eq_true,beq_iff_eq] at p2 ⊢
   rcases p2 with p2 | ⟨_,k,k1,hg,hh⟩
   ·exfalso
    rw [length_append] at p2
    omega
   ·refine .inr ⟨rfl,k,k1,?_,?_⟩
    ·simp only [Zmm,Bool.and_eq_true,decide_eq_true_eq] at hg ⊢
     have a1:=Xhw ns os (j:=p) (by omega)
     have a2:=pre_app ns os os.length
     have a3:0≤pre os os.length:=Zvf (a:=0) h0 (by omega)
     have a4:pre ns ns.length=ns.sum:=by unfold pre;rw [take_of_length_le (le_refl _)]
     rw [length_append] at hg
     constructor
     ·omega
     ·omega
    ·have hh:ht (ns++os) ks (ns++os).length<ht (ns++os) ks p+k.wo:=by simpa using hh
     have t1:=Zif (ns:=ns) (os:=os) (ks:=ks) hw (j:=p) (by omega)
     have t2:=Zif (os:=os) (ks:=ks) hw (le_refl ns.length)
     have t3:=Xmk (ns:=ns++os) hw (i:=ns.length) (j:=(ns++os).length) (by simp)
     have:ht ns ks ns.length<ht ns ks p+k.wo:=by omega
     simpa using this
  exact ((Zhd (ns:=ns) hw false).2 p hps).app hw (by omega)
theorem Zkj {l:List Nat}{p:Nat}:Zkz (.int (p:Int)) (nD l)=some (.bl (!(l.contains p))):=by
 have h1:Zho (l.map fun (e:Nat)=>D.int (e:Int))≤20:=by
  induction l with
  | nil=>simp [Zho]
  | cons x l ih=>simp [Zho,dep] at *;exact ih
 have h2:((l.map fun (e:Nat)=>D.int (e:Int)).any fun y=>eqv y (.int (p:Int)))=l.contains p:=by
  rw [List.any_map,Bool.eq_iff_iff,any_eq_true,List.contains_iff_mem]
  constructor
  ·rintro ⟨x,hx,e⟩
   have e:((x:Int)==(p:Int))=true:=e
   have e:=beq_iff_eq.mp e
   have:x=p:=by omega
   exact this▸hx
  ·intro h
   exact ⟨p,h,beq_self_eq_true _⟩
 simp only [Zkz,nD]
 rw [if_pos ⟨by simp [dep],h1⟩,h2]
noncomputable def Zmu (ns:List Int)(ks:List Kd)(p:Nat):Bool:=ks.any fun k=>Zmm ns k p&&decide (ht ns ks ns.length<ht ns ks p+k.wo)
theorem Zpr (ns:List Int)(ks:List Kd):starts ns ks false=(List.range ns.length).filter (Zmu ns ks)++[ns.length]:=by
 unfold starts
 rw [range_succ,filter_append]
 congr 1
 ·refine List.filter_congr fun p hp=>?_
  have hp:=List.mem_range.mp hp
  have:(p==ns.length)=false:=by simp;omega
  simp [opn,Zmu,this]
 ·simp [opn]
theorem Zxb (ns:List Int)(ks:List Kd)(hn:ns.length≤900)(hk:ks.length≤1000)(hw:∀k∈ks,1≤k.w):Zas [iD ns,tD ks]=.ok (nD (starts ns ks false)):=by
 have hsum:=Zto ns (by omega)
 have hsl:=Zjh ns
 have hht:=Zdg ns ks hn hk hw
 have hl:=Jb ns ks ns.length
 have l2:Zac [iD ns]=some (.int ns.length):=by simp [iD]
 have hkl:(ks.map kD).length≤lim:=by rw [length_map];show _≤1000000;omega
 have sa:∀q:Nat,q≤ns.length→gIx (iD (Xt ns)) (.int q)=some (.int (pre ns q)):=fun q h2=>by
  have:=Yz (ns:=Xt ns) (i:=(q:Int)) (k:=q) rfl (by omega)
  rw [Xaj ns h2] at this
  exact this
 have ta:∀q:Nat,q≤ns.length→gIx (iD (hts ns ks ns.length)) (.int q)=some (.int (ht ns ks q)):=fun q h2=>by
  have:=Yz (ns:=hts ns ks ns.length) (i:=(q:Int)) (k:=q) rfl (by omega)
  rw [Zcl ns ks _ _ h2] at this
  exact this
 have inner:∀(p:Nat),p<ns.length→∀(l:List Nat) (o7 o8:Option D),l.length≤ns.length→p∉l→V (Zdw (Xo 7) Zep (ks.map kD) [some (iD ns),some (tD ks),some (iD (Xt ns)),some (iD (hts ns ks ns.length)),some (.int ns.length),some (nD l),some (.int p),o7,o8])
   (fun fl=>∃o7 o8,fl=.nx [some (iD ns),some (tD ks),some (iD (Xt ns)),some (iD (hts ns ks ns.length)),some (.int ns.length),some (nD (if Zmu ns ks p then l++[p] else l)),some (.int p),o7,o8]):=by
  intro p hp l o7 o8 hll hpl
  refine Zoy (P:=fun r ρ=>∃(c:Bool) (o7 o8:Option D),ρ=[some (iD ns),some (tD ks),some (iD (Xt ns)),some (iD (hts ns ks ns.length)),some (.int ns.length),some (nD (if c then l++[p] else l)),some (.int p),o7,o8]∧(c||r.any fun k=>Zmm ns k p&&decide (ht ns ks ns.length<ht ns ks p+k.wo))=Zmu ns ks p) (fun k r ρ q=>?_) (fun ρ q=>?_) ⟨false,o7,o8,rfl,by simp [Zmu]⟩
  ·obtain ⟨c,a7,a8,rfl,hc⟩:=q
   have z1:gIx (kD k) (.int 1)=some (.int k.w):=rfl
   have z2:gIx (kD k) (.int 2)=some (.int k.wo):=rfl
   have z3:gIx (kD k) (.int 3)=some (.int k.al):=rfl
   have s1:=sa p (by omega)
   have s2:=sa ns.length (le_refl _)
   have t1:=ta p (by omega)
   have t2:=ta ns.length (le_refl _)
   have hover:(Xcn (f2 gGt (f2 Jj (fV 6) (f2 gIx (fV 7) (fC (.int 1)))) (fV 4)) (f2 gLe (f2 Zdy (f2 gIx (fV 2) (fV 4)) (f2 gIx (fV 2) (fV 6))) (f2 gIx (fV 7) (fC (.int 3))))) [some (iD ns),some (tD ks),some (iD (Xt ns)),some (iD (hts ns ks ns.length)),some (.int ns.length),some (nD (if c then l++[p] else l)),some (.int p),some (kD k),a8]=.ok (.bl (Zmm ns k p)):=by
    unfold Zmm
    by_cases q:(ns.length:Int)<(p:Int)+k.w
    ·rw [decide_eq_true q,Bool.true_and]
     exact Zyb (Zl (Zl rfl (Zl rfl rfl z1) rfl) rfl (Zri q)) (Zl (Zl (Zl rfl rfl s2) (Zl rfl rfl s1) rfl) (Zl rfl rfl z3) rfl)
    ·rw [decide_eq_false q,Bool.false_and]
     exact Xjc (Zl (Zl rfl (Zl rfl rfl z1) rfl) rfl (Zrf q))
   have hni:=Zkj (l:=if c then l++[p] else l) (p:=p)
   have hfl:Xs (.int (p:Int))=some (.int p):=rfl
   refine V.of (a:=.nx [some (iD ns),some (tD ks),some (iD (Xt ns)),some (iD (hts ns ks ns.length)),some (.int ns.length),some (nD (if (c||(Zmm ns k p&&decide (ht ns ks ns.length<ht ns ks p+k.wo))) then l++[p] else l)),some (.int p),some (kD k),some (.bl (Zmm ns k p))]) ?_ (by exact ⟨_,_,_,rfl,by rw [← hc,any_cons,Bool.or_assoc]⟩)
   have hlim:(l.map fun (e:Nat)=>D.int (e:Int)).length<lim:=by rw [length_map];show _<1000000;omega
   refine Zo (Zu hover) ?_
   clear hover
   cases hg:Zmm ns k p with
   | false =>
    rw [Bool.false_and,Bool.or_false]
    exact Yn (Znt (Yl rfl)) rfl
   | true =>
    rw [Bool.true_and]
    by_cases q:ht ns ks ns.length<ht ns ks p+k.wo
    ·rw [decide_eq_true q,Bool.or_true]
     cases c with
     | true =>
      have hni:Zkz (.int (p:Int)) (nD (l++[p]))=some (.bl false):=by rw [Zkj];simp
      exact Yn (Zfm (Yl rfl) (Zfm (Yl (Zl (Zl (Zl rfl rfl t1) (Zl rfl rfl z2) rfl) (Zl rfl rfl t2) (Zri q))) (Yl (Zl rfl rfl hni)))) rfl
     | false =>
      have hni:Zkz (.int (p:Int)) (nD l)=some (.bl true):=by rw [Zkj];simp [hpl]
      rw [if_pos rfl,show nD (l++[p])=.lst ((l.map fun (e:Nat)=>D.int (e:Int))++[.int p]) from congrArg D.lst map_append]
      exact Zbc (Zfm (Yl rfl) (Zfm (Yl (Zl (Zl (Zl rfl rfl t1) (Zl rfl rfl z2) rfl) (Zl rfl rfl t2) (Zri q))) (Yl (Zl rfl rfl hni)))) (Zge rfl (Jh rfl hfl) hlim)
    ·rw [decide_eq_false q,Bool.or_false]
     exact Yn (Zfm (Yl rfl) (Znt (Yl (Zl (Zl (Zl rfl rfl t1) (Zl rfl rfl z2) rfl) (Zl rfl rfl t2) (Zrf q))))) rfl
  ·obtain ⟨c,a7,a8,rfl,hc⟩:=q
   have hc:c=Zmu ns ks p:=by simpa using hc
   rw [← hc]
   exact ⟨a7,a8,rfl⟩
 have outer:V (Zdw (Xo 6) Zem (Zdq 0 ns.length) [some (iD ns),some (tD ks),some (iD (Xt ns)),some (iD (hts ns ks ns.length)),some (.int ns.length),some (.lst []),none,none,none])
   (fun fl=>∃o6 o7 o8,fl=.nx [some (iD ns),some (tD ks),some (iD (Xt ns)),some (iD (hts ns ks ns.length)),some (.int ns.length),some (nD ((List.range ns.length).filter (Zmu ns ks))),o6,o7,o8]):=by
  refine Zzh (P:=fun i ρ=>∃o6 o7 o8,ρ=[some (iD ns),some (tD ks),some (iD (Xt ns)),some (iD (hts ns ks ns.length)),some (.int ns.length),some (nD ((List.range i).filter (Zmu ns ks))),o6,o7,o8]) ⟨none,none,none,rfl⟩ (fun i ρ hi q=>?_) (fun ρ q=>?_)
  ·obtain ⟨o6,o7,o8,rfl⟩:=q
   have hll:((List.range i).filter (Zmu ns ks)).length≤ns.length:=by
    have:=length_filter_le (Zmu ns ks) (List.range i)
    rw [length_range] at this
    omega
   have hpl:i∉(List.range i).filter (Zmu ns ks):=fun h=>by
    have:=List.mem_range.mp (List.mem_filter.mp h).1
    omega
   have:=inner i hi _ o7 o8 hll hpl
   obtain ⟨fl,h1,a7,a8,rfl⟩:=this.ex
   have en:(if Zmu ns ks i then (List.range i).filter (Zmu ns ks)++[i] else (List.range i).filter (Zmu ns ks))=(List.range (i+1)).filter (Zmu ns ks):=by
    rw [range_succ,filter_append]
    cases hs:Zmu ns ks i<;>simp [hs]
   rw [en] at h1
   refine V.of (a:=.nx [some (iD ns),some (tD ks),some (iD (Xt ns)),some (iD (hts ns ks ns.length)),some (.int ns.length),some (nD ((List.range (i+1)).filter (Zmu ns ks))),some (.int i),a7,a8]) ?_ (by exact ⟨_,_,_,rfl⟩)
   exact Zdv (Zcc rfl hkl) h1
  ·obtain ⟨o6,o7,o8,rfl⟩:=q
   exact ⟨o6,o7,o8,rfl⟩
 obtain ⟨fl,h1,o6,o7,o8,rfl⟩:=outer.ex
 have hadd:Jj (nD ((List.range ns.length).filter (Zmu ns ks))) (.lst [.int ns.length])=some (nD (starts ns ks false)):=by
  rw [Zpr]
  have hfl:Xy (((List.range ns.length).filter (Zmu ns ks)).map fun (e:Nat)=>D.int (e:Int))=true:=Zaa (fun _=>rfl) _
  have:=length_filter_le (Zmu ns ks) (List.range ns.length)
  rw [length_range] at this
  simp only [Jj,nD]
  rw [if_pos ⟨by rw [length_map];simp only [length_cons,length_nil];show _≤1000000;omega,hfl,rfl⟩]
  simp
 have hb:(-1000000000:Int)≤(ns.length:Int)∧(ns.length:Int)≤1000000:=by omega
 exact Je (Zo (Zu (Xl (Zc rfl rfl) hsum)) (Zo (Zu (Xl (Zc rfl (Zc rfl rfl)) hht)) (Zo (Zu (Js (Zc rfl rfl) l2)) (Zo (Zu rfl) (Zo (Zdv (Znk (Zc rfl rfl) hb) h1) (Jf (Zl rfl (Js (Zc rfl rfl) rfl) hadd)))))))
theorem Xrh (l:List Nat):dep (nD l)≤20:=by
 have:Zho (l.map fun (e:Nat)=>D.int (e:Int))=0:=by
  induction l with
  | nil=>rfl
  | cons x l ih=>simp [Zho,dep] at *;exact ih
 simp [nD,dep,this]
theorem Zqe {ws:List Int}{i:Nat}(h:i<ws.length):ws.take i++[ws.getD i 0]=ws.take (i+1):=by
 rw [List.take_add_one,getD_eq_getElem?_getD,getElem?_eq_getElem h]
 rfl
theorem Zgv (ws:List Int)(i:Nat):gSl (iD ws) none (some (i:Int))=some (iD (ws.take i)):=by
 have hf:Xy (ws.map D.int)=true:=Zaa (fun _=>rfl) _
 simp only [gSl,iD,hf,if_true]
 rw [Xik (by omega),toNat_natCast,map_take]
noncomputable def nmF (ns:List Int)(ks:List Kd)(e:Nat):Str:=match Zaq ns ks e with
 | none=>""
 | some k=>k.name
noncomputable def bkE (ns:List Int)(ks:List Kd)(e:Nat):D:=.tup [.int (stp ns ks e),.str (nmF ns ks e)]
noncomputable def bkD (ns:List Int)(ks:List Kd):D:=.lst ((List.range (ns.length+1)).map (bkE ns ks))
theorem Zwx (ns:List Int)(ks:List Kd):Zaq ns ks 0=none:=by unfold Zaq;rw [if_pos rfl]
theorem Xgd (ns:List Int)(ks:List Kd):bkE ns ks 0=.tup [.int 0,.str ""]:=by
 unfold bkE nmF
 rw [Ztz,Zwx]
 rfl
theorem Xlb (ns:List Int)(ks:List Kd)(hn:ns.length≤900)(hk:ks.length≤1000)(hw:∀k∈ks,1≤k.w):Zcg [iD ns,tD ks]=.ok (bkD ns ks):=by
 have hsum:=Zto ns (by omega)
 have hht:=Zdg ns ks hn hk hw
 have hl:=Jb ns ks ns.length
 have hsl:=Zjh ns
 have at_:∀(i:Int) (q:Nat),i=q→q≤ns.length→gIx (iD (hts ns ks ns.length)) (.int i)=some (.int (ht ns ks q)):=fun i q h1 h2=>by
  have:=Yz (ns:=hts ns ks ns.length) (i:=i) (k:=q) h1 (by omega)
  rw [Zcl ns ks _ _ h2] at this
  exact this
 have key:V (Zdw (Xo 5) Zgt (Zdq 1 ns.length) [some (iD ns),some (tD ks),some (iD (Xt ns)),some (iD (hts ns ks ns.length)),some (.lst [.tup [.int 0,.str ""]]),none,none]) (fun fl=>∃o5 o6,fl=.nx [some (iD ns),some (tD ks),some (iD (Xt ns)),some (iD (hts ns ks ns.length)),some (bkD ns ks),o5,o6]):=by
  refine Xtt (P:=fun i ρ=>∃o5 o6,ρ=[some (iD ns),some (tD ks),some (iD (Xt ns)),some (iD (hts ns ks ns.length)),some (.lst ((List.range (i+1)).map (bkE ns ks))),o5,o6]) ⟨none,none,by rw [show List.range (0+1)=[0] from rfl,map_cons,Xgd];rfl⟩ (fun e ρ he q=>?_) (fun ρ q=>by obtain ⟨o5,o6,rfl⟩:=q;exact ⟨o5,o6,rfl⟩)
  obtain ⟨o5,o6,rfl⟩:=q
  rw [Zha]
  have e0:(1:Int)+(e:Int)=((e+1:Nat):Int):=by omega
  rw [e0]
  have a1:=at_ ((e+1:Nat):Int) (e+1) rfl (by omega)
  have a2:=at_ (((e+1:Nat):Int) - 1) e (by omega) (by omega)
  have hlim:((List.range (e+1)).map (bkE ns ks)).length<lim:=by rw [length_map,length_range];show _<1000000;omega
  have er:(List.range (e+1+1)).map (bkE ns ks)=(List.range (e+1)).map (bkE ns ks)++[bkE ns ks (e+1)]:=by rw [range_succ (n:=e+1),map_append];rfl
  cases hlk:Zaq ns ks (e+1) with
  | none =>
   have hh:ht ns ks (e+1)=ht ns ks e:=Zwp hw hlk
   rw [hh] at a1
   have es:bkE ns ks (e+1)=.tup [.int (((e+1:Nat):Int) - 1),.str ""]:=by
    have h1:stp ns ks (e+1)=e:=by unfold stp;rw [hlk];rfl
    have h2:nmF ns ks (e+1)="":=by unfold nmF;rw [hlk]
    unfold bkE
    rw [h1,h2,show ((e+1:Nat):Int) - 1=(e:Int) by omega]
   refine V.of (a:=.nx [some (iD ns),some (tD ks),some (iD (Xt ns)),some (iD (hts ns ks ns.length)),some (.lst ((List.range (e+1+1)).map (bkE ns ks))),some (.int ((e+1:Nat):Int)),o6]) ?_ (by exact ⟨_,_,rfl⟩)
   rw [er,es]
   exact Zbc (Yl (Zl (Zl rfl rfl a1) (Zl rfl (Zl rfl rfl rfl) a2) ((Zei _ _).trans (Zri rfl)))) (Zge rfl (Js (Zc (Zl rfl rfl rfl) (Zc rfl rfl)) rfl) hlim)
  | some k =>
   obtain ⟨k1,hg,q1,q2⟩:=Zba hlk
   obtain ⟨rr,hrr⟩:=Xmo ns ks hn hk hw (by omega) hlk
   have bd:=Zdn hg
   have hw1:=hw k k1
   obtain ⟨d,hd⟩:∃d:Nat,((e+1:Nat):Int) - k.w=(d:Int):=⟨(((e+1:Nat):Int) - k.w).toNat,by omega⟩
   have es:bkE ns ks (e+1)=.tup [.int (d:Int),.str k.name]:=by
    have h1:stp ns ks (e+1)=(((e+1:Nat):Int) - k.w).toNat:=by unfold stp;rw [hlk]
    have h2:nmF ns ks (e+1)=k.name:=by unfold nmF;rw [hlk]
    unfold bkE
    rw [h1,h2,hd]
    rfl
   have q2:¬ht ns ks (e+1)=ht ns ks e:=q2
   have hkl:(ks.map kD).length≤lim:=by rw [length_map];show _≤1000000;omega
   have hgl:((ks.filter fun k=>good ns k (((e+1:Nat):Int) - k.w)).map kD).length≤lim:=by
    rw [length_map]
    have:=length_filter_le (fun k:Kd=>good ns k (((e+1:Nat):Int) - k.w)) ks
    show _≤1000000
    omega
   have c1:∀o,Zcx 1 (Xo 7) (cE (Xv Jl (Zd (fV 2) (Zd (fV 7) (Zd (f2 Zdy (fV 5) (f2 gIx (fV 7) (fC (.int 1)))) Zt))))) (f1 Xs (fV 7)) [some (iD ns),some (tD ks),some (iD (Xt ns)),some (iD (hts ns ks ns.length)),some (.lst ((List.range (e+1)).map (bkE ns ks))),some (.int ((e+1:Nat):Int)),o] (ks.map kD)=.ok ((ks.filter fun k=>good ns k (((e+1:Nat):Int) - k.w)).map kD):=fun o=>by
    refine Zxe rfl fun x hx=>?_
    have hg:=Xbg ns x (((e+1:Nat):Int) - x.w) (hw x hx)
    exact ⟨Yl (Xl (Zc rfl (Zc rfl (Zc (Zl rfl (Zl rfl rfl (Zre x)) rfl) rfl))) hg),fun _=>Jh rfl rfl⟩
   have c2:Zcx 1 (Xo 7) (cE (f2 gEq (f2 Jj (f2 gIx (fV 3) (f2 Zdy (fV 5) (f2 gIx (fV 7) (fC (.int 1))))) (f2 gIx (fV 7) (fC (.int 2)))) (f2 gIx (fV 3) (fV 5)))) (f1 Xs (fV 7)) [some (iD ns),some (tD ks),some (iD (Xt ns)),some (iD (hts ns ks ns.length)),some (.lst ((List.range (e+1)).map (bkE ns ks))),some (.int ((e+1:Nat):Int)),some (.lst ((ks.filter fun k=>good ns k (((e+1:Nat):Int) - k.w)).map kD))] ((ks.filter fun k=>good ns k (((e+1:Nat):Int) - k.w)).map kD)=.ok ((k::rr).map kD):=by
    rw [← hrr]
    refine Zxe rfl fun x hx=>?_
    obtain ⟨x1,x2⟩:=List.mem_filter.mp hx
    have bx:=Zdn x2
    have hwx:=hw x x1
    have a3:=at_ (((e+1:Nat):Int) - x.w) (((e+1:Nat):Int) - x.w).toNat (by omega) (by omega)
    have eb:Zcn ns ks (e+1) x=decide (ht ns ks (((e+1:Nat):Int) - x.w).toNat+x.wo=ht ns ks (e+1)):=rfl
    rw [eb]
    exact ⟨Yl (Zl (Zl (Zl rfl (Zl rfl (Zl rfl rfl (Zre x)) rfl) a3) (Zl rfl rfl (Xqv x)) rfl) (Zl rfl rfl a1) (Zei _ _)),fun _=>Jh rfl rfl⟩
   refine V.of (a:=.nx [some (iD ns),some (tD ks),some (iD (Xt ns)),some (iD (hts ns ks ns.length)),some (.lst ((List.range (e+1+1)).map (bkE ns ks))),some (.int ((e+1:Nat):Int)),some (.lst ((k::rr).map kD))]) ?_ (by exact ⟨_,_,rfl⟩)
   rw [er,es]
   have i0:gIx (.lst ((k::rr).map kD)) (.int 0)=some (kD k):=ix_l (k:=0) (by omega) (by simp)
   exact Yn (Yl (Zl (Zl rfl rfl a1) (Zl rfl (Zl rfl rfl rfl) a2) ((Zei _ _).trans (Zrf q2)))) (Zo (Zu (Zkl rfl (Zcc rfl hkl) (c1 _))) (Zo (Zu (Zkl rfl (Zcc rfl hgl) c2)) (Zge rfl (Js (Zc (Zl rfl (Zl (Zl rfl rfl i0) rfl (Zre k)) (congrArg (fun z=>some (D.int z)) hd)) (Zc (Jh (Zl (Zl rfl rfl i0) rfl rfl) rfl) rfl)) rfl) hlim)))
 obtain ⟨fl,h1,o5,o6,rfl⟩:=key.ex
 have hb:Zgk [.int 1,.int ((ns.length:Int)+1)]=.ok (Zdq 1 ns.length):=by
  unfold Zgk
  simp only []
  rw [if_pos (by show _∧_∧_∧_∧_≤1000000;omega),show ((ns.length:Int)+1 - 1).toNat=ns.length by omega]
 have hlen:Zac [iD (Xt ns)]=some (.int ((ns.length:Int)+1)):=by
  have:(Xt ns).length=ns.length+1:=hsl
  simp [iD,Zac,this]
 exact Je (Zo (Zu (Xl (Zc rfl rfl) hsum)) (Zo (Zu (Xl (Zc rfl (Zc rfl rfl)) hht)) (Zo (Zu rfl) (Zo (Zdv (Zze (Zc rfl (Zc (Js (Zc rfl rfl) hlen) rfl)) hb) h1) (Jf rfl)))))
theorem Xja (ns:List Int)(ks:List Kd){e:Nat}(he:e≤ns.length):gIx (bkD ns ks) (.int (e:Int))=some (bkE ns ks e):=
 ix_l (k:=e) rfl (by rw [getElem?_map,List.getElem?_range (by omega)];rfl)
theorem Xow (x y:Str):gNe (.str x) (.str y)=some (.bl (!(x==y))):=rfl
theorem Zyq (ns:List Int)(ks:List Kd)(hn:ns.length≤900)(hw:∀k∈ks,1≤k.w)(hnm:∀k∈ks,(k.name==("":Str))=false){n:Nat}(hnn:n≤ns.length):Zak [bkD ns ks,.int n]=.ok (psD (Xq ns ks n)):=by
 have key:V (Zbr (cE (f2 gGt (fV 1) (fC (.int 0)))) Zio 100000 [some (bkD ns ks),some (.int n),some (.lst []),none,none]) (fun fl=>∃o3 o4,fl=.nx [some (bkD ns ks),some (.int 0),some (psD (Xq ns ks n).reverse),o3,o4]):=by
  refine Zno (P:=fun e ρ=>e≤ns.length∧∃(ps:List (Int×Str)) (o3 o4:Option D),ps.length+e≤ns.length∧ρ=[some (bkD ns ks),some (.int e),some (psD ps),o3,o4]∧Xq ns ks n=Xq ns ks e++ps.reverse) (fun e ρ p=>?_) n 100000 _ (by omega) ⟨hnn,[],none,none,by simpa using hnn,rfl,by simp⟩
  obtain ⟨he,ps,o3,o4,hps,rfl,hc⟩:=p
  cases e with
  | zero =>
   refine V.of (a:=false) (Yl (Zl rfl rfl rfl)) ?_
   rw [if_neg (by decide)]
   rw [Zht,List.nil_append] at hc
   exact ⟨o3,o4,by rw [hc,List.reverse_reverse];rfl⟩
  | succ e =>
   refine V.of (a:=true) (Yl (Zl rfl rfl (Zri (Int.natCast_pos.mpr (Nat.succ_pos e))))) ?_
   rw [if_pos rfl]
   have hst:=Jz (ns:=ns) (ks:=ks) hw (e:=e+1) (by omega)
   have hts':=Zbv (ns:=ns) hw (e:=e+1) (by omega)
   have ia:=Xja ns ks he
   have fl:Xs (bkE ns ks (e+1))=some (bkE ns ks (e+1)):=rfl
   have bd:(Xll (Ziz (Xo 3) (Ziz (Xo 4) Xit))) (bkE ns ks (e+1)) [some (bkD ns ks),some (.int ((e+1:Nat):Int)),some (psD ps),o3,o4]=.ok [some (bkD ns ks),some (.int ((e+1:Nat):Int)),some (psD ps),some (.int (stp ns ks (e+1))),some (.str (nmF ns ks (e+1)))]:=rfl
   cases hlk:Zaq ns ks (e+1) with
   | none =>
    have ep:pcF ns ks (e+1)=[]:=by unfold pcF;rw [hlk]
    have en:nmF ns ks (e+1)="":=by unfold nmF;rw [hlk]
    refine V.of (a:=.nx [some (bkD ns ks),some (.int (stp ns ks (e+1))),some (psD ps),some (.int (stp ns ks (e+1))),some (.str (nmF ns ks (e+1)))]) ?_ (by exact ⟨stp ns ks (e+1),hst,by omega,ps,_,_,by omega,rfl,by rw [hc,hts',ep,append_nil]⟩)
    exact Zo (Xfe (Jh (Zl rfl rfl ia) fl) bd) (Zo (Yn (Yl (Zl rfl rfl ((Xow _ _).trans (by rw [en];rfl)))) rfl) (Zu (Jh rfl rfl)))
   | some k =>
    have ep:pcF ns ks (e+1)=[((stp ns ks (e+1):Int),k.name)]:=by unfold pcF;rw [hlk]
    have en:nmF ns ks (e+1)=k.name:=by unfold nmF;rw [hlk]
    have k1:=(Zba hlk).1
    have hlim:(ps.map pD).length<lim:=by rw [length_map];show _<1000000;omega
    refine V.of (a:=.nx [some (bkD ns ks),some (.int (stp ns ks (e+1))),some (psD (ps++[((stp ns ks (e+1):Int),k.name)])),some (.int (stp ns ks (e+1))),some (.str (nmF ns ks (e+1)))]) ?_ (by exact ⟨stp ns ks (e+1),hst,by omega,_,_,_,by rw [length_append,length_singleton];omega,rfl,by rw [hc,hts',ep,List.reverse_append,List.reverse_singleton,append_assoc]⟩)
    rw [show psD (ps++[((stp ns ks (e+1):Int),k.name)])=.lst (ps.map pD++[.tup [.int (stp ns ks (e+1)),.str k.name]]) from congrArg D.lst map_append]
    refine Zo (Xfe (Jh (Zl rfl rfl ia) fl) bd) ?_
    rw [en]
    exact Zo (Zbc (Yl (Zl rfl rfl ((Xow _ _).trans (by rw [hnm k k1];rfl)))) (Zge rfl (Js (Zc (Jh rfl rfl) (Zc (Jh rfl rfl) rfl)) rfl) hlim)) (Zu (Jh rfl rfl))
 obtain ⟨fl,h1,o3,o4,rfl⟩:=key.ex
 have e6:psD (Xq ns ks n)=.lst ((Xq ns ks n).reverse.map pD).reverse:=by rw [psD,← List.map_reverse,List.reverse_reverse]
 have hfl:Xy ((Xq ns ks n).reverse.map pD)=true:=Znp _
 have hr:Xmq (.lst ((Xq ns ks n).reverse.map pD)) (.int (-1))=some (.lst ((Xq ns ks n).reverse.map pD).reverse):=(fun (PP:List D) (h:Xy PP=true)=>(by simp [Xmq,h]:Xmq (.lst PP) (.int (-1))=some (.lst PP.reverse))) _ hfl
 rw [e6]
 exact Je (Zo (Zu rfl) (Zo h1 (Jf (Zl rfl (Jh rfl rfl) hr))))
noncomputable def Xih (ns:List Int)(ks:List Kd):Nat→Nat→List Nat
 | 0,e=>[e]
 | n+1,e=>if e=0 then [0] else e::Xih ns ks n (stp ns ks e)
noncomputable def Zfx (ns:List Int)(ks:List Kd)(e:Nat):List Nat:=Xih ns ks e e
theorem Xoe {ns:List Int}{ks:List Kd}(hw:∀k∈ks,1≤k.w):∀(e n m:Nat),e≤n→e≤m→Xih ns ks n e=Xih ns ks m e:=by
 intro e
 induction e using Nat.strongRecOn with
 | _ e ih =>
  intro n m h1 h2
  by_cases h0:e=0
  ·subst h0
   cases n<;>cases m<;>rfl
  ·obtain ⟨n,rfl⟩:∃k,n=k+1:=⟨n - 1,by omega⟩
   obtain ⟨m,rfl⟩:∃k,m=k+1:=⟨m - 1,by omega⟩
   have:=Jz (ns:=ns) hw (e:=e) (by omega)
   rw [Xih,Xih,if_neg h0,if_neg h0,ih _ this n m (by omega) (by omega)]
theorem Zkg (ns:List Int)(ks:List Kd):Zfx ns ks 0=[0]:=rfl
theorem Zjl {ns:List Int}{ks:List Kd}(hw:∀k∈ks,1≤k.w){e:Nat}(h:1≤e):Zfx ns ks e=e::Zfx ns ks (stp ns ks e):=by
 obtain ⟨n,rfl⟩:∃k,e=k+1:=⟨e - 1,by omega⟩
 have:=Jz (ns:=ns) hw h
 show Xih ns ks (n+1) (n+1)=_
 rw [Xih,if_neg (by omega)]
 unfold Zfx
 rw [Xoe hw (stp ns ks (n+1)) n (stp ns ks (n+1)) (by omega) (le_refl _)]
theorem Zom {ns:List Int}{ks:List Kd}(hw:∀k∈ks,1≤k.w):∀(e x:Nat),x∈Zfx ns ks e↔Pth ns ks e x:=by
 intro e
 induction e using Nat.strongRecOn with
 | _ e ih =>
  intro x
  by_cases h0:e=0
  ·subst h0
   rw [Zkg,mem_singleton]
   constructor
   ·rintro rfl
    exact .here 0
   ·intro h
    have:=h.le hw
    omega
  ·rw [Zjl hw (by omega),mem_cons]
   have hs:=Jz (ns:=ns) hw (e:=e) (by omega)
   constructor
   ·rintro (rfl | h)
    ·exact .here _
    ·exact .step (by omega) ((ih _ hs x).mp h)
   ·intro h
    by_cases hx:e=x
    ·exact .inl hx.symm
    ·exact .inr ((ih _ hs x).mpr (h.next hx).2)
theorem Znl {ns:List Int}{ks:List Kd}(hw:∀k∈ks,1≤k.w):∀(e:Nat),(Zfx ns ks e).Nodup∧(Zfx ns ks e).length≤e+1:=by
 intro e
 induction e using Nat.strongRecOn with
 | _ e ih =>
  by_cases h0:e=0
  ·subst h0
   rw [Zkg]
   exact ⟨by simp,by simp⟩
  ·rw [Zjl hw (by omega)]
   have hs:=Jz (ns:=ns) hw (e:=e) (by omega)
   obtain ⟨i1,i2⟩:=ih _ hs
   refine ⟨List.nodup_cons.mpr ⟨fun h=>?_,i1⟩,by rw [length_cons];omega⟩
   have:=((Zom hw _ _).mp h).le hw
   omega
theorem Xjj (l:List Nat)(x:Nat):nD (l++[x])=.lst ((l.map fun (e:Nat)=>D.int (e:Int))++[.int x]):=congrArg D.lst map_append
theorem Xcg (ns:List Int)(ks:List Kd)(hn:ns.length≤900)(hw:∀k∈ks,1≤k.w){n:Nat}(hnn:n≤ns.length):Zaj [bkD ns ks,.int n]=.ok (nD (Zfx ns ks n)):=by
 have key:V (Zbr (cE (f2 gGt (fV 1) (fC (.int 0)))) Zfl 100000 [some (bkD ns ks),some (.int n),some (nD ([]++[n]))]) (fun fl=>∃o,fl=.nx [some (bkD ns ks),o,some (nD (Zfx ns ks n))]):=by
  refine Zno (P:=fun e ρ=>e≤ns.length∧∃(ps:List Nat),ps.length+e≤ns.length∧ρ=[some (bkD ns ks),some (.int e),some (nD (ps++[e]))]∧Zfx ns ks n=ps++Zfx ns ks e) (fun e ρ p=>?_) n 100000 _ (by omega) ⟨hnn,[],by simpa using hnn,rfl,by simp⟩
  obtain ⟨he,ps,hps,rfl,hc⟩:=p
  cases e with
  | zero =>
   refine V.of (a:=false) (Yl (Zl rfl rfl rfl)) ?_
   rw [if_neg (by decide),hc,Zkg]
   exact ⟨_,rfl⟩
  | succ e =>
   refine V.of (a:=true) (Yl (Zl rfl rfl (Zri (Int.natCast_pos.mpr (Nat.succ_pos e))))) ?_
   rw [if_pos rfl]
   have hst:=Jz (ns:=ns) (ks:=ks) hw (e:=e+1) (by omega)
   have ia:=Xja ns ks he
   have hlim:((ps++[e+1]).map fun (e:Nat)=>D.int (e:Int)).length<lim:=by rw [length_map,length_append,length_singleton];show _<1000000;omega
   refine V.of (a:=.nx [some (bkD ns ks),some (.int (stp ns ks (e+1))),some (nD ((ps++[e+1])++[stp ns ks (e+1)]))]) ?_ (by exact ⟨stp ns ks (e+1),hst,by omega,ps++[e+1],by rw [length_append,length_singleton];omega,rfl,by rw [hc,Zjl hw (by omega),append_assoc];rfl⟩)
   rw [Xjj (ps++[e+1]) (stp ns ks (e+1))]
   exact Zo (Zu (Jh (Zl (Zl rfl rfl ia) rfl rfl) rfl)) (Zge rfl (Jh rfl rfl) hlim)
 obtain ⟨fl,h1,o,rfl⟩:=key.ex
 exact Je (Zo (Zu (Js (Zc (Jh rfl rfl) rfl) rfl)) (Zo h1 (Jf rfl)))
noncomputable def ctI (js:List Int)(c:Int→Nat):D:=.dct (js.map .inl) (js.map fun j=>.int (c j))
theorem Zsx (js:List Int)(c:Int→Nat):Xy (js.map fun j=>D.int (c j:Int))=true:=Zaa (fun _=>rfl) _
theorem Xrs (js:List Int)(c:Int→Nat)(k:Int):dAt (js.map .inl) (js.map fun j=>D.int (c j:Int)) (.inl k)=if k∈js then some (.int (c k)) else none:=by
 induction js with
 | nil=>rfl
 | cons j js ih =>
  rw [map_cons,map_cons,dAt]
  by_cases e:j=k
  ·subst e
   rw [if_pos rfl,if_pos (.head _)]
  ·rw [if_neg (fun z=>e (Sum.inl.inj z)),ih]
   have:(k∈j::js)↔k∈js:=by
    rw [mem_cons]
    exact ⟨fun h=>h.resolve_left fun z=>e z.symm,.inr⟩
   simp only [this]
theorem Xqy (js:List Int)(k:Int):Xss (js.map .inl) (.inl k)=decide (k∈js):=by
 unfold Xss
 rw [Bool.eq_iff_iff,any_eq_true,decide_eq_true_iff]
 constructor
 ·rintro ⟨x,hx,e⟩
  obtain ⟨j,hj,rfl⟩:=List.mem_map.mp hx
  have:=Sum.inl.inj (of_decide_eq_true e)
  rw [← this]
  exact hj
 ·intro h
  exact ⟨.inl k,List.mem_map_of_mem h,decide_eq_true rfl⟩
theorem Xqc {js:List Int}(c:Int→Nat)(k:Int)(n:Nat):Xtm (js.map .inl) (js.map fun j=>D.int (c j:Int)) (.inl k) (.int n)=ctI (if k∈js then js else js++[k]) (fun j=>if j=k then n else c j):=by
 unfold Xtm
 rw [Xqy]
 by_cases h:k∈js
 ·rw [if_pos (decide_eq_true h),if_pos h]
  unfold ctI
  congr 1
  clear h
  induction js with
  | nil=>rfl
  | cons j js ih =>
   rw [map_cons,map_cons,List.zipWith_cons_cons,ih,map_cons]
   congr 1
   by_cases e:j=k
   ·show _=D.int ((if j=k then n else c j:Nat):Int)
    rw [if_pos (by rw [e]),if_pos e]
   ·show _=D.int ((if j=k then n else c j:Nat):Int)
    rw [if_neg (fun z=>e (Sum.inl.inj z)),if_neg e]
 ·rw [if_neg (by simpa using h),if_neg h]
  unfold ctI
  rw [map_append,map_append]
  congr 2
  ·refine List.map_congr_left fun j hj=>?_
   show _=D.int ((if j=k then n else c j:Nat):Int)
   rw [if_neg fun z=>h (by rw [← z];exact hj)]
  ·simp
def Cts (done:List Int)(d:D):Prop:=∃js:List Int,js.Nodup∧(∀j,j∈js↔j∈done)∧d=ctI js (fun j=>done.count j)
theorem Cts.len {done:List Int}{js:List Int}(nd:js.Nodup)(h:∀j,j∈js↔j∈done):js.length≤done.length:=List.Nodup.length_le_of_subset nd (fun j hj=>(h j).mp hj)
theorem Xla {done:List Int}{d:D}{k:Int}{d0 d1 d3:Option D}(h:Cts done d)(hl:done.length<900000):∃d',Cts (done++[k]) d'∧Zbk [d0,d1,some d,d3,some (.int k)]=.ok (.nx [d0,d1,some d',d3,some (.int k)]):=by
  obtain ⟨js,nd,hj,rfl⟩:=h
  have hjl:=Cts.len nd hj
  refine ⟨ctI (if k∈js then js else js++[k]) (fun j=>(done++[k]).count j),⟨_,?_,?_,rfl⟩,?_⟩
  · split
    · exact nd
    · rename_i hk
      exact List.nodup_append.mpr ⟨nd,by simp,fun x hx y hy e=>by
        rw [List.mem_singleton.mp hy] at e
        exact hk (by rw [← e];exact hx)⟩
  · intro j
    rw [mem_append,mem_singleton]
    split
    · rename_i hk
      rw [hj]
      exact ⟨.inl,fun z=>z.elim id fun z=>by rw [z];exact (hj k).mp hk⟩
    · rw [mem_append,mem_singleton,hj]
  · have get:Zwb (fV 2) (fV 4) (fC (.int 0)) [d0,d1,some (ctI js fun j=>done.count j),d3,some (.int k)]=.ok (.int (done.count k)):=by
      show (if Xy (js.map fun j=>D.int (done.count j:Int))=true∧flat (.int 0)=true then R.ok ((dAt (js.map .inl) (js.map fun j=>D.int (done.count j:Int)) (.inl k)).getD (.int 0)) else R.bad)=_
      rw [if_pos ⟨Zsx _ _,rfl⟩,Xrs]
      by_cases hk:k∈js
      · rw [if_pos hk]
        rfl
      · rw [if_neg hk,List.count_eq_zero_of_not_mem (fun z=>hk ((hj k).mpr z))]
        rfl
    have add:f2 Jj (Zwb (fV 2) (fV 4) (fC (.int 0))) (fC (.int 1)) [d0,d1,some (ctI js fun j=>done.count j),d3,some (.int k)]=.ok (.int ((done++[k]).count k:Nat)):=by
      refine Zl get rfl ?_
      rw [List.count_append]
      show some (D.int ((done.count k:Int)+1))=_
      simp
    show (f2 Jj (Zwb (fV 2) (fV 4) (fC (.int 0))) (fC (.int 1)) [d0,d1,some (ctI js fun j=>done.count j),d3,some (.int k)]).bind _=_
    rw [add]
    show (if flat (.int ((done++[k]).count k:Nat))=true∧Xy (js.map fun j=>D.int (done.count j:Int))=true∧(js.map (Sum.inl (β:=Str))).length<lim then R.ok (Fl.nx [d0,d1,some (Xtm (js.map .inl) (js.map fun j=>D.int (done.count j:Int)) (.inl k) (.int ((done++[k]).count k:Nat))),d3,some (.int k)]) else R.bad)=_
    rw [if_pos ⟨rfl,Zsx _ _,by rw [length_map];show _<1000000;omega⟩,Xqc]
    congr 5
    have:(fun j=>if j=k then (done++[k]).count k else done.count j)=fun j=>(done++[k]).count j:=by
      funext j
      by_cases e:j=k
      · rw [if_pos e,e]
      · rw [if_neg e,List.count_append]
        have:List.count j [k]=0:=List.count_eq_zero_of_not_mem (by simp [e])
        omega
    rw [this]
theorem Zym (js:List Int):Zta (js.map (Sum.inl (β:=Str)))=some js:=by
 induction js with
 | nil=>rfl
 | cons j js ih =>
  show (Zta (js.map (Sum.inl (β:=Str)))).map (j::·)=_
  rw [ih]
  rfl
theorem Xcb (js0:List Int)(c:Int→Nat)(n:Nat):∀(js:List Int),(∀j∈js,j∈js0)→Zhb gEq (js0.map .inl) (js0.map fun j=>D.int (c j:Int)) (.int n) js=.ok ((js.filter fun j=>decide (c j=n)).map D.int)
 | [],_=>rfl
 | j::js,h=>by
  rw [Zhb,Xrs,if_pos (h j (.head _)),Zfz,Zad,Zei,Zfz,Zad]
  simp only []
  rw [Xcb js0 c n js fun x hx=>h x (.tail _ hx),Zad,List.filter_cons]
  by_cases e:c j=n
  ·rw [if_pos (decide_eq_true (by rw [e])),if_pos (decide_eq_true e)]
   rfl
  ·rw [if_neg (by rw [decide_eq_true_iff];omega),if_neg (by simpa using e)]
theorem Zms {α:Type}(f:α→List Int)(hf:∀a,(f a).Nodup)(j:Int):∀l:List α,(l.flatMap f).count j≤l.length∧((l.flatMap f).count j=l.length↔∀a∈l,j∈f a)
 | []=>⟨le_refl _,by simp⟩
 | a::l=>by
  obtain ⟨h1,h2⟩:=Zms f hf j l
  rw [List.flatMap_cons,List.count_append,length_cons]
  by_cases e:j∈f a
  ·have:(f a).count j=1:=by
    have q1:=List.nodup_iff_count.mp (hf a) j
    have q2:=List.count_pos_iff.mpr e
    omega
   refine ⟨by omega,?_⟩
   rw [this]
   constructor
   ·intro h x hx
    rcases List.mem_cons.mp hx with rfl | hx
    ·exact e
    ·exact h2.mp (by omega) x hx
   ·intro h
    have:=h2.mpr fun x hx=>h x (.tail _ hx)
    omega
  ·have:(f a).count j=0:=List.count_eq_zero_of_not_mem e
   refine ⟨by omega,?_⟩
   rw [this]
   constructor
   ·intro h
    omega
   ·intro h
    exact absurd (h a (.head _)) e
theorem Zrw (ns:List Int)(ks:List Kd)(hn:ns.length≤900)(hw:∀k∈ks,1≤k.w){l:List Nat}(hl:l.length≤901)(hle:∀p∈l,p≤ns.length){s:Nat}(hs:∀p∈l,Pth ns ks p s)(hm:∀x,(∀p∈l,Pth ns ks p x)→x≤s)(h0:l≠[]):Jg [bkD ns ks,nD l]=.ok (.int s):=by
  have nd:∀p,((Zfx ns ks p).map fun (e:Nat)=>(e:Int)).Nodup:=fun p=>List.Pairwise.map _ (fun a b h z=>h (by omega)) (Znl hw p).1
  have inner:∀(p:Nat),p≤ns.length→∀(done:List Int) (d:D) (o4:Option D),done.length+901≤900000→Cts done d→V (Zdw (Xo 4) Zbk ((Zfx ns ks p).map fun (e:Nat)=>D.int (e:Int)) [some (bkD ns ks),some (nD l),some d,some (.int p),o4]) (fun fl=>∃d' o4,Cts (done++(Zfx ns ks p).map fun (e:Nat)=>(e:Int)) d'∧fl=.nx [some (bkD ns ks),some (nD l),some d',some (.int p),o4]):=by
    intro p hp done d o4 hdl hc
    have hpl:=(Znl (ns:=ns) hw p).2
    refine Zoy (P:=fun r ρ=>∃(dn:List Int) (d:D) (o4:Option D),Cts dn d∧dn++(r.map fun (e:Nat)=>(e:Int))=done++((Zfx ns ks p).map fun (e:Nat)=>(e:Int))∧ρ=[some (bkD ns ks),some (nD l),some d,some (.int p),o4]) (fun x r ρ q=>?_) (fun ρ q=>?_) ⟨done,d,o4,hc,rfl,rfl⟩
    · obtain ⟨dn,d,o4,hc,e,rfl⟩:=q
      rw [Zha]
      have hlen:=congrArg List.length e
      simp only [length_append,length_map,length_cons] at hlen
      obtain ⟨d',hc',t⟩:=Xla (d0:=some (bkD ns ks)) (d1:=some (nD l)) (d3:=some (.int p)) (k:=(x:Int)) hc (by omega)
      exact V.of t (by exact ⟨dn++[(x:Int)],d',_,hc',by rw [← e,append_assoc];rfl,rfl⟩)
    · obtain ⟨dn,d,o4,hc,e,rfl⟩:=q
      rw [map_nil,append_nil] at e
      rw [← e]
      exact ⟨d,o4,hc,rfl⟩
  have fl1:∀r:List Nat,(∀p∈r,p≤ns.length)→(r.flatMap fun p=>(Zfx ns ks p).map fun (e:Nat)=>(e:Int)).length≤r.length*901:=fun r=>by
    induction r with
    | nil=>intro _;exact zero_le _
    | cons p r ih =>
      intro hr
      have:=ih fun q hq=>hr q (.tail _ hq)
      have hpl:=(Znl (ns:=ns) hw p).2
      have:=hr p (.head _)
      rw [List.flatMap_cons,length_append,length_map,length_cons]
      omega
  have outer:V (Zdw (Xo 3) Zab (l.map fun (e:Nat)=>D.int (e:Int)) [some (bkD ns ks),some (nD l),some (.dct [] []),none,none]) (fun fl=>∃d o3 o4,Cts (l.flatMap fun p=>(Zfx ns ks p).map fun (e:Nat)=>(e:Int)) d∧fl=.nx [some (bkD ns ks),some (nD l),some d,o3,o4]):=by
    refine Zoy (P:=fun r ρ=>∃(bf:List Nat) (d:D) (o3 o4:Option D),bf++r=l∧Cts (bf.flatMap fun p=>(Zfx ns ks p).map fun (e:Nat)=>(e:Int)) d∧ρ=[some (bkD ns ks),some (nD l),some d,o3,o4]) (fun x r ρ q=>?_) (fun ρ q=>?_) ⟨[],_,none,none,rfl,⟨[],nodup_nil,fun j=>Iff.rfl,rfl⟩,rfl⟩
    · obtain ⟨bf,d,o3,o4,e,hc,rfl⟩:=q
      rw [Zha]
      have hx:x≤ns.length:=hle x (by rw [← e];simp)
      have hbl:=fl1 bf fun p hp=>hle p (by rw [← e];simp [hp])
      have hlen:bf.length+1≤901:=by
        have:=congrArg List.length e
        simp only [length_append,length_cons] at this
        omega
      have st:=Xcg ns ks hn hw hx
      obtain ⟨fl,h1,d',o4',hc',rfl⟩:=(inner x hx _ d o4 (by omega) hc).ex
      have hjl:Zcv (Xv Zaj (Zd (fV 0) (Zd (fV 3) Zt))) [some (bkD ns ks),some (nD l),some d,some (.int x),o4]=.ok ((Zfx ns ks x).map fun (e:Nat)=>D.int (e:Int)):=Zcc (Xl (Zc rfl (Zc rfl rfl)) st) (by have:=(Znl (ns:=ns) hw x).2;rw [length_map];show _≤1000000;omega)
      have hrf:Zab [some (bkD ns ks),some (nD l),some d,some (.int x),o4]=.ok (.nx [some (bkD ns ks),some (nD l),some d',some (.int x),o4']):=Zdv hjl h1
      show V (Zab [some (bkD ns ks),some (nD l),some d,some (.int x),o4]) _
      rw [hrf]
      exact (by refine ⟨bf++[x],d',_,_,by rw [← e,append_assoc];rfl,?_,rfl⟩;rw [List.flatMap_append];simpa using hc')
    · obtain ⟨bf,d,o3,o4,e,hc,rfl⟩:=q
      rw [append_nil] at e
      subst e
      exact ⟨d,o3,o4,hc,rfl⟩
  obtain ⟨fl,h1,d,o3,o4,⟨js,jnd,hj,rfl⟩,rfl⟩:=outer.ex
  have hcf:=fun j=>Zms (fun p=>(Zfx ns ks p).map fun (e:Nat)=>(e:Int)) nd j l
  have hmem:∀(j:Int),(∀p∈l,j∈(Zfx ns ks p).map fun (e:Nat)=>(e:Int))↔∃x:Nat,j=(x:Int)∧∀p∈l,Pth ns ks p x:=fun j=>by
    constructor
    · intro h
      obtain ⟨p0,l',rfl⟩:∃p0 l',l=p0::l':=by
        cases l with
        | nil=>exact absurd rfl h0
        | cons p0 l'=>exact ⟨p0,l',rfl⟩
      obtain ⟨x,_,rfl⟩:=List.mem_map.mp (h p0 (.head _))
      refine ⟨x,rfl,fun p hp=>?_⟩
      obtain ⟨y,hy,e⟩:=List.mem_map.mp (h p hp)
      have:y=x:=by omega
      subst this
      exact (Zom hw _ _).mp hy
    · rintro ⟨x,rfl,h⟩ p hp
      exact List.mem_map.mpr ⟨x,(Zom hw _ _).mpr (h p hp),rfl⟩
  have hmax:Zxr (js.filter fun j=>decide ((l.flatMap fun p=>(Zfx ns ks p).map fun (e:Nat)=>(e:Int)).count j=l.length))=(s:Int):=by
    refine Xkm (List.mem_filter.mpr ⟨(hj _).mpr ?_,decide_eq_true ((hcf _).2.mpr ((hmem _).mpr ⟨s,rfl,hs⟩))⟩) fun y hy=>?_
    · have:0<(l.flatMap fun p=>(Zfx ns ks p).map fun (e:Nat)=>(e:Int)).count (s:Int):=by
        rw [(hcf _).2.mpr ((hmem _).mpr ⟨s,rfl,hs⟩)]
        exact List.length_pos_iff.mpr h0
      exact List.count_pos_iff.mp this
    · obtain ⟨x,rfl,hx⟩:=(hmem y).mp ((hcf y).2.mp (of_decide_eq_true (List.mem_filter.mp hy).2))
      have:=hm x hx
      omega
  have hne:(js.filter fun j=>decide ((l.flatMap fun p=>(Zfx ns ks p).map fun (e:Nat)=>(e:Int)).count j=l.length))≠[]:=fun z=>by
    have:(s:Int)∈js.filter fun j=>decide ((l.flatMap fun p=>(Zfx ns ks p).map fun (e:Nat)=>(e:Int)).count j=l.length):=by
      have h1:=(hcf (s:Int)).2.mpr ((hmem _).mpr ⟨s,rfl,hs⟩)
      refine List.mem_filter.mpr ⟨(hj _).mpr (List.count_pos_iff.mp ?_),decide_eq_true h1⟩
      rw [h1]
      exact List.length_pos_iff.mpr h0
    rw [z] at this
    cases this
  have hjl:js.length≤900000:=by
    have h1:=Cts.len jnd hj
    have h2:=fl1 l hle
    omega
  have hlenl:Zac [nD l]=some (.int l.length):=by simp [nD,Zac]
  have filt:Zqp gEq 2 5 (fA Zac (Zd (fV 1) Zt)) [some (bkD ns ks),some (nD l),some (ctI js fun j=>(l.flatMap fun p=>(Zfx ns ks p).map fun (e:Nat)=>(e:Int)).count j),o3,o4]=.ok (.lst ((js.filter fun j=>decide ((l.flatMap fun p=>(Zfx ns ks p).map fun (e:Nat)=>(e:Int)).count j=l.length)).map D.int)):=by
    have f0:=Zsx js (fun j=>(l.flatMap fun p=>(Zfx ns ks p).map fun (e:Nat)=>(e:Int)).count j)
    have f1:=Xcb js (fun j=>(l.flatMap fun p=>(Zfx ns ks p).map fun (e:Nat)=>(e:Int)).count j) l.length js fun _ h=>h
    show (if Xy (js.map fun j=>D.int (((l.flatMap fun p=>(Zfx ns ks p).map fun (e:Nat)=>(e:Int)).count j:Nat):Int))=true then match Zta (js.map (Sum.inl (β:=Str))) with
      | some js'=>if js'.length≤lim then (fA Zac (Zd (fV 1) Zt) [some (bkD ns ks),some (nD l),none,o3,o4,none]).calm.bind fun z=>(Zhb gEq (js.map .inl) (js.map fun j=>D.int (((l.flatMap fun p=>(Zfx ns ks p).map fun (e:Nat)=>(e:Int)).count j:Nat):Int)) z js').bind fun ys=>R.ok (D.lst ys) else R.bad
      | none=>R.bad else R.bad)=_
    rw [if_pos f0,Zym]
    simp only []
    rw [if_pos (by show js.length≤1000000;omega),Js (Zc rfl rfl) hlenl,Xaz,Zad,f1,Zad]
  exact Je (Zo (Zu rfl) (Zo (Zdv (Zcc rfl (by rw [length_map];show _≤1000000;omega)) h1) (Jf (Js (Zc filt rfl) ((Zux hne).trans (by rw [hmax]))))))
theorem Zjz (ns:List Int)(ks:List Kd):Zdp ns ks true=ns.length:=by
 have hst:starts ns ks true=[ns.length]:=by
  unfold starts
  rw [range_succ,filter_append]
  have:(List.range ns.length).filter (opn ns ks true)=[]:=by
   rw [List.filter_eq_nil_iff]
   intro p hp
   have hp:=List.mem_range.mp hp
   simp [opn]
   omega
  rw [this]
  simp [opn]
 unfold Zdp
 rw [hst]
 show cst ns ks (ns.length+ns.length) ns.length ns.length=_
 cases h:ns.length+ns.length with
 | zero=>rfl
 | succ n=>simp [cst]
theorem Zyi (ns:List Int)(ks:List Kd)(hn:ns.length≤900)(hw:∀k∈ks,1≤k.w):Jg [bkD ns ks,nD (starts ns ks false)]=.ok (.int (Zdp ns ks false)):=by
 have hp:=Zhd (ns:=ns) hw false
 have hmem:ns.length∈starts ns ks false:=by rw [Zpr];simp
 refine Zrw ns ks hn hw ?_ (fun p hp=>?_) hp.2 (fun x hx=>?_) (fun z=>by rw [z] at hmem;cases hmem)
 ·have:(starts ns ks false).length≤(List.range (ns.length+1)).length:=length_filter_le _ _
  rw [length_range] at this
  omega
 ·have:=List.mem_range.mp (List.mem_filter.mp hp).1
  omega
 ·exact (Zkw hw (starts ns ks false) ns.length (hx _ hmem) hx).le hw
theorem Zuo (ps:List (Int×Str)):dep (psD ps)≤20:=by
 have:Zho (ps.map pD)≤1:=by
  induction ps with
  | nil=>simp [Zho]
  | cons x l ih=>simp [Zho,dep,pD] at *;omega
 simp [psD,dep]
 omega
theorem Xck:∀z∈Zby,(z==("":Str))=false:=by decide +kernel
noncomputable def tdL (ns:List Int)(ks:List Kd):List (Int×Str):=Xq ns ks (Zdp ns ks false)
theorem Zyk {ns:List Int}{ks:List Kd}(hw:∀k∈ks,1≤k.w){w:Int}(h0:0≤w):tdL ns ks++Zwi ns ks w=tdL (ns++[w]) ks:=by
 have g1:=Zob (ns:=ns) (os:=[w]) (ks:=ks) hw (fun v hv=>by rw [List.mem_singleton.mp hv];exact h0)
 obtain ⟨r,hr,_⟩:=Zqr hw g1
 rw [Zyd hw _ (Zni hw false)] at hr
 unfold Zwi
 show tdL ns ks++(Xq (ns++[w]) ks (Zdp (ns++[w]) ks false)).drop (tdL ns ks).length=Xq (ns++[w]) ks (Zdp (ns++[w]) ks false)
 rw [hr]
 show tdL ns ks++(tdL ns ks++r).drop (tdL ns ks).length=tdL ns ks++r
 rw [List.drop_left]
theorem Zvg {ns:List Int}{ks:List Kd}(hw:∀k∈ks,1≤k.w):tdL ns ks++Zfg ns ks=Xq ns ks ns.length:=by
 have g1:=(Zhd (ns:=ns) hw false).1
 obtain ⟨r,hr,_⟩:=Zqr hw g1
 unfold Zfg
 rw [Zjz,hr]
 show tdL ns ks++(tdL ns ks++r).drop (tdL ns ks).length=tdL ns ks++r
 rw [List.drop_left]
theorem Zvm {ns:List Int}{ks:List Kd}(hw:∀k∈ks,1≤k.w):(tdL ns ks).length≤ns.length:=le_trans (Zla hw _) (Zni hw false)
noncomputable def Zkh:FS:=
  (Xp (Yg 4 (Xv Zcg (Zd (fV 1) (Zd (fV 2) Zt))))
    (Xp (Yg 5 (fA Zac (Zd (fV 1) Zt)))
    (Xp (Yg 6 (fA Ju (Zd (f1 Xs (fV 5)) Zt)))
    (Xp (sIf (Xju (cE (fV 3))) (Xp (Yg 6 (Xv Zas (Zd (fV 1) (Zd (fV 2) Zt))))
    (Yg 5 (Xv Jg (Zd (fV 4) (Zd (fV 6) Zt))))) sNx)
    (Xp (Yg 7 (f1 Xs (f2 gIx (Xv Xg (Zd (f2 Jj (fV 1) (f2 Zcm (fA Ju (Zd (fC (.int 0)) Zt)) (fC (.int 5)))) (Zd (fV 2) Zt))) (f1 Zss (fC (.int 1))))))
    (Xp (sIf (cOr (cE (f2 gNe (Jc "Feed" ("open_starts":Str) Xn (fV 0) Zt) (fV 6))) (cE (f2 gNe (Jc "Feed" ("between":Str) Yj (fV 0) (Zd (fC (.int 5)) Zt)) (fA Zjb (Zd (f2 gIx (Xv Xg (Zd (fV 1) (Zd (fV 2) Zt))) (f1 Zss (fC (.int 1)))) (Zd (fV 7) Zt)))))) (Zao (fC (.bl false))) sNx)
    (Xp (sIf (cOr (cE (f2 gNe (Jc "Feed" ("cells":Str) Jm (fV 0) Zt) (fV 1))) (cOr (cE (f2 gNe (Jc "Feed" ("settled":Str) Yk (fV 0) Zt) (fV 5))) (cE (f2 gNe (Jc "Feed" ("sure":Str) Yd (fV 0) Zt) (Xv Zak (Zd (fV 4) (Zd (fV 5) Zt))))))) (Zao (fC (.bl false))) sNx)
    (Xp (Yg 8 (f1 Xs (f2 gIx (Xv Xg (Zd (fV 1) (Zd (fV 2) Zt))) (f1 Zss (fC (.int 1))))))
    (Xp (sIf (cOr (cE (f2 gNe (Jc "Feed" ("worth":Str) Ya (fV 0) Zt) (fV 8))) (cE (f2 gNe (Jc "Feed" ("between":Str) Yj (fV 0) (Zd (fC (.int 0)) Zt)) (fA Zjb (Zd (fV 8) (Zd (fV 8) Zt)))))) (Zao (fC (.bl false))) sNx)
    (Zao (f2 gEq (Jc "Feed" ("cutting":Str) Yf (fV 0) Zt) (Xv Zak (Zd (fV 4) (Zd (fA Zac (Zd (fV 1) Zt)) Zt))))))))))))))
noncomputable def Yo (ds:List D):R D:=(run 9 Zkh ds).calm
noncomputable def Zns:FS:=
  (Xp (Yg 15 (fSl gSl (f2 gIx (fV 8) (fV 14)) Zmb (Zhu (f2 gIx (fV 9) (fV 14)))))
    (Xp (Yg 16 (f2 gIx (fA Ju (Zd (fV 2) (Zd (fV 4) Zt))) (fV 14)))
    (sIf (Xid (cE (f2 gEq (f2 Zln (fV 11) (f2 Jj (fC (.int 1)) (f2 gIx (fV 5) (fC (.int 1))))) (fC (.int 0)))) (Xju (cE (Xv Yo (Zd (f2 gIx (fV 6) (fV 14)) (Zd (fV 15) (Zd (fV 16) (Zd (fC (.bl false)) Zt)))))))) (Zao (fC (.bl false))) sNx)))
noncomputable def Znj:FS:=
  (Xp (Yg 12 (f1 Xs (f2 gIx (fV 5) (f2 Jj (fC (.int 2)) (fV 11)))))
    (sIf (cE (f2 gLt (f2 gIx (fV 9) (fV 12)) (fA Zac (Zd (f2 gIx (fV 8) (fV 12)) Zt)))) (Xp (Yg 13 (f1 Xs (f2 gIx (f2 gIx (fV 8) (fV 12)) (f2 gIx (fV 9) (fV 12)))))
    (Xp (Zsb 10 12 (Zeo 6 12 "Feed" ("take":Str) Zbb (Zd (fV 13) Zt)))
    (Xp (Xsz 9 (fV 12) (f2 Jj (f2 gIx (fV 9) (fV 12)) (fC (.int 1))))
    (Xp (sIf (cE (f2 gEq (fV 12) (fC (.int 0)))) (Zmq (Zwz 7 "Feed" ("take":Str) Zbb (Zd (fV 13) Zt))) sNx)
    (Zlt (Zjc (Zd (fC (.int 2)) Zt)) (Xo 14) Zns))))) sNx))
noncomputable def Zvx:FS:=
  (Xp (Zsb 10 14 (Zeo 6 14 "Feed" ("close":Str) Zan Zt))
    (Xp (Yg 15 (fSl gSl (f2 gIx (fV 8) (fV 14)) Zmb (Zhu (f2 gIx (fV 9) (fV 14)))))
    (Xp (sIf (Xju (cE (Xv Yo (Zd (f2 gIx (fV 6) (fV 14)) (Zd (fV 15) (Zd (f2 gIx (fA Ju (Zd (fV 2) (Zd (fV 4) Zt))) (fV 14)) (Zd (fC (.bl true)) Zt))))))) (Zao (fC (.bl false))) sNx)
    (sIf (cE (f2 gNe (f2 gIx (fV 10) (fV 14)) (Jc "Feed" ("cutting":Str) Yf (f2 gIx (fV 6) (fV 14)) Zt))) (Zao (fC (.bl false))) sNx))))
noncomputable def q_law:FS:=
  (Xp (Xix (Xv Zam (Zd (fV 0) (Zd (fC (.int 0)) (Zd (fC (.int 20)) (Zd (fC (.int 5)) Zt))))) (Xll (Ziz (Xo 1) (Ziz (Xo 2) Xit))))
    (Xp (Xix (Xv Zam (Zd (fV 0) (Zd (fC (.int 2)) (Zd (fC (.int 20)) (Zd (fC (.int 5)) Zt))))) (Xll (Ziz (Xo 3) (Ziz (Xo 4) Xit))))
    (Xp (Yg 5 (Xv Yt (Zd (fV 0) (Zd (fC (.int 4)) (Zd (f2 Jj (fA Ju (Zd (fC (.int 2)) (Zd (fC (.int 3)) Zt))) (f2 Zcm (fA Ju (Zd (fC (.int 2)) Zt)) (fC (.int 40)))) Zt)))))
    (Xp (sIf (cE (f2 gEq (f2 gIx (fV 5) (fC (.int 0))) (fC (.int 0)))) (Yg 4 (fA Zjd (Zd (fV 2) Zt))) sNx)
    (Xp (Yg 6 (fA Ju (Zd (Zpk "Feed" Jp (Zd (fV 2) Zt)) (Zd (Zpk "Feed" Jp (Zd (fV 4) Zt)) Zt))))
    (Xp (Yg 7 (Zpk "Feed" Jp (Zd (fV 2) Zt)))
    (Xp (Yg 8 (fA Ju (Zd (fV 1) (Zd (fV 3) Zt))))
    (Xp (Yg 9 (fA Ju (Zd (fC (.int 0)) (Zd (fC (.int 0)) Zt))))
    (Xp (Yg 10 (fA Ju (Zd (fA Ju Zt) (Zd (fA Ju Zt) Zt))))
    (Xp (Zlt (Zjc (Zd (fC (.int 40)) Zt)) (Xo 11) Znj)
    (Xp (Zlt (Zjc (Zd (fC (.int 2)) Zt)) (Xo 14) Zvx)
    (Zao (Xcn (Xv Yo (Zd (fV 7) (Zd (fSl gSl (fV 1) Zmb (Zhu (f2 gIx (fV 9) (fC (.int 0))))) (Zd (fV 2) (Zd (fC (.bl false)) Zt))))) (f2 gIs (Jc "Feed" ("closed":Str) Jr (fV 7) Zt) (fC (.bl false))))))))))))))))
noncomputable def Xkh (ds:List D):R D:=(run 17 q_law ds).calm
theorem Zof (ns:List Int)(ks:List Kd):starts ns ks true=[ns.length]:=by
 unfold starts
 rw [range_succ,filter_append]
 have:(List.range ns.length).filter (opn ns ks true)=[]:=by
  rw [List.filter_eq_nil_iff]
  intro p hp
  have hp:=List.mem_range.mp hp
  simp [opn]
  omega
 rw [this]
 simp [opn]
theorem Xto (a b:Int):dep (.tup [.int a,.int b])≤20:=by simp [dep,Zho]
theorem Zki (ks:List Kd)(ns:List Int)(b:Bool)(hn:ns.length≤200)(hk:ks.length≤1000)(hw:∀k∈ks,1≤k.w)(hnm:∀k∈ks,(k.name==("":Str))=false):Yo [fD ks ns b,iD ns,tD ks,.bl b]=.ok (.bl true):=by
  have bk:=Xlb ns ks (by omega) hk hw
  have l2:Zac [iD ns]=some (.int ns.length):=by simp [iD]
  have sl:=Zni (ns:=ns) hw b
  have op:=Zpl ks ns b (by omega) hk
  have bw5:=Zmt ks ns b (r:=5) (by decide) (by decide) (by omega) hk hw
  have bw0:=Zmt ks ns b (r:=0) (by decide) (by decide) (by omega) hk hw
  have ce:=Xds ks ns b
  have se:=Zmi ks ns b (by omega) hk hw
  have su:=Zkx ks ns b (by omega) hk hw
  have cu:=Zib ks ns b (by omega) hk hw
  have wo:=Zor ks ns b
  have c1:=Zyq ns ks (by omega) hw hnm sl
  have c2:=Zyq ns ks (by omega) hw hnm (le_refl ns.length)
  obtain ⟨fr,hfr⟩:∃fr,fr=ns++List.replicate 5 (0:Int):=⟨_,rfl⟩
  have hfl:fr.length≤900:=by rw [hfr,length_append,length_replicate];omega
  have hh:=Zdg ns ks (by omega) hk hw
  have hf:=Zdg fr ks hfl hk hw
  have i1:=Zer (Jb ns ks ns.length)
  rw [Zcl _ ks _ _ (le_refl _)] at i1
  have i2:=Zer (Jb fr ks fr.length)
  rw [Zcl _ ks _ _ (le_refl _)] at i2
  have mz:Zcm (.lst [.int 0]) (.int 5)=some (iD (List.replicate 5 0)):=Zqy (by decide) (by decide) 0
  have az:=Zgg (xs:=ns) (ys:=List.replicate 5 0) (by rw [length_replicate];omega)
  rw [← hfr] at az
  have e5:(ns++List.replicate (5:Int).toNat (0:Int))=fr:=hfr.symm
  rw [e5] at bw5
  have e0:(ns++List.replicate (0:Int).toNat (0:Int))=ns:=by simp
  rw [e0] at bw0
  have n1:=neX (Xrh (starts ns ks b))
  have n2:=neX (Xto (ht ns ks ns.length) (ht fr ks fr.length))
  have n3:=neX (depI ns)
  have n4:∀i:Int,gNe (.int i) (.int i)=some (.bl false):=fun i=>neX (by simp [dep])
  have n5:=neX (Zuo (Xq ns ks (Zdp ns ks b)))
  have n6:=neX (Xto (ht ns ks ns.length) (ht ns ks ns.length))
  have s1:=Zuv (Zuo (Xq ns ks ns.length))
  have tail:∀(o7 o8:Option D),(Xp (Yg 7 (f1 Xs (f2 gIx (Xv Xg (Zd (f2 Jj (fV 1) (f2 Zcm (fA Ju (Zd (fC (.int 0)) Zt)) (fC (.int 5)))) (Zd (fV 2) Zt))) (f1 Zss (fC (.int 1))))))
    (Xp (sIf (cOr (cE (f2 gNe (Jc "Feed" ("open_starts":Str) Xn (fV 0) Zt) (fV 6))) (cE (f2 gNe (Jc "Feed" ("between":Str) Yj (fV 0) (Zd (fC (.int 5)) Zt)) (fA Zjb (Zd (f2 gIx (Xv Xg (Zd (fV 1) (Zd (fV 2) Zt))) (f1 Zss (fC (.int 1)))) (Zd (fV 7) Zt)))))) (Zao (fC (.bl false))) sNx)
    (Xp (sIf (cOr (cE (f2 gNe (Jc "Feed" ("cells":Str) Jm (fV 0) Zt) (fV 1))) (cOr (cE (f2 gNe (Jc "Feed" ("settled":Str) Yk (fV 0) Zt) (fV 5))) (cE (f2 gNe (Jc "Feed" ("sure":Str) Yd (fV 0) Zt) (Xv Zak (Zd (fV 4) (Zd (fV 5) Zt))))))) (Zao (fC (.bl false))) sNx)
    (Xp (Yg 8 (f1 Xs (f2 gIx (Xv Xg (Zd (fV 1) (Zd (fV 2) Zt))) (f1 Zss (fC (.int 1))))))
    (Xp (sIf (cOr (cE (f2 gNe (Jc "Feed" ("worth":Str) Ya (fV 0) Zt) (fV 8))) (cE (f2 gNe (Jc "Feed" ("between":Str) Yj (fV 0) (Zd (fC (.int 0)) Zt)) (fA Zjb (Zd (fV 8) (Zd (fV 8) Zt)))))) (Zao (fC (.bl false))) sNx)
    (Zao (f2 gEq (Jc "Feed" ("cutting":Str) Yf (fV 0) Zt) (Xv Zak (Zd (fV 4) (Zd (fA Zac (Zd (fV 1) Zt)) Zt)))))))))) [some (fD ks ns b),some (iD ns),some (tD ks),some (.bl b),some (bkD ns ks),some (.int (Zdp ns ks b)),some (nD (starts ns ks b)),o7,o8]=.ok (.ret (.bl true)):=fun o7 o8=>by
    refine Zo (Zu (Jh (Zl (Xl (Zc (Zl rfl (Zl (Js (Zc rfl rfl) rfl) rfl mz) az) (Zc rfl rfl)) hf) (Jh rfl rfl) i2) rfl)) ?_
    refine Zo (Yn (Zim (Yl (Zl (Zay rfl (Zcb Zqq) rfl op) rfl n1)) (Yl (Zl (Zay rfl (Zcb Zmo) (Zc rfl rfl) bw5) (Js (Zc (Zl (Xl (Zc rfl (Zc rfl rfl)) hh) (Jh rfl rfl) i1) (Zc rfl rfl)) rfl) n2))) rfl) ?_
    refine Zo (Yn (Zim (Yl (Zl (Zay rfl (Zcb Xel) rfl ce) rfl n3)) (Zim (Yl (Zl (Zay rfl (Zcb Zxc) rfl se) rfl (n4 _))) (Yl (Zl (Zay rfl (Zcb Zth) rfl su) (Xl (Zc rfl (Zc rfl rfl)) c1) n5)))) rfl) ?_
    refine Zo (Zu (Jh (Zl (Xl (Zc rfl (Zc rfl rfl)) hh) (Jh rfl rfl) i1) rfl)) ?_
    refine Zo (Yn (Zim (Yl (Zl (Zay rfl (Zcb Znn) rfl wo) rfl (n4 _))) (Yl (Zl (Zay rfl (Zcb Zmo) (Zc rfl rfl) bw0) (Js (Zc rfl (Zc rfl rfl)) rfl) n6))) rfl) ?_
    exact Jf (Zl (Zay rfl (Zcb Zhh) rfl cu) (Xl (Zc rfl (Zc (Js (Zc rfl rfl) l2) rfl)) c2) s1)
  refine Je (Zo (Zu (Xl (Zc rfl (Zc rfl rfl)) bk)) (Zo (Zu (Js (Zc rfl rfl) l2)) (Zo (Zu (Js (Zc (Jh rfl rfl) rfl) rfl)) ?_)))
  cases b with
  | true =>
    have t:=tail none none
    rw [Zjz,Zof] at t
    exact Zo (Yn (Zmk (b:=true) (Yl rfl)) rfl) t
  | false =>
    exact Zo (Zbc (Zmk (b:=false) (Yl rfl)) (Zo (Zu (Xl (Zc rfl (Zc rfl rfl)) (Zxb ns ks (by omega) hk hw))) (Zu (Xl (Zc rfl (Zc rfl rfl)) (Zyi ns ks (by omega) hw))))) (tail none none)
theorem Xhs {i:Nat}{k e:FE}{ρ:Env}{d:D}{xs:List D}{n:Int}{j:Nat}(he:e ρ=.ok d)(hi:ρ[i]?=some (some (.lst xs)))(hk:k ρ=.ok (.int n))(hf:flat d=true)(hx:Xy xs=true)(hj:ixD xs.length n=some j):Xsz i k e ρ=.ok (.nx (ρ.set i (some (.lst (xs.set j d))))):=by
 unfold Xsz
 rw [he]
 show (match ρ[i]? with | some (some (.lst xs))=>_ | _=>_)=_
 rw [hi]
 show (k ρ).bind _=_
 rw [hk]
 show (if flat d=true∧Xy xs=true then _ else _)=_
 rw [if_pos ⟨hf,hx⟩,hj]
theorem Zot {i l:Nat}{c:String}{m:Str}{G:List D→R (D×D)}{args:FA}{ρ:Env}{os ys xs:List D}{n:Int}{j:Nat}{ns:List Str}{d o':D}(hi:ρ[i]?=some (some (.lst os)))(hl:ρ[l]?=some (some (.int n)))(hj:atIx os n=some (j,.obj c ns xs))(hm:fIx m ns=none)(ha:args ρ=.ok ys)(h:G (.obj c ns xs::ys)=.ok (d,o')):Zeo i l c m G args ρ=.ok (d,ρ.set i (some (.lst (os.set j o')))):=by
  unfold Zeo
  rw [hi,hl]
  show (match atIx os n with
    | some (j,.obj c' ns xs)=>if c'=c∧fIx m ns=none then (args ρ).bind fun ys=>(G (.obj c' ns xs::ys)).bind fun p=>R.ok (p.1,ρ.set i (some (.lst (os.set j p.2)))) else R.bad
    | _=>R.bad)=_
  rw [hj]
  show (if c=c∧fIx m ns=none then (args ρ).bind fun ys=>(G (.obj c ns xs::ys)).bind fun p=>R.ok (p.1,ρ.set i (some (.lst (os.set j p.2)))) else R.bad)=_
  rw [if_pos ⟨rfl,hm⟩,ha,Zad,h,Zad]
theorem Zve {i l:Nat}{fm:FM}{ρ ρ':Env}{d d':D}{es:List D}{n:Int}(hi:ρ[i]?=some (some d))(hl:ρ[l]?=some (some (.int n)))(hf:fm ρ=.ok (.lst es,ρ'))(hu:Zov (Zrg es) [n] d=some d'):Zsb i l fm ρ=.ok (.nx (ρ'.set i (some d'))):=by
 unfold Zsb
 rw [hi,hl]
 show (fm ρ).calm.bind _=_
 rw [hf,Xaz,Zad]
 show (match Zov (Zrg es) [n] d with | some d'=>R.ok (Fl.nx (ρ'.set i (some d'))) | none=>R.bad)=_
 rw [hu]
theorem upx0 {a b es:List D}(h:a.length+es.length≤lim):Zov (Zrg es) [0] (.lst [.lst a,.lst b])=some (.lst [.lst (a++es),.lst b]):=by
 have e:Zrg es a=some (a++es):=if_pos h
 show (((Zrg es a).map D.lst).map fun d'=>D.lst [d',.lst b])=_
 rw [e]
 rfl
theorem upx1 {a b es:List D}(h:b.length+es.length≤lim):Zov (Zrg es) [1] (.lst [.lst a,.lst b])=some (.lst [.lst a,.lst (b++es)]):=by
 have e:Zrg es b=some (b++es):=if_pos h
 show (((Zrg es b).map D.lst).map fun d'=>D.lst [.lst a,d'])=_
 rw [e]
 rfl
noncomputable def E57 (S O:D)(f s:List Int)(A B:List Kd)(a b sl:D)(t0 t1:Nat)(x y:List (Int×Str))(o:Option D)(r:Env):Env:=[some S,some (iD f),some (tD A),some (iD s),some (tD B),some O,some (.lst [a,b]),some sl,some (.lst [iD f,iD s]),some (iD [(t0:Int),(t1:Int)]),some (.lst [psD x,psD y]),o]++r
theorem Xhl (S:D)(os:List Int)(f s:List Int)(A B:List Kd)(t0 t1:Nat)(x y:List (Int×Str))(sl:D)(k:Nat)(o12 o13 p14 p15 p16:Option D)(hf:f.length≤20)(hs:s.length≤20)(hA:A.length≤1000)(hB:B.length≤1000)(hwA:∀k∈A,1≤k.w)(hwB:∀k∈B,1≤k.w)(hnA:∀k∈A,(k.name==("":Str))=false)(hnB:∀k∈B,(k.name==("":Str))=false)(hol:os.length=42)(ho1:0≤os.getD 1 0) :
  ∃o14 o15 o16,Zdw (Xo 14) Zns (Zdq 0 2) (E57 S (iD os) f s A B (fD A (f.take t0) false) (fD B (s.take t1) false) sl t0 t1 x y (some (.int (k:Int))) [o12,o13,p14,p15,p16])=.ok (.nx (E57 S (iD os) f s A B (fD A (f.take t0) false) (fD B (s.take t1) false) sl t0 t1 x y (some (.int (k:Int))) [o12,o13,o14,o15,o16])):=by
 have i1:gIx (iD os) (.int 1)=some (.int (os.getD 1 0)):=Yz (k:=1) rfl (by omega)
 have mk:=Zcw (i:=(k:Int)) (j:=1+os.getD 1 0) (by omega)
 have r0:=Zki A (f.take t0) false (by rw [length_take];omega) hA hwA hnA
 have r1:=Zki B (s.take t1) false (by rw [length_take];omega) hB hwB hnB
 have s0:=Zgv f t0
 have s1:=Zgv s t1
 have key:V (Zdw (Xo 14) Zns (Zdq 0 2) (E57 S (iD os) f s A B (fD A (f.take t0) false) (fD B (s.take t1) false) sl t0 t1 x y (some (.int (k:Int))) [o12,o13,p14,p15,p16])) (fun fl=>∃o14 o15 o16,fl=.nx (E57 S (iD os) f s A B (fD A (f.take t0) false) (fD B (s.take t1) false) sl t0 t1 x y (some (.int (k:Int))) [o12,o13,o14,o15,o16])):=by
  refine Zzh (P:=fun _ ρ=>∃o14 o15 o16,ρ=E57 S (iD os) f s A B (fD A (f.take t0) false) (fD B (s.take t1) false) sl t0 t1 x y (some (.int (k:Int))) [o12,o13,o14,o15,o16]) ⟨p14,p15,p16,rfl⟩ (fun i ρ hi q=>?_) (fun ρ q=>?_)
  ·obtain ⟨o14,o15,o16,rfl⟩:=q
   rw [Zha]
   have hc:i=0∨i=1:=by omega
   rcases hc with rfl | rfl
   ·refine V.of (a:=.nx (E57 S (iD os) f s A B (fD A (f.take t0) false) (fD B (s.take t1) false) sl t0 t1 x y (some (.int (k:Int))) [o12,o13,some (.int ((0:Nat):Int)),some (iD (f.take t0)),some (tD A)])) ?_ (by exact ⟨_,_,_,rfl⟩)
    refine Zo (Zu (Xot (Zl rfl rfl rfl) rfl (Zld (Zl rfl rfl rfl)) s0)) (Zo (Zu (Zl (Js (Zc rfl (Zc rfl rfl)) rfl) rfl rfl)) ?_)
    by_cases q:(k:Int) % (1+os.getD 1 0)=0
    ·exact Yn (Zfm (Yl (Zl (Zl rfl (Zl rfl (Zl rfl rfl i1) rfl) mk) rfl ((Zei _ _).trans (Zri q)))) (Zmk (b:=true) (Yl (Xl (Zc (Zl rfl rfl rfl) (Zc rfl (Zc rfl (Zc rfl rfl)))) r0)))) rfl
    ·exact Yn (Znt (Yl (Zl (Zl rfl (Zl rfl (Zl rfl rfl i1) rfl) mk) rfl ((Zei _ _).trans (Zrf q))))) rfl
   ·refine V.of (a:=.nx (E57 S (iD os) f s A B (fD A (f.take t0) false) (fD B (s.take t1) false) sl t0 t1 x y (some (.int (k:Int))) [o12,o13,some (.int ((1:Nat):Int)),some (iD (s.take t1)),some (tD B)])) ?_ (by exact ⟨_,_,_,rfl⟩)
    refine Zo (Zu (Xot (Zl rfl rfl rfl) rfl (Zld (Zl rfl rfl rfl)) s1)) (Zo (Zu (Zl (Js (Zc rfl (Zc rfl rfl)) rfl) rfl rfl)) ?_)
    by_cases q:(k:Int) % (1+os.getD 1 0)=0
    ·exact Yn (Zfm (Yl (Zl (Zl rfl (Zl rfl (Zl rfl rfl i1) rfl) mk) rfl ((Zei _ _).trans (Zri q)))) (Zmk (b:=true) (Yl (Xl (Zc (Zl rfl rfl rfl) (Zc rfl (Zc rfl (Zc rfl rfl)))) r1)))) rfl
    ·exact Yn (Znt (Yl (Zl (Zl rfl (Zl rfl (Zl rfl rfl i1) rfl) mk) rfl ((Zei _ _).trans (Zrf q))))) rfl
  ·obtain ⟨o14,o15,o16,rfl⟩:=q
   exact ⟨o14,o15,o16,rfl⟩
 obtain ⟨fl,h,o14,o15,o16,rfl⟩:=key.ex
 exact ⟨o14,o15,o16,h⟩
theorem Xtc (S:D)(os:List Int)(f s:List Int)(A B:List Kd)(t0 t1:Nat)(k:Nat)(o12 o13 p14 p15 p16:Option D)(hf:f.length≤20)(hs:s.length≤20)(hA:A.length≤1000)(hB:B.length≤1000)(hwA:∀k∈A,1≤k.w)(hwB:∀k∈B,1≤k.w)(hnA:∀k∈A,(k.name==("":Str))=false)(hnB:∀k∈B,(k.name==("":Str))=false)(hol:os.length=42)(ho1:0≤os.getD 1 0)(hk:k<40)(hob:0≤os.getD (2+k) 0∧os.getD (2+k) 0<2)(h0f:∀w∈f,0≤w)(h0s:∀w∈s,0≤w)(h0:t0≤f.length)(h1:t1≤s.length) :
  ∃t0' t1' q12 q13 q14 q15 q16,t0'≤f.length∧t1'≤s.length∧Znj (E57 S (iD os) f s A B (fD A (f.take t0) false) (fD B (s.take t1) false) (fD A (f.take t0) false) t0 t1 (tdL (f.take t0) A) (tdL (s.take t1) B) (some (.int (k:Int))) [o12,o13,p14,p15,p16])=.ok (.nx (E57 S (iD os) f s A B (fD A (f.take t0') false) (fD B (s.take t1') false) (fD A (f.take t0') false) t0' t1' (tdL (f.take t0') A) (tdL (s.take t1') B) (some (.int (k:Int))) [q12,q13,q14,q15,q16])):=by
 have i2:gIx (iD os) (.int (2+(k:Int)))=some (.int (os.getD (2+k) 0)):=Yz (k:=2+k) (by omega) (by omega)
 have lf:Zac [iD f]=some (.int f.length):=by simp [iD]
 have ls:Zac [iD s]=some (.int s.length):=by simp [iD]
 have hc:os.getD (2+k) 0=0∨os.getD (2+k) 0=1:=by omega
 rcases hc with hw | hw
 ·rw [hw] at i2
  by_cases q:t0<f.length
  ·have ix:gIx (iD f) (.int (t0:Int))=some (.int (f.getD t0 0)):=Yz (k:=t0) rfl q
   have hwi:0≤f.getD t0 0:=by
    refine h0f _ ?_
    rw [getD_eq_getElem?_getD,getElem?_eq_getElem q]
    exact getElem_mem q
   have tk:=Zzp A (f.take t0) (f.getD t0 0) (by rw [length_take];omega) hA hwA
   have tdt:=Zyk (ns:=f.take t0) (ks:=A) hwA hwi
   rw [Zqe q] at tk tdt
   obtain ⟨tl,htl⟩:∃tl,tl=Zwi (f.take t0) A (f.getD t0 0):=⟨_,rfl⟩
   rw [← htl] at tk tdt
   have tdl:=Zvm (ns:=f.take (t0+1)) (ks:=A) hwA
   rw [length_take] at tdl
   have hsum:(tdL (f.take t0) A).length+tl.length=(tdL (f.take (t0+1)) A).length:=by rw [← tdt,length_append]
   have hu:Zov (Zrg (tl.map pD)) [0] (.lst [psD (tdL (f.take t0) A),psD (tdL (s.take t1) B)])=some (.lst [psD (tdL (f.take (t0+1)) A),psD (tdL (s.take t1) B)]):=by
    rw [← tdt]
    refine (upx0 (by rw [length_map,length_map];show _≤1000000;omega)).trans ?_
    rw [← map_append]
    rfl
   obtain ⟨o14,o15,o16,lk⟩:=Xhl S os f s A B (t0+1) t1 (tdL (f.take (t0+1)) A) (tdL (s.take t1) B) (fD A (f.take (t0+1)) false) k (some (.int 0)) (some (.int (f.getD t0 0))) p14 p15 p16 hf hs hA hB hwA hwB hnA hnB hol ho1
   refine ⟨t0+1,t1,some (.int 0),some (.int (f.getD t0 0)),o14,o15,o16,q,h1,?_⟩
   refine Zo (Zu (Jh (Zl rfl (Zl rfl rfl rfl) i2) rfl)) ?_
   refine Zbc (Yl (Zl (Zl rfl rfl rfl) (Js (Zc (Zl rfl rfl rfl) rfl) lf) (Zri (Int.ofNat_lt.mpr q)))) ?_
   refine Zo (Zu (Jh (Zl (Zl rfl rfl rfl) (Zl rfl rfl rfl) ix) rfl)) ?_
   refine Zo (Zve (es:=tl.map pD) rfl rfl (Zot (j:=0) (n:=0) rfl rfl rfl (Zcb Zti) (Zc rfl rfl) tk) hu) ?_
   refine Zo (Xhs (xs:=[.int (t0:Int),.int (t1:Int)]) (n:=0) (j:=0) (d:=.int ((t0:Int)+1)) (Zl (Zl rfl rfl rfl) rfl rfl) rfl rfl rfl rfl rfl) ?_
   refine Zo (Zbc (Yl (Zl rfl rfl rfl)) (Xnp rfl (Zcb Zti) (Zc rfl rfl) tk)) ?_
   exact Zdv (Znk (j:=2) (Zc rfl rfl) (by decide)) lk
  ·refine ⟨t0,t1,some (.int 0),o13,p14,p15,p16,h0,h1,?_⟩
   exact Zo (Zu (Jh (Zl rfl (Zl rfl rfl rfl) i2) rfl)) (Yn (Yl (Zl (Zl rfl rfl rfl) (Js (Zc (Zl rfl rfl rfl) rfl) lf) (Zrf (fun z=>q (Int.ofNat_lt.mp z))))) rfl)
 ·rw [hw] at i2
  by_cases q:t1<s.length
  ·have ix:gIx (iD s) (.int (t1:Int))=some (.int (s.getD t1 0)):=Yz (k:=t1) rfl q
   have hwi:0≤s.getD t1 0:=by
    refine h0s _ ?_
    rw [getD_eq_getElem?_getD,getElem?_eq_getElem q]
    exact getElem_mem q
   have tk:=Zzp B (s.take t1) (s.getD t1 0) (by rw [length_take];omega) hB hwB
   have tdt:=Zyk (ns:=s.take t1) (ks:=B) hwB hwi
   rw [Zqe q] at tk tdt
   obtain ⟨tl,htl⟩:∃tl,tl=Zwi (s.take t1) B (s.getD t1 0):=⟨_,rfl⟩
   rw [← htl] at tk tdt
   have tdl:=Zvm (ns:=s.take (t1+1)) (ks:=B) hwB
   rw [length_take] at tdl
   have hsum:(tdL (s.take t1) B).length+tl.length=(tdL (s.take (t1+1)) B).length:=by rw [← tdt,length_append]
   have hu:Zov (Zrg (tl.map pD)) [1] (.lst [psD (tdL (f.take t0) A),psD (tdL (s.take t1) B)])=some (.lst [psD (tdL (f.take t0) A),psD (tdL (s.take (t1+1)) B)]):=by
    rw [← tdt]
    refine (upx1 (by rw [length_map,length_map];show _≤1000000;omega)).trans ?_
    rw [← map_append]
    rfl
   obtain ⟨o14,o15,o16,lk⟩:=Xhl S os f s A B t0 (t1+1) (tdL (f.take t0) A) (tdL (s.take (t1+1)) B) (fD A (f.take t0) false) k (some (.int 1)) (some (.int (s.getD t1 0))) p14 p15 p16 hf hs hA hB hwA hwB hnA hnB hol ho1
   refine ⟨t0,t1+1,some (.int 1),some (.int (s.getD t1 0)),o14,o15,o16,h0,q,?_⟩
   refine Zo (Zu (Jh (Zl rfl (Zl rfl rfl rfl) i2) rfl)) ?_
   refine Zbc (Yl (Zl (Zl rfl rfl rfl) (Js (Zc (Zl rfl rfl rfl) rfl) ls) (Zri (Int.ofNat_lt.mpr q)))) ?_
   refine Zo (Zu (Jh (Zl (Zl rfl rfl rfl) (Zl rfl rfl rfl) ix) rfl)) ?_
   refine Zo (Zve (es:=tl.map pD) rfl rfl (Zot (j:=1) (n:=1) rfl rfl rfl (Zcb Zti) (Zc rfl rfl) tk) hu) ?_
   refine Zo (Xhs (xs:=[.int (t0:Int),.int (t1:Int)]) (n:=1) (j:=1) (d:=.int ((t1:Int)+1)) (Zl (Zl rfl rfl rfl) rfl rfl) rfl rfl rfl rfl rfl) ?_
   refine Zo (Yn (Yl (Zl rfl rfl rfl)) rfl) ?_
   exact Zdv (Znk (j:=2) (Zc rfl rfl) (by decide)) lk
  ·refine ⟨t0,t1,some (.int 1),o13,p14,p15,p16,h0,h1,?_⟩
   exact Zo (Zu (Jh (Zl rfl (Zl rfl rfl rfl) i2) rfl)) (Yn (Yl (Zl (Zl rfl rfl rfl) (Js (Zc (Zl rfl rfl rfl) rfl) ls) (Zrf (fun z=>q (Int.ofNat_lt.mp z))))) rfl)
theorem Xfa {b:FB}{g:FS}{x y:D}{ρ ρ1 ρ2:Env}(h1:turn b g x ρ=.ok (.nx ρ1))(h2:turn b g y ρ1=.ok (.nx ρ2)):Zdw b g [x,y] ρ=.ok (.nx ρ2):=by
 have V1:V (Zdw b g [x,y] ρ) (fun fl=>fl=.nx ρ2):=by
  refine Xbf (P:=fun l ρ'=>(l=[x,y]∧ρ'=ρ)∨(l=[y]∧ρ'=ρ1)∨(l=[]∧ρ'=ρ2)) (fun z r ρ' p=>?_) (fun ρ' p=>?_) (.inl ⟨rfl,rfl⟩)
  ·rcases p with ⟨e,rfl⟩ | ⟨e,rfl⟩ | ⟨e,rfl⟩
   ·cases e
    exact V.of h1 (by exact .inr (.inl ⟨rfl,rfl⟩))
   ·cases e
    exact V.of h2 (by exact .inr (.inr ⟨rfl,rfl⟩))
   ·cases e
  ·rcases p with ⟨e,rfl⟩ | ⟨e,rfl⟩ | ⟨e,rfl⟩
   ·cases e
   ·cases e
   ·rfl
 exact V1.eq
theorem Xkq (S O:D)(f s:List Int)(A B:List Kd)(t0 t1:Nat)(sl:D)(o11 o12 o13 p14 p15 p16:Option D)(hf:f.length≤20)(hs:s.length≤20)(hA:A.length≤1000)(hB:B.length≤1000)(hwA:∀k∈A,1≤k.w)(hwB:∀k∈B,1≤k.w)(hnA:∀k∈A,(k.name==("":Str))=false)(hnB:∀k∈B,(k.name==("":Str))=false) :
  ∃a b x y q14 q15 q16,Zdw (Xo 14) Zvx [.int 0,.int 1] (E57 S O f s A B (fD A (f.take t0) false) (fD B (s.take t1) false) sl t0 t1 (tdL (f.take t0) A) (tdL (s.take t1) B) o11 [o12,o13,p14,p15,p16])=.ok (.nx (E57 S O f s A B a b sl t0 t1 x y o11 [o12,o13,q14,q15,q16])):=by
 have hfl:(f.take t0).length≤20:=by rw [length_take];omega
 have hsl:(s.take t1).length≤20:=by rw [length_take];omega
 have c0:=Zum A (f.take t0) (by omega) hA hwA
 have c1:=Zum B (s.take t1) (by omega) hB hwB
 have d0:=Zvg (ns:=f.take t0) (ks:=A) hwA
 have d1:=Zvg (ns:=s.take t1) (ks:=B) hwB
 have e0:=Zla (ns:=f.take t0) (ks:=A) hwA (f.take t0).length
 have e1:=Zla (ns:=s.take t1) (ks:=B) hwB (s.take t1).length
 have m0:(tdL (f.take t0) A).length+(Zfg (f.take t0) A).length=(Xq (f.take t0) A (f.take t0).length).length:=by rw [← d0,length_append]
 have m1:(tdL (s.take t1) B).length+(Zfg (s.take t1) B).length=(Xq (s.take t1) B (s.take t1).length).length:=by rw [← d1,length_append]
 have r0:=Zki A (f.take t0) true (by omega) hA hwA hnA
 have r1:=Zki B (s.take t1) true (by omega) hB hwB hnB
 have s0:=Zgv f t0
 have s1:=Zgv s t1
 have k0:=Zib A (f.take t0) true (by omega) hA hwA
 have k1:=Zib B (s.take t1) true (by omega) hB hwB
 have n0:=neX (Zuo (Xq (f.take t0) A (f.take t0).length))
 have n1:=neX (Zuo (Xq (s.take t1) B (s.take t1).length))
 have hu0:Zov (Zrg ((Zfg (f.take t0) A).map pD)) [0] (.lst [psD (tdL (f.take t0) A),psD (tdL (s.take t1) B)])=some (.lst [psD (Xq (f.take t0) A (f.take t0).length),psD (tdL (s.take t1) B)]):=by
  rw [← d0]
  refine (upx0 (by rw [length_map,length_map];show _≤1000000;omega)).trans ?_
  rw [← map_append]
  rfl
 have hu1:Zov (Zrg ((Zfg (s.take t1) B).map pD)) [1] (.lst [psD (Xq (f.take t0) A (f.take t0).length),psD (tdL (s.take t1) B)])=some (.lst [psD (Xq (f.take t0) A (f.take t0).length),psD (Xq (s.take t1) B (s.take t1).length)]):=by
  rw [← d1]
  refine (upx1 (by rw [length_map,length_map];show _≤1000000;omega)).trans ?_
  rw [← map_append]
  rfl
 refine ⟨fD A (f.take t0) true,fD B (s.take t1) true,Xq (f.take t0) A (f.take t0).length,Xq (s.take t1) B (s.take t1).length,some (.int 1),some (iD (s.take t1)),p16,?_⟩
 refine Xfa (ρ1:=E57 S O f s A B (fD A (f.take t0) true) (fD B (s.take t1) false) sl t0 t1 (Xq (f.take t0) A (f.take t0).length) (tdL (s.take t1) B) o11 [o12,o13,some (.int 0),some (iD (f.take t0)),p16]) ?_ ?_
 ·refine Zo (Zve (es:=(Zfg (f.take t0) A).map pD) rfl rfl (Zot (j:=0) (n:=0) rfl rfl rfl (Zcb Zvj) rfl c0) hu0) ?_
  refine Zo (Zu (Xot (Zl rfl rfl rfl) rfl (Zld (Zl rfl rfl rfl)) s0)) ?_
  refine Zo (Yn (Zmk (b:=true) (Yl (Xl (Zc (Zl rfl rfl rfl) (Zc rfl (Zc (Zl (Js (Zc rfl (Zc rfl rfl)) rfl) rfl rfl) (Zc rfl rfl)))) r0))) rfl) ?_
  exact Yn (Yl (Zl (Zl rfl rfl rfl) (Zay (Zl rfl rfl rfl) (Zcb Zhh) rfl k0) n0)) rfl
 ·refine Zo (Zve (es:=(Zfg (s.take t1) B).map pD) rfl rfl (Zot (j:=1) (n:=1) rfl rfl rfl (Zcb Zvj) rfl c1) hu1) ?_
  refine Zo (Zu (Xot (Zl rfl rfl rfl) rfl (Zld (Zl rfl rfl rfl)) s1)) ?_
  refine Zo (Yn (Zmk (b:=true) (Yl (Xl (Zc (Zl rfl rfl rfl) (Zc rfl (Zc (Zl (Js (Zc rfl (Zc rfl rfl)) rfl) rfl rfl) (Zc rfl rfl)))) r1))) rfl) ?_
  exact Yn (Yl (Zl (Zl rfl rfl rfl) (Zay (Zl rfl rfl rfl) (Zcb Zhh) rfl k1) n1)) rfl
theorem Zxq (ns:List Int)(h:ns.length≤63):Xkh [.scr ns]=.ok (.bl true):=by
 obtain ⟨f,A,hd1,hfl,hf0,hAl,hA⟩:=Zvq ns h (i:=0) (m:=20) (c:=5) (by omega) (by omega) (by omega) (by omega) (by omega) (by omega)
 obtain ⟨s,B0,hd2,hsl,hs0,hBl,hB⟩:=Zvq ns h (i:=2) (m:=20) (c:=5) (by omega) (by omega) (by omega) (by omega) (by omega) (by omega)
 obtain ⟨os,e1,R⟩:=Ztu ns h (i:=4) (by omega) (by omega) ([2,3]++List.replicate 40 2) (by decide) (Znu (by decide))
 have hol:os.length=42:=R.len
 have ho1:0≤os.getD 1 0:=(R.at_ 1 (by decide)).1
 have hbt:∀k,k<40→([2,3]++List.replicate 40 (2:Int)).getD (2+k) 0=2:=by decide
 have hob:∀k,k<40→0≤os.getD (2+k) 0∧os.getD (2+k) 0<2:=fun k hk=>by
  have:=R.at_ (2+k) (by show _<42;omega)
  rw [hbt k hk] at this
  exact this
 have i0:gIx (iD os) (.int 0)=some (.int (os.getD 0 0)):=Yz (k:=0) rfl (by omega)
 obtain ⟨B,hBd⟩:∃B:List Kd,B=if os.getD 0 0=0 then A else B0:=⟨_,rfl⟩
 have hBB:Xnl B∧(B.length:Int)≤5:=by
  rw [hBd]
  split
  ·exact ⟨hA,hAl⟩
  ·exact ⟨hB,hBl⟩
 have hwA:∀k∈A,1≤k.w:=fun k hk=>(hA.ok k hk).w1
 have hwB:∀k∈B,1≤k.w:=fun k hk=>(hBB.1.ok k hk).w1
 have hnA:∀k∈A,(k.name==("":Str))=false:=fun k hk=>Xck _ (hA.ok k hk).nm
 have hnB:∀k∈B,(k.name==("":Str))=false:=fun k hk=>Xck _ (hBB.1.ok k hk).nm
 have hlA:Zjd [tD A]=some (tD A):=by
  have:Xy (A.map kD)=true:=Zaa (fun _=>rfl) _
  simp [Zjd,tD,this]
 have loop:V (Zdw (Xo 11) Znj (Zdq 0 40) (E57 (.scr ns) (iD os) f s A B (fD A [] false) (fD B [] false) (fD A [] false) 0 0 [] [] none [none,none,none,none,none])) (fun fl=>∃t0 t1 o11 r,t0≤f.length∧t1≤s.length∧r.length=5∧fl=.nx (E57 (.scr ns) (iD os) f s A B (fD A (f.take t0) false) (fD B (s.take t1) false) (fD A (f.take t0) false) t0 t1 (tdL (f.take t0) A) (tdL (s.take t1) B) o11 r)):=by
  refine Zzh (P:=fun _ ρ=>∃(t0 t1:Nat) (o11 o12 o13 o14 o15 o16:Option D),t0≤f.length∧t1≤s.length∧ρ=E57 (.scr ns) (iD os) f s A B (fD A (f.take t0) false) (fD B (s.take t1) false) (fD A (f.take t0) false) t0 t1 (tdL (f.take t0) A) (tdL (s.take t1) B) o11 [o12,o13,o14,o15,o16]) ?_ (fun k ρ hk q=>?_) (fun ρ q=>?_)
  ·have z0:tdL [] A=[]:=List.length_eq_zero_iff.mp (Nat.le_zero.mp (Zvm (ns:=[]) (ks:=A) hwA))
   have z1:tdL [] B=[]:=List.length_eq_zero_iff.mp (Nat.le_zero.mp (Zvm (ns:=[]) (ks:=B) hwB))
   refine ⟨0,0,none,none,none,none,none,none,zero_le _,zero_le _,?_⟩
   rw [List.take_zero,List.take_zero,z0,z1]
  ·obtain ⟨t0,t1,o11,o12,o13,o14,o15,o16,h0,h1,rfl⟩:=q
   obtain ⟨t0',t1',q12,q13,q14,q15,q16,h0',h1',t⟩:=Xtc (.scr ns) os f s A B t0 t1 k o12 o13 o14 o15 o16 (by omega) (by omega) (by omega) (by omega) hwA hwB hnA hnB hol ho1 hk (hob k hk) (fun w hw=>(hf0 w hw).1) (fun w hw=>(hs0 w hw).1) h0 h1
   exact V.of t (by exact ⟨t0',t1',_,_,_,_,_,_,h0',h1',rfl⟩)
  ·obtain ⟨t0,t1,o11,o12,o13,o14,o15,o16,h0,h1,rfl⟩:=q
   exact ⟨t0,t1,o11,_,h0,h1,rfl,rfl⟩
 obtain ⟨fl,hloop,t0,t1,o11,r,ht0,ht1,hr,rfl⟩:=loop.ex
 obtain ⟨r12,r13,r14,r15,r16,rfl⟩:∃a b c d e,r=[a,b,c,d,e]:=by
  match r,hr with
  | [a,b,c,d,e],_=>exact ⟨a,b,c,d,e,rfl⟩
 obtain ⟨a,b,x,y,q14,q15,q16,hcl⟩:=Xkq (.scr ns) (iD os) f s A B t0 t1 (fD A (f.take t0) false) o11 r12 r13 r14 r15 r16 (by omega) (by omega) (by omega) (by omega) hwA hwB hnA hnB
 have rr:=Zki A (f.take t0) false (by rw [length_take];omega) (by omega) hwA hnA
 have s0:=Zgv f t0
 have mul:Zcm (.lst [.int 2]) (.int 40)=some (iD (List.replicate 40 2)):=rfl
 have add:Jj (.lst [.int 2,.int 3]) (iD (List.replicate 40 2))=some (iD ([2,3]++List.replicate 40 2)):=rfl
 have hoth:(sIf (cE (f2 gEq (f2 gIx (fV 5) (fC (.int 0))) (fC (.int 0)))) (Yg 4 (fA Zjd (Zd (fV 2) Zt))) sNx) [some (.scr ns),some (iD f),some (tD A),some (iD s),some (tD B0),some (iD os),none,none,none,none,none,none,none,none,none,none,none]=.ok (.nx [some (.scr ns),some (iD f),some (tD A),some (iD s),some (tD B),some (iD os),none,none,none,none,none,none,none,none,none,none,none]):=by
  rw [hBd]
  by_cases q:os.getD 0 0=0
  ·rw [if_pos q]
   exact Zbc (Yl (Zl (Zl rfl rfl i0) rfl ((Zei _ _).trans (Zri q)))) (Zu (Js (Zc rfl rfl) hlA))
  ·rw [if_neg q]
   exact Yn (Yl (Zl (Zl rfl rfl i0) rfl ((Zei _ _).trans (Zrf q)))) rfl
 refine Je (Zo (Xfe (Xl (Zc rfl (Zc rfl (Zc rfl (Zc rfl rfl)))) hd1) rfl) (Zo (Xfe (Xl (Zc rfl (Zc rfl (Zc rfl (Zc rfl rfl)))) hd2) rfl) (Zo (Zu (Xl (Zc rfl (Zc rfl (Zc (Zl (Js (Zc rfl (Zc rfl rfl)) rfl) (Zl (Js (Zc rfl rfl) rfl) rfl mul) add) rfl))) e1)) (Zo hoth ?_))))
 refine Zo (Zu (Js (Zc (Xau (Zc rfl rfl) (Zrk A)) (Zc (Xau (Zc rfl rfl) (Zrk B)) rfl)) rfl)) (Zo (Zu (Xau (Zc rfl rfl) (Zrk A))) (Zo (Zu (Js (Zc rfl (Zc rfl rfl)) rfl)) (Zo (Zu (Js (Zc rfl (Zc rfl rfl)) rfl)) (Zo (Zu (Js (Zc rfl (Zc rfl rfl)) rfl)) ?_))))
 refine Zo (Zdv (Znk (j:=40) (Zc rfl rfl) (by decide)) hloop) (Zo (Zdv (Znk (j:=2) (Zc rfl rfl) (by decide)) hcl) ?_)
 exact Jf (Zyb (Xl (Zc rfl (Zc (Xot rfl rfl (Zld (Zl rfl rfl rfl)) s0) (Zc rfl (Zc rfl rfl)))) rr) (Zl (Zay rfl (Zcb Xai) rfl (Zza A (f.take t0) false)) rfl rfl))
end Dl
set_option maxHeartbeats 4000000
namespace K57
open PySem PySem.Spec PyProof.Rows L2
open Dl (D R FE FT FA FO FS FI FB Fl)
noncomputable def top (i:Nat):Stmt:=PySem.Challenge.pw_selvage_k57_two_by_turns.main.body.getD i (.Pass ⟨0,0,0,0⟩)
noncomputable abbrev Ztf:Stmt:=top 7
noncomputable abbrev Xky:Stmt:=top 9
noncomputable abbrev Zoa:Stmt:=top 11
noncomputable abbrev Zgc:Stmt:=top 12
noncomputable abbrev Zou:Stmt:=top 13
noncomputable abbrev Zhj:Stmt:=top 14
noncomputable abbrev Zdh:Stmt:=top 15
noncomputable abbrev Xkw:Stmt:=top 16
noncomputable abbrev Zhs:Stmt:=top 18
noncomputable abbrev Zfv:Stmt:=top 19
noncomputable abbrev Zch:Stmt:=top 20
noncomputable abbrev Zea:Stmt:=top 21
noncomputable abbrev Zhq:Stmt:=top 24
noncomputable abbrev Zjw:Stmt:=top 25
noncomputable abbrev Zli:Stmt:=top 26
noncomputable abbrev Zft:Stmt:=top 27
noncomputable abbrev Zhx:Stmt:=top 28
noncomputable abbrev Zhv:Stmt:=top 29
noncomputable abbrev Zfr:Stmt:=top 30
noncomputable abbrev Zhp:Stmt:=top 31
noncomputable abbrev Zhy:Stmt:=top 32
noncomputable abbrev Zdf:Stmt:=top 33
noncomputable abbrev Zcu:Stmt:=top 34
noncomputable abbrev Zjv:Stmt:=top 35
noncomputable abbrev Zej:Stmt:=top 36
noncomputable abbrev Zga:Stmt:=top 37
noncomputable abbrev Zbt:Stmt:=top 38
noncomputable abbrev Zct:Stmt:=top 39
noncomputable abbrev Xog:Stmt:=top 40
noncomputable abbrev Zhl:Stmt:=inClass (top 22) 0
noncomputable abbrev Zia:Stmt:=inClass (top 22) 1
noncomputable abbrev Zfq:Stmt:=inClass (top 22) 2
noncomputable abbrev Zag:Stmt:=inClass (top 22) 3
noncomputable abbrev Zed:Stmt:=inClass (top 22) 4
noncomputable abbrev Zfs:Stmt:=inClass (top 22) 5
noncomputable abbrev Zfy:Stmt:=inClass (top 22) 6
noncomputable abbrev Zdm:Stmt:=inClass (top 22) 7
noncomputable abbrev Zhr:Stmt:=inClass (top 22) 8
noncomputable abbrev Zbm:Stmt:=inClass (top 22) 9
noncomputable abbrev Zdi:Stmt:=inClass (top 22) 10
noncomputable abbrev Jq:Stmt:=inClass (top 22) 11
noncomputable abbrev Zav:Stmt:=inClass (top 22) 12
noncomputable abbrev Zdl:Stmt:=inClass (top 22) 13
theorem Zvp:Zv ["roll","begin","end"] ["roll","begin","end"] (Zm Ztf):=⟨rfl,rfl,rfl,by decide +kernel,rfl,by decide +kernel,by decide +kernel⟩
theorem Xht:Zv ["roll","kind","place","end"] ["roll","kind","place"] (Zm Xky):=⟨rfl,rfl,rfl,by decide +kernel,rfl,by decide +kernel,by decide +kernel⟩
theorem Zuh:Zv ["roll","table","end"] ["roll","table","end"] (Zm Zoa):=⟨rfl,rfl,rfl,by decide +kernel,rfl,by decide +kernel,by decide +kernel⟩
theorem Zna:Zv ["roll","table","tops","end","worths"] ["roll","table","tops"] (Zm Zgc):=⟨rfl,rfl,rfl,by decide +kernel,rfl,by decide +kernel,by decide +kernel⟩
theorem Zpv:Zv ["roll","table","tops"] ["roll","table"] (Zm Zou):=⟨rfl,rfl,rfl,by decide +kernel,rfl,by decide +kernel,by decide +kernel⟩
theorem Zkd:Zv ["roll","table","tops","end","kind"] ["roll","table","tops","end"] (Zm Zhj):=⟨rfl,rfl,rfl,by decide +kernel,rfl,by decide +kernel,by decide +kernel⟩
theorem Zfc:Zv ["roll","table","tops","end","pieces","kind"] ["roll","table","tops","end"] (Zm Zdh):=⟨rfl,rfl,rfl,by decide +kernel,rfl,by decide +kernel,by decide +kernel⟩
theorem Xiy:Zv ["roll","table","tops"] ["roll","table"] (Zm Xkw):=⟨rfl,rfl,rfl,by decide +kernel,rfl,by decide +kernel,by decide +kernel⟩
theorem Zkv:Zv ["cells","kind","place"] ["cells","kind","place"] (Zm Zhs):=⟨rfl,rfl,rfl,by decide +kernel,rfl,by decide +kernel,by decide +kernel⟩
theorem Zii:Zv ["cells","table","tops","place","kind"] ["cells","table","tops","place"] (Zm Zfv):=⟨rfl,rfl,rfl,by decide +kernel,rfl,by decide +kernel,by decide +kernel⟩
theorem Zgp:Zv ["cells","table","tops"] ["cells","table","tops"] (Zm Zch):=⟨rfl,rfl,rfl,by decide +kernel,rfl,by decide +kernel,by decide +kernel⟩
theorem Zhg:Zv ["ahead","one","other"] ["ahead","one","other"] (Zm Zea):=⟨rfl,rfl,rfl,by decide +kernel,rfl,by decide +kernel,by decide +kernel⟩
theorem Zku:Zv ["_law_script","_law_place","_law_seed","_law_cell_here"] ["_law_script","_law_place"] (Zm Zhq):=⟨rfl,rfl,rfl,by decide +kernel,rfl,by decide +kernel,by decide +kernel⟩
theorem Zne:Zv ["_law_cell_here","_law_k","_law_one","_law_two"] ["_law_cell_here","_law_k"] (Zm Zjw):=⟨rfl,rfl,rfl,by decide +kernel,rfl,by decide +kernel,by decide +kernel⟩
theorem Zmx:Zv ["_law_script","_law_place","_law_sizes","_law_cell_here","_law_left","_law_some","_law_k","_law_other"] ["_law_script","_law_place","_law_sizes"] (Zm Zli):=⟨rfl,rfl,rfl,by decide +kernel,rfl,by decide +kernel,by decide +kernel⟩
theorem Zit:Zv ["_law_script","_law_place","_law_most","_law_pool","_law_some","_law_flaw_here","_law_gain","_law_table_here","_law_k","_law_at","_law_width","_law_worth","_law_allowed","_law_name"] ["_law_script","_law_place","_law_most"] (Zm Zft):=⟨rfl,rfl,rfl,by decide +kernel,rfl,by decide +kernel,by decide +kernel⟩
theorem Zlk:Zv ["_law_script","_law_place","_law_most"] ["_law_script","_law_place","_law_most"] (Zm Zhx):=⟨rfl,rfl,rfl,by decide +kernel,rfl,by decide +kernel,by decide +kernel⟩
theorem Zkn:Zv ["_law_script","_law_place","_law_most","_law_flaw_here","_law_some","_law_great","_law_roll_here","_law_k","_law_at","_law_weight"] ["_law_script","_law_place","_law_most","_law_flaw_here"] (Zm Zhv):=⟨rfl,rfl,rfl,by decide +kernel,rfl,by decide +kernel,by decide +kernel⟩
theorem Zin:Zv ["_law_script","_law_place","_law_most","_law_kinds","_law_flaw_here"] ["_law_script","_law_place","_law_most","_law_kinds"] (Zm Zfr):=⟨rfl,rfl,rfl,by decide +kernel,rfl,by decide +kernel,by decide +kernel⟩
theorem Zjr:Zv ["_law_roll_here","_law_sums_here","_law_weight"] ["_law_roll_here"] (Zm Zhp):=⟨rfl,rfl,rfl,by decide +kernel,rfl,by decide +kernel,by decide +kernel⟩
theorem Zjt:Zv ["_law_sums_here","_law_kind","_law_at","_law_end"] ["_law_sums_here","_law_kind","_law_at"] (Zm Zhy):=⟨rfl,rfl,rfl,by decide +kernel,rfl,by decide +kernel,by decide +kernel⟩
theorem Zfe:Zv ["_law_roll_here","_law_table_here","_law_sums_here","_law_high","_law_end","_law_most","_law_kind","_law_at"] ["_law_roll_here","_law_table_here"] (Zm Zdf):=⟨rfl,rfl,rfl,by decide +kernel,rfl,by decide +kernel,by decide +kernel⟩
theorem Zlc:Zv ["_law_roll_here","_law_table_here","_law_sums_here","_law_high","_law_told","_law_end","_law_ways"] ["_law_roll_here","_law_table_here"] (Zm Zcu):=⟨rfl,rfl,rfl,by decide +kernel,rfl,by decide +kernel,by decide +kernel⟩
theorem Zmv:Zv ["_law_before","_law_end","_law_cutting","_law_place","_law_name"] ["_law_before","_law_end"] (Zm Zjv):=⟨rfl,rfl,rfl,by decide +kernel,rfl,by decide +kernel,by decide +kernel⟩
theorem Zgh:Zv ["_law_roll_here","_law_table_here","_law_sums_here","_law_high","_law_count","_law_found","_law_at","_law_kind","_law_over"] ["_law_roll_here","_law_table_here"] (Zm Zej):=⟨rfl,rfl,rfl,by decide +kernel,rfl,by decide +kernel,by decide +kernel⟩
theorem Zid:Zv ["_law_before","_law_end","_law_found"] ["_law_before","_law_end"] (Zm Zga):=⟨rfl,rfl,rfl,by decide +kernel,rfl,by decide +kernel,by decide +kernel⟩
theorem Zez:Zv ["_law_before","_law_starts_here","_law_held","_law_start","_law_stop"] ["_law_before","_law_starts_here"] (Zm Zbt):=⟨rfl,rfl,rfl,by decide +kernel,rfl,by decide +kernel,by decide +kernel⟩
theorem Zeq:Zv ["_law_feed","_law_roll_here","_law_table_here","_law_ended","_law_before","_law_place","_law_starts_here","_law_far","_law_high"] ["_law_feed","_law_roll_here","_law_table_here","_law_ended"] (Zm Zct):=⟨rfl,rfl,rfl,by decide +kernel,rfl,by decide +kernel,by decide +kernel⟩
theorem Xps:Zv ["_law_script","_law_first","_law_table_here","_law_second","_law_other","_law_some","_law_feeds","_law_silent","_law_rolls","_law_taken","_law_told","_law_k","_law_which","_law_weight","_law_turn","_law_part","_law_kinds"] ["_law_script"] (Zm Xog):=⟨rfl,rfl,rfl,by decide +kernel,rfl,by decide +kernel,by decide +kernel⟩
theorem Zjn:Zv ["self","table"] ["self","table"] (Zm Zhl):=⟨rfl,rfl,rfl,by decide +kernel,rfl,by decide +kernel,by decide +kernel⟩
theorem Zka:Zv ["self","weight","told"] ["self","weight"] (Zm Zia):=⟨rfl,rfl,rfl,by decide +kernel,rfl,by decide +kernel,by decide +kernel⟩
theorem Zis:Zv ["self","told"] ["self"] (Zm Zfq):=⟨rfl,rfl,rfl,by decide +kernel,rfl,by decide +kernel,by decide +kernel⟩
theorem Zbq:Zv ["self"] ["self"] (Zm Zag):=⟨rfl,rfl,rfl,by decide +kernel,rfl,by decide +kernel,by decide +kernel⟩
theorem Zgf:Zv ["self"] ["self"] (Zm Zed):=⟨rfl,rfl,rfl,by decide +kernel,rfl,by decide +kernel,by decide +kernel⟩
theorem Zip:Zv ["self"] ["self"] (Zm Zfs):=⟨rfl,rfl,rfl,by decide +kernel,rfl,by decide +kernel,by decide +kernel⟩
theorem Zij:Zv ["self"] ["self"] (Zm Zfy):=⟨rfl,rfl,rfl,by decide +kernel,rfl,by decide +kernel,by decide +kernel⟩
theorem Zfh:Zv ["self"] ["self"] (Zm Zdm):=⟨rfl,rfl,rfl,by decide +kernel,rfl,by decide +kernel,by decide +kernel⟩
theorem Zjy:Zv ["self"] ["self"] (Zm Zhr):=⟨rfl,rfl,rfl,by decide +kernel,rfl,by decide +kernel,by decide +kernel⟩
theorem Zcy:Zv ["self","place"] ["self","place"] (Zm Zbm):=⟨rfl,rfl,rfl,by decide +kernel,rfl,by decide +kernel,by decide +kernel⟩
theorem Zfi:Zv ["self","ahead","settled","place"] ["self"] (Zm Zdi):=⟨rfl,rfl,rfl,by decide +kernel,rfl,by decide +kernel,by decide +kernel⟩
theorem Zcr:Zv ["self"] ["self"] (Zm Jq):=⟨rfl,rfl,rfl,by decide +kernel,rfl,by decide +kernel,by decide +kernel⟩
theorem Zfa:Zv ["self","place","kinds"] ["self","place"] (Zm Zav):=⟨rfl,rfl,rfl,by decide +kernel,rfl,by decide +kernel,by decide +kernel⟩
theorem Zfk:Zv ["self","rest"] ["self","rest"] (Zm Zdl):=⟨rfl,rfl,rfl,by decide +kernel,rfl,by decide +kernel,by decide +kernel⟩
structure Txt (mg:Str→Option Value)(K:Frag)(C:String→Addr):Prop where
 sum:mg "sum"=none
 len:mg "len"=none
 max:mg "max"=none
 list:mg "list"=none
 reversed:mg "reversed"=none
 range:mg "range"=none
 min:mg "min"=none
 any:mg "any"=none
 MOST_CELLS:∃t,mg "MOST_CELLS"=some (.int 200 t)
 mFeed:mg "Feed"=some (.ref (C "Feed"))
 cFeed:Cls K (C "Feed")
 nFeed_kinds:Zbs K (C "Feed") "kinds"
 nFeed_weights:Zbs K (C "Feed") "weights"
 nFeed_tops:Zbs K (C "Feed") "tops"
 nFeed_shut:Zbs K (C "Feed") "shut"
section
variable {P:Program}{w:World}{K:Frag}{C:String→Addr}{mg:Str→Option Value}{base:Heap}{f:Addr}{fd:FuncData}
theorem Xfh (F:Fun K "spoilt" "spoilt" Ztf f fd)(T:Txt mg K C):Jx P w K mg base CX0 7 f fd ["roll","begin","end"] (spD K C 3 2 Dl.Zci):=by
  refine F.okC Zvp (Γ':=[]) (Δ':=[]) rfl fun cdv A outer s H E hr=>?_
  have sc:=Zvp
  have hu:_+64<cLine:=hr.units
  exact ⟨_,(Zg [] [] (Jy (Xim (Zpf (Xr Zsd Zke (Zj 1) Zf (Xh _)) (Zpf (Xr Ziy Zdo (Zj 2) (Xc (r:=Zae K) Xi Yh rfl T.len PySem.boot_len (Zb (Zj 0) Zh Za) (he:=Za)) (Xh _)) (Znb (Xr Ziy Zdo (Zj 1) (Zj 2) (Xh _)))))) (Zk Znh) Ye)
      (Zk (Xj (Xc (r:=rSum K) (Xec rfl) Xjd rfl T.sum PyProof.Rows.boot_sum (Zb (Zso K (Zj 0) (Zeh (Zj 1)) (Zeh (Zj 2))) Zh Yi) (he:=Yi)))))⟩
theorem Znw (F:Fun K "common_stop" "common_stop" Zea f fd)(T:Txt mg K C):Jx P w K mg base CX0 7 f fd ["ahead","one","other"] (spD K C 3 2 Dl.Zar):=by
  refine F.okC Zhg (Γ':=[]) (Δ':=[]) rfl fun cdv A outer s H E hr=>?_
  have sc:=Zhg
  have hu:_+64<cLine:=hr.units
  exact ⟨_,(Zg [] [] (Zgy 100000 PassesOwn.never (Xr (r:=Zxt K) (Zfb hu) Zff (Zj 1) (Zj 2) (Xh _)) (Zk (Jy (Xr Ziy Zdo (Zj 1) (Zj 2) (Xh _)) (Yy [1] [1] (Zk (Zq (i:=1) sc.nd rfl (Or.inl rfl) (Zz (Zs K (Zj 0) (Zj 1) Zp))))) (Yy [2] [2] (Zk (Zq (i:=2) sc.nd rfl (Or.inl rfl) (Zz (Zs K (Zj 0) (Zj 2) Zp))))))))
      (Zk (Xj (Zz (Zj 1)))))⟩
theorem Zsa (F:Fun K "__init__" "Feed.__init__" Zhl f fd)(T:Txt mg K C):Jx P w K mg base CX0 7 f fd ["self","table"] (spM K C 1 Dl.Jp):=by
  refine F.okM Zjn rfl fun cdv A outer s H E hr=>?_
  have sc:=Zjn
  have hu:_+64<cLine:=hr.units
  exact ⟨_,(Zbz [0] [0] (Zpi (i:=0) (c:="Feed") T.cFeed T.nFeed_kinds (Zkk (r:=Zry K) (Zhw rfl) Zoc rfl T.list PyProof.Rows.boot_list (Zb (Zj 1) Zh Za) (he:=Za)))
      (Zbz [0] [0] (Zpi (i:=0) (c:="Feed") T.cFeed T.nFeed_weights (Yc Zh))
      (Zbz [0] [0] (Zpi (i:=0) (c:="Feed") T.cFeed T.nFeed_tops (Yc (Zi Zf Zh Ze)))
      (Xpg (Zpi (i:=0) (c:="Feed") T.cFeed T.nFeed_shut Zey)))))⟩
theorem Zev (F:Fun K "refuse_closed" "Feed.refuse_closed" Zag f fd)(T:Txt mg K C):Jx P w K mg base CX0 7 f fd ["self"] (spD K C 1 2 Dl.Xm):=by
 refine F.okC Zbq (Γ':=[]) (Δ':=[]) rfl fun cdv A outer s H E hr=>?_
 have sc:=Zbq
 have hu:_+64<cLine:=hr.units
 exact ⟨_,(Zk (Jy (Zeb (Jk (c:="Feed") T.cFeed T.nFeed_shut (Zj 0))) (Zk Znh) Ye))⟩
theorem Zoq (F:Fun K "closed" "Feed.closed" Zed f fd)(T:Txt mg K C):Jx P w K mg base CX0 7 f fd ["self"] (spD K C 1 2 Dl.Jr):=by
 refine F.okC Zgf (Γ':=[]) (Δ':=[]) rfl fun cdv A outer s H E hr=>?_
 have sc:=Zgf
 have hu:_+64<cLine:=hr.units
 exact ⟨_,(Zk (Xj (Zz (Jk (c:="Feed") T.cFeed T.nFeed_shut (Zj 0)))))⟩
theorem Zpj (F:Fun K "cells" "Feed.cells" Zfs f fd)(T:Txt mg K C):Jx P w K mg base CX0 7 f fd ["self"] (spD K C 1 2 Dl.Jm):=by
 refine F.okC Zip (Γ':=[]) (Δ':=[]) rfl fun cdv A outer s H E hr=>?_
 have sc:=Zip
 have hu:_+64<cLine:=hr.units
 exact ⟨_,(Zk (Xj (Zkk (r:=Zry K) (Zhw rfl) Zoc rfl T.list PyProof.Rows.boot_list (Zb (Jk (c:="Feed") T.cFeed T.nFeed_weights (Zj 0)) Zh Xe) (he:=Xe))))⟩
theorem Zqi (F:Fun K "worth" "Feed.worth" Zfy f fd)(T:Txt mg K C):Jx P w K mg base CX0 7 f fd ["self"] (spD K C 1 2 Dl.Ya):=by
 refine F.okC Zij (Γ':=[]) (Δ':=[]) rfl fun cdv A outer s H E hr=>?_
 have sc:=Zij
 have hu:_+64<cLine:=hr.units
 exact ⟨_,(Zk (Xj (Zz (Zs K (Jk (c:="Feed") T.cFeed T.nFeed_tops (Zj 0)) (Zgu Zf) Zcp))))⟩
theorem Zrr (F:Fun K "_law_cell" "_law_cell" Zhq f fd)(T:Txt mg K C):Jx P w K mg base CX0 7 f fd ["_law_script","_law_place"] (spD K C 2 2 Dl.Zbe):=by
  refine F.okC Zku (Γ':=[]) (Δ':=[]) rfl fun cdv A outer s H E hr=>?_
  have sc:=Zku
  have hu:_+64<cLine:=hr.units
  exact ⟨_,(Zg [] [] (Jy (Xr Zsd Zke (Zj 1) (Xc (r:=Zae K) Xi Yh rfl T.len PySem.boot_len (Zb (Zj 0) Zh Za) (he:=Za)) (Xh _)) (Zk (Xj (Zz (Zs K (Zj 0) (Zj 1) Zp)))) Ye)
      (Zg [2] [2] (Zq (i:=2) sc.nd rfl (Or.inl rfl) Zf)
      (Zg [2] [2] (Zbg [2] [2] PassesOwn.never rfl (Zaw (Zso K (Zj 0) Zhn (Zeh Zf))) (Jo (i:=3) (hN:=sc.nd) (hi:=rfl) (hx:=Or.inl rfl)) (Zk (Zq (i:=2) sc.nd rfl (Or.inl rfl) (Zr Zce Zaf (Zr Zx Zw (Zr Zx Zw (Zr Ys Yr (Zj 2) Zf) (Zr Zce Zaf (Zj 3) Zf)) Zf) Zf))))
      (Zk (Xj (Zr Zce Zaf (Zr Zx Zw (Zj 2) (Zr Ys Yr Zf (Zj 1))) Zf))))))⟩
theorem Zwg (F:Fun K "_law_mix" "_law_mix" Zjw f fd)(T:Txt mg K C):Jx P w K mg base CX0 7 f fd ["_law_cell_here","_law_k"] (spD K C 2 2 Dl.Zbw):=by
  refine F.okC Zne (Γ':=[]) (Δ':=[]) rfl fun cdv A outer s H E hr=>?_
  have sc:=Zne
  have hu:_+64<cLine:=hr.units
  exact ⟨_,(Zg [2] [2] (Zq (i:=2) sc.nd rfl (Or.inl rfl) (Zr Zce Zaf (Zr Zgx Zde (Zr Zx Zw (Zr Zx Zw (Zr Zce Zaf (Zj 0) Zf) (Zr Ys Yr Zf (Zj 1))) Zf) Zf) Zf))
      (Zg [2,3] [2,3] (Zq (i:=3) sc.nd rfl (Or.inl rfl) (Zr Zce Zaf (Zr Zx Zw (Zr Zx Zw (Zr Ys Yr (Zj 2) Zf) (Zr Ys Yr (Zr Ys Yr Zf (Zj 1)) (Zj 1))) Zf) Zf))
      (Zk (Xj (Zr Zuq Xbl (Zj 3) Zf)))))⟩
theorem Zsk (F:Fun K "_law_sums" "_law_sums" Zhp f fd)(T:Txt mg K C):Jx P w K mg base CX0 7 f fd ["_law_roll_here"] (spD K C 1 2 Dl.Yu):=by
  refine F.okC Zjr (Γ':=[]) (Δ':=[]) rfl fun cdv A outer s H E hr=>?_
  have sc:=Zjr
  have hu:_+64<cLine:=hr.units
  exact ⟨_,(Zg [1] [1] (Zq (i:=1) sc.nd rfl (Or.inl rfl) (Yc (Zi Zf Zh Ze)))
      (Zg [1] [1] (Zbg [1] [1] PassesOwn.never rfl (Zaw (Zj 0)) (Jo (i:=2) (hN:=sc.nd) (hi:=rfl) (hx:=Or.inl rfl)) (Zk (Zco (i:=1) (he:=(Zr Zx Zw (Zs K (Zj 1) (Zgu Zf) Zcp) (Zj 2))) (hse:=Xa))))
      (Zk (Xj (Znq 1)))))⟩
theorem Zsj (F:Fun K "_law_good" "_law_good" Zhy f fd)(T:Txt mg K C):Jx P w K mg base CX0 7 f fd ["_law_sums_here","_law_kind","_law_at"] (spD K C 3 2 Dl.Jl):=by
  refine F.okC Zjt (Γ':=[]) (Δ':=[]) rfl fun cdv A outer s H E hr=>?_
  have sc:=Zjt
  have hu:_+64<cLine:=hr.units
  exact ⟨_,(Zg [3] [3] (Zq (i:=3) sc.nd rfl (Or.inl rfl) (Zr Zx Zw (Zj 2) (Zs K (Zj 1) Zf Zn)))
      (Zg [3] [3] (Jy (Xim (Zpf (Xr Zsd Zke (Zj 2) Zf (Xh _)) (Znb (Xr Xqt Xhv (Zj 3) (Xc (r:=Zae K) Xi Yh rfl T.len PySem.boot_len (Zb (Zj 0) Zh Za) (he:=Za)) (Xh _))))) (Zk (Xj Zey)) Ye)
      (Zk (Xj (Zgj Xbk Zqt (Zr Zbx Zah (Zs K (Zj 0) (Zj 3) Zp) (Zs K (Zj 0) (Zj 2) Zp)) (Zs K (Zj 1) Zf Zn) (Xh _))))))⟩
theorem Zwl (F:Fun K "_law_cut" "_law_cut" Zjv f fd)(T:Txt mg K C):Jx P w K mg base CX0 7 f fd ["_law_before","_law_end"] (spD K C 2 2 Dl.Zak):=by
  refine F.okC Zmv (Γ':=[]) (Δ':=[]) rfl fun cdv A outer s H E hr=>?_
  have sc:=Zmv
  have hu:_+64<cLine:=hr.units
  exact ⟨_,(Zg [2] [2] (Zq (i:=2) sc.nd rfl (Or.inl rfl) (Yc Zh))
      (Zg [2] [2] (Zgy 100000 PassesOwn.never (Xr Ziy Zdo (Zj 1) Zf (Xh _)) (Yy [1,2,3,4] [1,2,3,4] (Zg [2,3,4] [2,3,4] (Zks rfl (Zz (Zs K (Zj 0) (Zj 1) Zp)) (Zhi (i:=3) sc.nd rfl (Or.inl rfl) (Zhi (i:=4) sc.nd rfl (Or.inl rfl) Xbw)))
      (Zg [2,3,4] [2,3,4] (Jy (Xr (r:=Zxt K) (Zfb hu) Zff (Zj 4) Zat (Xh _)) (Zk (Zco (i:=2) (he:=(Zhe (Zi (Zz (Zj 3)) (Zi (Zz (Zj 4)) Zh Za) Za))) (hse:=Zes))) Ye)
      (Zk (Zq (i:=1) sc.nd rfl (Or.inl rfl) (Zz (Zj 3))))))))
      (Zk (Xj (Xqg K (Zj 2) (Zgu Zf))))))⟩
theorem Zqd (F:Fun K "_law_stops" "_law_stops" Zga f fd)(T:Txt mg K C):Jx P w K mg base CX0 7 f fd ["_law_before","_law_end"] (spD K C 2 2 Dl.Zaj):=by
  refine F.okC Zid (Γ':=[]) (Δ':=[]) rfl fun cdv A outer s H E hr=>?_
  have sc:=Zid
  have hu:_+64<cLine:=hr.units
  exact ⟨_,(Zg [2] [2] (Zq (i:=2) sc.nd rfl (Or.inl rfl) (Yc (Zi (Zz (Zj 1)) Zh Za)))
      (Zg [2] [2] (Zgy 100000 PassesOwn.never (Xr Ziy Zdo (Zj 1) Zf (Xh _)) (Yy [1,2] [1,2] (Zg [1,2] [1,2] (Zq (i:=1) sc.nd rfl (Or.inl rfl) (Zz (Zs K (Zs K (Zj 0) (Zj 1) Zp) Zf Zn)))
      (Zk (Zco (i:=2) (he:=(Zz (Zj 1))) (hse:=Za))))))
      (Zk (Xj (Znq 2)))))⟩
theorem Xqo (F:Fun K "fits" "fits" Xky f fd)(T:Txt mg K C)(Dspoilt:Def P w K mg base CX0 7 "spoilt" ["roll","begin","end"] (spD K C 3 2 Dl.Zci)):Jx P w K mg base CX0 8 f fd ["roll","kind","place"] (spD K C 3 2 Dl.Znd):=by
  refine F.okC Xht (Γ':=[]) (Δ':=[]) rfl fun cdv A outer s H E hr=>?_
  have sc:=Xht
  have hu:_+64<cLine:=hr.units
  exact ⟨_,(Zg [3] [3] (Zq (i:=3) sc.nd rfl (Or.inl rfl) (Zr Zx Zw (Zj 2) (Zs K (Zj 1) Zf Zn)))
      (Zg [3] [3] (Jy (Xim (Zpf (Xr Zsd Zke (Zj 2) Zf (Xh _)) (Znb (Xr Ziy Zdo (Zj 3) (Xc (r:=Zae K) Xi Yh rfl T.len PySem.boot_len (Zb (Zj 0) Zh Za) (he:=Za)) (Xh _))))) (Zk (Xj Zey)) Ye)
      (Zk (Xj (Zgj Xbk Zqt (Zy Dspoilt (hr.mono (by decide)) rfl Xk (Zb (Zj 0) (Zb (Zj 2) (Zb (Zj 3) Zh Za) Za) Za) (he:=Za)) (Zs K (Zj 1) Zf Zn) (Xh _))))))⟩
theorem Ztl (F:Fun K "may_go_on" "may_go_on" Zhs f fd)(T:Txt mg K C)(Dspoilt:Def P w K mg base CX0 7 "spoilt" ["roll","begin","end"] (spD K C 3 2 Dl.Zci)):Jx P w K mg base CX0 8 f fd ["cells","kind","place"] (spD K C 3 2 Dl.Jn):=by
 refine F.okC Zkv (Γ':=[]) (Δ':=[]) rfl fun cdv A outer s H E hr=>?_
 have sc:=Zkv
 have hu:_+64<cLine:=hr.units
 exact ⟨_,(Zk (Xj (Zyg (Zgj Ziy Zdo (Zr Zx Zw (Zj 2) (Zs K (Zj 1) Zf Zn)) (Xc (r:=Zae K) Xi Yh rfl T.len PySem.boot_len (Zb (Zj 0) Zh Za) (he:=Za)) (Xh _)) (Zys (Zgj Xbk Zqt (Zy Dspoilt (hr.mono (by decide)) rfl Xk (Zb (Zj 0) (Zb (Zj 2) (Zb (Xc (r:=Zae K) Xi Yh rfl T.len PySem.boot_len (Zb (Zj 0) Zh Za) (he:=Za)) Zh Xf) Za) Za) (he:=Za)) (Zs K (Zj 1) Zf Zn) (Xh _))))))⟩
theorem Zwv (F:Fun K "_law_row" "_law_row" Zli f fd)(T:Txt mg K C)(D_law_cell:Def P w K mg base CX0 7 "_law_cell" ["_law_script","_law_place"] (spD K C 2 2 Dl.Zbe))(D_law_mix:Def P w K mg base CX0 7 "_law_mix" ["_law_cell_here","_law_k"] (spD K C 2 2 Dl.Zbw)):Jx P w K mg base CX0 8 f fd ["_law_script","_law_place","_law_sizes"] (spD K C 3 2 Dl.Yt):=by
  refine F.okC Zmx (Γ':=[]) (Δ':=[]) rfl fun cdv A outer s H E hr=>?_
  have sc:=Zmx
  have hu:_+64<cLine:=hr.units
  exact ⟨_,(Zg [3] [3] (Zq (i:=3) sc.nd rfl (Or.inl rfl) (Zy D_law_cell (hr.mono (by decide)) rfl Xk (Zb (Zj 0) (Zb (Zj 1) Zh Za) Za) (he:=Za)))
      (Zg [3,4] [3,4] (Zq (i:=4) sc.nd rfl (Or.inl rfl) (Zz (Zj 3)))
      (Zg [3,4,5] [3,4,5] (Zq (i:=5) sc.nd rfl (Or.inl rfl) (Yc Zh))
      (Zg [3,4,5] [3,4,5] (Zbg [3,4,5] [3,4,5] PassesOwn.never rfl (Zdz rfl T.range (Zb (Xc (r:=Zae K) Xi Yh rfl T.len PySem.boot_len (Zb (Zj 2) Zh Za) (he:=Za)) Zh Xf)) (Jo (i:=6) (hN:=sc.nd) (hi:=rfl) (hx:=Or.inl rfl)) (Zk (Jy (Xr Zsd Zke (Zj 3) (Zr Zgx Zde Zf Zf) (Xh _)) (Zk (Zco (i:=5) (he:=(Zr Zce Zaf (Zy D_law_mix (hr.mono (by decide)) rfl Xk (Zb (Zj 3) (Zb (Zj 6) Zh Za) Za) (he:=Za)) (Zs K (Zj 2) (Zj 6) Zp))) (hse:=Xa))) (Zk (Jy (Xr Ziy Zdo (Zj 4) Zf (Xh _)) (Zg [3,4,5] [3,4,5] (Zco (i:=5) (he:=(Zr Zce Zaf (Zj 4) (Zs K (Zj 2) (Zj 6) Zp))) (hse:=Xa))
      (Zk (Zq (i:=4) sc.nd rfl (Or.inl rfl) (Zr Zuq Xbl (Zj 4) (Zs K (Zj 2) (Zj 6) Zp))))) (Yy [3,4,5,7] [3,4,5,7] (Zg [3,4,5,7] [3,4,5,7] (Zq (i:=7) sc.nd rfl (Or.inl rfl) (Zy D_law_cell (hr.mono (by decide)) rfl Xk (Zb (Zj 0) (Zb (Zr Zce Zaf (Zr Zx Zw (Zr Zx Zw (Zj 1) Zf) (Zj 6)) Zf) Zh Xa) Za) (he:=Za)))
      (Zk (Zco (i:=5) (he:=(Zr Zce Zaf (Zy D_law_mix (hr.mono (by decide)) rfl Xk (Zb (Zj 7) (Zb (Zj 6) Zh Za) Za) (he:=Za)) (Zs K (Zj 2) (Zj 6) Zp))) (hse:=Xa))))))))))
      (Zk (Xj (Znq 5)))))))⟩
theorem Zme (F:Fun K "_law_heights" "_law_heights" Zdf f fd)(T:Txt mg K C)(D_law_sums:Def P w K mg base CX0 7 "_law_sums" ["_law_roll_here"] (spD K C 1 2 Dl.Yu))(D_law_good:Def P w K mg base CX0 7 "_law_good" ["_law_sums_here","_law_kind","_law_at"] (spD K C 3 2 Dl.Jl)):Jx P w K mg base CX0 8 f fd ["_law_roll_here","_law_table_here"] (spD K C 2 2 Dl.Xg):=by
  refine F.okC Zfe (Γ':=[]) (Δ':=[]) rfl fun cdv A outer s H E hr=>?_
  have sc:=Zfe
  have hu:_+64<cLine:=hr.units
  exact ⟨_,(Zg [2] [2] (Zq (i:=2) sc.nd rfl (Or.inl rfl) (Zy D_law_sums (hr.mono (by decide)) rfl Xk (Zb (Zj 0) Zh Za) (he:=Za)))
      (Zg [2,3] [2,3] (Zq (i:=3) sc.nd rfl (Or.inl rfl) (Yc (Zi Zf Zh Ze)))
      (Zg [2,3] [2,3] (Zbg [2,3] [2,3] PassesOwn.never rfl (Zrs rfl T.range (Zb Zf (Zb (Xc (r:=Zae K) Xi Yh rfl T.len PySem.boot_len (Zb (Zj 2) Zh Za) (he:=Za)) Zh Xf) Ze)) (Jo (i:=4) (hN:=sc.nd) (hi:=rfl) (hx:=Or.inl rfl)) (Yy [2,3,5] [2,3,5] (Zg [2,3,5] [2,3,5] (Zq (i:=5) sc.nd rfl (Or.inl rfl) (Zz (Zs K (Zj 3) (Zgu Zf) Zcp)))
      (Zg [2,3,5] [2,3,5] (Zbg [2,3,5] [2,3,5] PassesOwn.never rfl (Zaw (Zj 1)) (Jo (i:=6) (hN:=sc.nd) (hi:=rfl) (hx:=Or.inl rfl)) (Yy [2,3,5,7] [2,3,5,7] (Zg [2,3,5,7] [2,3,5,7] (Zq (i:=7) sc.nd rfl (Or.inl rfl) (Zr Zbx Zah (Zj 4) (Zs K (Zj 6) Zf Zn)))
      (Zk (Jy (Zeb (Zy D_law_good (hr.mono (by decide)) rfl Xk (Zb (Zj 2) (Zb (Zj 6) (Zb (Zj 7) Zh Za) Za) Za) (he:=Za))) (Zk (Zq (i:=5) sc.nd rfl (Or.inl rfl) (Xc (r:=Zsc K) (Zkt rfl) Zsz rfl T.max PyProof.Rows.boot_max (Zb (Zj 5) (Zb (Zr Zx Zw (Zs K (Zj 3) (Zj 7) Zp) (Zs K (Zj 6) Zf Zn)) Zh Xa) Za) (he:=Za)))) Ye)))))
      (Zk (Zco (i:=3) (he:=(Zz (Zj 5))) (hse:=Za)))))))
      (Zk (Xj (Znq 3))))))⟩
theorem Zmd (F:Fun K "_law_settled" "_law_settled" Zbt f fd)(T:Txt mg K C)(D_law_stops:Def P w K mg base CX0 7 "_law_stops" ["_law_before","_law_end"] (spD K C 2 2 Dl.Zaj)):Jx P w K mg base CX0 8 f fd ["_law_before","_law_starts_here"] (spD K C 2 2 Dl.Jg):=by
  refine F.okC Zez (Γ':=[]) (Δ':=[]) rfl fun cdv A outer s H E hr=>?_
  have sc:=Zez
  have hu:_+64<cLine:=hr.units
  exact ⟨_,(Zg [2] [2] (Zq (i:=2) sc.nd rfl (Or.inr rfl) Xkx)
      (Zg [2] [2] (Zbg [2] [2] PassesOwn.never rfl (Zaw (Zj 1)) (Jo (i:=3) (hN:=sc.nd) (hi:=rfl) (hx:=Or.inl rfl)) (Zk (Zbg [2] [2] PassesOwn.never rfl (Zaw (Zy D_law_stops (hr.mono (by decide)) rfl Xk (Zb (Zj 0) (Zb (Zj 3) Zh Za) Za) (he:=Za))) (Jo (i:=4) (hN:=sc.nd) (hi:=rfl) (hx:=Or.inl rfl)) (Zk (Xjs (i:=2) (he:=(Zr Zx Zw (Xmb (Zj 2) (Zj 4) Zf hu) Zf)) (hk:=(Zj 4)) (hu:=hu))))))
      (Zk (Xj (Xc (r:=Zsc K) (Zkt rfl) Zsz rfl T.max PyProof.Rows.boot_max (Zb (Xdc (n:=5) (i:=2) (r:=Zrh K) (Zm Zbt) ["_law_before","_law_starts_here","_law_held","_law_start","_law_stop"] ["_law_before","_law_starts_here","_law_held","_law_start",""] ⟨rfl,by decide +kernel,by decide +kernel,by decide +kernel,by decide +kernel,by decide +kernel,rfl,by decide +kernel⟩ rfl (by first | exact Or.inl rfl | exact Or.inr (Or.inl rfl) | exact Or.inr (Or.inr rfl)) (fun _ _ _ _ _=>Znx (by decide +kernel:List.Nodup (["_law_before","_law_starts_here","_law_held","_law_start","","_law_stop"]:List Str)) rfl (.inl rfl) (.inr rfl)) (fun _ _ _ _ _=>qv 2) (fun _ _ _ _ _=>qv 5) (fun _ _ _ _ _=>qv 5) (fun _ _ _ _ _=>(Zcj hu)) Zcq (fun _ _ _ _ _=>(Xc (r:=Zae K) Xi Yh rfl T.len PySem.boot_len (Zb (Zj 1 (hv:=Or.inr (Or.inl rfl))) Zh Za) (he:=Za))) (Xh _) hu) Zh Zgz) (he:=Zgz))))))⟩
theorem Xem (F:Fun K "ending" "ending" Zoa f fd)(T:Txt mg K C)(Dfits:Def P w K mg base CX0 8 "fits" ["roll","kind","place"] (spD K C 3 2 Dl.Znd)):Jx P w K mg base CX0 9 f fd ["roll","table","end"] (spD K C 3 2 Dl.Zbf):=by
 refine F.okC Zuh (Γ':=[]) (Δ':=[]) rfl fun cdv A outer s H E hr=>?_
 have sc:=Zuh
 have hu:_+64<cLine:=hr.units
 exact ⟨_,(Zk (Xj (Zng (n:=3) (Zm Zoa) ["roll","table","end"] ["roll","table","end"] ["kind"] ⟨rfl,by decide +kernel,by decide +kernel,by decide +kernel,by decide +kernel,by decide +kernel,rfl,by decide +kernel⟩ (Zaw (Zj 1)) (fun _ _ _ _ _=>(Zeg 3 (hN:=(by decide +kernel:List.Nodup (["roll","table","end","kind"]:List Str))))) (fun _ _ _ _ _=>Zlh (Zeb (Zy Dfits (hr.mono (by decide)) rfl Xk (Zb (Zj 0 (hv:=Or.inr (Or.inl rfl))) (Zb (Zj 3 (hv:=Or.inl rfl)) (Zb (Zr Zbx Zah (Zj 2 (hv:=Or.inr (Or.inl rfl))) (Zs K (Zj 3 (hv:=Or.inl rfl)) Zf Zn)) Zh Xa) Za) Za) (he:=Za)))) (fun _ _ _ _ _=>(Zz (Zj 3 (hv:=Or.inl rfl)))))))⟩
theorem Zlu (F:Fun K "is_open" "Feed.is_open" Zav f fd)(T:Txt mg K C)(Dmay_go_on:Def P w K mg base CX0 8 "may_go_on" ["cells","kind","place"] (spD K C 3 2 Dl.Jn))(DFeed_worth:Zdc P w K mg base CX0 7 (C "Feed") "worth" ["self"] (spD K C 1 2 Dl.Ya)):Jx P w K mg base CX0 9 f fd ["self","place"] (spD K C 2 2 Dl.Ji):=by
  refine F.okC Zfa (Γ':=[]) (Δ':=[]) rfl fun cdv A outer s H E hr=>?_
  have sc:=Zfa
  have hu:_+64<cLine:=hr.units
  exact ⟨_,(Zg [] [] (Jy (Xr (r:=Zrh K) (Zcj hu) Zcq (Zj 1) (Xc (r:=Zae K) Xi Yh rfl T.len PySem.boot_len (Zb (Jk (c:="Feed") T.cFeed T.nFeed_weights (Zj 0)) Zh Xe) (he:=Xe)) (Xh _)) (Zk (Xj Zey)) Ye)
      (Zg [] [] (Jy (Zeb (Jk (c:="Feed") T.cFeed T.nFeed_shut (Zj 0))) (Zk (Xj Zey)) Ye)
      (Zg [2] [2] (Znf (i:=2) (n:=3) (Zm Zav) ["self","place","kinds"] ["self","place","kinds"] ["kind"] ⟨rfl,by decide +kernel,by decide +kernel,by decide +kernel,by decide +kernel,by decide +kernel,rfl,by decide +kernel⟩ rfl rfl (Zaw (Jk (c:="Feed") T.cFeed T.nFeed_kinds (Zj 0))) (fun _ _ _ _ _=>(Zeg 3 (hN:=(by decide +kernel:List.Nodup (["self","place","kinds","kind"]:List Str))))) (fun _ _ _ _ _=>Zlh (Zeb (Zy Dmay_go_on (hr.mono (by decide)) rfl Xk (Zb (Jk (c:="Feed") T.cFeed T.nFeed_weights (Zj 0 (hv:=Or.inr (Or.inl rfl)))) (Zb (Zj 3 (hv:=Or.inl rfl)) (Zb (Zj 1 (hv:=Or.inr (Or.inl rfl))) Zh Za) Za) Xe) (he:=Xe)))) (fun _ _ _ _ _=>(Zz (Zj 3 (hv:=Or.inl rfl)))))
      (Zk (Xj (Xc (r:=Xet K) (Zzs rfl) Xna rfl T.any PyProof.Rows.boot_any (Zb (Zng (n:=3) (Zm Zav) ["self","place","kinds"] ["self","place","kinds"] ["kind"] ⟨rfl,by decide +kernel,by decide +kernel,by decide +kernel,by decide +kernel,by decide +kernel,rfl,by decide +kernel⟩ (Zaw (Zj 2)) (fun _ _ _ _ _=>(Zeg 3 (hN:=(by decide +kernel:List.Nodup (["self","place","kinds","kind"]:List Str))))) (fun _ _ _ _ _=>Zsl) (fun _ _ _ _ _=>(Zgj Ziy Zdo (Zr Zx Zw (Zs K (Jk (c:="Feed") T.cFeed T.nFeed_tops (Zj 0 (hv:=Or.inr (Or.inl rfl)))) (Zj 1 (hv:=Or.inr (Or.inl rfl))) Zp) (Zs K (Zj 3 (hv:=Or.inl rfl)) Zf Zn)) (Yq (c:="Feed") T.cFeed DFeed_worth (hr.mono (by decide)) Xk (Zj 0 (hv:=Or.inr (Or.inl rfl)))) (Xh _)))) Zh Zgz) (he:=Zgz)))))))⟩
theorem Zpe (F:Fun K "_law_table" "_law_table" Zft f fd)(T:Txt mg K C)(D_law_row:Def P w K mg base CX0 8 "_law_row" ["_law_script","_law_place","_law_sizes"] (spD K C 3 2 Dl.Yt)):Jx P w K mg base CX0 9 f fd ["_law_script","_law_place","_law_most"] (spD K C 3 2 Dl.Zbh):=by
  refine F.okC Zit (Γ':=[]) (Δ':=[]) rfl fun cdv A outer s H E hr=>?_
  have sc:=Zit
  have hu:_+64<cLine:=hr.units
  exact ⟨_,(Zg [3] [3] (Zq (i:=3) sc.nd rfl (Or.inl rfl) (Yc (Zi Zat (Zi Zat (Zi Zat (Zi Zat (Zi Zat (Zi Zat (Zi Zat (Zi Zat (Zi Zat (Zi Zat Zh Ze) Ze) Ze) Ze) Ze) Ze) Ze) Ze) Ze) Ze)))
      (Zg [3] [3] (Zq (i:=3) sc.nd rfl (Or.inl rfl) (Zr Zx Zw (Zj 3) (Yc (Zi Zat (Zi Zat (Zi Zat (Zi Zat (Zi Zat (Zi Zat Zh Ze) Ze) Ze) Ze) Ze) Ze))))
      (Zg [3,4] [3,4] (Zq (i:=4) sc.nd rfl (Or.inl rfl) (Zy D_law_row (hr.mono (by decide)) rfl Xk (Zb (Zj 0) (Zb (Zj 1) (Zb (Zr Zx Zw (Yc (Zi (Zr Zx Zw (Zj 2) Zf) (Zi Zf (Zi Zf (Zi Zf (Zi Zf (Zi Zf Zh Ze) Ze) Ze) Ze) Ze) Xa)) (Zr Ys Yr (Yc (Zi Zf (Zi Zf (Zi Zf Zh Ze) Ze) Ze)) (Zj 2))) Zh Xa) Za) Za) (he:=Za)))
      (Zg [3,4,5] [3,4,5] (Zq (i:=5) sc.nd rfl (Or.inl rfl) (Zz (Zs K (Yc (Zi Zf (Zi Zf (Zi Zf (Zi (Zr Zgx Zde Zf Zf) Zh Xa) Ze) Ze) Ze)) (Zs K (Zj 4) Zf Zn) Zbi)))
      (Zg [3,4,5,6] [3,4,5,6] (Zq (i:=6) sc.nd rfl (Or.inl rfl) (Zz (Zs K (Yc (Zi Zf (Zi Zf (Zi (Zr Zgx Zde Zf Zf) (Zi (Zr Ys Yr Zf (Zr Zgx Zde Zf Zf)) Zh Xa) Xa) Ze) Ze)) (Zs K (Zj 4) Zf Zn) Zbi)))
      (Zg [3,4,5,6,7] [3,4,5,6,7] (Zq (i:=7) sc.nd rfl (Or.inl rfl) (Yc Zh))
      (Zg [3,4,5,6,7] [3,4,5,6,7] (Zbg [3,4,5,6,7] [3,4,5,6,7] PassesOwn.never rfl (Zdz rfl T.range (Zb (Zs K (Zj 4) Zf Zn) Zh Yi)) (Jo (i:=8) (hN:=sc.nd) (hi:=rfl) (hx:=Or.inl rfl)) (Yy [3,4,5,6,7,9,10,11,12,13] [3,4,5,6,7,9,10,11,12,13] (Zg [3,4,5,6,7,9] [3,4,5,6,7,9] (Zq (i:=9) sc.nd rfl (Or.inl rfl) (Zr Zx Zw (Zr Ys Yr Zf (Zj 8)) Zf))
      (Zg [3,4,5,6,7,9,10] [3,4,5,6,7,9,10] (Zq (i:=10) sc.nd rfl (Or.inl rfl) (Zz (Zs K (Zfo (Zb Zf (Zb Zf (Zb Zf (Zb Zf (Zb Zf (Zb Zf (Zb Zf (Zb Zf (Zb Zf (Zb Zf (Zb (Zs K (Yc (Zi Zf (Zi Zf Zh Ze) Ze)) (Zr Zce Zaf (Zj 8) Zf) plain_bin) Zh Yi) Ze) Ze) Ze) Ze) Ze) Ze) Ze) Ze) Ze) Ze)) (Zs K (Zj 4) (Zj 9) Zp) Zbi)))
      (Zg [3,4,5,6,7,9,10,11] [3,4,5,6,7,9,10,11] (Zq (i:=11) sc.nd rfl (Or.inl rfl) (Zr Zx Zw Zf (Zs K (Zj 4) (Zr Zx Zw (Zj 9) Zf) plain_bin)))
      (Zg [3,4,5,6,7,9,10,11] [3,4,5,6,7,9,10,11] (Jy (Xr (r:=Zrh K) (Zcj hu) Zcq (Zs K (Zj 4) Zf Zn) Zf (Xh _)) (Zk (Zq (i:=11) sc.nd rfl (Or.inl rfl) (Zr Zx Zw (Zr Ys Yr Zf (Zj 10)) (Zr Zce Zaf (Zs K (Zj 4) (Zr Zx Zw (Zj 9) Zf) plain_bin) Zf)))) Ye)
      (Zg [3,4,5,6,7,9,10,11] [3,4,5,6,7,9,10,11] (Jy (Xr (r:=Zrh K) (Zcj hu) Zcq (Zs K (Zj 4) Zf Zn) Zf (Xh _)) (Zk (Zq (i:=11) sc.nd rfl (Or.inl rfl) (Zr Zx Zw Zf (Zr Zce Zaf (Zs K (Zj 4) (Zr Zx Zw (Zj 9) Zf) plain_bin) Zf)))) Ye)
      (Zg [3,4,5,6,7,9,10,11] [3,4,5,6,7,9,10,11] (Jy (Xr (r:=Zrh K) (Zcj hu) Zcq (Zs K (Zj 4) Zf Zn) Zf (Xh _)) (Zk (Zq (i:=11) sc.nd rfl (Or.inl rfl) (Zz (Zj 10)))) Ye)
      (Zg [3,4,5,6,7,9,10,11,12] [3,4,5,6,7,9,10,11,12] (Zq (i:=12) sc.nd rfl (Or.inl rfl) (Xc (r:=Xhf) (Zpq rfl) Zyt rfl T.min PyProof.Rows.boot_min (Zb (Zr Ys Yr (Zs K (Yc (Zi Zf (Zi Zf (Zi Zf (Zi Zf (Zi Zf (Zi Zf Zh Ze) Ze) Ze) Ze) Ze) Ze)) (Zs K (Zj 4) (Zr Zx Zw (Zj 9) Zf) plain_bin) Zbi) (Zj 5)) (Zb (Zr Zbx Zah (Zr Zgx Zde Zf Zf) Zf) Zh Xa) Xa) (he:=Xa)))
      (Zg [3,4,5,6,7,9,10,11,12,13] [3,4,5,6,7,9,10,11,12,13] (Zq (i:=13) sc.nd rfl (Or.inl rfl) (Zz (Zs K (Zj 3) (Zr Zce Zaf (Zr Zx Zw (Zs K (Zj 4) Zf Zn) (Zr Ys Yr (Zr Zx Zw (Zr Ys Yr Zf (Zs K (Zj 4) Zf Zn)) Zf) (Zj 8))) Zf) plain_bin)))
      (Zk (Zco (i:=7) (he:=(Zhe (Zi (Zz (Zj 13)) (Zi (Zz (Zj 10)) (Zi (Xc (r:=Xhf) (Zpq rfl) Zyt rfl T.min PyProof.Rows.boot_min (Zb (Zr Ys Yr (Zj 11) (Zj 6)) (Zb (Zr Zgx Zde Zf Zf) Zh Xa) Xa) (he:=Xa)) (Zi (Zz (Zj 12)) Zh Za) Xf) Za) Za))) (hse:=Zes)))))))))))))
      (Zk (Xj (Znq 7))))))))))⟩
theorem Zrp (F:Fun K "_law_flaw" "_law_flaw" Zhx f fd)(T:Txt mg K C)(D_law_row:Def P w K mg base CX0 8 "_law_row" ["_law_script","_law_place","_law_sizes"] (spD K C 3 2 Dl.Yt)):Jx P w K mg base CX0 9 f fd ["_law_script","_law_place","_law_most"] (spD K C 3 2 Dl.Zcf):=by
 refine F.okC Zlk (Γ':=[]) (Δ':=[]) rfl fun cdv A outer s H E hr=>?_
 have sc:=Zlk
 have hu:_+64<cLine:=hr.units
 exact ⟨_,(Zk (Xj (Zz (Zs K (Yc (Zi Zf (Zi Zf (Zi Zf (Zi (Zr Zgx Zde Zf Zf) Zh Xa) Ze) Ze) Ze)) (Zs K (Zy D_law_row (hr.mono (by decide)) rfl Xk (Zb (Zj 0) (Zb (Zj 1) (Zb (Yc (Zi (Zr Zx Zw (Zj 2) Zf) (Zi Zf Zh Ze) Xa)) Zh Zjm) Za) Za) (he:=Za)) Zf Zn) Zbi))))⟩
theorem Ztj (F:Fun K "_law_roll" "_law_roll" Zhv f fd)(T:Txt mg K C)(D_law_row:Def P w K mg base CX0 8 "_law_row" ["_law_script","_law_place","_law_sizes"] (spD K C 3 2 Dl.Yt)):Jx P w K mg base CX0 9 f fd ["_law_script","_law_place","_law_most","_law_flaw_here"] (spD K C 4 2 Dl.Zca):=by
  refine F.okC Zkn (Γ':=[]) (Δ':=[]) rfl fun cdv A outer s H E hr=>?_
  have sc:=Zkn
  have hu:_+64<cLine:=hr.units
  exact ⟨_,(Zg [4] [4] (Zq (i:=4) sc.nd rfl (Or.inl rfl) (Zy D_law_row (hr.mono (by decide)) rfl Xk (Zb (Zj 0) (Zb (Zj 1) (Zb (Zr Zx Zw (Yc (Zi (Zr Zx Zw (Zj 2) Zf) (Zi Zf (Zi Zf Zh Ze) Ze) Xa)) (Zr Ys Yr (Yc (Zi Zf (Zi Zf Zh Ze) Ze)) (Zj 2))) Zh Xa) Za) Za) (he:=Za)))
      (Zg [4,5] [4,5] (Zq (i:=5) sc.nd rfl (Or.inl rfl) (Zr Ys Yr Zf (Zj 3)))
      (Zg [4,5] [4,5] (Jy (Xr (r:=Zrh K) (Zcj hu) Zcq (Zs K (Zj 4) Zf Zn) Zf (Xh _)) (Zk (Zq (i:=5) sc.nd rfl (Or.inl rfl) (Zr Zgx Zde Zf Zf))) Ye)
      (Zg [4,5,6] [4,5,6] (Zq (i:=6) sc.nd rfl (Or.inl rfl) (Yc Zh))
      (Zg [4,5,6] [4,5,6] (Zbg [4,5,6] [4,5,6] PassesOwn.never rfl (Zdz rfl T.range (Zb (Zs K (Zj 4) Zf Zn) Zh Yi)) (Jo (i:=7) (hN:=sc.nd) (hi:=rfl) (hx:=Or.inl rfl)) (Yy [4,5,6,8,9] [4,5,6,8,9] (Zg [4,5,6,8] [4,5,6,8] (Zq (i:=8) sc.nd rfl (Or.inl rfl) (Zr Zx Zw (Zr Ys Yr Zf (Zj 7)) Zf))
      (Zg [4,5,6,8,9] [4,5,6,8,9] (Zq (i:=9) sc.nd rfl (Or.inl rfl) Zf)
      (Zg [4,5,6,8,9] [4,5,6,8,9] (Jy (Xr Zsd Zke (Zs K (Zj 4) (Zj 8) Zp) (Zs K (Yc (Zi Zf (Zi Zf (Zi Zf (Zi Zf Zh Ze) Ze) Ze) Ze)) (Zs K (Zj 4) Zf Zn) Zbi) (Xh _)) (Zk (Zq (i:=9) sc.nd rfl (Or.inl rfl) (Zz (Zs K (Zfo (Zb (Zj 3) (Zb (Zj 3) (Zb (Zr Ys Yr Zf (Zj 3)) (Zb (Zr Ys Yr Zf (Zj 3)) (Zb (Zj 5) Zh Za) Xa) Xa) Za) Za)) (Zs K (Zj 4) (Zr Zx Zw (Zj 8) Zf) plain_bin) Zbi)))) Ye)
      (Zk (Zco (i:=6) (he:=(Zz (Zj 9))) (hse:=Za))))))))
      (Zk (Xj (Znq 6))))))))⟩
theorem Zrz (F:Fun K "_law_back" "_law_back" Zcu f fd)(T:Txt mg K C)(D_law_sums:Def P w K mg base CX0 7 "_law_sums" ["_law_roll_here"] (spD K C 1 2 Dl.Yu))(D_law_heights:Def P w K mg base CX0 8 "_law_heights" ["_law_roll_here","_law_table_here"] (spD K C 2 2 Dl.Xg))(D_law_good:Def P w K mg base CX0 7 "_law_good" ["_law_sums_here","_law_kind","_law_at"] (spD K C 3 2 Dl.Jl)):Jx P w K mg base CX0 9 f fd ["_law_roll_here","_law_table_here"] (spD K C 2 2 Dl.Zcg):=by
  refine F.okC Zlc (Γ':=[]) (Δ':=[]) rfl fun cdv A outer s H E hr=>?_
  have sc:=Zlc
  have hu:_+64<cLine:=hr.units
  exact ⟨_,(Zg [2] [2] (Zq (i:=2) sc.nd rfl (Or.inr rfl) (Zy D_law_sums (hr.mono (by decide)) rfl Xk (Zb (Zj 0) Zh Za) (he:=Za)))
      (Zg [2,3] [2,3] (Zq (i:=3) sc.nd rfl (Or.inr rfl) (Zy D_law_heights (hr.mono (by decide)) rfl Xk (Zb (Zj 0) (Zb (Zj 1) Zh Za) Za) (he:=Za)))
      (Zg [2,3,4] [2,3,4] (Zq (i:=4) sc.nd rfl (Or.inl rfl) (Yc (Zi (Zhe (Zi Zf (Zi Zat Zh Ze) Ze)) Zh Zes)))
      (Zg [2,3,4] [2,3,4] (Zbg [2,3,4] [2,3,4] PassesOwn.never rfl (Zrs rfl T.range (Zb Zf (Zb (Xc (r:=Zae K) Xi Yh rfl T.len PySem.boot_len (Zb (Zj 2) Zh Za) (he:=Za)) Zh Xf) Ze)) (Jo (i:=5) (hN:=sc.nd) (hi:=rfl) (hx:=Or.inr rfl)) (Zk (Jy (Xr (r:=Zrh K) (Zcj hu) Zcq (Zs K (Zj 3) (Zj 5) Zp) (Zs K (Zj 3) (Zr Zbx Zah (Zj 5) Zf) plain_bin) (Xh _)) (Zk (Zco (i:=4) (he:=(Zhe (Zi (Zr Zbx Zah (Zj 5) Zf) (Zi Zat Zh Ze) Xa))) (hse:=Zes))) (Yy [2,3,4,6] [2,3,4,6] (Zg [2,3,4,6] [2,3,4,6] (Znf (i:=6) (n:=7) (Zm Zcu) ["_law_roll_here","_law_table_here","_law_sums_here","_law_high","_law_told","_law_end","_law_ways"] ["_law_roll_here","_law_table_here","_law_sums_here","_law_high","_law_told","_law_end","_law_ways"] ["_law_kind"] ⟨rfl,by decide +kernel,by decide +kernel,by decide +kernel,by decide +kernel,by decide +kernel,rfl,by decide +kernel⟩ rfl rfl (Zaw (Zj 1)) (fun _ _ _ _ _=>(Zeg 7 (hN:=(by decide +kernel:List.Nodup (["_law_roll_here","_law_table_here","_law_sums_here","_law_high","_law_told","_law_end","_law_ways","_law_kind"]:List Str))))) (fun _ _ _ _ _=>Zlh (Zeb (Zy D_law_good (hr.mono (by decide)) rfl Xk (Zb (Zj 2 (hv:=Or.inr (Or.inl rfl))) (Zb (Zj 7 (hv:=Or.inl rfl)) (Zb (Zr Zbx Zah (Zj 5 (hv:=Or.inr (Or.inl rfl))) (Zs K (Zj 7 (hv:=Or.inl rfl)) Zf Zn)) Zh Xa) Za) Za) (he:=Za)))) (fun _ _ _ _ _=>(Zz (Zj 7 (hv:=Or.inl rfl)))))
      (Zg [2,3,4,6] [2,3,4,6] (Znf (i:=6) (n:=7) (Zm Zcu) ["_law_roll_here","_law_table_here","_law_sums_here","_law_high","_law_told","_law_end","_law_ways"] ["_law_roll_here","_law_table_here","_law_sums_here","_law_high","_law_told","_law_end","_law_ways"] ["_law_kind"] ⟨rfl,by decide +kernel,by decide +kernel,by decide +kernel,by decide +kernel,by decide +kernel,rfl,by decide +kernel⟩ rfl rfl (Zaw (Zj 6)) (fun _ _ _ _ _=>(Zeg 7 (hN:=(by decide +kernel:List.Nodup (["_law_roll_here","_law_table_here","_law_sums_here","_law_high","_law_told","_law_end","_law_ways","_law_kind"]:List Str))))) (fun _ _ _ _ _=>Zlh (Xr (r:=Zrh K) (Zcj hu) Zcq (Zr Zx Zw (Zs K (Zj 3 (hv:=Or.inr (Or.inl rfl))) (Zr Zbx Zah (Zj 5 (hv:=Or.inr (Or.inl rfl))) (Zs K (Zj 7 (hv:=Or.inl rfl)) Zf Zn)) plain_bin) (Zs K (Zj 7 (hv:=Or.inl rfl)) Zf Zn)) (Zs K (Zj 3 (hv:=Or.inr (Or.inl rfl))) (Zj 5 (hv:=Or.inr (Or.inl rfl))) Zp) (Xh _))) (fun _ _ _ _ _=>(Zz (Zj 7 (hv:=Or.inl rfl)))))
      (Zk (Zco (i:=4) (he:=(Zhe (Zi (Zr Zbx Zah (Zj 5) (Zs K (Zs K (Zj 6) Zf Zn) Zf Zn)) (Zi (Zz (Zs K (Zs K (Zj 6) Zf Zn) Zf Zn)) Zh Yi) Xa))) (hse:=Zes)))))))))
      (Zk (Xj (Znq 4)))))))⟩
theorem Zoe (F:Fun K "_law_starts" "_law_starts" Zej f fd)(T:Txt mg K C)(D_law_sums:Def P w K mg base CX0 7 "_law_sums" ["_law_roll_here"] (spD K C 1 2 Dl.Yu))(D_law_heights:Def P w K mg base CX0 8 "_law_heights" ["_law_roll_here","_law_table_here"] (spD K C 2 2 Dl.Xg)):Jx P w K mg base CX0 9 f fd ["_law_roll_here","_law_table_here"] (spD K C 2 2 Dl.Zas):=by
  refine F.okC Zgh (Γ':=[]) (Δ':=[]) rfl fun cdv A outer s H E hr=>?_
  have sc:=Zgh
  have hu:_+64<cLine:=hr.units
  exact ⟨_,(Zg [2] [2] (Zq (i:=2) sc.nd rfl (Or.inl rfl) (Zy D_law_sums (hr.mono (by decide)) rfl Xk (Zb (Zj 0) Zh Za) (he:=Za)))
      (Zg [2,3] [2,3] (Zq (i:=3) sc.nd rfl (Or.inl rfl) (Zy D_law_heights (hr.mono (by decide)) rfl Xk (Zb (Zj 0) (Zb (Zj 1) Zh Za) Za) (he:=Za)))
      (Zg [2,3,4] [2,3,4] (Zq (i:=4) sc.nd rfl (Or.inl rfl) (Xc (r:=Zae K) Xi Yh rfl T.len PySem.boot_len (Zb (Zj 0) Zh Za) (he:=Za)))
      (Zg [2,3,4,5] [2,3,4,5] (Zq (i:=5) sc.nd rfl (Or.inl rfl) (Yc Zh))
      (Zg [2,3,4,5] [2,3,4,5] (Zbg [2,3,4,5] [2,3,4,5] PassesOwn.never rfl (Zdz rfl T.range (Zb (Zj 4) Zh Za)) (Jo (i:=6) (hN:=sc.nd) (hi:=rfl) (hx:=Or.inl rfl)) (Zk (Zbg [2,3,4,5] [2,3,4,5] PassesOwn.never rfl (Zaw (Zj 1)) (Jo (i:=7) (hN:=sc.nd) (hi:=rfl) (hx:=Or.inl rfl)) (Yy [2,3,4,5,8] [2,3,4,5,8] (Zg [2,3,4,5,8] [2,3,4,5,8] (Zq (i:=8) sc.nd rfl (Or.inl rfl) (Zyg (Zgj Ziy Zdo (Zr Zx Zw (Zj 6) (Zs K (Zj 7) Zf Zn)) (Zj 4) (Xh _)) (Zys (Zgj Xbk Zqt (Zr Zbx Zah (Zs K (Zj 2) (Zj 4) Zp) (Zs K (Zj 2) (Zj 6) Zp)) (Zs K (Zj 7) Zf Zn) (Xh _)))))
      (Zk (Jy (Xim (Xag (Zeb (Zj 8)) (Xag (Xr Ziy Zdo (Zr Zx Zw (Zs K (Zj 3) (Zj 6) Zp) (Zs K (Zj 7) Zf Zn)) (Zs K (Zj 3) (Zj 4) Zp) (Xh _)) (Xay (Xr (r:=rInD K true) (Xcc hu) Xam (Zj 6) (Zj 5) rfl))))) (Zk (Zco (i:=5) (he:=(Zz (Zj 6))) (hse:=Za))) Ye)))))))
      (Zk (Xj (Zr Zx Zw (Zj 5) (Zfo (Zb (Zj 4) Zh Za))))))))))⟩
theorem Zwh (F:Fun K "next_top" "next_top" Zgc f fd)(T:Txt mg K C)(Dending:Def P w K mg base CX0 9 "ending" ["roll","table","end"] (spD K C 3 2 Dl.Zbf)):Jx P w K mg base CX0 10 f fd ["roll","table","tops"] (spD K C 3 2 Dl.Zaz):=by
  refine F.okC Zna (Γ':=[]) (Δ':=[]) rfl fun cdv A outer s H E hr=>?_
  have sc:=Zna
  have hu:_+64<cLine:=hr.units
  exact ⟨_,(Zg [3] [3] (Zq (i:=3) sc.nd rfl (Or.inr rfl) (Xc (r:=Zae K) Xi Yh rfl T.len PySem.boot_len (Zb (Zj 2) Zh Za) (he:=Za)))
      (Zg [3,4] [3,4] (Znf (i:=4) (n:=5) (Zm Zgc) ["roll","table","tops","end","worths"] ["roll","table","tops","end","worths"] ["kind"] ⟨rfl,by decide +kernel,by decide +kernel,by decide +kernel,by decide +kernel,by decide +kernel,rfl,by decide +kernel⟩ rfl rfl (Zaw (Zy Dending (hr.mono (by decide)) rfl Xk (Zb (Zj 0) (Zb (Zj 1) (Zb (Zj 3) Zh Za) Za) Za) (he:=Za))) (fun _ _ _ _ _=>(Zeg 5 (hN:=(by decide +kernel:List.Nodup (["roll","table","tops","end","worths","kind"]:List Str))))) (fun _ _ _ _ _=>Zsl) (fun _ _ _ _ _=>(Zr Zx Zw (Zs K (Zj 2 (hv:=Or.inr (Or.inl rfl))) (Zr Zbx Zah (Zj 3 (hv:=Or.inr (Or.inl rfl))) (Zs K (Zj 5 (hv:=Or.inl rfl)) Zf Zn)) plain_bin) (Zs K (Zj 5 (hv:=Or.inl rfl)) Zf Zn))))
      (Zk (Xj (Xc (r:=Zsc K) (Zkt rfl) Zsz rfl T.max PyProof.Rows.boot_max (Zb (Zr Zx Zw (Zfo (Zb (Zs K (Zj 2) (Zgu Zf) Zcp) Zh Yi)) (Zj 4)) Zh Xa) (he:=Xa))))))⟩
theorem Ztn (F:Fun K "last_kind" "last_kind" Zhj f fd)(T:Txt mg K C)(Dending:Def P w K mg base CX0 9 "ending" ["roll","table","end"] (spD K C 3 2 Dl.Zbf)):Jx P w K mg base CX0 10 f fd ["roll","table","tops","end"] (spD K C 4 2 Dl.Yx):=by
  refine F.okC Zkd (Γ':=[]) (Δ':=[]) rfl fun cdv A outer s H E hr=>?_
  have sc:=Zkd
  have hu:_+64<cLine:=hr.units
  exact ⟨_,(Zg [] [] (Jy (Xr (r:=Zrh K) (Zcj hu) Zcq (Zs K (Zj 2) (Zj 3) Zp) (Zs K (Zj 2) (Zr Zbx Zah (Zj 3) Zf) plain_bin) (Xh _)) (Zk (Xj Zva)) Ye)
      (Zg [] [] (Zbg [] [] PassesOwn.never rfl (Zaw (Zy Dending (hr.mono (by decide)) rfl Xk (Zb (Zj 0) (Zb (Zj 1) (Zb (Zj 3) Zh Za) Za) Za) (he:=Za))) (Jo (i:=4) (hN:=sc.nd) (hi:=rfl) (hx:=Or.inl rfl)) (Zk (Jy (Xr (r:=Zrh K) (Zcj hu) Zcq (Zr Zx Zw (Zs K (Zj 2) (Zr Zbx Zah (Zj 3) (Zs K (Zj 4) Zf Zn)) plain_bin) (Zs K (Zj 4) Zf Zn)) (Zs K (Zj 2) (Zj 3) Zp) (Xh _)) (Zk (Xj (Zz (Zj 4)))) Ye)))
      (Zk (Xj Zva))))⟩
theorem Zgr (F:Fun K "open_starts" "Feed.open_starts" Jq f fd)(T:Txt mg K C)(DFeed_is_open:Zdc P w K mg base CX0 9 (C "Feed") "is_open" ["self","place"] (spD K C 2 2 Dl.Ji)):Jx P w K mg base CX0 10 f fd ["self"] (spD K C 1 2 Dl.Xn):=by
 refine F.okC Zcr (Γ':=[]) (Δ':=[]) rfl fun cdv A outer s H E hr=>?_
 have sc:=Zcr
 have hu:_+64<cLine:=hr.units
 exact ⟨_,(Zk (Xj (Zng (n:=1) (Zm Jq) ["self"] ["self"] ["place"] ⟨rfl,by decide +kernel,by decide +kernel,by decide +kernel,by decide +kernel,by decide +kernel,rfl,by decide +kernel⟩ (Zdz rfl T.range (Zb (Xc (r:=Zae K) Xi Yh rfl T.len PySem.boot_len (Zb (Jk (c:="Feed") T.cFeed T.nFeed_tops (Zj 0)) Zh Xe) (he:=Xe)) Zh Xf)) (fun _ _ _ _ _=>(Zeg 1 (hN:=(by decide +kernel:List.Nodup (["self","place"]:List Str))))) (fun _ _ _ _ _=>Zlh (Zeb (Zkm (c:="Feed") T.cFeed DFeed_is_open (hr.mono (by decide)) Xk (Zj 0 (hv:=Or.inr (Or.inl rfl))) (Zb (Zj 1 (hv:=Or.inl rfl)) Zh Za) (hst:=Za)))) (fun _ _ _ _ _=>(Zz (Zj 1 (hv:=Or.inl rfl)))))))⟩
theorem Zpp (F:Fun K "_law_drawn" "_law_drawn" Zfr f fd)(T:Txt mg K C)(D_law_flaw:Def P w K mg base CX0 9 "_law_flaw" ["_law_script","_law_place","_law_most"] (spD K C 3 2 Dl.Zcf))(D_law_roll:Def P w K mg base CX0 9 "_law_roll" ["_law_script","_law_place","_law_most","_law_flaw_here"] (spD K C 4 2 Dl.Zca))(D_law_table:Def P w K mg base CX0 9 "_law_table" ["_law_script","_law_place","_law_most"] (spD K C 3 2 Dl.Zbh)):Jx P w K mg base CX0 10 f fd ["_law_script","_law_place","_law_most","_law_kinds"] (spD K C 4 2 Dl.Zam):=by
  refine F.okC Zin (Γ':=[]) (Δ':=[]) rfl fun cdv A outer s H E hr=>?_
  have sc:=Zin
  have hu:_+64<cLine:=hr.units
  exact ⟨_,(Zg [4] [4] (Zq (i:=4) sc.nd rfl (Or.inl rfl) (Zy D_law_flaw (hr.mono (by decide)) rfl Xk (Zb (Zj 0) (Zb (Zj 1) (Zb (Zj 3) Zh Za) Za) Za) (he:=Za)))
      (Zk (Xj (Zhe (Zi (Zy D_law_roll (hr.mono (by decide)) rfl Xk (Zb (Zj 0) (Zb (Zr Zx Zw (Zj 1) Zf) (Zb (Zj 2) (Zb (Zj 4) Zh Za) Za) Xa) Za) (he:=Za)) (Zi (Zy D_law_table (hr.mono (by decide)) rfl Xk (Zb (Zj 0) (Zb (Zj 1) (Zb (Zj 3) Zh Za) Za) Za) (he:=Za)) Zh Xf) Xf)))))⟩
theorem Xan (F:Fun K "heights" "heights" Zou f fd)(T:Txt mg K C)(Dnext_top:Def P w K mg base CX0 10 "next_top" ["roll","table","tops"] (spD K C 3 2 Dl.Zaz)):Jx P w K mg base CX0 11 f fd ["roll","table"] (spD K C 2 2 Dl.Zda):=by
  refine F.okC Zpv (Γ':=[]) (Δ':=[]) rfl fun cdv A outer s H E hr=>?_
  have sc:=Zpv
  have hu:_+64<cLine:=hr.units
  exact ⟨_,(Zg [2] [2] (Zq (i:=2) sc.nd rfl (Or.inl rfl) (Yc (Zi Zf Zh Ze)))
      (Zg [2] [2] (Zgy 100000 PassesOwn.never (Xr Xbk Zqt (Xc (r:=Zae K) Xi Yh rfl T.len PySem.boot_len (Zb (Zj 2) Zh Za) (he:=Za)) (Xc (r:=Zae K) Xi Yh rfl T.len PySem.boot_len (Zb (Zj 0) Zh Za) (he:=Za)) (Xh _)) (Zk (Zco (i:=2) (he:=(Zy Dnext_top (hr.mono (by decide)) rfl Xk (Zb (Zj 0) (Zb (Zj 1) (Zb (Zj 2) Zh Za) Za) Za) (he:=Za))) (hse:=Xf))))
      (Zk (Xj (Znq 2)))))⟩
theorem Zlq (F:Fun K "told_cutting" "told_cutting" Zdh f fd)(T:Txt mg K C)(Dlast_kind:Def P w K mg base CX0 10 "last_kind" ["roll","table","tops","end"] (spD K C 4 2 Dl.Yx)):Jx P w K mg base CX0 11 f fd ["roll","table","tops","end"] (spD K C 4 2 Dl.Yv):=by
  refine F.okC Zfc (Γ':=[]) (Δ':=[]) rfl fun cdv A outer s H E hr=>?_
  have sc:=Zfc
  have hu:_+64<cLine:=hr.units
  exact ⟨_,(Zg [4] [4] (Zq (i:=4) sc.nd rfl (Or.inl rfl) (Yc Zh))
      (Zg [4] [4] (Zgy 100000 PassesOwn.never (Xr Ziy Zdo (Zj 3) Zf (Xh _)) (Yy [3,4,5] [3,4,5] (Zg [4,5] [4,5] (Zq (i:=5) sc.nd rfl (Or.inl rfl) (Zy Dlast_kind (hr.mono (by decide)) rfl Xk (Zb (Zj 0) (Zb (Zj 1) (Zb (Zj 2) (Zb (Zj 3) Zh Za) Za) Za) Za) (he:=Za)))
      (Zk (Jy (Xr Zzy Xbr (Zj 5) Zva (Xh _)) (Zk (Xho (i:=3) Xbu Xig sc.nd rfl (Or.inl rfl) Zf)) (Zg [3,4,5] [3,4,5] (Xho (i:=3) Xbu Xig sc.nd rfl (Or.inl rfl) (Zs K (Zj 5) Zf Zn))
      (Zk (Zco (i:=4) (he:=(Zhe (Zi (Zz (Zj 3)) (Zi (Zz (Zs K (Zj 5) Zf Zn)) Zh Yi) Za))) (hse:=Zes)))))))))
      (Zk (Xj (Xki K rfl T.list rfl T.reversed (Zj 4) Za)))))⟩
theorem Zqz (F:Fun K "stop_ahead" "stop_ahead" Zfv f fd)(T:Txt mg K C)(Dlast_kind:Def P w K mg base CX0 10 "last_kind" ["roll","table","tops","end"] (spD K C 4 2 Dl.Yx)):Jx P w K mg base CX0 11 f fd ["cells","table","tops","place"] (spD K C 4 2 Dl.Zal):=by
  refine F.okC Zii (Γ':=[]) (Δ':=[]) rfl fun cdv A outer s H E hr=>?_
  have sc:=Zii
  have hu:_+64<cLine:=hr.units
  exact ⟨_,(Zg [4] [4] (Zq (i:=4) sc.nd rfl (Or.inl rfl) (Zy Dlast_kind (hr.mono (by decide)) rfl Xk (Zb (Zj 0) (Zb (Zj 1) (Zb (Zj 2) (Zb (Zj 3) Zh Za) Za) Za) Za) (he:=Za)))
      (Zk (Xj (ce_if (Xr Zzy Xbr (Zj 4) Zva (Xh _)) (Zr Zbx Zah (Zj 3) Zf) (Zr Zbx Zah (Zj 3) (Zs K (Zj 4) Zf Zn))))))⟩
theorem Xry (F:Fun K "best" "best" Xkw f fd)(T:Txt mg K C)(Dheights:Def P w K mg base CX0 11 "heights" ["roll","table"] (spD K C 2 2 Dl.Zda))(Dtold_cutting:Def P w K mg base CX0 11 "told_cutting" ["roll","table","tops","end"] (spD K C 4 2 Dl.Yv)):Jx P w K mg base CX0 12 f fd ["roll","table"] (spD K C 2 2 Dl.Zpy):=by
  refine F.okC Xiy (Γ':=[]) (Δ':=[]) rfl fun cdv A outer s H E hr=>?_
  have sc:=Xiy
  have hu:_+64<cLine:=hr.units
  exact ⟨_,(Zg [2] [2] (Zq (i:=2) sc.nd rfl (Or.inl rfl) (Zy Dheights (hr.mono (by decide)) rfl Xk (Zb (Zj 0) (Zb (Zj 1) Zh Za) Za) (he:=Za)))
      (Zk (Xj (Zhe (Zi (Zz (Zs K (Zj 2) (Zgu Zf) Zcp)) (Zi (Zy Dtold_cutting (hr.mono (by decide)) rfl Xk (Zb (Zj 0) (Zb (Zj 1) (Zb (Zj 2) (Zb (Xc (r:=Zae K) Xi Yh rfl T.len PySem.boot_len (Zb (Zj 0) Zh Za) (he:=Za)) Zh Xf) Za) Za) Za) (he:=Za)) Zh Xf) Yi)))))⟩
theorem Znv (F:Fun K "stops_ahead" "stops_ahead" Zch f fd)(T:Txt mg K C)(Dstop_ahead:Def P w K mg base CX0 11 "stop_ahead" ["cells","table","tops","place"] (spD K C 4 2 Dl.Zal)):Jx P w K mg base CX0 12 f fd ["cells","table","tops"] (spD K C 3 2 Dl.Zau):=by
 refine F.okC Zgp (Γ':=[]) (Δ':=[]) rfl fun cdv A outer s H E hr=>?_
 have sc:=Zgp
 have hu:_+64<cLine:=hr.units
 exact ⟨_,(Zk (Xj (Zr Zx Zw (Yc (Zi Zf Zh Ze)) (Zng (n:=3) (Zm Zch) ["cells","table","tops"] ["cells","table","tops"] ["place"] ⟨rfl,by decide +kernel,by decide +kernel,by decide +kernel,by decide +kernel,by decide +kernel,rfl,by decide +kernel⟩ (Zrs rfl T.range (Zb Zf (Zb (Xc (r:=Zae K) Xi Yh rfl T.len PySem.boot_len (Zb (Zj 2) Zh Za) (he:=Za)) Zh Xf) Ze)) (fun _ _ _ _ _=>(Zeg 3 (hN:=(by decide +kernel:List.Nodup (["cells","table","tops","place"]:List Str))))) (fun _ _ _ _ _=>Zsl) (fun _ _ _ _ _=>(Zy Dstop_ahead (hr.mono (by decide)) rfl Xk (Zb (Zj 0 (hv:=Or.inr (Or.inl rfl))) (Zb (Zj 1 (hv:=Or.inr (Or.inl rfl))) (Zb (Zj 2 (hv:=Or.inr (Or.inl rfl))) (Zb (Zj 3 (hv:=Or.inl rfl)) Zh Za) Za) Za) Za) (he:=Za)))))))⟩
theorem Zhk (F:Fun K "told_up_to" "Feed.told_up_to" Zbm f fd)(T:Txt mg K C)(Dtold_cutting:Def P w K mg base CX0 11 "told_cutting" ["roll","table","tops","end"] (spD K C 4 2 Dl.Yv)):Jx P w K mg base CX0 12 f fd ["self","place"] (spD K C 2 2 Dl.Xw):=by
 refine F.okC Zcy (Γ':=[]) (Δ':=[]) rfl fun cdv A outer s H E hr=>?_
 have sc:=Zcy
 have hu:_+64<cLine:=hr.units
 exact ⟨_,(Zk (Xj (Zy Dtold_cutting (hr.mono (by decide)) rfl Xk (Zb (Jk (c:="Feed") T.cFeed T.nFeed_weights (Zj 0)) (Zb (Jk (c:="Feed") T.cFeed T.nFeed_kinds (Zj 0)) (Zb (Jk (c:="Feed") T.cFeed T.nFeed_tops (Zj 0)) (Zb (Zj 1) Zh Za) Xe) Xe) Xe) (he:=Xe))))⟩
theorem Zlr (F:Fun K "cutting" "Feed.cutting" Zdm f fd)(T:Txt mg K C)(DFeed_told_up_to:Zdc P w K mg base CX0 12 (C "Feed") "told_up_to" ["self","place"] (spD K C 2 2 Dl.Xw)):Jx P w K mg base CX0 13 f fd ["self"] (spD K C 1 2 Dl.Yf):=by
 refine F.okC Zfh (Γ':=[]) (Δ':=[]) rfl fun cdv A outer s H E hr=>?_
 have sc:=Zfh
 have hu:_+64<cLine:=hr.units
 exact ⟨_,(Zk (Xj (Zkm (c:="Feed") T.cFeed DFeed_told_up_to (hr.mono (by decide)) Xk (Zj 0) (Zb (Xc (r:=Zae K) Xi Yh rfl T.len PySem.boot_len (Zb (Jk (c:="Feed") T.cFeed T.nFeed_weights (Zj 0)) Zh Xe) (he:=Xe)) Zh Xf) (hst:=Xf))))⟩
theorem Zlw (F:Fun K "settled" "Feed.settled" Zdi f fd)(T:Txt mg K C)(Dstops_ahead:Def P w K mg base CX0 12 "stops_ahead" ["cells","table","tops"] (spD K C 3 2 Dl.Zau))(Dcommon_stop:Def P w K mg base CX0 7 "common_stop" ["ahead","one","other"] (spD K C 3 2 Dl.Zar))(DFeed_open_starts:Zdc P w K mg base CX0 10 (C "Feed") "open_starts" ["self"] (spD K C 1 2 Dl.Xn)):Jx P w K mg base CX0 13 f fd ["self"] (spD K C 1 2 Dl.Yk):=by
  refine F.okC Zfi (Γ':=[]) (Δ':=[]) rfl fun cdv A outer s H E hr=>?_
  have sc:=Zfi
  have hu:_+64<cLine:=hr.units
  exact ⟨_,(Zg [1] [1] (Zq (i:=1) sc.nd rfl (Or.inl rfl) (Zy Dstops_ahead (hr.mono (by decide)) rfl Xk (Zb (Jk (c:="Feed") T.cFeed T.nFeed_weights (Zj 0)) (Zb (Jk (c:="Feed") T.cFeed T.nFeed_kinds (Zj 0)) (Zb (Jk (c:="Feed") T.cFeed T.nFeed_tops (Zj 0)) Zh Xe) Xe) Xe) (he:=Xe)))
      (Zg [1,2] [1,2] (Zq (i:=2) sc.nd rfl (Or.inl rfl) (Xc (r:=Zae K) Xi Yh rfl T.len PySem.boot_len (Zb (Jk (c:="Feed") T.cFeed T.nFeed_weights (Zj 0)) Zh Xe) (he:=Xe)))
      (Zg [1,2] [1,2] (Zbg [1,2] [1,2] PassesOwn.never rfl (Zaw (Yq (c:="Feed") T.cFeed DFeed_open_starts (hr.mono (by decide)) Xk (Zj 0))) (Jo (i:=3) (hN:=sc.nd) (hi:=rfl) (hx:=Or.inl rfl)) (Zk (Zq (i:=2) sc.nd rfl (Or.inl rfl) (Zy Dcommon_stop (hr.mono (by decide)) rfl Xk (Zb (Zj 1) (Zb (Zj 2) (Zb (Zj 3) Zh Za) Za) Za) (he:=Za)))))
      (Zk (Xj (Znq 2))))))⟩
theorem Zlx (F:Fun K "between" "Feed.between" Zdl f fd)(T:Txt mg K C)(Dbest:Def P w K mg base CX0 12 "best" ["roll","table"] (spD K C 2 2 Dl.Zpy))(DFeed_worth:Zdc P w K mg base CX0 7 (C "Feed") "worth" ["self"] (spD K C 1 2 Dl.Ya)):Jx P w K mg base CX0 13 f fd ["self","rest"] (spD K C 2 2 Dl.Yj):=by
 refine F.okC Zfk (Γ':=[]) (Δ':=[]) rfl fun cdv A outer s H E hr=>?_
 have sc:=Zfk
 have hu:_+64<cLine:=hr.units
 exact ⟨_,(Zk (Xj (Zhe (Zi (Yq (c:="Feed") T.cFeed DFeed_worth (hr.mono (by decide)) Xk (Zj 0)) (Zi (Zz (Zs K (Zy Dbest (hr.mono (by decide)) rfl Xk (Zb (Zr Zx Zw (Jk (c:="Feed") T.cFeed T.nFeed_weights (Zj 0)) (Zr Ys Yr (Yc (Zi Zf Zh Ze)) (Zj 1))) (Zb (Jk (c:="Feed") T.cFeed T.nFeed_kinds (Zj 0)) Zh Xe) Xa) (he:=Xa)) Zf Zn)) Zh Yi) Xf))))⟩
theorem Ztd (F:Fun K "sure" "Feed.sure" Zhr f fd)(T:Txt mg K C)(DFeed_told_up_to:Zdc P w K mg base CX0 12 (C "Feed") "told_up_to" ["self","place"] (spD K C 2 2 Dl.Xw))(DFeed_settled:Zdc P w K mg base CX0 13 (C "Feed") "settled" ["self"] (spD K C 1 2 Dl.Yk)):Jx P w K mg base CX0 14 f fd ["self"] (spD K C 1 2 Dl.Yd):=by
 refine F.okC Zjy (Γ':=[]) (Δ':=[]) rfl fun cdv A outer s H E hr=>?_
 have sc:=Zjy
 have hu:_+64<cLine:=hr.units
 exact ⟨_,(Zk (Xj (Zkm (c:="Feed") T.cFeed DFeed_told_up_to (hr.mono (by decide)) Xk (Zj 0) (Zb (Yq (c:="Feed") T.cFeed DFeed_settled (hr.mono (by decide)) Xk (Zj 0)) Zh Xf) (hst:=Xf))))⟩
theorem Zsw (F:Fun K "take" "Feed.take" Zia f fd)(T:Txt mg K C)(Dnext_top:Def P w K mg base CX0 10 "next_top" ["roll","table","tops"] (spD K C 3 2 Dl.Zaz))(DFeed_refuse_closed:Zdc P w K mg base CX0 7 (C "Feed") "refuse_closed" ["self"] (spD K C 1 2 Dl.Xm))(DFeed_sure:Zdc P w K mg base CX0 14 (C "Feed") "sure" ["self"] (spD K C 1 2 Dl.Yd)):Jx P w K mg base CX0 15 f fd ["self","weight"] (spM K C 1 Dl.Zbb):=by
  refine F.okM Zka rfl fun cdv A outer s H E hr=>?_
  have sc:=Zka
  have hu:_+64<cLine:=hr.units
  exact ⟨_,(Zbz [0] [0] (Xbi (Yq (c:="Feed") T.cFeed DFeed_refuse_closed (hr.mono (by decide)) Xk (Zj 0)))
      (Zbz [0] [0] (Xqx (Xr Xqt Xhv (Xc (r:=Zae K) Xi Yh rfl T.len PySem.boot_len (Zb (Jk (c:="Feed") T.cFeed T.nFeed_weights (Zj 0)) Zh Xe) (he:=Xe)) (Xlt rfl T.MOST_CELLS.choose_spec ⟨_,rfl⟩) (Xh _)))
      (Zbz [0,2] [0,2] (Xhy (i:=2) sc.nd rfl (Or.inl rfl) (Xc (r:=Zae K) Xi Yh rfl T.len PySem.boot_len (Zb (Yq (c:="Feed") T.cFeed DFeed_sure (hr.mono (by decide)) Xk (Zj 0)) Zh Xf) (he:=Xf)))
      (Zbz [0,2] [0,2] (Zpu (i:=0) (c:="Feed") T.cFeed T.nFeed_weights (Zz (Zj 1)) Za)
      (Zbz [0,2] [0,2] (Zpu (i:=0) (c:="Feed") T.cFeed T.nFeed_tops (Zy Dnext_top (hr.mono (by decide)) rfl Xk (Zb (Jk (c:="Feed") T.cFeed T.nFeed_weights (Zj 0)) (Zb (Jk (c:="Feed") T.cFeed T.nFeed_kinds (Zj 0)) (Zb (Jk (c:="Feed") T.cFeed T.nFeed_tops (Zj 0)) Zh Xe) Xe) Xe) (he:=Xe)) Xf)
      (Xhm (Zso K (Yq (c:="Feed") T.cFeed DFeed_sure (hr.mono (by decide)) Xk (Zj 0)) (Zeh (Zj 2)) Zhn)))))))⟩
theorem Zpn (F:Fun K "close" "Feed.close" Zfq f fd)(T:Txt mg K C)(DFeed_refuse_closed:Zdc P w K mg base CX0 7 (C "Feed") "refuse_closed" ["self"] (spD K C 1 2 Dl.Xm))(DFeed_sure:Zdc P w K mg base CX0 14 (C "Feed") "sure" ["self"] (spD K C 1 2 Dl.Yd)):Jx P w K mg base CX0 15 f fd ["self"] (spM K C 0 Dl.Zan):=by
  refine F.okM Zis rfl fun cdv A outer s H E hr=>?_
  have sc:=Zis
  have hu:_+64<cLine:=hr.units
  exact ⟨_,(Zbz [0] [0] (Xbi (Yq (c:="Feed") T.cFeed DFeed_refuse_closed (hr.mono (by decide)) Xk (Zj 0)))
      (Zbz [0,1] [0,1] (Xhy (i:=1) sc.nd rfl (Or.inl rfl) (Xc (r:=Zae K) Xi Yh rfl T.len PySem.boot_len (Zb (Yq (c:="Feed") T.cFeed DFeed_sure (hr.mono (by decide)) Xk (Zj 0)) Zh Xf) (he:=Xf)))
      (Zbz [0,1] [0,1] (Zpi (i:=0) (c:="Feed") T.cFeed T.nFeed_shut Zey)
      (Xhm (Zso K (Yq (c:="Feed") T.cFeed DFeed_sure (hr.mono (by decide)) Xk (Zj 0)) (Zeh (Zj 1)) Zhn)))))⟩
theorem Zjs (F:Fun K "_law_is_right" "_law_is_right" Zct f fd)(T:Txt mg K C)(D_law_back:Def P w K mg base CX0 9 "_law_back" ["_law_roll_here","_law_table_here"] (spD K C 2 2 Dl.Zcg))(D_law_starts:Def P w K mg base CX0 9 "_law_starts" ["_law_roll_here","_law_table_here"] (spD K C 2 2 Dl.Zas))(D_law_settled:Def P w K mg base CX0 8 "_law_settled" ["_law_before","_law_starts_here"] (spD K C 2 2 Dl.Jg))(D_law_heights:Def P w K mg base CX0 8 "_law_heights" ["_law_roll_here","_law_table_here"] (spD K C 2 2 Dl.Xg))(D_law_cut:Def P w K mg base CX0 7 "_law_cut" ["_law_before","_law_end"] (spD K C 2 2 Dl.Zak))(DFeed_cutting:Zdc P w K mg base CX0 13 (C "Feed") "cutting" ["self"] (spD K C 1 2 Dl.Yf))(DFeed_open_starts:Zdc P w K mg base CX0 10 (C "Feed") "open_starts" ["self"] (spD K C 1 2 Dl.Xn))(DFeed_between:Zdc P w K mg base CX0 13 (C "Feed") "between" ["self","rest"] (spD K C 2 2 Dl.Yj))(DFeed_cells:Zdc P w K mg base CX0 7 (C "Feed") "cells" ["self"] (spD K C 1 2 Dl.Jm))(DFeed_settled:Zdc P w K mg base CX0 13 (C "Feed") "settled" ["self"] (spD K C 1 2 Dl.Yk))(DFeed_sure:Zdc P w K mg base CX0 14 (C "Feed") "sure" ["self"] (spD K C 1 2 Dl.Yd))(DFeed_worth:Zdc P w K mg base CX0 7 (C "Feed") "worth" ["self"] (spD K C 1 2 Dl.Ya)):Jx P w K mg base CX0 15 f fd ["_law_feed","_law_roll_here","_law_table_here","_law_ended"] (spD K C 4 2 Dl.Yo):=by
  refine F.okC Zeq (Γ':=[]) (Δ':=[]) rfl fun cdv A outer s H E hr=>?_
  have sc:=Zeq
  have hu:_+64<cLine:=hr.units
  exact ⟨_,(Zg [4] [4] (Zq (i:=4) sc.nd rfl (Or.inl rfl) (Zy D_law_back (hr.mono (by decide)) rfl Xk (Zb (Zj 1) (Zb (Zj 2) Zh Za) Za) (he:=Za)))
      (Zg [4,5] [4,5] (Zq (i:=5) sc.nd rfl (Or.inl rfl) (Xc (r:=Zae K) Xi Yh rfl T.len PySem.boot_len (Zb (Zj 1) Zh Za) (he:=Za)))
      (Zg [4,5,6] [4,5,6] (Zq (i:=6) sc.nd rfl (Or.inl rfl) (Yc (Zi (Zz (Zj 5)) Zh Za)))
      (Zg [4,5,6] [4,5,6] (Jy (Zyo (Zeb (Zj 3))) (Zg [4,5,6] [4,5,6] (Zq (i:=6) sc.nd rfl (Or.inl rfl) (Zy D_law_starts (hr.mono (by decide)) rfl Xk (Zb (Zj 1) (Zb (Zj 2) Zh Za) Za) (he:=Za)))
      (Zk (Zq (i:=5) sc.nd rfl (Or.inl rfl) (Zy D_law_settled (hr.mono (by decide)) rfl Xk (Zb (Zj 4) (Zb (Zj 6) Zh Za) Za) (he:=Za))))) Ye)
      (Zg [4,5,6,7] [4,5,6,7] (Zq (i:=7) sc.nd rfl (Or.inl rfl) (Zz (Zs K (Zy D_law_heights (hr.mono (by decide)) rfl Xk (Zb (Zr Zx Zw (Zj 1) (Zr Ys Yr (Yc (Zi Zf Zh Ze)) Zf)) (Zb (Zj 2) Zh Za) Xa) (he:=Xa)) (Zgu Zf) Zcp)))
      (Zg [4,5,6,7] [4,5,6,7] (Jy (Xim (Zpf (Xr (r:=Zxt K) (Zfb hu) Zff (Yq (c:="Feed") T.cFeed DFeed_open_starts (hr.mono (by decide)) Xk (Zj 0)) (Zj 6) (Xh _)) (Znb (Xr (r:=Zxt K) (Zfb hu) Zff (Zkm (c:="Feed") T.cFeed DFeed_between (hr.mono (by decide)) Xk (Zj 0) (Zb Zf Zh Ze) (hst:=Ze)) (Xad (Zb (Zs K (Zy D_law_heights (hr.mono (by decide)) rfl Xk (Zb (Zj 1) (Zb (Zj 2) Zh Za) Za) (he:=Za)) (Zgu Zf) Zcp) (Zb (Zj 7) Zh Za) Yi)) (Xh _))))) (Zk (Xj Zey)) Ye)
      (Zg [4,5,6,7] [4,5,6,7] (Jy (Xim (Zpf (Xr (r:=Zxt K) (Zfb hu) Zff (Yq (c:="Feed") T.cFeed DFeed_cells (hr.mono (by decide)) Xk (Zj 0)) (Zj 1) (Xh _)) (Zpf (Xr (r:=Zxt K) (Zfb hu) Zff (Yq (c:="Feed") T.cFeed DFeed_settled (hr.mono (by decide)) Xk (Zj 0)) (Zj 5) (Xh _)) (Znb (Xr (r:=Zxt K) (Zfb hu) Zff (Yq (c:="Feed") T.cFeed DFeed_sure (hr.mono (by decide)) Xk (Zj 0)) (Zy D_law_cut (hr.mono (by decide)) rfl Xk (Zb (Zj 4) (Zb (Zj 5) Zh Za) Za) (he:=Za)) (Xh _)))))) (Zk (Xj Zey)) Ye)
      (Zg [4,5,6,7,8] [4,5,6,7,8] (Zq (i:=8) sc.nd rfl (Or.inl rfl) (Zz (Zs K (Zy D_law_heights (hr.mono (by decide)) rfl Xk (Zb (Zj 1) (Zb (Zj 2) Zh Za) Za) (he:=Za)) (Zgu Zf) Zcp)))
      (Zg [4,5,6,7,8] [4,5,6,7,8] (Jy (Xim (Zpf (Xr (r:=Zxt K) (Zfb hu) Zff (Yq (c:="Feed") T.cFeed DFeed_worth (hr.mono (by decide)) Xk (Zj 0)) (Zj 8) (Xh _)) (Znb (Xr (r:=Zxt K) (Zfb hu) Zff (Zkm (c:="Feed") T.cFeed DFeed_between (hr.mono (by decide)) Xk (Zj 0) (Zb Zf Zh Ze) (hst:=Ze)) (Xad (Zb (Zj 8) (Zb (Zj 8) Zh Za) Za)) (Xh _))))) (Zk (Xj Zey)) Ye)
      (Zk (Xj (Zgj (r:=Zrh K) (Zcj hu) Zcq (Yq (c:="Feed") T.cFeed DFeed_cutting (hr.mono (by decide)) Xk (Zj 0)) (Zy D_law_cut (hr.mono (by decide)) rfl Xk (Zb (Zj 4) (Zb (Xc (r:=Zae K) Xi Yh rfl T.len PySem.boot_len (Zb (Zj 1) Zh Za) (he:=Za)) Zh Xf) Za) (he:=Za)) (Xh _)))))))))))))⟩
theorem oklaw (F:Fun K "law" "law" Xog f fd)(T:Txt mg K C)(D_law_drawn:Def P w K mg base CX0 10 "_law_drawn" ["_law_script","_law_place","_law_most","_law_kinds"] (spD K C 4 2 Dl.Zam))(D_law_row:Def P w K mg base CX0 8 "_law_row" ["_law_script","_law_place","_law_sizes"] (spD K C 3 2 Dl.Yt))(D_law_is_right:Def P w K mg base CX0 15 "_law_is_right" ["_law_feed","_law_roll_here","_law_table_here","_law_ended"] (spD K C 4 2 Dl.Yo))(DFeed_init:Xlf P w K mg base CX0 7 (C "Feed") ["self","table"] (spM K C 1 Dl.Jp))(DFeed_close:Zdc P w K mg base CX0 15 (C "Feed") "close" ["self"] (spM K C 0 Dl.Zan))(DFeed_cutting:Zdc P w K mg base CX0 13 (C "Feed") "cutting" ["self"] (spD K C 1 2 Dl.Yf))(DFeed_closed:Zdc P w K mg base CX0 7 (C "Feed") "closed" ["self"] (spD K C 1 2 Dl.Jr))(DFeed_take:Zdc P w K mg base CX0 15 (C "Feed") "take" ["self","weight"] (spM K C 1 Dl.Zbb)):Jx P w K mg base CX0 16 f fd ["_law_script"] (spD K C 1 2 Dl.Xkh):=by
  refine F.okC Xps (Γ':=[]) (Δ':=[]) rfl fun cdv A outer s H E hr=>?_
  have sc:=Xps
  have hu:_+64<cLine:=hr.units
  exact ⟨_,(Zg [1,2] [1,2] (Zks rfl (Zy D_law_drawn (hr.mono (by decide)) rfl Xk (Zb (Zj 0) (Zb Zf (Zb Zf (Zb Zf Zh Ze) Ze) Ze) Za) (he:=Za)) (Zhi (i:=1) sc.nd rfl (Or.inl rfl) (Zhi (i:=2) sc.nd rfl (Or.inl rfl) Xbw)))
      (Zg [1,2,3,4] [1,2,3,4] (Zks rfl (Zy D_law_drawn (hr.mono (by decide)) rfl Xk (Zb (Zj 0) (Zb Zf (Zb Zf (Zb Zf Zh Ze) Ze) Ze) Za) (he:=Za)) (Zhi (i:=3) sc.nd rfl (Or.inl rfl) (Zhi (i:=4) sc.nd rfl (Or.inl rfl) Xbw)))
      (Zg [1,2,3,4,5] [1,2,3,4,5] (Zq (i:=5) sc.nd rfl (Or.inl rfl) (Zy D_law_row (hr.mono (by decide)) rfl Xk (Zb (Zj 0) (Zb Zf (Zb (Zr Zx Zw (Yc (Zi Zf (Zi Zf Zh Ze) Ze)) (Zr Ys Yr (Yc (Zi Zf Zh Ze)) Zf)) Zh Xa) Ze) Za) (he:=Za)))
      (Zg [1,2,3,4,5] [1,2,3,4,5] (Jy (Xr (r:=Zrh K) (Zcj hu) Zcq (Zs K (Zj 5) Zf Zn) Zf (Xh _)) (Zk (Zq (i:=4) sc.nd rfl (Or.inl rfl) (Zkk (r:=Zry K) (Zhw rfl) Zoc rfl T.list PyProof.Rows.boot_list (Zb (Zj 2) Zh Za) (he:=Za)))) Ye)
      (Zg [1,2,3,4,5,6] [1,2,3,4,5,6] (Zq (i:=6) sc.nd rfl (Or.inl rfl) (Yc (Zi (Zrn (c:="Feed") DFeed_init (hr.mono (by decide)) rfl T.mFeed Xk (Zb (Zj 2) Zh Za) (he:=Za)) (Zi (Zrn (c:="Feed") DFeed_init (hr.mono (by decide)) rfl T.mFeed Xk (Zb (Zj 4) Zh Za) (he:=Za)) Zh Xf) Xf)))
      (Zg [1,2,3,4,5,6,7] [1,2,3,4,5,6,7] (Zq (i:=7) sc.nd rfl (Or.inl rfl) (Zrn (c:="Feed") DFeed_init (hr.mono (by decide)) rfl T.mFeed Xk (Zb (Zj 2) Zh Za) (he:=Za)))
      (Zg [2,4,5,6,7,8] [2,4,5,6,7] (Xnd (i:=8) sc.nd rfl (Or.inl rfl) (Zfo (Zb (Zj 1) (Zb (Zj 3) Zh Za) Za)))
      (Zg [2,4,5,6,7,8,9] [2,4,5,6,7,9] (Zq (i:=9) sc.nd rfl (Or.inl rfl) (Yc (Zi Zf (Zi Zf Zh Ze) Ze)))
      (Zg [2,4,5,6,7,8,9,10] [2,4,5,6,7,9,10] (Zq (i:=10) sc.nd rfl (Or.inl rfl) (Yc (Zi (Yc Zh) (Zi (Yc Zh) Zh Zjm) Zjm)))
      (Zg [5,6,7,8,9,10] [5,6,7,9,10] (Zbg [5,6,7,8,9,10] [5,6,7,9,10] PassesOwn.never rfl (Zdz rfl T.range (Zb Zf Zh Ze)) (Jo (i:=11) (hN:=sc.nd) (hi:=rfl) (hx:=Or.inl rfl)) (Yy [5,6,7,8,9,10,12] [5,6,7,9,10,12] (Zg [5,6,7,8,9,10,12] [5,6,7,9,10,12] (Zq (i:=12) sc.nd rfl (Or.inl rfl) (Zz (Zs K (Zj 5) (Zr Zx Zw Zf (Zj 11)) plain_bin)))
      (Zk (Jy (Xr Zsd Zke (Zs K (Zj 9) (Zj 12) Zp) (Xc (r:=Zae K) Xi Yh rfl T.len PySem.boot_len (Zb (Zs K (Zj 8) (Zj 12) Zp) Zh Yi) (he:=Yi)) (Xh _)) (Yy [5,6,7,8,9,10,12,13] [5,6,7,9,10,12,13] (Zg [5,6,7,8,9,10,12,13] [5,6,7,9,10,12,13] (Zq (i:=13) sc.nd rfl (Or.inl rfl) (Zz (Zs K (Zs K (Zj 8) (Zj 12) Zp) (Zs K (Zj 9) (Zj 12) Zp) Zbi)))
      (Zg [5,6,7,8,9,10,12,13] [5,6,7,9,10,12,13] (Xah (i:=10) (j:=6) (l:=12) (Xeb 6 12 (c:="Feed") T.cFeed DFeed_take (hr.mono (by decide)) Xk (Zb (Zj 13) Zh Za) (hst:=Za)))
      (Zg [5,6,7,8,9,10,12,13] [5,6,7,9,10,12,13] (Xtw (i:=9) (he:=(Zr Zx Zw (Zs K (Zj 9) (Zj 12) Zp) Zf)) (hk:=(Zj 12)))
      (Zg [5,6,7,8,9,10,12,13] [5,6,7,9,10,12,13] (Jy (Xr (r:=Zrh K) (Zcj hu) Zcq (Zj 12) Zf (Xh _)) (Zk (Xgx (Xly 7 (c:="Feed") T.cFeed DFeed_take (hr.mono (by decide)) Xk (Zb (Zj 13) Zh Za) (hst:=Za)))) Ye)
      (Zk (Zbg [5,6,7,8,9,10,12,13] [5,6,7,9,10,12,13] PassesOwn.never rfl (Zdz rfl T.range (Zb Zf Zh Ze)) (Jo (i:=14) (hN:=sc.nd) (hi:=rfl) (hx:=Or.inl rfl)) (Yy [5,6,7,8,9,10,12,13,15] [5,6,7,9,10,12,13,15] (Zg [5,6,7,8,9,10,12,13,15] [5,6,7,9,10,12,13,15] (Zq (i:=15) sc.nd rfl (Or.inl rfl) (Zso K (Zs K (Zj 8) (Zj 14) Zp) Zhn (Zeh (Zs K (Zj 9) (Zj 14) Zp))))
      (Zg [5,6,7,8,9,10,12,13,15] [5,6,7,9,10,12,13,15] (Xnc (i:=16) sc.nd rfl (Or.inl rfl) (Zs K (Zfo (Zb (Zj 2) (Zb (Zj 4) Zh Za) Za)) (Zj 14) Zp))
      (Zk (Jy (Xim (Xag (Xr (r:=Zrh K) (Zcj hu) Zcq (Zr Zce Zaf (Zj 11) (Zr Zx Zw Zf (Zs K (Zj 5) Zf Zn))) Zf (Xh _)) (Xay (Zyo (Zeb (Zy D_law_is_right (hr.mono (by decide)) rfl Xk (Zb (Zs K (Zj 6) (Zj 14) Zp) (Zb (Zj 15) (Zb (Zj 16) (Zb Zey Zh Ze) Za) Za) Yi) (he:=Yi))))))) (Zk (Xj Zey)) Ye)))))))))))) Ye)))))
      (Zg [5,6,7,8,9,10] [5,6,7,9,10] (Zbg [5,6,7,8,9,10] [5,6,7,9,10] PassesOwn.never rfl (Zdz rfl T.range (Zb Zf Zh Ze)) (Jo (i:=14) (hN:=sc.nd) (hi:=rfl) (hx:=Or.inl rfl)) (Yy [5,6,7,8,9,10,15] [5,6,7,9,10,15] (Zg [5,6,7,8,9,10] [5,6,7,9,10] (Xah (i:=10) (j:=6) (l:=14) (Zyl 6 14 (c:="Feed") T.cFeed DFeed_close (hr.mono (by decide)) Xk))
      (Zg [5,6,7,8,9,10,15] [5,6,7,9,10,15] (Zq (i:=15) sc.nd rfl (Or.inl rfl) (Zso K (Zs K (Zj 8) (Zj 14) Zp) Zhn (Zeh (Zs K (Zj 9) (Zj 14) Zp))))
      (Zg [5,6,7,8,9,10,15] [5,6,7,9,10,15] (Jy (Zyo (Zeb (Zy D_law_is_right (hr.mono (by decide)) rfl Xk (Zb (Zs K (Zj 6) (Zj 14) Zp) (Zb (Zj 15) (Zb (Zs K (Zfo (Zb (Zj 2) (Zb (Zj 4) Zh Za) Za)) (Zj 14) Zp) (Zb Zey Zh Ze) Yi) Za) Yi) (he:=Yi)))) (Zk (Xj Zey)) Ye)
      (Zk (Jy (Xr (r:=Zxt K) (Zfb hu) Zff (Zs K (Zj 10) (Zj 14) Zp) (Yq (c:="Feed") T.cFeed DFeed_cutting (hr.mono (by decide)) Xk (Zs K (Zj 6) (Zj 14) Zp)) (Xh _)) (Zk (Xj Zey)) Ye)))))))
      (Zk (Xj (Zyg (Zy D_law_is_right (hr.mono (by decide)) rfl Xk (Zb (Zj 7) (Zb (Zso K (Zj 1) Zhn (Zeh (Zs K (Zj 9) Zf Zn))) (Zb (Zj 2) (Zb Zey Zh Ze) Za) Yi) Za) (he:=Za)) (Zys (Zgj Zzy Xbr (Yq (c:="Feed") T.cFeed DFeed_closed (hr.mono (by decide)) Xk (Zj 7)) Zey (Xh _)))))))))))))))))⟩
end
noncomputable def Xnk (K:Frag):Sp:=fun vs H Q _=>∃(a:Addr) (ns:List Int),vs=[.ref a]∧FzL K H a (ns.map V.int)∧ns.length≤63∧∀H',Q (.bl true) H'
theorem fz_of {K:Frag}{H:Hp}{a:Addr}{xs:List V}(hO:Only H)(h:SqL K H a xs):FzL K H a xs:=by
 rcases h with (h | h) | h
 ·rcases hO a with z | ⟨o,ys,z⟩
  ·rw [h] at z;cases z
  ·rw [h] at z;cases z
 ·exact .inl h
 ·exact .inr h
theorem Xcs (ns:List Int)(h:ns.length≤63):Dl.Xkh [.scr ns]=.ok (.bl true):=Dl.Zxq ns h
theorem all_mk {l:PySem.W.OpenLaw}{w:World}{K:Frag}{h:Heap}{mg:Str→Option Value}{fa f1 f2 f3 f4 f5 f6 f7 f8 f9 f10 f11 f12 f13 f14 f15 f16 f17 f18 f19 f20 f21 f22 f23 f24 f25 f26 f27 f28 f29 f30 f31 f32 f33 f34 f35 f36 f37 f38 f39 f40 f41 f42 f43:Addr}(X:K.In h)(G:h.Ns mainGlobals mg)(hfa:mg "law"=some (.ref fa))
  {fd1 fd2 fd3 fd4 fd5 fd6 fd7 fd8 fd9 fd10 fd11 fd12 fd13 fd14 fd15 fd16 fd17 fd18 fd19 fd20 fd21 fd22 fd23 fd24 fd25 fd26 fd27 fd28 fd29 fd30 fd31 fd32 fd33 fd34 fd35 fd36 fd37 fd38 fd39 fd40 fd41 fd42 fd43:FuncData}
  {cFeed:Addr}
  (a1:nsIn K mainGlobals "spoilt"=some (some (.ref f1))) (F1:Fun K "spoilt" "spoilt" Ztf f1 fd1)
  (a2:nsIn K mainGlobals "fits"=some (some (.ref f2))) (F2:Fun K "fits" "fits" Xky f2 fd2)
  (a3:nsIn K mainGlobals "ending"=some (some (.ref f3))) (F3:Fun K "ending" "ending" Zoa f3 fd3)
  (a4:nsIn K mainGlobals "next_top"=some (some (.ref f4))) (F4:Fun K "next_top" "next_top" Zgc f4 fd4)
  (a5:nsIn K mainGlobals "heights"=some (some (.ref f5))) (F5:Fun K "heights" "heights" Zou f5 fd5)
  (a6:nsIn K mainGlobals "last_kind"=some (some (.ref f6))) (F6:Fun K "last_kind" "last_kind" Zhj f6 fd6)
  (a7:nsIn K mainGlobals "told_cutting"=some (some (.ref f7))) (F7:Fun K "told_cutting" "told_cutting" Zdh f7 fd7)
  (a8:nsIn K mainGlobals "best"=some (some (.ref f8))) (F8:Fun K "best" "best" Xkw f8 fd8)
  (a9:nsIn K mainGlobals "may_go_on"=some (some (.ref f9))) (F9:Fun K "may_go_on" "may_go_on" Zhs f9 fd9)
  (a10:nsIn K mainGlobals "stop_ahead"=some (some (.ref f10))) (F10:Fun K "stop_ahead" "stop_ahead" Zfv f10 fd10)
  (a11:nsIn K mainGlobals "stops_ahead"=some (some (.ref f11))) (F11:Fun K "stops_ahead" "stops_ahead" Zch f11 fd11)
  (a12:nsIn K mainGlobals "common_stop"=some (some (.ref f12))) (F12:Fun K "common_stop" "common_stop" Zea f12 fd12)
  (a13:nsIn K mainGlobals "_law_cell"=some (some (.ref f13))) (F13:Fun K "_law_cell" "_law_cell" Zhq f13 fd13)
  (a14:nsIn K mainGlobals "_law_mix"=some (some (.ref f14))) (F14:Fun K "_law_mix" "_law_mix" Zjw f14 fd14)
  (a15:nsIn K mainGlobals "_law_row"=some (some (.ref f15))) (F15:Fun K "_law_row" "_law_row" Zli f15 fd15)
  (a16:nsIn K mainGlobals "_law_table"=some (some (.ref f16))) (F16:Fun K "_law_table" "_law_table" Zft f16 fd16)
  (a17:nsIn K mainGlobals "_law_flaw"=some (some (.ref f17))) (F17:Fun K "_law_flaw" "_law_flaw" Zhx f17 fd17)
  (a18:nsIn K mainGlobals "_law_roll"=some (some (.ref f18))) (F18:Fun K "_law_roll" "_law_roll" Zhv f18 fd18)
  (a19:nsIn K mainGlobals "_law_drawn"=some (some (.ref f19))) (F19:Fun K "_law_drawn" "_law_drawn" Zfr f19 fd19)
  (a20:nsIn K mainGlobals "_law_sums"=some (some (.ref f20))) (F20:Fun K "_law_sums" "_law_sums" Zhp f20 fd20)
  (a21:nsIn K mainGlobals "_law_good"=some (some (.ref f21))) (F21:Fun K "_law_good" "_law_good" Zhy f21 fd21)
  (a22:nsIn K mainGlobals "_law_heights"=some (some (.ref f22))) (F22:Fun K "_law_heights" "_law_heights" Zdf f22 fd22)
  (a23:nsIn K mainGlobals "_law_back"=some (some (.ref f23))) (F23:Fun K "_law_back" "_law_back" Zcu f23 fd23)
  (a24:nsIn K mainGlobals "_law_cut"=some (some (.ref f24))) (F24:Fun K "_law_cut" "_law_cut" Zjv f24 fd24)
  (a25:nsIn K mainGlobals "_law_starts"=some (some (.ref f25))) (F25:Fun K "_law_starts" "_law_starts" Zej f25 fd25)
  (a26:nsIn K mainGlobals "_law_stops"=some (some (.ref f26))) (F26:Fun K "_law_stops" "_law_stops" Zga f26 fd26)
  (a27:nsIn K mainGlobals "_law_settled"=some (some (.ref f27))) (F27:Fun K "_law_settled" "_law_settled" Zbt f27 fd27)
  (a28:nsIn K mainGlobals "_law_is_right"=some (some (.ref f28))) (F28:Fun K "_law_is_right" "_law_is_right" Zct f28 fd28)
  (a29:nsIn K mainGlobals "law"=some (some (.ref f29))) (F29:Fun K "law" "law" Xog f29 fd29)
  (a30:findIn K (.ref cFeed) "__init__"=some (some (.ref f30))) (i30:isFn K (.ref f30)=true)
  (F30:Fun K "__init__" "Feed.__init__" Zhl f30 fd30)
  (a31:findIn K (.ref cFeed) "take"=some (some (.ref f31))) (i31:isFn K (.ref f31)=true)
  (F31:Fun K "take" "Feed.take" Zia f31 fd31)
  (a32:findIn K (.ref cFeed) "close"=some (some (.ref f32))) (i32:isFn K (.ref f32)=true)
  (F32:Fun K "close" "Feed.close" Zfq f32 fd32)
  (a33:findIn K (.ref cFeed) "refuse_closed"=some (some (.ref f33))) (i33:isFn K (.ref f33)=true)
  (F33:Fun K "refuse_closed" "Feed.refuse_closed" Zag f33 fd33)
  (a34:findIn K (.ref cFeed) "closed"=some (some (.ref f34))) (i34:isFn K (.ref f34)=true)
  (F34:Fun K "closed" "Feed.closed" Zed f34 fd34)
  (a35:findIn K (.ref cFeed) "cells"=some (some (.ref f35))) (i35:isFn K (.ref f35)=true)
  (F35:Fun K "cells" "Feed.cells" Zfs f35 fd35)
  (a36:findIn K (.ref cFeed) "worth"=some (some (.ref f36))) (i36:isFn K (.ref f36)=true)
  (F36:Fun K "worth" "Feed.worth" Zfy f36 fd36)
  (a37:findIn K (.ref cFeed) "cutting"=some (some (.ref f37))) (i37:isFn K (.ref f37)=true)
  (F37:Fun K "cutting" "Feed.cutting" Zdm f37 fd37)
  (a38:findIn K (.ref cFeed) "sure"=some (some (.ref f38))) (i38:isFn K (.ref f38)=true)
  (F38:Fun K "sure" "Feed.sure" Zhr f38 fd38)
  (a39:findIn K (.ref cFeed) "told_up_to"=some (some (.ref f39))) (i39:isFn K (.ref f39)=true)
  (F39:Fun K "told_up_to" "Feed.told_up_to" Zbm f39 fd39)
  (a40:findIn K (.ref cFeed) "settled"=some (some (.ref f40))) (i40:isFn K (.ref f40)=true)
  (F40:Fun K "settled" "Feed.settled" Zdi f40 fd40)
  (a41:findIn K (.ref cFeed) "open_starts"=some (some (.ref f41))) (i41:isFn K (.ref f41)=true)
  (F41:Fun K "open_starts" "Feed.open_starts" Jq f41 fd41)
  (a42:findIn K (.ref cFeed) "is_open"=some (some (.ref f42))) (i42:isFn K (.ref f42)=true)
  (F42:Fun K "is_open" "Feed.is_open" Zav f42 fd42)
  (a43:findIn K (.ref cFeed) "between"=some (some (.ref f43))) (i43:isFn K (.ref f43)=true)
  (F43:Fun K "between" "Feed.between" Zdl f43 fd43)
  (z1:nsIn K mainGlobals "sum"=some none)
  (z2:nsIn K mainGlobals "len"=some none)
  (z3:nsIn K mainGlobals "max"=some none)
  (z4:nsIn K mainGlobals "list"=some none)
  (z5:nsIn K mainGlobals "reversed"=some none)
  (z6:nsIn K mainGlobals "range"=some none)
  (z7:nsIn K mainGlobals "min"=some none)
  (z8:nsIn K mainGlobals "any"=some none)
  {tv1:Tok} (v1:nsIn K mainGlobals "MOST_CELLS"=some (some (.int 200 tv1)))
  (gFeed:nsIn K mainGlobals "Feed"=some (some (.ref cFeed))) (pgFeed:plainGet K cFeed Str.empty=true) (hdFeed:hasDictIn K cFeed=true) (poFeed:plainOver K cFeed=true) (saFeed:findIn K (.ref cFeed) "__setattr__"=some (some (.builtin "object.__setattr__"))) (mkFeed:makesIn K cFeed=true) (kcFeed:keepIn K (.ref cFeed)=true)
  (nFeed_kinds:findIn K (.ref cFeed) "kinds"=some none)
  (nFeed_weights:findIn K (.ref cFeed) "weights"=some none)
  (nFeed_tops:findIn K (.ref cFeed) "tops"=some none)
  (nFeed_shut:findIn K (.ref cFeed) "shut"=some none)
  : ∃fd:FuncData,(∀(s:Shared) (v:Value),BindsTo s fd ⟨[v],[]⟩ [("_law_script",v)])∧∀base:Heap,K.In base→base.Ns mainGlobals mg→Jx l.prog w K mg base CX0 16 fa fd ["_law_script"] (Xnk K):=by
 have e:=hfa.symm.trans (mg_of X G a29)
 cases e
 obtain ⟨C,hFeed⟩:∃C:String→Addr,C "Feed"=cFeed:=⟨fun x=>if x="Feed" then cFeed else 0,by simp⟩
 subst hFeed
 have T:Txt mg K C:=⟨mg_none_of X G z1,mg_none_of X G z2,mg_none_of X G z3,mg_none_of X G z4,mg_none_of X G z5,mg_none_of X G z6,mg_none_of X G z7,mg_none_of X G z8,⟨tv1,mg_of X G v1⟩,mg_of X G gFeed,⟨pgFeed,hdFeed,poFeed,saFeed⟩,nFeed_kinds,nFeed_weights,nFeed_tops,nFeed_shut⟩
 obtain ⟨oc,od,kV,doc,pm,an,cdv,ct,osl,rfl,lk,hcd⟩:=F29.ex
 refine ⟨fnOf "law" "law" (Zel Xog) (Zbl Xog) (Zm Xog) .none kV doc pm an cdv ct,fun s v=>.of_eq rfl,fun base _ _=>?_⟩
 have b1:=F1.binds (ps:=["roll","begin","end"]) fun _ _ _ _ _ _=>Zix (fun _ _ _=>rfl)
 have Dspoilt:Def l.prog w K mg base CX0 7 "spoilt" ["roll","begin","end"] (spD K (C) 3 2 Dl.Zci):=⟨f1,_,mg_of X G a1,F1.kp,b1,Xfh F1 T⟩
 have b12:=F12.binds (ps:=["ahead","one","other"]) fun _ _ _ _ _ _=>Zix (fun _ _ _=>rfl)
 have Dcommon_stop:Def l.prog w K mg base CX0 7 "common_stop" ["ahead","one","other"] (spD K (C) 3 2 Dl.Zar):=⟨f12,_,mg_of X G a12,F12.kp,b12,Znw F12 T⟩
 have b13:=F13.binds (ps:=["_law_script","_law_place"]) fun _ _ _ _ _ _=>Zex (fun _ _=>rfl)
 have D_law_cell:Def l.prog w K mg base CX0 7 "_law_cell" ["_law_script","_law_place"] (spD K (C) 2 2 Dl.Zbe):=⟨f13,_,mg_of X G a13,F13.kp,b13,Zrr F13 T⟩
 have b14:=F14.binds (ps:=["_law_cell_here","_law_k"]) fun _ _ _ _ _ _=>Zex (fun _ _=>rfl)
 have D_law_mix:Def l.prog w K mg base CX0 7 "_law_mix" ["_law_cell_here","_law_k"] (spD K (C) 2 2 Dl.Zbw):=⟨f14,_,mg_of X G a14,F14.kp,b14,Zwg F14 T⟩
 have b20:=F20.binds (ps:=["_law_roll_here"]) fun _ _ _ _ _ _=>Zlf (fun _=>rfl)
 have D_law_sums:Def l.prog w K mg base CX0 7 "_law_sums" ["_law_roll_here"] (spD K (C) 1 2 Dl.Yu):=⟨f20,_,mg_of X G a20,F20.kp,b20,Zsk F20 T⟩
 have b21:=F21.binds (ps:=["_law_sums_here","_law_kind","_law_at"]) fun _ _ _ _ _ _=>Zix (fun _ _ _=>rfl)
 have D_law_good:Def l.prog w K mg base CX0 7 "_law_good" ["_law_sums_here","_law_kind","_law_at"] (spD K (C) 3 2 Dl.Jl):=⟨f21,_,mg_of X G a21,F21.kp,b21,Zsj F21 T⟩
 have b24:=F24.binds (ps:=["_law_before","_law_end"]) fun _ _ _ _ _ _=>Zex (fun _ _=>rfl)
 have D_law_cut:Def l.prog w K mg base CX0 7 "_law_cut" ["_law_before","_law_end"] (spD K (C) 2 2 Dl.Zak):=⟨f24,_,mg_of X G a24,F24.kp,b24,Zwl F24 T⟩
 have b26:=F26.binds (ps:=["_law_before","_law_end"]) fun _ _ _ _ _ _=>Zex (fun _ _=>rfl)
 have D_law_stops:Def l.prog w K mg base CX0 7 "_law_stops" ["_law_before","_law_end"] (spD K (C) 2 2 Dl.Zaj):=⟨f26,_,mg_of X G a26,F26.kp,b26,Zqd F26 T⟩
 have b30:=F30.binds (ps:=["self","table"]) fun _ _ _ _ _ _=>Zex (fun _ _=>rfl)
 have DFeed_init:Xlf l.prog w K mg base CX0 7 (C "Feed") ["self","table"] (spM K C 1 Dl.Jp):=⟨f30,_,⟨mkFeed,a30,i30,kcFeed⟩,b30,Zsa F30 T⟩
 have b33:=F33.binds (ps:=["self"]) fun _ _ _ _ _ _=>Zlf (fun _=>rfl)
 have DFeed_refuse_closed:Zdc l.prog w K mg base CX0 7 (C "Feed") "refuse_closed" ["self"] (spD K C 1 2 Dl.Xm):=⟨f33,_,⟨a33,i33,F33.kp⟩,b33,Zev F33 T⟩
 have b34:=F34.binds (ps:=["self"]) fun _ _ _ _ _ _=>Zlf (fun _=>rfl)
 have DFeed_closed:Zdc l.prog w K mg base CX0 7 (C "Feed") "closed" ["self"] (spD K C 1 2 Dl.Jr):=⟨f34,_,⟨a34,i34,F34.kp⟩,b34,Zoq F34 T⟩
 have b35:=F35.binds (ps:=["self"]) fun _ _ _ _ _ _=>Zlf (fun _=>rfl)
 have DFeed_cells:Zdc l.prog w K mg base CX0 7 (C "Feed") "cells" ["self"] (spD K C 1 2 Dl.Jm):=⟨f35,_,⟨a35,i35,F35.kp⟩,b35,Zpj F35 T⟩
 have b36:=F36.binds (ps:=["self"]) fun _ _ _ _ _ _=>Zlf (fun _=>rfl)
 have DFeed_worth:Zdc l.prog w K mg base CX0 7 (C "Feed") "worth" ["self"] (spD K C 1 2 Dl.Ya):=⟨f36,_,⟨a36,i36,F36.kp⟩,b36,Zqi F36 T⟩
 have b2:=F2.binds (ps:=["roll","kind","place"]) fun _ _ _ _ _ _=>Zix (fun _ _ _=>rfl)
 have Dfits:Def l.prog w K mg base CX0 8 "fits" ["roll","kind","place"] (spD K (C) 3 2 Dl.Znd):=⟨f2,_,mg_of X G a2,F2.kp,b2,Xqo F2 T Dspoilt⟩
 have b9:=F9.binds (ps:=["cells","kind","place"]) fun _ _ _ _ _ _=>Zix (fun _ _ _=>rfl)
 have Dmay_go_on:Def l.prog w K mg base CX0 8 "may_go_on" ["cells","kind","place"] (spD K (C) 3 2 Dl.Jn):=⟨f9,_,mg_of X G a9,F9.kp,b9,Ztl F9 T Dspoilt⟩
 have b15:=F15.binds (ps:=["_law_script","_law_place","_law_sizes"]) fun _ _ _ _ _ _=>Zix (fun _ _ _=>rfl)
 have D_law_row:Def l.prog w K mg base CX0 8 "_law_row" ["_law_script","_law_place","_law_sizes"] (spD K (C) 3 2 Dl.Yt):=⟨f15,_,mg_of X G a15,F15.kp,b15,Zwv F15 T D_law_cell D_law_mix⟩
 have b22:=F22.binds (ps:=["_law_roll_here","_law_table_here"]) fun _ _ _ _ _ _=>Zex (fun _ _=>rfl)
 have D_law_heights:Def l.prog w K mg base CX0 8 "_law_heights" ["_law_roll_here","_law_table_here"] (spD K (C) 2 2 Dl.Xg):=⟨f22,_,mg_of X G a22,F22.kp,b22,Zme F22 T D_law_sums D_law_good⟩
 have b27:=F27.binds (ps:=["_law_before","_law_starts_here"]) fun _ _ _ _ _ _=>Zex (fun _ _=>rfl)
 have D_law_settled:Def l.prog w K mg base CX0 8 "_law_settled" ["_law_before","_law_starts_here"] (spD K (C) 2 2 Dl.Jg):=⟨f27,_,mg_of X G a27,F27.kp,b27,Zmd F27 T D_law_stops⟩
 have b3:=F3.binds (ps:=["roll","table","end"]) fun _ _ _ _ _ _=>Zix (fun _ _ _=>rfl)
 have Dending:Def l.prog w K mg base CX0 9 "ending" ["roll","table","end"] (spD K (C) 3 2 Dl.Zbf):=⟨f3,_,mg_of X G a3,F3.kp,b3,Xem F3 T Dfits⟩
 have b16:=F16.binds (ps:=["_law_script","_law_place","_law_most"]) fun _ _ _ _ _ _=>Zix (fun _ _ _=>rfl)
 have D_law_table:Def l.prog w K mg base CX0 9 "_law_table" ["_law_script","_law_place","_law_most"] (spD K (C) 3 2 Dl.Zbh):=⟨f16,_,mg_of X G a16,F16.kp,b16,Zpe F16 T D_law_row⟩
 have b17:=F17.binds (ps:=["_law_script","_law_place","_law_most"]) fun _ _ _ _ _ _=>Zix (fun _ _ _=>rfl)
 have D_law_flaw:Def l.prog w K mg base CX0 9 "_law_flaw" ["_law_script","_law_place","_law_most"] (spD K (C) 3 2 Dl.Zcf):=⟨f17,_,mg_of X G a17,F17.kp,b17,Zrp F17 T D_law_row⟩
 have b18:=F18.binds (ps:=["_law_script","_law_place","_law_most","_law_flaw_here"]) fun _ _ _ _ _ _=>Zwt (fun _ _ _ _=>rfl)
 have D_law_roll:Def l.prog w K mg base CX0 9 "_law_roll" ["_law_script","_law_place","_law_most","_law_flaw_here"] (spD K (C) 4 2 Dl.Zca):=⟨f18,_,mg_of X G a18,F18.kp,b18,Ztj F18 T D_law_row⟩
 have b23:=F23.binds (ps:=["_law_roll_here","_law_table_here"]) fun _ _ _ _ _ _=>Zex (fun _ _=>rfl)
 have D_law_back:Def l.prog w K mg base CX0 9 "_law_back" ["_law_roll_here","_law_table_here"] (spD K (C) 2 2 Dl.Zcg):=⟨f23,_,mg_of X G a23,F23.kp,b23,Zrz F23 T D_law_sums D_law_heights D_law_good⟩
 have b25:=F25.binds (ps:=["_law_roll_here","_law_table_here"]) fun _ _ _ _ _ _=>Zex (fun _ _=>rfl)
 have D_law_starts:Def l.prog w K mg base CX0 9 "_law_starts" ["_law_roll_here","_law_table_here"] (spD K (C) 2 2 Dl.Zas):=⟨f25,_,mg_of X G a25,F25.kp,b25,Zoe F25 T D_law_sums D_law_heights⟩
 have b42:=F42.binds (ps:=["self","place"]) fun _ _ _ _ _ _=>Zex (fun _ _=>rfl)
 have DFeed_is_open:Zdc l.prog w K mg base CX0 9 (C "Feed") "is_open" ["self","place"] (spD K C 2 2 Dl.Ji):=⟨f42,_,⟨a42,i42,F42.kp⟩,b42,Zlu F42 T Dmay_go_on DFeed_worth⟩
 have b4:=F4.binds (ps:=["roll","table","tops"]) fun _ _ _ _ _ _=>Zix (fun _ _ _=>rfl)
 have Dnext_top:Def l.prog w K mg base CX0 10 "next_top" ["roll","table","tops"] (spD K (C) 3 2 Dl.Zaz):=⟨f4,_,mg_of X G a4,F4.kp,b4,Zwh F4 T Dending⟩
 have b6:=F6.binds (ps:=["roll","table","tops","end"]) fun _ _ _ _ _ _=>Zwt (fun _ _ _ _=>rfl)
 have Dlast_kind:Def l.prog w K mg base CX0 10 "last_kind" ["roll","table","tops","end"] (spD K (C) 4 2 Dl.Yx):=⟨f6,_,mg_of X G a6,F6.kp,b6,Ztn F6 T Dending⟩
 have b19:=F19.binds (ps:=["_law_script","_law_place","_law_most","_law_kinds"]) fun _ _ _ _ _ _=>Zwt (fun _ _ _ _=>rfl)
 have D_law_drawn:Def l.prog w K mg base CX0 10 "_law_drawn" ["_law_script","_law_place","_law_most","_law_kinds"] (spD K (C) 4 2 Dl.Zam):=⟨f19,_,mg_of X G a19,F19.kp,b19,Zpp F19 T D_law_flaw D_law_roll D_law_table⟩
 have b41:=F41.binds (ps:=["self"]) fun _ _ _ _ _ _=>Zlf (fun _=>rfl)
 have DFeed_open_starts:Zdc l.prog w K mg base CX0 10 (C "Feed") "open_starts" ["self"] (spD K C 1 2 Dl.Xn):=⟨f41,_,⟨a41,i41,F41.kp⟩,b41,Zgr F41 T DFeed_is_open⟩
 have b5:=F5.binds (ps:=["roll","table"]) fun _ _ _ _ _ _=>Zex (fun _ _=>rfl)
 have Dheights:Def l.prog w K mg base CX0 11 "heights" ["roll","table"] (spD K (C) 2 2 Dl.Zda):=⟨f5,_,mg_of X G a5,F5.kp,b5,Xan F5 T Dnext_top⟩
 have b7:=F7.binds (ps:=["roll","table","tops","end"]) fun _ _ _ _ _ _=>Zwt (fun _ _ _ _=>rfl)
 have Dtold_cutting:Def l.prog w K mg base CX0 11 "told_cutting" ["roll","table","tops","end"] (spD K (C) 4 2 Dl.Yv):=⟨f7,_,mg_of X G a7,F7.kp,b7,Zlq F7 T Dlast_kind⟩
 have b10:=F10.binds (ps:=["cells","table","tops","place"]) fun _ _ _ _ _ _=>Zwt (fun _ _ _ _=>rfl)
 have Dstop_ahead:Def l.prog w K mg base CX0 11 "stop_ahead" ["cells","table","tops","place"] (spD K (C) 4 2 Dl.Zal):=⟨f10,_,mg_of X G a10,F10.kp,b10,Zqz F10 T Dlast_kind⟩
 have b8:=F8.binds (ps:=["roll","table"]) fun _ _ _ _ _ _=>Zex (fun _ _=>rfl)
 have Dbest:Def l.prog w K mg base CX0 12 "best" ["roll","table"] (spD K (C) 2 2 Dl.Zpy):=⟨f8,_,mg_of X G a8,F8.kp,b8,Xry F8 T Dheights Dtold_cutting⟩
 have b11:=F11.binds (ps:=["cells","table","tops"]) fun _ _ _ _ _ _=>Zix (fun _ _ _=>rfl)
 have Dstops_ahead:Def l.prog w K mg base CX0 12 "stops_ahead" ["cells","table","tops"] (spD K (C) 3 2 Dl.Zau):=⟨f11,_,mg_of X G a11,F11.kp,b11,Znv F11 T Dstop_ahead⟩
 have b39:=F39.binds (ps:=["self","place"]) fun _ _ _ _ _ _=>Zex (fun _ _=>rfl)
 have DFeed_told_up_to:Zdc l.prog w K mg base CX0 12 (C "Feed") "told_up_to" ["self","place"] (spD K C 2 2 Dl.Xw):=⟨f39,_,⟨a39,i39,F39.kp⟩,b39,Zhk F39 T Dtold_cutting⟩
 have b37:=F37.binds (ps:=["self"]) fun _ _ _ _ _ _=>Zlf (fun _=>rfl)
 have DFeed_cutting:Zdc l.prog w K mg base CX0 13 (C "Feed") "cutting" ["self"] (spD K C 1 2 Dl.Yf):=⟨f37,_,⟨a37,i37,F37.kp⟩,b37,Zlr F37 T DFeed_told_up_to⟩
 have b40:=F40.binds (ps:=["self"]) fun _ _ _ _ _ _=>Zlf (fun _=>rfl)
 have DFeed_settled:Zdc l.prog w K mg base CX0 13 (C "Feed") "settled" ["self"] (spD K C 1 2 Dl.Yk):=⟨f40,_,⟨a40,i40,F40.kp⟩,b40,Zlw F40 T Dstops_ahead Dcommon_stop DFeed_open_starts⟩
 have b43:=F43.binds (ps:=["self","rest"]) fun _ _ _ _ _ _=>Zex (fun _ _=>rfl)
 have DFeed_between:Zdc l.prog w K mg base CX0 13 (C "Feed") "between" ["self","rest"] (spD K C 2 2 Dl.Yj):=⟨f43,_,⟨a43,i43,F43.kp⟩,b43,Zlx F43 T Dbest DFeed_worth⟩
 have b38:=F38.binds (ps:=["self"]) fun _ _ _ _ _ _=>Zlf (fun _=>rfl)
 have DFeed_sure:Zdc l.prog w K mg base CX0 14 (C "Feed") "sure" ["self"] (spD K C 1 2 Dl.Yd):=⟨f38,_,⟨a38,i38,F38.kp⟩,b38,Ztd F38 T DFeed_told_up_to DFeed_settled⟩
 have b28:=F28.binds (ps:=["_law_feed","_law_roll_here","_law_table_here","_law_ended"]) fun _ _ _ _ _ _=>Zwt (fun _ _ _ _=>rfl)
 have D_law_is_right:Def l.prog w K mg base CX0 15 "_law_is_right" ["_law_feed","_law_roll_here","_law_table_here","_law_ended"] (spD K (C) 4 2 Dl.Yo):=⟨f28,_,mg_of X G a28,F28.kp,b28,Zjs F28 T D_law_back D_law_starts D_law_settled D_law_heights D_law_cut DFeed_cutting DFeed_open_starts DFeed_between DFeed_cells DFeed_settled DFeed_sure DFeed_worth⟩
 have b31:=F31.binds (ps:=["self","weight"]) fun _ _ _ _ _ _=>Zex (fun _ _=>rfl)
 have DFeed_take:Zdc l.prog w K mg base CX0 15 (C "Feed") "take" ["self","weight"] (spM K C 1 Dl.Zbb):=⟨f31,_,⟨a31,i31,F31.kp⟩,b31,Zsw F31 T Dnext_top DFeed_refuse_closed DFeed_sure⟩
 have b32:=F32.binds (ps:=["self"]) fun _ _ _ _ _ _=>Zlf (fun _=>rfl)
 have DFeed_close:Zdc l.prog w K mg base CX0 15 (C "Feed") "close" ["self"] (spM K C 0 Dl.Zan):=⟨f32,_,⟨a32,i32,F32.kp⟩,b32,Zpn F32 T DFeed_refuse_closed DFeed_sure⟩
 exact (oklaw (C:=C) F29 T D_law_drawn D_law_row D_law_is_right DFeed_init DFeed_close DFeed_cutting DFeed_closed DFeed_take).imp fun vs H Q E h=>by
  obtain ⟨a,ns,rfl,hz,hl,q⟩:=h
  refine ⟨[.scr ns],[],rfl,⟨.ref a,[],[],[],rfl,⟨a,rfl,hz,rfl⟩,⟨rfl,rfl⟩,rfl⟩,?_⟩
  rw [Xcs ns hl]
  rintro v H' _ ⟨B,r,_⟩
  obtain ⟨rfl,_⟩:=r
  exact q H'
theorem walk {l:PySem.W.OpenLaw}{q:Program}{loose:List Str}{XP:(Str→Option Value)→Heap→Prop}{YP:World→Heap→Prop}{d:DefRec}{K:Params→Frag}(hn:l.most=some 63)(hdf:d.params.defaults=[])
    (hY:∀(w:World) (h:Heap),YP w h→(K w.params).In h)
    (F:∀(w:World) (mg:Str→Option Value) (fa:Addr) (h:Heap),(K w.params).In h→h.Ns mainGlobals mg→mg d.name=some (.ref fa)→
      ∃fd:FuncData,(∀(s:Shared) (u:Value),BindsTo s fd ⟨[u],[]⟩ [("_law_script",u)])∧∀base:Heap,(K w.params).In base→base.Ns mainGlobals mg→Jx l.prog w (K w.params) mg base CX0 16 fa fd ["_law_script"] (Xnk (K w.params))) :
    PySem.W.WalkO q loose XP YP l.row.toRowW d [] (fun f vs=>PySem.call f vs):=
  L2.Xmj (n:=63) (k:=16) (x:="_law_script") (CX:=fun _=>CX0) (sp:=fun w=>Xnk (K w.params)) hn (by decide) hdf ⟨rfl,by decide,by decide,rfl⟩ hY F (fun _ H a ns hl hO hS=>⟨a,ns,rfl,fz_of hO hS,hl,fun _=>rfl⟩) fun _ _ _ _ _ z=>z
end K57
open PySem PySem.W PyProof.Rows
set_option maxRecDepth 100000 in
set_option maxHeartbeats 0 in
theorem PySem.Challenge.cw_selvage_k57_two_by_turns_holds : PySem.Challenge.rw_selvage_k57_two_by_turns.Holds := by
 w_on;o_law;z_head;(case hw=>w_witness2)
 k_fill
 refine L2.Xgc (fun _=>by kernel_rfl) (K57.walk (l:=PySem.Challenge.rw_selvage_k57_two_by_turns) rfl rfl (fun w h Y=>Y) ?F)
 case F =>
  intro w mg fa h KX G hmg
  refine' K57.all_mk KX G hmg ?a1 (L2.Xu ?l1 ?c1 ?k1) ?a2 (L2.Xu ?l2 ?c2 ?k2) ?a3 (L2.Xu ?l3 ?c3 ?k3) ?a4 (L2.Xu ?l4 ?c4 ?k4) ?a5 (L2.Xu ?l5 ?c5 ?k5) ?a6 (L2.Xu ?l6 ?c6 ?k6) ?a7 (L2.Xu ?l7 ?c7 ?k7) ?a8 (L2.Xu ?l8 ?c8 ?k8) ?a9 (L2.Xu ?l9 ?c9 ?k9) ?a10 (L2.Xu ?l10 ?c10 ?k10) ?a11 (L2.Xu ?l11 ?c11 ?k11) ?a12 (L2.Xu ?l12 ?c12 ?k12) ?a13 (L2.Xu ?l13 ?c13 ?k13) ?a14 (L2.Xu ?l14 ?c14 ?k14) ?a15 (L2.Xu ?l15 ?c15 ?k15) ?a16 (L2.Xu ?l16 ?c16 ?k16) ?a17 (L2.Xu ?l17 ?c17 ?k17) ?a18 (L2.Xu ?l18 ?c18 ?k18) ?a19 (L2.Xu ?l19 ?c19 ?k19) ?a20 (L2.Xu ?l20 ?c20 ?k20) ?a21 (L2.Xu ?l21 ?c21 ?k21) ?a22 (L2.Xu ?l22 ?c22 ?k22) ?a23 (L2.Xu ?l23 ?c23 ?k23) ?a24 (L2.Xu ?l24 ?c24 ?k24) ?a25 (L2.Xu ?l25 ?c25 ?k25) ?a26 (L2.Xu ?l26 ?c26 ?k26) ?a27 (L2.Xu ?l27 ?c27 ?k27) ?a28 (L2.Xu ?l28 ?c28 ?k28) ?a29 (L2.Xu ?l29 ?c29 ?k29) ?a30 ?i30 (L2.Xu ?l30 ?c30 ?k30) ?a31 ?i31 (L2.Xu ?l31 ?c31 ?k31) ?a32 ?i32 (L2.Xu ?l32 ?c32 ?k32) ?a33 ?i33 (L2.Xu ?l33 ?c33 ?k33) ?a34 ?i34 (L2.Xu ?l34 ?c34 ?k34) ?a35 ?i35 (L2.Xu ?l35 ?c35 ?k35) ?a36 ?i36 (L2.Xu ?l36 ?c36 ?k36) ?a37 ?i37 (L2.Xu ?l37 ?c37 ?k37) ?a38 ?i38 (L2.Xu ?l38 ?c38 ?k38) ?a39 ?i39 (L2.Xu ?l39 ?c39 ?k39) ?a40 ?i40 (L2.Xu ?l40 ?c40 ?k40) ?a41 ?i41 (L2.Xu ?l41 ?c41 ?k41) ?a42 ?i42 (L2.Xu ?l42 ?c42 ?k42) ?a43 ?i43 (L2.Xu ?l43 ?c43 ?k43) ?z1 ?z2 ?z3 ?z4 ?z5 ?z6 ?z7 ?z8 ?v1 ?gFeed ?pgFeed ?hdFeed ?poFeed ?saFeed ?mkFeed ?kcFeed ?nFeed_kinds ?nFeed_weights ?nFeed_tops ?nFeed_shut
  case gFeed|a1|l1|c1|k1|a2|l2|c2|k2|a3|l3|c3|k3|a4|l4|c4|k4|a5|l5|c5|k5|a6|l6|c6|k6|a7|l7|c7|k7|a8|l8|c8|k8|a9|l9|c9|k9|a10|l10|c10|k10|a11|l11|c11|k11|a12|l12|c12|k12|a13|l13|c13|k13|a14|l14|c14|k14|a15|l15|c15|k15|a16|l16|c16|k16|a17|l17|c17|k17|a18|l18|c18|k18|a19|l19|c19|k19|a20|l20|c20|k20|a21|l21|c21|k21|a22|l22|c22|k22|a23|l23|c23|k23|a24|l24|c24|k24|a25|l25|c25|k25|a26|l26|c26|k26|a27|l27|c27|k27|a28|l28|c28|k28|a29|l29|c29|k29|a30|i30|l30|c30|k30|a31|i31|l31|c31|k31|a32|i32|l32|c32|k32|a33|i33|l33|c33|k33|a34|i34|l34|c34|k34|a35|i35|l35|c35|k35|a36|i36|l36|c36|k36|a37|i37|l37|c37|k37|a38|i38|l38|c38|k38|a39|i39|l39|c39|k39|a40|i40|l40|c40|k40|a41|i41|l41|c41|k41|a42|i42|l42|c42|k42|a43|i43|l43|c43|k43|z1|z2|z3|z4|z5|z6|z7|z8|v1|pgFeed|hdFeed|poFeed|saFeed|mkFeed|kcFeed|nFeed_kinds|nFeed_weights|nFeed_tops|nFeed_shut=>k_is
