import PyProof.Rows.All
import Wide.All
import OpenK.AllK
import Wide.FinOn
import Lean
import PyProof.EqAt
import PyProof.EqKinds
import PyProof.TupleCall
import PySem.Challenge.RW_selvage_k77_bounds_seen_otherwise
set_option Elab.async false
set_option linter.all false
set_option maxRecDepth 100000
set_option genSizeOfSpec false
set_option genInjectivity false
open PySem.W (CodeHd Frag clsIn codeHdIn codeHd_of_K codeIn envX exmOne findIn fnOf hideAll isFn keepIn kla_fn kla_obj methodObj mg_none_of mg_of nsIn specialIn subIn tabObj typeIn)
open List (all_eq_true append_assoc append_nil drop_of_length_le ext_getElem filter_cons flatten_cons foldl_cons getD_eq_getElem?_getD getElem?_append_left getElem?_append_right getElem?_eq_getElem getElem?_eq_none getElem?_map getElem?_set_ne getElem?_set_self getElem_mem getElem_zip length_append length_cons length_drop length_filter_le length_map length_nil length_range length_replicate length_reverse length_set length_take length_zip lookup_cons map_append map_congr_left map_cons map_drop map_map map_take mem_append_left mem_append_right mem_cons mem_cons_of_mem mem_cons_self mem_of_getElem? nodup_nil not_mem_nil of_mem_zip replicate_succ reverse_cons set_append_right size_toArray sum_append sum_cons sum_nil take_of_length_le take_succ_cons take_zero)
open Nat (le_add_right le_of_lt le_refl le_succ le_trans lt_irrefl lt_of_lt_of_le lt_succ_self lt_trans ne_of_gt ne_of_lt sub_self zero_le)
open Int (add_assoc emod_lt_of_pos emod_nonneg mul_nonneg natCast_nonneg toNat_lt toNat_natCast zero_add)
open PySem.Heap (get?_push_of_some get?_push_size lt_size size_push)
def PySem.W.Fast.tw2100153077656097227:=0
def PySem.W.Fast.tw9212851450366086294:=0
def PySem.W.Fast.tw16152880246481962762:=0
def PySem.W.Fast.tw12973718698700368121:=0
def PySem.W.Fast.tw10901152874043550142:=0
def PySem.W.Fast.tw15745482545172782736:=0
def PySem.W.Fast.tw4002446923302949684:=0
def PySem.W.Fast.tw17616617748401128547:=0
def PySem.W.Fast.tw9684270537730754935:=0
def PySem.W.Fast.tw8391329982858806605:=0
def PySem.W.Fast.tw11149311303506122031:=0
theorem aT0 (h:True:=by first | exact .inl rfl | exact .inr rfl | assumption):True:=True.intro
theorem aT3 (h:True:=by first | exact Or.inl rfl | exact Or.inr (Or.inl rfl) | exact Or.inr (Or.inr rfl)):True:=True.intro
namespace L2
open PySem PySem.Spec PyProof.Rows
noncomputable abbrev Key:=Sum Int Str
noncomputable def Xkq:Key→Value→Bool
 | .inl k,v=>Value.isInt k v
 | .inr x,v=>Value.isStrOf x v
noncomputable def keyH (w:World):Key→Int
 | .inl k=>hashInt k
 | .inr x=>hashStr w x
theorem Ys:∀{k:Key} {v:Value},Xkq k v=true→(∃i t,k=Sum.inl i∧v=Value.int i t)∨(∃x t,k=Sum.inr x∧v=Value.str x t)
 | .inl i,v,h=>by
  obtain ⟨t,e⟩:=Value.isInt_shape (k:=i) (v:=v) h
  exact .inl ⟨i,t,rfl,e⟩
 | .inr x,v,h=>by
  obtain ⟨t,e⟩:=Value.isStrOf_shape (x:=x) (v:=v) h
  exact .inr ⟨x,t,rfl,e⟩
theorem Xme (a b:Int):decide ((Sum.inl a:Key)=Sum.inl b)=(a==b):=by
 by_cases e:a=b
 ·subst e;simp
 ·have h:¬(Sum.inl a:Key)=Sum.inl b:=fun q=>e (Sum.inl.inj q)
  rw [decide_eq_false h]
  exact (beq_eq_false_iff_ne.mpr e).symm
theorem Xnn (a b:Str):decide ((Sum.inr a:Key)=Sum.inr b)=decide (a=b):=by
 by_cases e:a=b
 ·subst e;simp
 ·have h:¬(Sum.inr a:Key)=Sum.inr b:=fun q=>e (Sum.inr.inj q)
  rw [decide_eq_false h,decide_eq_false e]
theorem Xpd (a:Int)(b:Str):decide ((Sum.inl a:Key)=Sum.inr b)=false:=decide_eq_false (fun q=>nomatch q)
theorem Xkj (a:Str)(b:Int):decide ((Sum.inr a:Key)=Sum.inl b)=false:=decide_eq_false (fun q=>nomatch q)
noncomputable def Zvv (prog:Program)(w:World):PySem.KeyKind prog w Key where
 is:=Xkq
 hash:=keyH w
 inj:=fun v a b ha hb=>by
  rcases Ys ha with ⟨i,t,rfl,rfl⟩ | ⟨x,t,rfl,rfl⟩
  ·rcases Ys hb with ⟨j,u,rfl,e⟩ | ⟨y,u,rfl,e⟩
   ·injection e with e1 _;rw [e1]
   ·exact nomatch e
  ·rcases Ys hb with ⟨j,u,rfl,e⟩ | ⟨y,u,rfl,e⟩
   ·exact nomatch e
   ·injection e with e1 _;rw [e1]
 byValue:=fun k v h=>by
  rcases Ys h with ⟨i,t,rfl,rfl⟩ | ⟨x,t,rfl,rfl⟩<;>rfl
 pyHash:=fun hv h=>by
  rcases Ys hv with ⟨i,t,rfl,rfl⟩ | ⟨x,t,rfl,rfl⟩
  ·exact wpAny_pyHash_int h
  ·exact wpAny_pyHash_str h
 eqBool:=fun hu hv h=>by
  rcases Ys hu with ⟨i,t,rfl,rfl⟩ | ⟨x,t,rfl,rfl⟩
  ·rcases Ys hv with ⟨j,u,rfl,rfl⟩ | ⟨y,u,rfl,rfl⟩
   ·rw [Xme] at h;exact wpAny_eqBool_int h
   ·rw [Xpd] at h;exact SeqAt.EqAt.int_str i t y u _ _ _ _ h
  ·rcases Ys hv with ⟨j,u,rfl,rfl⟩ | ⟨y,u,rfl,rfl⟩
   ·rw [Xkj] at h;exact SeqAt.EqAt.str_int x t j u _ _ _ _ h
   ·rw [Xnn] at h;exact wpAny_eqBool_str h
 «strs»:=fun k x t v h=>by
  rcases Ys h with ⟨i,u,rfl,e⟩ | ⟨y,u,rfl,e⟩
  ·exact nomatch e
  ·injection e with e1 _
   subst e1
   cases v<;>rfl
set_option genInjectivity true in
inductive V where
 | non | bl (b:Bool) | int (i:Int) | str (x:Str) | byt (b:Array UInt8) | flt (b:UInt64) | ref (a:Addr) | ty (n:String)
 deriving DecidableEq
noncomputable def RelV:V→Value→Prop
 | .non,u=>u=Value.none
 | .bl b,u=>u=Value.bool b
 | .int i,u=>∃t,u=Value.int i t
 | .str x,u=>∃t,u=Value.str x t
 | .byt b,u=>∃t,u=Value.bytes b t
 | .flt b,u=>∃t,u=Value.float b t
 | .ref a,u=>u=Value.ref a
 | .ty n,u=>u=Value.type n
noncomputable abbrev Jc:List V→List Value→Prop:=Paired RelV
theorem Jc.length {xs:List V}{us:List Value}(r:Jc xs us):xs.length=us.length:=Paired.length r
theorem Jc.get:∀{xs:List V} {us:List Value} {i:Nat} {x:V},Jc xs us→xs[i]?=some x→∃u,us[i]?=some u∧RelV x u
 | _,_,_,_,.nil,e=>by simp at e
 | _,_,0,_,.cons r _,e=>by simp at e;subst e;exact ⟨_,rfl,r⟩
 | _,_,i+1,x,.cons _ t,e=>by
  obtain ⟨u,h1,h2⟩:=Jc.get (i:=i) (x:=x) t (by simpa using e)
  exact ⟨u,by simpa using h1,h2⟩
theorem Jc.set {x:V}{u:Value}(r:RelV x u):∀{xs:List V} {us:List Value} (i:Nat),Jc xs us→Jc (xs.set i x) (us.set i u)
 | _,_,_,.nil=>.nil
 | _,_,0,.cons _ t=>.cons r t
 | _,_,i+1,.cons q t=>.cons q (Jc.set r i t)
theorem Jc.append:∀{xs ys:List V} {us ws:List Value},Jc xs us→Jc ys ws→Jc (xs++ys) (us++ws)
 | _,_,_,_,.nil,s=>s
 | _,_,_,_,.cons r t,s=>.cons r (Jc.append t s)
theorem Jc.take:∀{xs:List V} {us:List Value} (n:Nat),Jc xs us→Jc (xs.take n) (us.take n)
 | _,_,0,_=>.nil
 | _,_,_+1,.nil=>.nil
 | _,_,n+1,.cons r t=>.cons r (Jc.take n t)
theorem Jc.drop:∀{xs:List V} {us:List Value} (n:Nat),Jc xs us→Jc (xs.drop n) (us.drop n)
 | _,_,0,r=>r
 | _,_,_+1,.nil=>.nil
 | _,_,n+1,.cons _ t=>Jc.drop n t
noncomputable def RelO:Option V→Option Value→Prop
 | some v,some u=>RelV v u
 | none,none=>True
 | _,_=>False
def KV {κ:Type}:List (κ×V)→List (κ×Value)→Prop:=Paired fun (p:κ×V) (q:κ×Value)=>p.1=q.1∧RelV p.2 q.2
noncomputable def kV:Key→V
 | .inl i=>.int i
 | .inr x=>.str x
inductive HO where
 | lst (xs:List V)
 | tup (xs:List V)
 | dK (kvs:List (Key×V)) | dT (kvs:List (List Key×V))
 | set (S:Int→Bool) (n:Nat)
 | ins (C dx:Addr) (fs:List (Str×V))
 | own (x:Addr)
 | xd (fs:List (Str×V))
 | met (f x:Addr)
 | rng (lo hi:Int)
 | frz (o:Obj) (u:HO)
 | tbl (pos:Pos) (qual:Str)
 | ext (φ:Heap→Prop)
noncomputable abbrev Hp:=Addr→Option HO
noncomputable def upd (H:Hp)(a:Addr)(o:HO):Hp:=fun b=>if b=a then some o else H b
theorem Ya {H:Hp}{a:Addr}{o:HO}:upd H a o a=some o:=by unfold upd;rw [if_pos rfl]
theorem Xq {H:Hp}{a b:Addr}{o:HO}(h:b≠a):upd H a o b=H b:=by unfold upd;rw [if_neg h]
theorem Xj {H:Hp}{a b:Addr}{o:HO}(h:H a=some o)(h':H b=none):a≠b:=by
 intro e;subst e;rw [h] at h';cases h'
section
variable (P:Program)(w:World)
noncomputable def Zck (H:Hp)(h:Heap)(a:Addr):HO→Prop
 | .lst xs=>xs.length≤sizeLine∧∃(its:List Value) (n:Nat),Jc xs its∧h.get? a=some {cls:=.type "list",data:=.seq its.toArray n}
 | .tup xs=>xs.length≤sizeLine∧∃its:List Value,Jc xs its∧IsTup h a its.toArray
 | .dK kvs=>kvs.length≤sizeLine∧(a==sysModules)=false∧∃vs,KV kvs vs∧h.DictOf (Zvv P w) a vs
 | .dT kvs=>kvs.length≤sizeLine∧(a==sysModules)=false∧∃xs:List (List Key×Addr×Value),
   Paired (fun (p:List Key×V) (q:List Key×Addr×Value)=>p.1=q.1∧H q.2.1=some (.tup (p.1.map kV))∧RelV p.2 q.2.2) kvs xs∧
   ∃o es ep,h.get? a=some o∧o.ExactDict∧o.data=.dict es ep∧es.toList=xs.map (entryOfKey (tupleKind (Zvv P w)))∧(xs.map (·.1)).Nodup
 | .set S n=>h.SetOf (intKind P w) a S n
 | .ins C dx fs=>H dx=some (.own a)∧fs.length≤1000∧dx≠a∧h.get? a=some (PySem.W.instObj C dx)∧
   ∃mA,h.Ns1 dx mA∧(∀f,RelO (fs.lookup f) (mA f))∧PySem.Within mA (fs.map (·.1))
 | .own _=>∃o,h.get? a=some o
 | .xd fs=>∃mA,h.Ns1 a mA∧∀f,RelO (fs.lookup f) (mA f)
 | .rng lo hi=>∃t u v,h.get? a=some {cls:=.type "range",data:=.fields #[.int lo t,.int hi u,.int 1 v]}
 | .frz o u=>h.get? a=some o∧Zck H h a u
 | .tbl pos qual=>∃ps,h.get? a=some {cls:=.none,data:=.fields ps}∧TriplesOk ps.toList∧∀v,codeAmong pos ps.toList=some v→∃c o vs t,v=.ref c∧H c=some (.frz o (.own 0))∧o.data=.fields vs∧vs[1]?=some (.str qual t)
 | .met f x=>h.get? a=some (methodObj (.ref f) (.ref x))
 | .ext φ=>φ h∧(∃o,h.get? a=some o)∧∀h1 h2:Heap,φ h1→(∀o,h1.get? a=some o→h2.get? a=some o)→φ h2
def HOk (H:Hp)(h:Heap):Prop:=∀a o,H a=some o→Zck P w H h a o
end
section
variable {P:Program}{w:World}{H H':Hp}{h h':Heap}{a:Addr}{o:HO}
theorem Zck.lt (x:Zck P w H h a o):a<h.objs.size:=by
 cases o with
 | lst xs=>obtain ⟨_,_,_,_,e⟩:=x;exact lt_size e
 | tup xs=>obtain ⟨_,_,_,p⟩:=x;exact p.lt
 | dK kvs=>obtain ⟨_,_,_,_,o,_,_,e,_⟩:=x;exact lt_size e
 | dT kvs=>obtain ⟨_,_,_,_,o,_,_,e,_⟩:=x;exact lt_size e
 | set S n=>obtain ⟨o,_,_,_,e,_⟩:=x;exact lt_size e
 | ins C dx fs=>obtain ⟨_,_,_,e,_⟩:=x;exact lt_size e
 | own y=>obtain ⟨_,e⟩:=x;exact lt_size e
 | xd fs=>obtain ⟨_,⟨_,_,_,e,_⟩,_⟩:=x;exact lt_size e
 | rng lo hi=>obtain ⟨_,_,_,e⟩:=x;exact lt_size e
 | frz ob u=>obtain ⟨e,_⟩:=x;exact lt_size e
 | tbl pos qual=>obtain ⟨_,e,_⟩:=x;exact lt_size e
 | met f y=>exact lt_size (show h.get? a=some _ from x)
 | ext φ=>obtain ⟨_,⟨_,e⟩,_⟩:=x;exact lt_size e
theorem Paired.mapP {α β:Type}{F G:α→β→Prop}:∀{l₁:List α} {l₂:List β},Paired F l₁ l₂→(∀a b,F a b→G a b)→Paired G l₁ l₂
 | _,_,.nil,_=>.nil
 | _,_,.cons r t,f=>.cons (f _ _ r) (Paired.mapP t f)
theorem Zck.stay (x:Zck P w H h a o)(k:∀b u,(b=a∨H b=some (.own a))→h.get? b=some u→h'.get? b=some u)
  (ho:∀b,H b=some (.own a)→H' b=some (.own a)) (ht:∀b xs,H b=some (.tup xs)→H' b=some (.tup xs)) (hf:∀b o u,H b=some (.frz o u)→H' b=some (.frz o u)):Zck P w H' h' a o:=by
 induction o with
 | lst xs=>obtain ⟨z,its,n,r,e⟩:=x;exact ⟨z,its,n,r,k _ _ (.inl rfl) e⟩
 | tup xs=>obtain ⟨z,its,r,ob,e,c⟩:=x;exact ⟨z,its,r,ob,k _ _ (.inl rfl) e,c⟩
 | dK kvs=>obtain ⟨z,y,vs,r,ob,es,ep,e,c⟩:=x;exact ⟨z,y,vs,r,ob,es,ep,k _ _ (.inl rfl) e,c⟩
 | dT kvs =>
  obtain ⟨z,y,xs,r,ob,es,ep,e,c⟩:=x
  exact ⟨z,y,xs,Paired.mapP r fun p q z=>⟨z.1,ht _ _ z.2.1,z.2.2⟩,ob,es,ep,k _ _ (.inl rfl) e,c⟩
 | set S n=>obtain ⟨ob,es,ep,t,e,c⟩:=x;exact ⟨ob,es,ep,t,k _ _ (.inl rfl) e,c⟩
 | ins C dx fs =>
  obtain ⟨d,z,ne,e,mA,⟨od,es,ep,e2,c⟩,r⟩:=x
  exact ⟨ho _ d,z,ne,k _ _ (.inl rfl) e,mA,⟨od,es,ep,k _ _ (.inr d) e2,c⟩,r⟩
 | own y=>obtain ⟨ob,e⟩:=x;exact ⟨ob,k _ _ (.inl rfl) e⟩
 | xd fs=>obtain ⟨mA,⟨od,es,ep,e,c⟩,r⟩:=x;exact ⟨mA,⟨od,es,ep,k _ _ (.inl rfl) e,c⟩,r⟩
 | rng lo hi=>obtain ⟨t,u,v,e⟩:=x;exact ⟨t,u,v,k _ _ (.inl rfl) e⟩
 | frz ob u ih=>obtain ⟨e,q⟩:=x;exact ⟨k _ _ (.inl rfl) e,ih q⟩
 | tbl pos qual =>
  obtain ⟨ps,e,tr,hc⟩:=x
  refine ⟨ps,k a _ (.inl rfl) e,tr,fun v hv=>?_⟩
  obtain ⟨c,o,vs,t,e1,e2,e3⟩:=hc v hv
  exact ⟨c,o,vs,t,e1,hf _ _ _ e2,e3⟩
 | met f y =>
  have e:h.get? a=some (methodObj (.ref f) (.ref y)):=x
  show h'.get? a=some (methodObj (.ref f) (.ref y))
  exact k a _ (.inl rfl) e
 | ext φ=>obtain ⟨p,⟨o,e⟩,st⟩:=x;exact ⟨st _ _ p fun o q=>k _ _ (.inl rfl) q,⟨o,k _ _ (.inl rfl) e⟩,st⟩
theorem HOk.lt (x:HOk P w H h)(e:H a=some o):a<h.objs.size:=(x a o e).lt
theorem HOk.fresh (x:HOk P w H h)(e:h.objs.size≤a):H a=none:=by
 cases q:H a with
 | none=>rfl
 | some u=>exact absurd (lt_of_lt_of_le (x.lt q) e) (lt_irrefl _)
theorem HOk.kept (x:HOk P w H h)(k:∀b u,h.get? b=some u→h'.get? b=some u):HOk P w H h':=fun a o e =>
 (x a o e).stay (fun b u _ q=>k b u q) (fun _ q=>q) (fun _ _ q=>q) fun _ _ _ q=>q
theorem HOk.laid (x:HOk P w H h)(k:∀b u,h.get? b=some u→h'.get? b=some u)(hp:h.objs.size≤a)(new:Zck P w (upd H a o) h' a o):HOk P w (upd H a o) h':=fun b u e=>by
 have hn:=x.fresh hp
 by_cases hb:b=a
 ·subst hb;rw [Ya] at e;cases e;exact new
 ·rw [Xq hb] at e
  exact (x b u e).stay (fun c v _ q=>k c v q) (fun c q=>by rw [Xq (Xj q hn)];exact q) (fun c xs q=>by rw [Xq (Xj q hn)];exact q) fun c ob u q=>by rw [Xq (Xj q hn)];exact q
end
def Rd (H:Hp)(a:Addr)(u:HO):Prop:=H a=some u∨∃o,H a=some (.frz o u)
theorem Rd.ok {P:Program}{w:World}{H:Hp}{h:Heap}{a:Addr}{u:HO}(r:Rd H a u)(x:HOk P w H h):Zck P w H h a u:=by
 rcases r with r | ⟨o,r⟩
 ·exact x a u r
 ·obtain ⟨_,q⟩:=x a _ r
  exact q
noncomputable def Mut:Option HO→Prop
 | some (.lst _)=>True
 | some (.dK _)=>True
 | some (.dT _)=>True
 | some (.set _ _)=>True
 | some (.ins _ _ _)=>True
 | some (.ext _)=>True
 | _=>False
section
variable {P:Program}{w:World}{H:Hp}{h h':Heap}{x e:Addr}{o':HO}
theorem HOk.write (ok:HOk P w H h)(mu:Mut (H x))(he:e=x∨H e=some (.own x))(k:∀b u,b≠e→h.get? b=some u→h'.get? b=some u)(heo:∃u,h'.get? e=some u)
  (new:Zck P w (upd H x o') h' x o'):HOk P w (upd H x o') h':=fun b u q=>by
 have nown:∀c y,H c=some (.own y)→c≠x:=fun c y r z=>by subst z;rw [r] at mu;exact mu
 have ntup:∀c xs,H c=some (.tup xs)→c≠x:=fun c xs r z=>by subst z;rw [r] at mu;exact mu
 have nfrz:∀c ob u,H c=some (.frz ob u)→c≠x:=fun c ob u r z=>by subst z;rw [r] at mu;exact mu
 by_cases hb:b=x
 ·subst hb;rw [Ya] at q;cases q;exact new
 ·rw [Xq hb] at q
  by_cases hbe:b=e
  ·have q':H b=some (.own x):=by
    rcases he with z | z
    ·exact absurd (hbe.trans z) hb
    ·rw [hbe];exact z
   rw [q] at q';cases q'
   obtain ⟨v,hv⟩:=heo
   exact ⟨v,by rw [hbe];exact hv⟩
  ·refine (ok b u q).stay (fun c v hc r=>k c v ?_ r) (fun c r=>by rw [Xq (nown c b r)];exact r) (fun c xs r=>by rw [Xq (ntup c xs r)];exact r) fun c ob u r=>by rw [Xq (nfrz c ob u r)];exact r
   rcases hc with rfl | hc
   ·exact hbe
   ·rintro rfl
    rcases he with z | z
    ·exact nown c b hc z
    ·rw [hc] at z;cases z;exact hb rfl
end
structure Un (fs ex:List Addr)(H H':Hp)(h h':Heap):Prop where
 keep:∀b o,h.get? b=some o→H b=none→b∉fs→b∉ex→h'.get? b=some o
 slot:∀b o,h.get? b=some o→H b=none→b∈fs→b∉ex→∃sl,h'.get? b=some {o with slots:=sl}
 free:∀b o,h.get? b=some o→H b=none→b∉ex→H' b=none
 there:∀b o,h.get? b=some o→b∉ex→∃o',h'.get? b=some o'
 tups:∀b xs,H b=some (.tup xs)→H' b=some (.tup xs)
 frzs:∀b o u,H b=some (.frz o u)→H' b=some (.frz o u)
 tbls:∀b p q,H b=some (.tbl p q)→H' b=some (.tbl p q)
section
variable {fs fs' ex ex':List Addr}{H H1 H2:Hp}{h h1 h2 h':Heap}{a x e:Addr}{o:HO}
theorem Un.any (u:Un fs ex H H1 h h1){b:Addr}{ob:Obj}(q:h.get? b=some ob)(n:H b=none)(hx:b∉ex):∃sl,h1.get? b=some {ob with slots:=sl}:=by
 by_cases hb:b∈fs
 ·exact u.slot b ob q n hb hx
 ·exact ⟨ob.slots,u.keep b ob q n hb hx⟩
theorem Un.kept (k:∀b u,h.get? b=some u→h'.get? b=some u):Un fs ex H H h h':=
 ⟨fun b ob q _ _ _=>k b ob q,fun b ob q _ _ _=>⟨ob.slots,k b ob q⟩,fun _ _ _ n _=>n,fun b ob q _=>⟨ob,k b ob q⟩,fun _ _ q=>q,fun _ _ _ q=>q,fun _ _ _ q=>q⟩
theorem Un.refl:Un fs ex H H h h:=Un.kept fun _ _ q=>q
theorem Un.laid (k:∀b u,h.get? b=some u→h'.get? b=some u)(hp:h.objs.size≤a)(hn:H a=none):Un fs ex H (upd H a o) h h' where
 keep:=fun b u q _ _ _=>k b u q
 slot:=fun b u q _ _ _=>⟨u.slots,k b u q⟩
 free:=fun b u q n _=>by rw [Xq (ne_of_lt (lt_of_lt_of_le (lt_size q) hp))];exact n
 there:=fun b u q _=>⟨u,k b u q⟩
 tups:=fun b xs q=>by rw [Xq (Xj q hn)];exact q
 frzs:=fun b u xs q=>by rw [Xq (Xj q hn)];exact q
 tbls:=fun b p n q=>by rw [Xq (Xj q hn)];exact q
theorem Un.write (mu:Mut (H x))(he:e=x∨H e=some (.own x))(k:∀b u,b≠e→h.get? b=some u→h'.get? b=some u)(heo:∃u,h'.get? e=some u):Un fs ex H (upd H x o) h h':=by
  have hx:∀b,H b=none→b≠x:=fun b n z=>by subst z;rw [n] at mu;exact mu
  have hb:∀b,H b=none→b≠e:=fun b n z=>by
    subst z
    rcases he with r | r
    · exact hx b n r
    · rw [n] at r;cases r
  have hm:∀b u,H b=some u→¬Mut (some u)→b≠x:=fun b u q nm z=>by subst z;rw [q] at mu;exact nm mu
  refine ⟨fun b u q n _ _=>k b u (hb b n) q,fun b u q n _ _=>⟨u.slots,k b u (hb b n) q⟩,fun b u q n _=>by rw [Xq (hx b n)];exact n,fun b u q _=>?_,
    fun b xs q=>by rw [Xq (hm b _ q fun z=>z)];exact q,fun b u xs q=>by rw [Xq (hm b _ q fun z=>z)];exact q,fun b p n q=>by rw [Xq (hm b _ q fun z=>z)];exact q⟩
  by_cases hbe:b=e
  · subst hbe;exact heo
  · exact ⟨u,k b u hbe q⟩
end
noncomputable def trk (h:Heap)(H:Hp):List Addr:=(List.range h.objs.size).filter fun a=>(H a).isSome
noncomputable def Zph (h:Heap)(H:Hp):Heap:=hideAll h (trk h H)
theorem Zlf (h:Heap)(H:Hp):(Zph h H).objs.size=h.objs.size:=PySem.W.hideAll_size _ _
theorem Zpw {h:Heap}{H:Hp}{b:Addr}{o:Obj}(e:h.get? b=some o)(n:H b=none):(Zph h H).get? b=some o:=
 PySem.W.hideAll_get _ e fun hm=>by
  have q:(H b).isSome=true:=(List.mem_filter.mp hm).2
  rw [n] at q;simp at q
theorem Zvj {h:Heap}{H:Hp}{b:Addr}{o:Obj}(e:(Zph h H).get? b=some o):h.get? b=some o∧H b=none:=by
 have e':h.get? b=some o:=PySem.W.of_hideAll (trk h H) e
 refine ⟨e',?_⟩
 cases q:H b with
 | none=>rfl
 | some x =>
  have hm:b∈trk h H:=List.mem_filter.mpr ⟨List.mem_range.mpr (lt_size e'),by simp [q]⟩
  have z:(Zph h H).get? b=none:=PySem.W.hideAll_none (trk h H) hm
  rw [z] at e;cases e
noncomputable def Xey (g h:Heap)(L:Addr):List (Addr×Obj):=(List.range h.objs.size).filterMap fun a=>if a=L∨(g.get? a).isSome=true then none else (h.get? a).map fun o=>(a,o)
noncomputable def rest (g h:Heap)(L d:Addr):List (Addr×Obj):=(Xey g h L).filter fun p=>decide (p.1≠d)
structure Mod (K:Frag)(mg:Str→Option Value)(base:Heap):Prop where
 kin:K.In base
 glob:base.Ns mainGlobals mg
 blt:∃mb,base.Ns builtinsNs mb∧∀x:Str,x≠"__name__"→mb x=bootBuiltins x
 nolimit:base.NoLimit
structure Cx where
 prog:Program
 w:World
 K:Frag
 mg:Str→Option Value
 base:Heap
 A:Around
 N:List Str
 s₀:Shared
 H₀:Hp
 env:Env
 outer:List Env
 stack:List Env
 ex:List Addr
 fn:Str→Bool
 calm:Bool
 pn:List (Addr×Obj)
 xe:Value→Shared→Prop
noncomputable def frs (l:List Env):List Addr:=l.filterMap (·.frame)
noncomputable abbrev Cx.fs (X:Cx):List Addr:=frs X.outer
def Vis (sc:Scope)(x:Str):Prop:=sc.names.lookup x=some .local∨sc.names.lookup x=some .cell∨sc.names.lookup x=some .free
def Loc (sc:Scope)(x:Str):Prop:=sc.names.lookup x=some .local∨sc.names.lookup x=some .cell
def Look (env:Env)(h:Heap)(m:Str→Option Value)(x:Str)(u:Value):Prop:=
 (env.kindOf x=some .local∧m x=some u)∨((env.kindOf x=some .cell∨env.kindOf x=some .free)∧∃c,env.cells.lookup x=some c∧h.IsCell c (some u))
structure Cx.Ok (X:Cx):Prop where
 mod:Mod X.K X.mg X.base
 kind:X.env.scope.kind=.function
 glob:X.env.globals=mainGlobals
 blt:X.env.builtins=builtinsNs
 above:X.s₀.heap.objs.size≤X.env.locals
 inj:∀x y c,X.env.cells.lookup x=some c→X.env.cells.lookup y=some c→x=y
 has:∀x,(X.env.kindOf x=some .cell∨X.env.kindOf x=some .free)→∃c,X.env.cells.lookup x=some c
 cab:∀x c,X.fn x=true→X.env.cells.lookup x=some c→X.s₀.heap.objs.size≤c
 hd:X.calm=true→X.A.handled=none
 frames:X.A.frames=some X.stack
 stk:X.stack=X.outer∨(X.stack=X.env::X.outer∧X.env.frame=some X.env.locals)
 exf:∀b∈X.ex,b≠X.env.locals∧∀x c,X.env.cells.lookup x=some c→c≠b
 bs:∀b o,X.base.get? b=some o→X.s₀.heap.get? b=some o∧X.H₀ b=none
 bsz:X.base.objs.size≤X.s₀.heap.objs.size
 noex:∀b o,X.base.get? b=some o→b∉X.ex
 exfs:∀b∈X.ex,b∉X.fs
 funs:X.s₀.heap.FunFrames X.base X.outer
 frf:∀b∈X.fs,X.H₀ b=none
structure Inv (X:Cx)(pins:List (Addr×Obj))(σ:List (Option V))(H:Hp)(s:Shared):Prop where
 ok:X.Ok
 os:s.os=X.s₀.os
 bare:AllBare s.gens
 base:Un X.fs X.ex X.H₀ H X.s₀.heap s.heap
 loc:∃m,s.heap.Ns X.env.locals m∧∀(i:Nat) (x:Str) (v:V),X.N[i]?=some x→σ[i]?=some (some v)→Vis X.env.scope x→∃u,RelV v u∧Look X.env s.heap m x u
 cell:∀x c,X.env.cells.lookup x=some c→∃v,s.heap.IsCell c v
 free:H X.env.locals=none
 freeC:∀x c,X.env.cells.lookup x=some c→H c=none
 pin:∀p∈X.pn++pins,s.heap.get? p.1=some p.2∧H p.1=none∧p.1≠X.env.locals∧p.1∉X.fs∧∀v,p.2.data≠.cell v
 hok:HOk X.prog X.w H s.heap
 len:σ.length=X.N.length
section
variable {X:Cx}{pins:List (Addr×Obj)}{σ:List (Option V)}{H H':Hp}{s:Shared}{h':Heap}
theorem Cx.Ok.nofr (ok:X.Ok){b:Addr}{o:Obj}(e:X.base.get? b=some o):b∉X.fs:=fun hb=>by
 have:=(ok.funs.mem hb).1
 rw [e] at this;cases this
theorem Inv.bs (I:Inv X pins σ H s):∀b o,X.base.get? b=some o→s.heap.get? b=some o∧H b=none:=fun b o e =>
 ⟨I.base.keep b o (I.ok.bs b o e).1 (I.ok.bs b o e).2 (I.ok.nofr e) (I.ok.noex b o e),I.base.free b o (I.ok.bs b o e).1 (I.ok.bs b o e).2 (I.ok.noex b o e)⟩
theorem Inv.bk (I:Inv X pins σ H s):∀b o,X.base.get? b=some o→s.heap.get? b=some o:=fun b o e=>(I.bs b o e).1
theorem Inv.mod (I:Inv X pins σ H s):Mod X.K X.mg X.base:=I.ok.mod
theorem Inv.kIn (I:Inv X pins σ H s):X.K.In s.heap:=I.ok.mod.kin.keeps I.bk
theorem Inv.nolimit (I:Inv X pins σ H s):s.heap.NoLimit:=I.ok.mod.nolimit.keeps I.bk
theorem Inv.lt (I:Inv X pins σ H s):X.env.locals<s.heap.objs.size:=let ⟨_,hn,_⟩:=I.loc;hn.lt
theorem Inv.sz (I:Inv X pins σ H s):X.s₀.heap.objs.size≤s.heap.objs.size:=le_trans I.ok.above (le_of_lt I.lt)
theorem Inv.nofs (I:Inv X pins σ H s){a:Addr}(h:s.heap.objs.size≤a):a∉X.fs:=fun hb=>by
 obtain ⟨_,o,ho,_⟩:=I.ok.funs.mem hb
 exact absurd (lt_of_lt_of_le (lt_size ho) (le_trans I.sz h)) (lt_irrefl _)
theorem Inv.cne (I:Inv X pins σ H s):∀x c,X.env.cells.lookup x=some c→c≠X.env.locals:=fun x c e z=>by
 obtain ⟨v,o,ho,hd⟩:=I.cell x c e
 obtain ⟨m,⟨o',es,ep,ho',hd',_⟩,_⟩:=I.loc
 rw [z,ho'] at ho;cases ho;rw [hd'] at hd;cases hd
theorem Inv.funs (I:Inv X pins σ H s):s.heap.FunFrames X.base X.outer:=by
 have all:∀(l:List Env),(∀b∈frs l,b∈X.fs)→X.s₀.heap.FunFrames X.base l→s.heap.FunFrames X.base l:=by
  intro l
  induction l with
  | nil=>intro _ _;trivial
  | cons env r ih =>
   intro hs hl
   obtain ⟨hk,⟨L,o,hf,hn,ho,hd⟩,hr⟩:=hl
   have hL:L∈X.fs:=hs L (by unfold frs;rw [List.filterMap_cons,hf];exact mem_cons_self)
   obtain ⟨sl,e⟩:=I.base.slot L o ho (I.ok.frf L hL) hL fun z=>I.ok.exfs L z hL
   exact ⟨hk,⟨L,_,hf,hn,e,hd⟩,ih (fun b hb=>hs b (by unfold frs;rw [List.filterMap_cons,hf];exact mem_cons_of_mem _ hb)) hr⟩
 exact all X.outer (fun _ hb=>hb) I.ok.funs
theorem Inv.stack (I:Inv X pins σ H s):s.heap.FunFrames X.base X.stack:=by
 rcases I.ok.stk with e | ⟨e,hf⟩
 ·rw [e];exact I.funs
 ·rw [e]
  obtain ⟨m,hn,_⟩:=I.loc
  refine .cons (by rw [I.ok.kind];decide) hf hn ?_ I.funs
  exact Heap.get?_none_of_le (le_trans I.ok.bsz I.ok.above)
theorem Inv.stkSub (I:Inv X pins σ H s):∀b∈frs X.stack,b∈X.env.locals::X.fs:=fun b hb=>by
 rcases I.ok.stk with e | ⟨e,hf⟩
 ·rw [e] at hb;exact mem_cons_of_mem _ hb
 ·rw [e] at hb
  unfold frs at hb
  rw [List.filterMap_cons,hf] at hb
  exact hb
theorem Inv.stkFree (I:Inv X pins σ H s):∀b∈frs X.stack,H b=none:=fun b hb=>by
 rcases List.mem_cons.mp (I.stkSub b hb) with e | hb
 ·rw [e];exact I.free
 ·obtain ⟨_,o,ho,_⟩:=I.ok.funs.mem hb
  exact I.base.free b o ho (I.ok.frf b hb) fun z=>I.ok.exfs b z hb
theorem Inv.step {g':Array GenState}{t':Nat}{d':Drawn}{ch:List Addr}(I:Inv X pins σ H s)
  (hch:∀b∈ch,(b∈X.ex∨X.s₀.heap.objs.size≤b)∧b≠X.env.locals∧(∀x c,X.env.cells.lookup x=some c→c≠b)∧∀p∈X.pn++pins,p.1≠b)
  (keep:∀b o,b≠X.env.locals→b∉X.fs→b∉ch→s.heap.get? b=some o→H b=none→h'.get? b=some o)
  (slot:∀b o,b≠X.env.locals→b∈X.fs→b∉ch→s.heap.get? b=some o→H b=none→∃sl,h'.get? b=some {o with slots:=sl}) (free:∀b o,b∉ch→s.heap.get? b=some o→H b=none→H' b=none)
  (there:∀b o,b∉ch→s.heap.get? b=some o→∃o',h'.get? b=some o')
  (tups:∀b xs,H b=some (.tup xs)→H' b=some (.tup xs)) (frzs:∀b o u,H b=some (.frz o u)→H' b=some (.frz o u)) (tbls:∀b p n,H b=some (.tbl p n)→H' b=some (.tbl p n))
  (ns:∀m,s.heap.Ns X.env.locals m→h'.Ns X.env.locals m) (hok:HOk X.prog X.w H' h') (hg:AllBare g') :
  Inv X pins σ H' {s with heap:=h',gens:=g',drawn:=d',toks:=t'}:=by
 have neL:∀b o,X.s₀.heap.get? b=some o→b≠X.env.locals:=fun b o e=>ne_of_lt (lt_of_lt_of_le (lt_size e) I.ok.above)
 have neC:∀b o,X.s₀.heap.get? b=some o→b∉X.ex→b∉ch:=fun b o e hx hb=>by
  rcases (hch b hb).1 with z | z
  ·exact hx z
  ·exact absurd (lt_of_lt_of_le (lt_size e) z) (lt_irrefl _)
 have cellK:∀x c,X.env.cells.lookup x=some c→∀v,s.heap.IsCell c v→h'.IsCell c v:=fun x c e v ⟨o,ho,hd⟩=>by
  have nch:c∉ch:=fun z=>(hch c z).2.2.1 x c e rfl
  by_cases hc:c∈X.fs
  ·obtain ⟨sl,q⟩:=slot c o (I.cne x c e) hc nch ho (I.freeC x c e)
   exact ⟨_,q,hd⟩
  ·exact ⟨o,keep c o (I.cne x c e) hc nch ho (I.freeC x c e),hd⟩
 refine ⟨I.ok,I.os,hg,⟨fun b o e n hb hx=>?_,fun b o e n hb hx=>?_,fun b o e n hx=>?_,fun b o e hx=>?_,fun b xs e=>tups b xs (I.base.tups b xs e),fun b o xs e=>frzs b o xs (I.base.frzs b o xs e),fun b p n e=>tbls b p n (I.base.tbls b p n e)⟩,?_,fun x c e=>?_,?_,fun x c e=>?_,fun p hp=>?_,hok,I.len⟩
 ·exact keep b o (neL b o e) hb (neC b o e hx) (I.base.keep b o e n hb hx) (I.base.free b o e n hx)
 ·obtain ⟨sl,e1⟩:=I.base.slot b o e n hb hx
  obtain ⟨sl',e2⟩:=slot b _ (neL b o e) hb (neC b o e hx) e1 (I.base.free b o e n hx)
  exact ⟨sl',e2⟩
 ·obtain ⟨o',e1⟩:=I.base.there b o e hx
  exact free b o' (neC b o e hx) e1 (I.base.free b o e n hx)
 ·obtain ⟨o',e1⟩:=I.base.there b o e hx
  exact there b o' (neC b o e hx) e1
 ·obtain ⟨m,hn,hl⟩:=I.loc
  refine ⟨m,ns m hn,fun i x v e1 e2 e3=>?_⟩
  obtain ⟨u,r,l⟩:=hl i x v e1 e2 e3
  refine ⟨u,r,?_⟩
  rcases l with l | ⟨k,c,e,z⟩
  ·exact .inl l
  ·exact .inr ⟨k,c,e,cellK x c e _ z⟩
 ·obtain ⟨v,z⟩:=I.cell x c e
  exact ⟨v,cellK x c e v z⟩
 ·obtain ⟨m,⟨o,_,_,ho,_⟩,_⟩:=I.loc
  exact free _ o (fun z=>(hch _ z).2.1 rfl) ho I.free
 ·obtain ⟨v,o,ho,hd⟩:=I.cell x c e
  exact free c o (fun z=>(hch c z).2.2.1 x c e rfl) ho (I.freeC x c e)
 ·obtain ⟨e,n,ne,nf,d⟩:=I.pin p hp
  have nch:p.1∉ch:=fun z=>(hch p.1 z).2.2.2 p hp rfl
  exact ⟨keep p.1 p.2 ne nf nch e n,free p.1 p.2 nch e n,ne,nf,d⟩
theorem Inv.un {t':Nat}(I:Inv X pins σ H s)(u:Un X.fs [] H H' s.heap h')(hok:HOk X.prog X.w H' h'):Inv X pins σ H' {s with heap:=h',toks:=t'}:=by
  obtain ⟨m,⟨o,es,ep,ho,r⟩,_⟩:=id I.loc
  obtain ⟨sl,hL⟩:=u.any ho I.free (by simp)
  exact I.step (g':=s.gens) (d':=s.drawn) (ch:=[]) (fun _ z=>nomatch z) (fun b o _ hb _ e n=>u.keep b o e n hb (by simp)) (fun b o _ hb _ e n=>u.slot b o e n hb (by simp)) (fun b o _ e n=>u.free b o e n (by simp)) (fun b o _ e=>u.there b o e (by simp)) u.tups u.frzs u.tbls (fun m' hm=>by
    obtain ⟨o',es',ep',ho',r'⟩:=hm
    rw [ho] at ho';cases ho'
    exact ⟨_,es',ep',hL,r'⟩) hok I.bare
theorem Inv.call {g':Array GenState}{t':Nat}{d':Drawn}{ch:List Addr}(I:Inv X pins σ H s)(u:Un (frs X.stack) ch H H' s.heap h')(hok:HOk X.prog X.w H' h')(hg:AllBare g')
    (hch:∀b∈ch,(b∈X.ex∨X.s₀.heap.objs.size≤b)∧b≠X.env.locals∧(∀x c,X.env.cells.lookup x=some c→c≠b)∧∀p∈X.pn++pins,p.1≠b) :
    Inv X pins σ H' {s with heap:=h',gens:=g',drawn:=d',toks:=t'}:=by
  obtain ⟨m,⟨o,es,ep,ho,r⟩,_⟩:=id I.loc
  obtain ⟨sl,hL⟩:=u.any ho I.free fun z=>(hch _ z).2.1 rfl
  exact I.step (ch:=ch) hch (fun b o hL hb hc e n=>u.keep b o e n (fun z=>(List.mem_cons.mp (I.stkSub b z)).elim hL hb) hc) (fun b o _ _ hc e n=>u.any e n hc) (fun b o hc e n=>u.free b o e n hc) (fun b o hc e=>u.there b o e hc) u.tups u.frzs u.tbls (fun m' hm=>by
    obtain ⟨o',es',ep',ho',r'⟩:=hm
    rw [ho] at ho';cases ho'
    exact ⟨_,es',ep',hL,r'⟩) hok hg
theorem Inv.turned {t':Nat}{it:Addr}(I:Inv X pins σ H s)(k:∀b o,b≠it→s.heap.get? b=some o→h'.get? b=some o)(hn:H it=none)(hL:it≠X.env.locals)
  (h1:it∈X.ex∨X.s₀.heap.objs.size≤it) (h2:∀x c,X.env.cells.lookup x=some c→c≠it) (h3:∀p∈X.pn++pins,p.1≠it):Inv X pins σ H {s with heap:=h',toks:=t'}:=by
 have nit:∀b u,H b=some u→b≠it:=fun b u e z=>by rw [z,hn] at e;cases e
 refine I.step (g':=s.gens) (d':=s.drawn) (ch:=[it]) (fun b hb=>?_) (fun b o _ _ hc e _=>k b o (fun z=>hc (by simp [z])) e) (fun b o _ _ hc e _=>⟨o.slots,k b o (fun z=>hc (by simp [z])) e⟩) (fun _ _ _ _ n=>n)
  (fun b o hc e=>⟨o,k b o (fun z=>hc (by simp [z])) e⟩) (fun _ _ e=>e) (fun _ _ _ e=>e) (fun _ _ _ e=>e) (fun m hm=>?_) (fun b u e=>?_) I.bare
 ·have e:b=it:=by simpa using hb
  subst e
  exact ⟨h1,hL,h2,h3⟩
 ·obtain ⟨o,es,ep,ho,r⟩:=hm
  exact ⟨o,es,ep,k _ o (Ne.symm hL) ho,r⟩
 ·refine (I.hok b u e).stay (fun c v hc q=>k c v ?_ q) (fun _ q=>q) (fun _ _ q=>q) fun _ _ _ q=>q
  rcases hc with z | z
  ·rw [z];exact nit b u e
  ·exact nit c _ z
theorem Inv.tok (I:Inv X pins σ H s)(t:Nat):Inv X pins σ H {s with toks:=t}:=I.un (h':=s.heap) (t':=t) Un.refl I.hok
theorem Inv.kept {t':Nat}(I:Inv X pins σ H s)(k:∀b u,s.heap.get? b=some u→h'.get? b=some u):Inv X pins σ H {s with heap:=h',toks:=t'}:=I.un (Un.kept k) (I.hok.kept k)
theorem Inv.laid {a:Addr}{o:HO}{t':Nat}(I:Inv X pins σ H s)(k:∀b u,s.heap.get? b=some u→h'.get? b=some u)(hp:s.heap.objs.size≤a)(new:Zck X.prog X.w (upd H a o) h' a o) :
  Inv X pins σ (upd H a o) {s with heap:=h',toks:=t'}:=I.un (Un.laid k hp (I.hok.fresh hp)) (I.hok.laid k hp new)
theorem Inv.write {x e:Addr}{o:HO}{t':Nat}(I:Inv X pins σ H s)(mu:Mut (H x))(he:e=x∨H e=some (.own x))(k:∀b u,b≠e→s.heap.get? b=some u→h'.get? b=some u)(heo:∃u,h'.get? e=some u)
  (new:Zck X.prog X.w (upd H x o) h' x o):Inv X pins σ (upd H x o) {s with heap:=h',toks:=t'}:=I.un (Un.write mu he k heo) (I.hok.write mu he k heo new)
theorem Inv.pins_of {pins':List (Addr×Obj)}(I:Inv X pins σ H s)(h:∀p∈pins',s.heap.get? p.1=some p.2∧H p.1=none∧p.1≠X.env.locals∧p.1∉X.fs∧∀v,p.2.data≠.cell v):Inv X pins' σ H s:=
 ⟨I.ok,I.os,I.bare,I.base,I.loc,I.cell,I.free,I.freeC,fun p hp=>(List.mem_append.mp hp).elim (fun z=>I.pin p (mem_append_left _ z)) (h p),I.hok,I.len⟩
theorem Zqi {N:List Str}(hN:N.Nodup){i j:Nat}{x:Str}(a:N[i]?=some x)(b:N[j]?=some x):i=j:=by
 obtain ⟨h1,e1⟩:=List.getElem?_eq_some_iff.mp a
 obtain ⟨h2,e2⟩:=List.getElem?_eq_some_iff.mp b
 exact (List.getElem_inj hN).mp (e1.trans e2.symm)
theorem Zmx {M:Model}{A:Around}{E:Value→Shared→Prop}{i:Nat}{x:Str}{v:V}{u:Value}{Q:Unit→Shared→Prop}(I:Inv X pins σ H s)(hN:X.N.Nodup)(hi:X.N[i]?=some x)(hx:Loc X.env.scope x)(r:RelV v u)
  (h:∀s',Inv X pins (σ.set i (some v)) H s'→(∃a,Heap.SameBut a s.heap s'.heap∧(a=X.env.locals∨X.env.cells.lookup x=some a))→Q () s') (hf:autoParam (X.fn x=true∨X.env.scope.names.lookup x=some .local) aT0._auto_1):wpAny M A (storeName X.env x u) Q E s:=by
 obtain ⟨m,hn,hl⟩:=id I.loc
 have hcls:(X.env.scope.kind==.class||(X.env.scope.kind==.module&&X.env.locals != X.env.globals))=false:=by rw [I.ok.kind];rfl
 have hiσ:i<σ.length:=by rw [I.len];exact (List.getElem?_eq_some_iff.mp hi).1
 have cne:=I.cne
 have tracked:∀{a:Addr} {h':Heap},(∃o,s.heap.get? a=some o∧H a=none)→Heap.SameBut a s.heap h'→HOk X.prog X.w H h':=fun {a h'} ha hs b ob e=>by
  obtain ⟨_,_,hfree⟩:=ha
  refine (I.hok b ob e).stay (fun c w' hc q=>(hs.2 c ?_).trans q) (fun _ q=>q) (fun _ _ q=>q) fun _ _ _ q=>q
  rintro rfl
  rcases hc with rfl | hc
  ·rw [hfree] at e;cases e
  ·rw [hfree] at hc;cases hc
 rcases hx with hk | hk
 ·refine wpAny_storeName_local hk hn (fun h' hn' hs=>?_) hcls
  obtain ⟨oL,_,_,hoL,_⟩:=id hn
  refine h _ ⟨I.ok,I.os,I.bare,⟨fun b o e n hb hx=>?_,fun b o e n hb hx=>?_,I.base.free,fun b o e hx=>?_,I.base.tups,I.base.frzs,I.base.tbls⟩,⟨_,hn',fun j y v' e1 e2 e3=>?_⟩,fun y c e=>?_,I.free,I.freeC,fun p hp=>?_,tracked ⟨oL,hoL,I.free⟩ hs,by simpa using I.len⟩ ⟨_,hs,.inl rfl⟩
  ·exact (hs.2 b (ne_of_lt (lt_of_lt_of_le (lt_size e) I.ok.above))).trans (I.base.keep b o e n hb hx)
  ·obtain ⟨sl,e1⟩:=I.base.slot b o e n hb hx
   exact ⟨sl,(hs.2 b (ne_of_lt (lt_of_lt_of_le (lt_size e) I.ok.above))).trans e1⟩
  ·obtain ⟨o',e1⟩:=I.base.there b o e hx
   exact ⟨o',(hs.2 b (ne_of_lt (lt_of_lt_of_le (lt_size e) I.ok.above))).trans e1⟩
  ·by_cases hj:j=i
   ·subst hj
    rw [hi] at e1;cases e1
    rw [getElem?_set_self hiσ] at e2
    cases e2
    exact ⟨u,r,.inl ⟨hk,by simp⟩⟩
   ·rw [getElem?_set_ne (Ne.symm hj)] at e2
    obtain ⟨u',r',q⟩:=hl j y v' e1 e2 e3
    refine ⟨u',r',?_⟩
    rcases q with ⟨k,e⟩ | ⟨k,c,e,z⟩
    ·refine .inl ⟨k,?_⟩
     have:y≠x:=fun e=>hj (Zqi hN e1 (e▸hi))
     simp [this,e]
    ·exact .inr ⟨k,c,e,z.sameBut hs (cne y c e)⟩
  ·obtain ⟨w',z⟩:=I.cell y c e
   exact ⟨w',z.sameBut hs (cne y c e)⟩
  ·obtain ⟨e,n,ne,nf,d⟩:=I.pin p hp
   exact ⟨(hs.2 p.1 ne).trans e,n,ne,nf,d⟩
 ·have hfn:X.fn x=true:=by
   rcases hf with z | z
   ·exact z
   ·rw [z] at hk;cases hk
  obtain ⟨c,hc⟩:=I.ok.has x (.inl hk)
  obtain ⟨w',z⟩:=I.cell x c hc
  refine wpAny_storeName_cell I.ok.kind hk hc z (fun h' hc' hs=>?_)
  obtain ⟨oc,hoc,hocd⟩:=id z
  refine h {s with heap:=h'} ⟨I.ok,I.os,I.bare,⟨fun b o e n hb hx=>?_,fun b o e n hb hx=>?_,I.base.free,fun b o e hx=>?_,I.base.tups,I.base.frzs,I.base.tbls⟩,⟨m,hn.sameBut hs (Ne.symm (cne x c hc)),fun j y v' e1 e2 e3=>?_⟩,fun y c' e=>?_,I.free,I.freeC,fun p hp=>?_,tracked ⟨oc,hoc,I.freeC x c hc⟩ hs,by simpa using I.len⟩ ⟨c,hs,.inr hc⟩
  ·exact (hs.2 b (ne_of_lt (lt_of_lt_of_le (lt_size e) (I.ok.cab x c hfn hc)))).trans (I.base.keep b o e n hb hx)
  ·obtain ⟨sl,e1⟩:=I.base.slot b o e n hb hx
   exact ⟨sl,(hs.2 b (ne_of_lt (lt_of_lt_of_le (lt_size e) (I.ok.cab x c hfn hc)))).trans e1⟩
  ·obtain ⟨o',e1⟩:=I.base.there b o e hx
   exact ⟨o',(hs.2 b (ne_of_lt (lt_of_lt_of_le (lt_size e) (I.ok.cab x c hfn hc)))).trans e1⟩
  ·by_cases hj:j=i
   ·subst hj
    rw [hi] at e1;cases e1
    rw [getElem?_set_self hiσ] at e2
    cases e2
    exact ⟨u,r,.inr ⟨.inl hk,c,hc,hc'⟩⟩
   ·rw [getElem?_set_ne (Ne.symm hj)] at e2
    obtain ⟨u',r',q⟩:=hl j y v' e1 e2 e3
    refine ⟨u',r',?_⟩
    rcases q with q | ⟨k,c',e,z'⟩
    ·exact .inl q
    ·refine .inr ⟨k,c',e,z'.sameBut hs ?_⟩
     rintro rfl
     exact hj (Zqi hN e1 (I.ok.inj _ _ _ e hc▸hi))
  ·by_cases hcc:c'=c
   ·subst hcc;exact ⟨_,hc'⟩
   ·obtain ⟨w2,z2⟩:=I.cell y c' e
    exact ⟨w2,z2.sameBut hs hcc⟩
  ·obtain ⟨e,n,ne,nf,d⟩:=I.pin p hp
   refine ⟨(hs.2 p.1 ?_).trans e,n,ne,nf,d⟩
   intro q
   rw [q,hoc] at e
   have q':oc=p.2:=Option.some.inj e
   exact d w' (by rw [← q'];exact hocd)
theorem Zqk {M:Model}{A:Around}{E:Value→Shared→Prop}{i:Nat}{x:Str}{v:V}{u:Value}{Q:Unit→Shared→Prop}(I:Inv X pins σ H s)(hN:X.N.Nodup)(hi:X.N[i]?=some x)(hx:Loc X.env.scope x)(r:RelV v u)
  (h:∀s',Inv X pins (σ.set i (some v)) H s'→Q () s') (hf:autoParam (X.fn x=true∨X.env.scope.names.lookup x=some .local) aT0._auto_1):wpAny M A (storeName X.env x u) Q E s:=
 Zmx I hN hi hx r (fun s' I' _=>h s' I') hf
theorem Inv.call' {s':Shared}{ch:List Addr}(I:Inv X pins σ H s)(ho:s'.os=s.os)(u:Un (frs X.stack) ch H H' s.heap s'.heap)(hok:HOk X.prog X.w H' s'.heap)(hg:AllBare s'.gens)
  (hch:∀b∈ch,(b∈X.ex∨X.s₀.heap.objs.size≤b)∧b≠X.env.locals∧(∀x c,X.env.cells.lookup x=some c→c≠b)∧∀p∈X.pn++pins,p.1≠b):Inv X pins σ H' s':=by
 obtain ⟨h',g',d',t',o'⟩:=s'
 have e:o'=s.os:=ho
 subst e
 exact I.call (g':=g') (t':=t') (d':=d') u hok hg hch
end
noncomputable abbrev XK:=Value→Option Addr→Hp→Prop
noncomputable abbrev St:=List (Option V)
noncomputable abbrev VK:=V→Hp→Prop
noncomputable abbrev TE:=St→Hp→VK→Prop
noncomputable abbrev TT:=St→Hp→(Bool→Hp→Prop)→Prop
noncomputable abbrev TA:=St→Hp→(List V→Hp→Prop)→Prop
structure Ends where
 nx:St→Hp→Prop
 rt:VK
 bk:St→Hp→Prop:=fun _ _=>False
 ct:St→Hp→Prop:=fun _ _=>False
noncomputable abbrev TS:=Ends→St→Hp→Prop
def EP (X:Cx)(pins:List (Addr×Obj))(σ:St)(Q:VK)(u:Value)(s':Shared):Prop:=∃v H',Inv X pins σ H' s'∧RelV v u∧Q v H'
def TP (X:Cx)(pins:List (Addr×Obj))(σ:St)(Q:Bool→Hp→Prop)(b:Bool)(s':Shared):Prop:=∃H',Inv X pins σ H' s'∧Q b H'
def AP (X:Cx)(pins:List (Addr×Obj))(σ:St)(Q:List V→Hp→Prop)(us:List Value)(s':Shared):Prop:=∃vs H',Inv X pins σ H' s'∧Jc vs us∧Q vs H'
def SP (X:Cx)(pins:List (Addr×Obj))(D:Ends)(f:Flow)(s':Shared):Prop:=
 match f with
 | .next=>∃σ' H',Inv X pins σ' H' s'∧D.nx σ' H'
 | .brk=>∃σ' H',Inv X pins σ' H' s'∧D.bk σ' H'
 | .cont=>∃σ' H',Inv X pins σ' H' s'∧D.ct σ' H'
 | .ret u=>∃v σ' H',Inv X pins σ' H' s'∧RelV v u∧D.rt v H'
def PE (X:Cx)(e:Expr)(t:TE):Prop:=
 ∀(pins:List (Addr×Obj)) (s:Shared) (σ:St) (H:Hp) (Q:VK),Inv X pins σ H s→t σ H Q→wpAny (model X.prog X.w) X.A (eval e X.env) (EP X pins σ Q) X.xe s
def PT (X:Cx)(e:Expr)(t:TT):Prop:=
 ∀(pins:List (Addr×Obj)) (s:Shared) (σ:St) (H:Hp) (Q:Bool→Hp→Prop),Inv X pins σ H s→t σ H Q→wpAny (model X.prog X.w) X.A (isTrue e X.env (eval e X.env)) (TP X pins σ Q) X.xe s
def PW (X:Cx)(e:Expr)(t:TT):Prop:=
 ∀(whole:Sem Value) (pins:List (Addr×Obj)) (s:Shared) (σ:St) (H:Hp) (Q:Bool→Hp→Prop),Inv X pins σ H s→t σ H Q→wpAny (model X.prog X.w) X.A (isTrue e X.env whole) (TP X pins σ Q) X.xe s
theorem PW.pt {X:Cx}{e:Expr}{t:TT}(h:PW X e t):PT X e t:=h _
def PA (X:Cx)(es:List Expr)(t:TA):Prop:=
 ∀(pos:Pos) (pins:List (Addr×Obj)) (s:Shared) (σ:St) (H:Hp) (Q:List V→Hp→Prop),Inv X pins σ H s→t σ H Q→wpAny (model X.prog X.w) X.A (spliced (backTo pos (starEach es X.env))) (AP X pins σ Q) X.xe s
def PS (X:Cx)(st:Stmt)(t:TS):Prop:=
 ∀(pins:List (Addr×Obj)) (s:Shared) (σ:St) (H:Hp) (D:Ends),Inv X pins σ H s→t D σ H→wpAny (model X.prog X.w) X.A (exec st X.env) (SP X pins D) X.xe s
def PSs (X:Cx)(st:List Stmt)(t:TS):Prop:=
 ∀(pins:List (Addr×Obj)) (s:Shared) (σ:St) (H:Hp) (D:Ends),Inv X pins σ H s→t D σ H→wpAny (model X.prog X.w) X.A (execs st X.env) (SP X pins D) X.xe s
theorem thn {α:Type}{t:Sem α}{Q Q':α→Shared→Prop}{M:Model}{A:Around}{E:Value→Shared→Prop}{s:Shared}(h:wpAny M A t Q E s)(hQ:∀a s,Q a s→Q' a s):wpAny M A t Q' E s:=wpAny_mono h hQ fun _ _ x=>x
section
variable {X:Cx}
def Zst (i:Nat):TE:=fun σ H Q=>∃v,σ[i]?=some (some v)∧Q v H
def tC (v:V):TE:=fun _ H Q=>Q v H
theorem Xmu {i:Nat}{x:Str}{pos:Pos}(hN:X.N[i]?=some x)(hv:Vis X.env.scope x)(hd:(x==("__debug__":Str))=false:=by decide)(hcd:(x==("__classdict__":Str))=false:=by decide):PE X (.Name x pos) (Zst i):=by
 intro pins s σ H Q I h
 obtain ⟨v,e,h⟩:=h
 obtain ⟨m,hn,hl⟩:=I.loc
 obtain ⟨u,r,l⟩:=hl i x v hN e hv
 have fin:EP X pins σ Q u s:=⟨v,H,I,r,h⟩
 rcases l with ⟨hk,hm⟩ | ⟨hk,c,hc,hcell⟩
 ·exact wpAny_Name (wpAny_loadName_local I.ok.kind hk hn hm fin) hd
 ·rcases hk with hk | hk
  ·exact wpAny_Name (wpAny_loadName_cell I.ok.kind hk hc hcell fin) hd
  ·exact wpAny_Name (wpAny_loadName_free I.ok.kind hk hc hcell fin hcd) hd
theorem Xms {i j pos}:PE X (.Constant (.int i) j pos) (tC (.int i)):=fun _ _ _ H _ I h=>wpAny_Constant_int ⟨.int i,H,I.tok _,⟨_,rfl⟩,h⟩
theorem Xls {b j pos}:PE X (.Constant (.bool b) j pos) (tC (.bl b)):=fun _ _ _ H _ I h=>Constant_bool ⟨.bl b,H,I,rfl,h⟩
theorem Xlz {x j pos}:PE X (.Constant (.str x) j pos) (tC (.str x)):=fun _ _ _ H _ I h=>Calls.Constant_str ⟨.str x,H,I.tok _,⟨_,rfl⟩,h⟩
def Gl (X:Cx)(x:Str):Prop:=X.env.kindOf x=some .globalImplicit
theorem Zvc {E:Value→Shared→Prop}{pins:List (Addr×Obj)}{s:Shared}{σ:St}{H:Hp}{x:Str}{u:Value}{pos:Pos}{Q:Value→Shared→Prop}(I:Inv X pins σ H s)(hg:Gl X x)(hm:X.mg x=some u)(h:Q u s)
  (hd:(x==("__debug__":Str))=false:=by decide):wpAny (model X.prog X.w) X.A (eval (.Name x pos) X.env) Q E s:=
 Calls.Name_function_global I.ok.kind hg (Calls.loadGlobal_global (by rw [I.ok.glob];exact I.mod.glob.keeps I.bk) hm h) hd
theorem Zdw {E:Value→Shared→Prop}{pins:List (Addr×Obj)}{s:Shared}{σ:St}{H:Hp}{x:Str}{u:Value}{pos:Pos}{Q:Value→Shared→Prop}(I:Inv X pins σ H s)(hg:Gl X x)(hm:X.mg x=none)(hv:bootBuiltins x=some u)(h:Q u s)
  (hn:x≠"__name__":=by decide) (hd:(x==("__debug__":Str))=false:=by decide):wpAny (model X.prog X.w) X.A (eval (.Name x pos) X.env) Q E s:=by
 obtain ⟨mb,h1,h2⟩:=I.mod.blt
 exact Calls.Name_function_global I.ok.kind hg (Calls.loadGlobal_builtin (by rw [I.ok.glob];exact I.mod.glob.keeps I.bk) hm (by rw [I.ok.blt];exact h1.keeps I.bk) ((h2 x hn).trans hv) h) hd
theorem Xgn {x:Str}{v:V}{u:Value}{pos:Pos}(hg:Gl X x)(hm:X.mg x=some u)(r:RelV v u)(hd:(x==("__debug__":Str))=false:=by decide):PE X (.Name x pos) (tC v):=
 fun _ _ _ H _ I h=>Zvc I hg hm ⟨v,H,I,r,h⟩ hd
variable {a b:Expr}{ta tb:TE}{pos:Pos}
def tB (t:TE):TT:=fun σ H Q=>t σ H fun x H1=>∃c,x=.bl c∧Q c H1
theorem Xns {e:Expr}{t:TE}(h:PE X e t)(he:∀whole,isTrue e X.env whole=(do let v ← whole;standAt e.pos;holding [v] (truthy v)):=by intro _;rfl):PT X e (tB t):=by
 intro pins s σ H Q I hw
 refine isTrue_plain (thn (h pins s σ H _ I hw) fun v s1 hz9=>?_) (he _)
 obtain ⟨x,H1,I1,r1,q1⟩:=hz9
 obtain ⟨d,rfl,q⟩:=q1
 cases r1
 exact wpAny_truthy_bool ⟨H1,I1,q⟩
variable {tA tB':TT}{rest:List Expr}
def tAnd (t u:TT):TT:=fun σ H Q=>t σ H fun c H1=>if c=true then u σ H1 Q else Q false H1
def tOr (t u:TT):TT:=fun σ H Q=>t σ H fun c H1=>if c=true then Q true H1 else u σ H1 Q
def tNot (t:TT):TT:=fun σ H Q=>t σ H fun c H1=>Q (!c) H1
theorem Xji (ha:PT X a tA):PW X (.BoolOp .And [a] pos) tA:=by
 intro wh pins s σ H Q I h
 refine isTrue_and (thn (ha pins s σ H Q I h) fun c s1 e=>?_)
 cases c with
 | true=>exact isTrue_and_nil e
 | false=>exact e
theorem Xnm (ha:PT X a tA):PW X (.BoolOp .Or [a] pos) tA:=by
 intro wh pins s σ H Q I h
 refine isTrue_or (thn (ha pins s σ H Q I h) fun c s1 e=>?_)
 cases c with
 | false=>exact isTrue_or_nil e
 | true=>exact e
theorem Xmj (ha:PT X a tA)(hb:PW X (.BoolOp .And (b::rest) pos) tB'):PW X (.BoolOp .And (a::b::rest) pos) (tAnd tA tB'):=by
 intro wh pins s σ H Q I h
 refine isTrue_and (thn (ha pins s σ H _ I h) fun c s1 ⟨H1,I1,q1⟩=>?_)
 cases c with
 | true=>exact hb wh pins s1 σ H1 Q I1 q1
 | false=>exact ⟨H1,I1,q1⟩
theorem pw_or (ha:PT X a tA)(hb:PW X (.BoolOp .Or (b::rest) pos) tB'):PW X (.BoolOp .Or (a::b::rest) pos) (tOr tA tB'):=by
 intro wh pins s σ H Q I h
 refine isTrue_or (thn (ha pins s σ H _ I h) fun c s1 ⟨H1,I1,q1⟩=>?_)
 cases c with
 | true=>exact ⟨H1,I1,q1⟩
 | false=>exact hb wh pins s1 σ H1 Q I1 q1
theorem Xmq (ha:PT X a tA):PT X (.UnaryOp .Not a pos) (tNot tA):=by
 intro pins s σ H Q I h
 exact isTrue_not (ha pins s σ H (fun c H1=>Q (!c) H1) I h)
def Xda (ta tb:TE):TE:=fun σ H Q=>ta σ H fun x H1=>∃c,x=.bl c∧if c=true then tb σ H1 Q else Q (.bl false) H1
def tOrV (ta tb:TE):TE:=fun σ H Q=>ta σ H fun x H1=>∃c,x=.bl c∧if c=true then Q (.bl true) H1 else tb σ H1 Q
theorem Xmb {op}{t:TE}(h:PE X a t):PE X (.BoolOp op [a] pos) t:=fun pins s σ H Q I hw=>BoolOp_one (h pins s σ H Q I hw)
theorem Xot (ha:PE X a ta)(hb:PE X (.BoolOp .And (b::rest) pos) tb):PE X (.BoolOp .And (a::b::rest) pos) (Xda ta tb):=by
 intro pins s σ H Q I h
 refine BoolOp_and (thn (ha pins s σ H _ I h) fun v s1 hz9=>?_)
 obtain ⟨x,H1,I1,r1,q1⟩:=hz9
 obtain ⟨c,rfl,q1⟩:=q1
 cases r1
 refine wpAny_truthy_bool ?_
 cases c with
 | true=>exact hb pins s1 σ H1 Q I1 q1
 | false=>exact ⟨.bl false,H1,I1,rfl,q1⟩
theorem pe_or (ha:PE X a ta)(hb:PE X (.BoolOp .Or (b::rest) pos) tb):PE X (.BoolOp .Or (a::b::rest) pos) (tOrV ta tb):=by
 intro pins s σ H Q I h
 refine BoolOp_or (thn (ha pins s σ H _ I h) fun v s1 hz9=>?_)
 obtain ⟨x,H1,I1,r1,q1⟩:=hz9
 obtain ⟨c,rfl,q1⟩:=q1
 cases r1
 refine wpAny_truthy_bool ?_
 cases c with
 | false=>exact hb pins s1 σ H1 Q I1 q1
 | true=>exact ⟨.bl true,H1,I1,rfl,q1⟩
def tIf (t:TT)(ta tb:TE):TE:=fun σ H Q=>t σ H fun c H1=>if c=true then ta σ H1 Q else tb σ H1 Q
theorem Xad {c:Expr}(hc:PT X c tA)(ha:PE X a ta)(hb:PE X b tb):PE X (.IfExp c a b pos) (tIf tA ta tb):=by
 intro pins s σ H Q I h
 refine wpAny_IfExp (thn (hc pins s σ H _ I h) fun d s1 ⟨H1,I1,q1⟩=>?_)
 cases d with
 | true=>exact ha pins s1 σ H1 Q I1 q1
 | false=>exact hb pins s1 σ H1 Q I1 q1
end
def SqL (K:Frag)(H:Hp)(a:Addr)(xs:List V):Prop:=
 Rd H a (.lst xs)∨
  ∃(o:Obj) (its:Array Value) (n:Nat),K.lookup a=some o∧o.cls=.type "list"∧o.dict=none∧o.data=.seq its n∧its.size≤sizeLine∧Jc xs its.toList
def SqT (K:Frag)(H:Hp)(a:Addr)(xs:List V):Prop:=
 Rd H a (.tup xs)∨
  ∃(o:Obj) (its:Array Value) (n:Nat),K.lookup a=some o∧o.cls=.type "tuple"∧o.data=.seq its n∧its.size≤sizeLine∧Jc xs its.toList
noncomputable def absV:Value→Option V
 | .none=>some .non
 | .bool b=>some (.bl b)
 | .int i _=>some (.int i)
 | .str x _=>some (.str x)
 | .bytes b _=>some (.byt b)
 | .float b _=>some (.flt b)
 | .ref a=>some (.ref a)
 | .type n=>some (.ty n)
 | _=>none
theorem RelV.abs {x:V}{u:Value}(r:RelV x u):absV u=some x:=by
 cases x with
 | non=>cases r;rfl
 | bl _=>cases r;rfl
 | int _=>obtain ⟨t,rfl⟩:=r;rfl
 | str _=>obtain ⟨t,rfl⟩:=r;rfl
 | byt _=>obtain ⟨t,rfl⟩:=r;rfl
 | flt _=>obtain ⟨t,rfl⟩:=r;rfl
 | ref _=>cases r;rfl
 | ty _=>cases r;rfl
theorem RelV.inj {x y:V}{u:Value}(r:RelV x u)(q:RelV y u):x=y:=Option.some.inj (r.abs.symm.trans q.abs)
theorem Jc.inj:∀{xs ys:List V} {us:List Value},Jc xs us→Jc ys us→xs=ys
 | _,_,_,.nil,.nil=>rfl
 | _,_,_,.cons r t,.cons r' t'=>by rw [r.inj r',Jc.inj t t']
section
variable {X:Cx}{pins:List (Addr×Obj)}{σ:St}{H:Hp}{s:Shared}{a:Addr}{xs ys:List V}
theorem SqL.of {K:Frag}(h:H a=some (.lst xs)):SqL K H a xs:=.inl (.inl h)
theorem SqT.of {K:Frag}(h:H a=some (.tup xs)):SqT K H a xs:=.inl (.inl h)
theorem Inv.list (I:Inv X pins σ H s)(h:SqL X.K H a xs):∃its:List Value,Jc xs its∧PlainL s.heap a its.toArray∧xs.length≤sizeLine:=by
 rcases h with h | ⟨o,its,n,hk,hc,hd,hs,hz,r⟩
 ·obtain ⟨z,its,n,r,e⟩:=h.ok I.hok
  exact ⟨its,r,⟨_,n,e,rfl,rfl,rfl⟩,z⟩
 ·refine ⟨its.toList,r,⟨o,n,I.kIn a o hk,hc,hd,by simpa using hs⟩,?_⟩
  have e:=r.length
  simp only [Array.length_toList] at e
  omega
theorem Inv.tuple (I:Inv X pins σ H s)(h:SqT X.K H a xs):∃its:List Value,Jc xs its∧IsTup s.heap a its.toArray∧xs.length≤sizeLine:=by
 rcases h with h | ⟨o,its,n,hk,hc,hs,hz,r⟩
 ·obtain ⟨z,its,r,p⟩:=h.ok I.hok
  exact ⟨its,r,p,z⟩
 ·refine ⟨its.toList,r,⟨o,I.kIn a o hk,hc,n,by simpa using hs⟩,?_⟩
  have e:=r.length
  simp only [Array.length_toList] at e
  omega
theorem Inv.list_inj (I:Inv X pins σ H s)(h:SqL X.K H a xs)(h':SqL X.K H a ys):xs=ys:=by
 obtain ⟨its,r,⟨o,n,e,_,_,d⟩,_⟩:=I.list h
 obtain ⟨its',r',⟨o',n',e',_,_,d'⟩,_⟩:=I.list h'
 rw [e] at e';cases e'
 rw [d] at d'
 injection d' with d1 _
 have:its=its':=by simpa using congrArg Array.toList d1
 subst this
 exact r.inj r'
theorem Inv.tuple_inj (I:Inv X pins σ H s)(h:SqT X.K H a xs)(h':SqT X.K H a ys):xs=ys:=by
 obtain ⟨its,r,⟨o,e,_,n,d⟩,_⟩:=I.tuple h
 obtain ⟨its',r',⟨o',e',_,n',d'⟩,_⟩:=I.tuple h'
 rw [e] at e';cases e'
 rw [d] at d'
 injection d' with d1 _
 have:its=its':=by simpa using congrArg Array.toList d1
 subst this
 exact r.inj r'
end
noncomputable abbrev Cx.wish (X:Cx)(E:Value→Shared→Prop):Cx:={X with xe:=E}
noncomputable abbrev Cx.nox (X:Cx):Cx:=X.wish fun _ _=>False
theorem Cx.Ok.wish {X:Cx}(ok:X.Ok)(E:Value→Shared→Prop):(X.wish E).Ok:=
 ⟨ok.mod,ok.kind,ok.glob,ok.blt,ok.above,ok.inj,ok.has,ok.cab,ok.hd,ok.frames,ok.stk,ok.exf,ok.bs,ok.bsz,ok.noex,ok.exfs,ok.funs,ok.frf⟩
theorem Cx.Ok.unwish {X:Cx}{E:Value→Shared→Prop}(ok:(X.wish E).Ok):X.Ok:=
 ⟨ok.mod,ok.kind,ok.glob,ok.blt,ok.above,ok.inj,ok.has,ok.cab,ok.hd,ok.frames,ok.stk,ok.exf,ok.bs,ok.bsz,ok.noex,ok.exfs,ok.funs,ok.frf⟩
section
variable {X:Cx}{pins:List (Addr×Obj)}{σ:St}{H:Hp}{s:Shared}{E:Value→Shared→Prop}
theorem Inv.wish (I:Inv X pins σ H s)(E:Value→Shared→Prop):Inv (X.wish E) pins σ H s:=⟨I.ok.wish E,I.os,I.bare,I.base,I.loc,I.cell,I.free,I.freeC,I.pin,I.hok,I.len⟩
theorem Inv.unwish (I:Inv (X.wish E) pins σ H s):Inv X pins σ H s:=⟨I.ok.unwish,I.os,I.bare,I.base,I.loc,I.cell,I.free,I.freeC,I.pin,I.hok,I.len⟩
theorem SP.unwish {D:Ends}{f:Flow}{s':Shared}(h:SP (X.wish E) pins D f s'):SP X pins D f s':=by
 cases f with
 | next=>obtain ⟨σ',H',I,q⟩:=h;exact ⟨σ',H',I.unwish,q⟩
 | brk=>obtain ⟨σ',H',I,q⟩:=h;exact ⟨σ',H',I.unwish,q⟩
 | cont=>obtain ⟨σ',H',I,q⟩:=h;exact ⟨σ',H',I.unwish,q⟩
 | ret u=>obtain ⟨v,σ',H',I,r,q⟩:=h;exact ⟨v,σ',H',I.unwish,r,q⟩
theorem PSs.nox {st:List Stmt}{t:TS}(h:PSs X.nox st t):PSs X st t:=fun pins s σ H D I hw =>
 wpAny_mono (h pins s σ H D (I.wish _) hw) (fun _ _ q=>q.unwish) fun _ _ z=>False.elim z
end
section
variable {X:Cx}{st:Stmt}{rest:List Stmt}{t u:TS}{e:Expr}{te:TE}{pos:Pos}
def Zzi:TS:=fun D σ H=>D.nx σ H
def Zvw (t u:TS):TS:=fun D σ H=>t {D with nx:=u D} σ H
theorem Xii:PSs X [] Zzi:=fun _ _ σ H _ I h=>wpAny_execs_nil ⟨σ,H,I,h⟩
theorem Zzx (h1:PS X st t)(h2:PSs X rest u):PSs X (st::rest) (Zvw t u):=by
 intro pins s σ H D I h
 refine wpAny_execs_cons (thn (h1 pins s σ H {D with nx:=u D} I h) fun f s1 q=>?_)
 cases f with
 | next =>
  obtain ⟨σ',H',I',q⟩:=q
  exact h2 pins s1 σ' H' D I' q
 | ret v=>exact q
 | brk=>exact q
 | cont=>exact q
theorem Xew (h1:PS X st t):PSs X [st] t:=by
 intro pins s σ H D I h
 refine wpAny_execs_cons (thn (h1 pins s σ H D I h) fun f s1 q=>?_)
 cases f with
 | next=>exact wpAny_execs_nil q
 | ret v=>exact q
 | brk=>exact q
 | cont=>exact q
theorem Inv.quiet {pins:List (Addr×Obj)}{σ:St}{H:Hp}{s:Shared}(I:Inv X pins σ H s):interactive X.env=false:=by simp [interactive,I.ok.kind]
def Zrv (te:TE):TS:=fun D σ H=>te σ H fun _ H1=>D.nx σ H1
theorem Xil (he:PE X e te)(hs:swapsWith e none pos.line X.env=pure false:=by rfl):PS X (.Expr e pos) (Zrv te):=by
 intro pins s σ H D I h
 exact wpAny_Expr_any (thn (he pins s σ H _ I h) fun v s1 ⟨x,H1,I1,r1,q1⟩=>⟨σ,H1,I1,q1⟩) I.quiet hs
def Xjw (te:TE):TS:=fun D σ H=>te σ H D.rt
theorem Xlv (he:PE X e te):PS X (.Return (some e) pos) (Xjw te):=by
 intro pins s σ H D I h
 exact wpAny_Return_some (thn (he pins s σ H _ I h) fun v s1 ⟨x,H1,I1,r1,q1⟩=>⟨x,σ,H1,I1,r1,q1⟩)
def tIfS (c:TT)(t u:TS):TS:=fun D σ H=>c σ H fun b H1=>if b=true then t D σ H1 else u D σ H1
theorem ps_if {c:Expr}{a b:List Stmt}{tc:TT}(hc:PT X c tc)(ha:PSs X a t)(hb:PSs X b u):PS X (.If c a b pos) (tIfS tc t u):=by
 intro pins s σ H D I h
 refine wpAny_If (thn (hc pins s σ H _ I h) fun d s1 ⟨H1,I1,q1⟩=>?_)
 cases d with
 | true=>exact ha pins s1 σ H1 D I1 q1
 | false=>exact hb pins s1 σ H1 D I1 q1
def Zqa:TS:=fun _ _ _=>False
theorem Xan:PS X st Zqa:=fun _ _ _ _ _ _ h=>h.elim
end
noncomputable abbrev TG:=V→St→Hp→(St→Hp→Prop)→Prop
noncomputable abbrev TGs:=List V→St→Hp→(St→Hp→Prop)→Prop
def PG (X:Cx)(target:Expr)(t:TG):Prop:=
 ∀(pins:List (Addr×Obj)) (s:Shared) (σ:St) (H:Hp) (v:V) (u:Value) (Q:St→Hp→Prop),Inv X pins σ H s→RelV v u→t v σ H Q→
  wpAny (model X.prog X.w) X.A (assign target X.env u) (fun _ s'=>∃σ' H',Inv X pins σ' H' s'∧Q σ' H') X.xe s
def PGs (X:Cx)(ts:List Expr)(t:TGs):Prop:=
 ∀(pins:List (Addr×Obj)) (s:Shared) (σ:St) (H:Hp) (vs:List V) (us:List Value) (Q:St→Hp→Prop),Inv X pins σ H s→Jc vs us→t vs σ H Q→
  wpAny (model X.prog X.w) X.A (assignInOrder ((assignEach ts X.env).map (·.2)) us) (fun _ s'=>∃σ' H',Inv X pins σ' H' s'∧Q σ' H') X.xe s
noncomputable abbrev TSet:=V→V→V→Hp→(Hp→Prop)→Prop
def PSet (X:Cx)(t:TSet):Prop:=
 ∀(pins:List (Addr×Obj)) (s:Shared) (σ:St) (H:Hp) (o i v:V) (ov iv u:Value) (Q:Hp→Prop),Inv X pins σ H s→RelV o ov→RelV i iv→RelV v u→t o i v H Q→
  wpAny (model X.prog X.w) X.A (setItem ov iv u) (fun _ s'=>∃H',Inv X pins σ H' s'∧Q H') X.xe s
section
variable {X:Cx}{pos:Pos}
noncomputable def Jp (i:Nat):TG:=fun v σ H Q=>Q (σ.set i (some v)) H
theorem Xio {i:Nat}{x:Str}(hN:X.N.Nodup)(hi:X.N[i]?=some x)(hx:Loc X.env.scope x)(hf:autoParam (X.fn x=true∨X.env.scope.names.lookup x=some .local) aT0._auto_1):PG X (.Name x pos) (Jp i):=by
 intro pins s σ H v u Q I r h
 exact wpAny_assign_Name (Zqk I hN hi hx r (fun s' I'=>⟨_,H,I',h⟩) hf)
noncomputable def Zwb:TGs:=fun vs σ H Q=>vs=[]∧Q σ H
noncomputable def Zfa (t:TG)(u:TGs):TGs:=fun vs σ H Q=>∃v r,vs=v::r∧t v σ H fun σ' H'=>u r σ' H' Q
theorem Xfs:PGs X [] Zwb:=by
 intro pins s σ H vs us Q I r h
 obtain ⟨e,h⟩:=h
 subst e
 cases r
 exact assignInOrder_nil ⟨σ,H,I,h⟩
theorem Xbg {e:Expr}{es:List Expr}{t:TG}{u:TGs}(h1:PG X e t)(h2:PGs X es u)
  (hs:(assignEach (e::es) X.env).map (·.2)=assign e X.env::(assignEach es X.env).map (·.2):=by rfl):PGs X (e::es) (Zfa t u):=by
 intro pins s σ H vs us Q I r h
 obtain ⟨v,vr,e1,h⟩:=h
 subst e1
 cases r with
 | cons r rr =>
  rw [hs]
  refine assignInOrder_cons (thn (h1 pins s σ H _ _ _ I r h) fun _ s1 hz9=>?_)
  obtain ⟨σ1,H1,I1,q1⟩:=hz9
  exact h2 pins s1 σ1 H1 _ _ Q I1 rr q1
noncomputable def Zfm (K:Frag)(n:Nat)(t:TGs):TG:=fun v σ H Q=>∃a xs,v=.ref a∧SqT K H a xs∧xs.length=n∧t xs σ H Q
theorem Xmw {es:List Expr}{k:Nat}{t:TGs}{n:Nat}(hc:X.calm=true)(h:PGs X es t)
  (hn:(assignEach es X.env).length=n:=by rfl) (hst:(assignEach es X.env).findIdx? (·.1)=none:=by rfl):PG X (.Tuple es k pos) (Zfm X.K n t):=by
 intro pins s σ H v u Q I r hw
 obtain ⟨a,xs,e1,hq,hl,hw⟩:=hw
 subst e1
 cases r
 obtain ⟨its,rv,ht,hz⟩:=I.tuple hq
 refine assign_Tuple_tuple (I.ok.hd hc) ht (by simp [hn,← hl,rv.length]) hst fun h' hx=>?_
 have I1:Inv X pins σ H {s with heap:=h'}:=I.kept (t':=s.toks) fun b o e=>hx b o (ne_of_lt (lt_size e)) e
 exact h pins _ σ H xs _ Q I1 (by simpa using rv) hw
noncomputable def Zkz (to ti:TE)(t:TSet):TG:=fun v σ H Q=>to σ H fun o H1=>ti σ H1 fun i H2=>t o i v H2 fun H3=>Q σ H3
theorem Xoq {o i:Expr}{to ti:TE}{t:TSet}(ho:PE X o to)(hi:PE X i ti)(hs:PSet X t)
    (ha:∀v,assign (.Subscript o i pos) X.env v=(do
      let ov ← holding [v] (eval o X.env)
      let iv ← holding [v,ov] (eval i X.env)
      standAt pos
      holding [v,ov,iv] (setItem ov iv v)
      release [v,ov,iv] []):=by intro _;rfl):PG X (.Subscript o i pos) (Zkz to ti t):=by
  intro pins s σ H v u Q I r h
  rw [ha]
  refine wpAny_bind (wpAny_holding (thn (ho pins s σ H _ I h) fun ov s1 hz9=>?_))
  obtain ⟨x,H1,I1,r1,q1⟩:=hz9
  refine wpAny_bind (wpAny_holding (thn (hi pins s1 σ H1 _ I1 q1) fun iv s2 hz9=>?_))
  obtain ⟨y,H2,I2,r2,q2⟩:=hz9
  refine wpAny_bind (wpAny_standAt (wpAny_bind (wpAny_holding (thn (hs pins s2 σ H2 x y v ov iv u _ I2 r1 r2 r q2) fun _ s3 ⟨H3,I3,q3⟩=>?_))))
  exact wpAny_release ⟨σ,H3,I3,q3⟩
def Zgg (te:TE)(g:TG):TS:=fun D σ H=>te σ H fun x H1=>g x σ H1 D.nx
theorem Xnp {tg e:Expr}{te:TE}{g:TG}(he:PE X e te)(hg:PG X tg g)(hs:swapsWithSole [tg] e pos.line X.env=pure false:=by rfl)(hw:swappedStores [tg] e X.env=pure none:=by rfl)
  (h1:(assignEach [tg] X.env).map (·.2)=[assign tg X.env]:=by rfl):PS X (.Assign [tg] e pos) (Zgg te g):=by
 intro pins s σ H D I h
 refine wpAny_Assign_stores (thn (he pins s σ H _ I h) fun v s1 hz9=>?_) hs hw
 obtain ⟨x,H1,I1,r1,q1⟩:=hz9
 rw [h1]
 exact thn (hg pins s1 σ H1 x v _ I1 r1 q1) fun _ s2 q=>q
theorem Xks {i:Nat}{x:Str}{e:Expr}{te:TE}{pos':Pos}(hN:X.N.Nodup)(hi:X.N[i]?=some x)(hx:Loc X.env.scope x)(he:PE X e te)(hs:swapsWith e (some (.Name x pos')) pos.line X.env=pure false:=by rfl)(hf:autoParam (X.fn x=true∨X.env.scope.names.lookup x=some .local) aT0._auto_1) :
  PS X (.Assign [.Name x pos'] e pos) (Zgg te (Jp i)):=by
 intro pins s σ H D I h
 refine wpAny_Assign_Name (thn (he pins s σ H _ I h) fun v s1 hz9=>?_) hs
 obtain ⟨y,H1,I1,r1,q1⟩:=hz9
 exact Zqk I1 hN hi hx r1 (fun s2 I2=>⟨_,H1,I2,q1⟩) hf
def Zqn (c:TT)(tb:TS):TS:=fun D σ H=>∃W:Nat→St→Hp→Prop,(∃m,W m σ H)∧∀m σ H,W m σ H→
 c σ H fun b H1=>if b=true then ∃N:St→Hp→Prop,(∀σ' H',N σ' H'→∃m',m'<m∧W m' σ' H')∧tb {D with nx:=N,ct:=N,bk:=D.nx} σ H1 else D.nx σ H1
theorem Xba {c:Expr}{body:List Stmt}{tc:TT}{tb:TS}(hp:PassesOwn (model X.prog X.w) X.A X.env X.xe)(hc:PT X c tc)(hb:PSs X body tb):PS X (.While c body [] pos) (Zqn tc tb):=by
 intro pins s σ H D I h
 obtain ⟨W,⟨m0,w0⟩,turn⟩:=h
 refine wpAny_While (codeAny_whileLoop (fun n s'=>∃σ' H',Inv X pins σ' H' s'∧W n σ' H') ?_ m0 ⟨σ,H,I,w0⟩)
 rintro n s1 ⟨σ1,H1,I1,w1⟩
 refine wpAny_passesOwn hp (thn (hc pins s1 σ1 H1 _ I1 (turn n σ1 H1 w1)) fun b s2 ⟨H2,I2,q2⟩=>?_)
 cases b with
 | true =>
  obtain ⟨N,hN,q2⟩:=q2
  rw [if_pos rfl]
  refine wpAny_passesOwn hp (thn (hb pins s2 σ1 H2 _ I2 q2) fun f s3 q3=>?_)
  cases f with
  | next =>
   obtain ⟨σ3,H3,I3,n3⟩:=q3
   obtain ⟨m',hm,w3⟩:=hN σ3 H3 n3
   exact ⟨m',hm,σ3,H3,I3,w3⟩
  | cont =>
   obtain ⟨σ3,H3,I3,n3⟩:=q3
   obtain ⟨m',hm,w3⟩:=hN σ3 H3 n3
   exact ⟨m',hm,σ3,H3,I3,w3⟩
  | brk=>exact q3
  | ret v=>exact q3
 | false =>
  rw [if_neg Bool.false_ne_true]
  exact wpAny_execs_nil ⟨σ1,H2,I2,q2⟩
end
structure It where
 go:Nat→Hp→Prop
 yld:Nat→Hp→V→Hp→Prop
 stop:Nat→Hp→Prop
def Zin (X:Cx)(pins:List (Addr×Obj))(H:Hp)(b:Addr):Prop:=
 H b=none∧b≠X.env.locals∧b∉X.fs∧(b∈X.ex∨X.s₀.heap.objs.size≤b)∧(∀x c,X.env.cells.lookup x=some c→c≠b)∧∀p∈X.pn++pins,p.1≠b
theorem Inv.fpOk {X:Cx}{pins:List (Addr×Obj)}{σ:St}{H H':Hp}{s:Shared}{b:Addr}(I:Inv X pins σ H s)(hb:s.heap.objs.size≤b)(hn:H' b=none):Zin X pins H' b:=by
 refine ⟨hn,ne_of_gt (lt_of_lt_of_le I.lt hb),I.nofs hb,.inr (le_trans I.sz hb),fun x c e z=>?_,fun p hp z=>?_⟩
 ·obtain ⟨v,q⟩:=I.cell x c e
  exact absurd (lt_of_lt_of_le q.lt (by rw [z];exact hb)) (lt_irrefl _)
 ·exact absurd (lt_of_lt_of_le (lt_size (I.pin p hp).1) (by rw [z];exact hb)) (lt_irrefl _)
structure Turn (P:Program)(w:World)(K:Frag)(tg:Expr)(J:It)(fp:List Addr)(it:Addr)(tn:Nat→Heap→Prop):Prop where
  mem:it∈fp
  obj:∀i h,tn i h→∀b∈fp,∃o,h.get? b=some o∧∀v,o.data≠.cell v
  keep:∀i h h',tn i h→(∀b∈fp,∀o,h.get? b=some o→h'.get? b=some o)→tn i h'
  item:∀(X:Cx),X.prog=P→X.w=w→X.K=K→X.calm=true→∀(i:Nat) (pins:List (Addr×Obj)) (s:Shared) (σ:St) (H:Hp) (E:Value→Shared→Prop),Inv X pins σ H s→(∀b∈fp,Zin X pins H b)→tn i s.heap→J.go i H→
    wpAny (model P w) X.A (pyNext (.ref it)) (fun r s1=>∃u,r=some u∧
      wpAny (model P w) X.A (letOwnedTupleGo tg (.ref it) u) (fun _ s2=>∃x H',Inv X pins σ H' s2∧RelV x u∧J.yld i H x H'∧tn (i+1) s2.heap∧∀b∈fp,H' b=none) E s1) E s
  done:∀(X:Cx),X.prog=P→X.w=w→X.K=K→X.calm=true→∀(i:Nat) (pins:List (Addr×Obj)) (s:Shared) (σ:St) (H:Hp) (E:Value→Shared→Prop),Inv X pins σ H s→(∀b∈fp,Zin X pins H b)→tn i s.heap→J.stop i H→
    wpAny (model P w) X.A (pyNext (.ref it)) (fun r s1=>r=none∧Inv X pins σ H s1) E s
  self:∀(A:Around) (i:Nat) (s:Shared) (Q:Value→Shared→Prop) (E:Value→Shared→Prop),tn i s.heap→Q (.ref it) s→wpAny (model P w) A (pyIter (.ref it)) Q E s
noncomputable abbrev TI:=St→Hp→(It→Hp→Prop)→Prop
def PIE (X:Cx)(pins:List (Addr×Obj))(σ:St)(tg:Expr)(R:It→Hp→Prop)(itv:Value)(s2:Shared):Prop:=
 ∃(it:Addr) (fp:List Addr) (tn:Nat→Heap→Prop) (J:It) (H':Hp),itv=.ref it∧Inv X pins σ H' s2∧Turn X.prog X.w X.K tg J fp it tn∧tn 0 s2.heap∧(∀b∈fp,Zin X pins H' b)∧R J H'
def PI (X:Cx)(tg iter:Expr)(wi:TI):Prop:=
 ∀(pins:List (Addr×Obj)) (s:Shared) (σ:St) (H:Hp) (R:It→Hp→Prop),Inv X pins σ H s→wi σ H R→
  wpAny (model X.prog X.w) X.A (eval iter X.env) (fun v s1=>wpAny (model X.prog X.w) X.A (pyIter v) (PIE X pins σ tg R) X.xe s1) X.xe s
theorem Xin {M:Model}{A:Around}{E:Value→Shared→Prop}{s:Shared}{tg:Expr}{it:Addr}{u:Value}{o:Obj}{n:String}{vs:Array Value}{Q:Unit→Shared→Prop}(ho:s.heap.get? it=some o)(hc:o.cls=.type n)(hd:o.data=.fields vs)
    (hn:["enumerate","zip","dict_itemiterator","dict_reverseitemiterator","odict_iterator","itertools.zip_longest","itertools.pairwise"].contains n=false) (hQ:Q () s):wpAny M A (letOwnedTupleGo tg (.ref it) u) Q E s:=by
  unfold letOwnedTupleGo
  cases tg<;>first
    | exact wpAny_pure hQ
    | (cases u<;>first
        | exact wpAny_pure hQ
        | (refine wpAny_bind (wpAny_load ho ?_)
           rw [hc,hd]
           show wpAny M A (if (["enumerate","zip","dict_itemiterator","dict_reverseitemiterator","odict_iterator","itertools.zip_longest","itertools.pairwise"].contains n&&vs[0]?==some (rawInt _))=true then _ else _) Q E s
           rw [if_neg (by intro h;rw [hn,Bool.false_and] at h;cases h)]
           exact wpAny_pure hQ))
noncomputable def Itl (K:Frag)(a:Addr):It:=
 ⟨fun i H=>∃xs x,SqL K H a xs∧xs[i]?=some x,fun i H x H'=>H'=H∧∀xs,SqL K H a xs→xs[i]?=some x,fun i H=>∃xs,SqL K H a xs∧xs.length≤i⟩
noncomputable def Itt (K:Frag)(a:Addr):It:=
 ⟨fun i H=>∃xs x,SqT K H a xs∧xs[i]?=some x,fun i H x H'=>H'=H∧∀xs,SqT K H a xs→xs[i]?=some x,fun i H=>∃xs,SqT K H a xs∧xs.length≤i⟩
noncomputable def Itr (lo:Int)(n:Nat):It:=⟨fun i _=>i<n,fun i H x H'=>H'=H∧x=.int (lo+i),fun i _=>n≤i⟩
theorem Zxg {P:Program}{w:World}{K:Frag}{tg:Expr}(a it:Addr):Turn P w K tg (Itl K a) [it] it (fun i h=>h.IsListIter it a i) where
 mem:=by simp
 obj:=fun i h st b hb=>by
  have e:b=it:=by simpa using hb
  subst e
  obtain ⟨o,e,c,d⟩:=st
  exact ⟨o,e,fun v z=>by rw [d] at z;cases z⟩
 keep:=fun i h h' st k=>st.at fun o e=>k it (by simp) o e
 item:=by
  intro X hP hw hK hc i pins s σ H E I hf st hg
  subst hP hw hK
  obtain ⟨xs,x,hq,hx⟩:=hg
  obtain ⟨its,rv,p,hz⟩:=I.list hq
  obtain ⟨u,hu,ru⟩:=rv.get hx
  obtain ⟨f0,f1,f2,f3,f4,f5⟩:=hf it (by simp)
  refine wpAny_pyNext_list_item st p.isList (x:=u) (by simpa using hu) fun h' st' sb=>?_
  have I1:Inv X pins σ H {s with heap:=h'}:=I.turned (t':=s.toks) (fun b o hb e=>(sb.2 b hb).trans e) f0 f1 f3 f4 f5
  obtain ⟨o,e,c,d⟩:=id st'
  exact ⟨u,rfl,Xin (s:={s with heap:=h'}) e c d (by decide) ⟨x,H,I1,ru,⟨rfl,fun ys hy=>by rw [I.list_inj hy hq];exact hx⟩,st',fun b hb=>(hf b hb).1⟩⟩
 done:=by
  intro X hP hw hK hc i pins s σ H E I hf st hg
  subst hP hw hK
  obtain ⟨xs,hq,hx⟩:=hg
  obtain ⟨its,rv,p,hz⟩:=I.list hq
  obtain ⟨f0,f1,f2,f3,f4,f5⟩:=hf it (by simp)
  have hl:=rv.length
  exact wpAny_pyNext_list_end (I.ok.hd hc) st p.isList (by simp;omega) fun h' eb=>⟨rfl,I.turned (t':=s.toks) (fun b o hb e=>eb b o hb e) f0 f1 f3 f4 f5⟩
 self:=fun _ _ _ _ _ st h=>wpAny_pyIter_listiter st h
theorem Zse {P:Program}{w:World}{K:Frag}{tg:Expr}(a it:Addr):Turn P w K tg (Itt K a) [it] it (fun i h=>h.IsTupleIter it a i) where
 mem:=by simp
 obj:=fun i h st b hb=>by
  have e:b=it:=by simpa using hb
  subst e
  obtain ⟨o,e,c,d⟩:=st
  exact ⟨o,e,fun v z=>by rw [d] at z;cases z⟩
 keep:=fun i h h' st k=>st.at fun o e=>k it (by simp) o e
 item:=by
  intro X hP hw hK hc i pins s σ H E I hf st hg
  subst hP hw hK
  obtain ⟨xs,x,hq,hx⟩:=hg
  obtain ⟨its,rv,p,hz⟩:=I.tuple hq
  obtain ⟨u,hu,ru⟩:=rv.get hx
  obtain ⟨f0,f1,f2,f3,f4,f5⟩:=hf it (by simp)
  refine wpAny_pyNext_tuple_item st (show s.heap.IsTuple a its.toArray from p) (x:=u) (by simpa using hu) fun h' st' sb=>?_
  have I1:Inv X pins σ H {s with heap:=h'}:=I.turned (t':=s.toks) (fun b o hb e=>(sb.2 b hb).trans e) f0 f1 f3 f4 f5
  obtain ⟨o,e,c,d⟩:=id st'
  exact ⟨u,rfl,Xin (s:={s with heap:=h'}) e c d (by decide) ⟨x,H,I1,ru,⟨rfl,fun ys hy=>by rw [I.tuple_inj hy hq];exact hx⟩,st',fun b hb=>(hf b hb).1⟩⟩
 done:=by
  intro X hP hw hK hc i pins s σ H E I hf st hg
  subst hP hw hK
  obtain ⟨xs,hq,hx⟩:=hg
  obtain ⟨its,rv,p,hz⟩:=I.tuple hq
  obtain ⟨f0,f1,f2,f3,f4,f5⟩:=hf it (by simp)
  have hl:=rv.length
  exact wpAny_pyNext_tuple_end (I.ok.hd hc) st (show s.heap.IsTuple a its.toArray from p) (by simp;omega) fun h' eb=>⟨rfl,I.turned (t':=s.toks) (fun b o hb e=>eb b o hb e) f0 f1 f3 f4 f5⟩
 self:=fun _ _ _ _ _ st h=>wpAny_pyIter_tupleiter st h
theorem Zrn {P:Program}{w:World}{K:Frag}{tg:Expr}(it:Addr)(lo:Int)(n:Nat):Turn P w K tg (Itr lo n) [it] it (fun i h=>IsRangeIter h it (lo+(i:Nat)*1) ((n:Int) - (i:Nat)) 1) where
  mem:=by simp
  obj:=fun i h st b hb=>by
    have e:b=it:=by simpa using hb
    subst e
    exact ⟨_,st,fun v z=>by
      have z':Data.fields _=Data.cell v:=z
      cases z'⟩
  keep:=fun i h h' st k=>k it (by simp) _ st
  item:=by
    intro X hP hw hK hc i pins s σ H E I hf st hg
    subst hP hw hK
    obtain ⟨f0,f1,f2,f3,f4,f5⟩:=hf it (by simp)
    have W:=Walks.range (prog:=X.prog) (w:=X.w) (I.ok.hd hc) it lo 1 n
    refine W.item i s _ _ hg st fun v h' tk hv st' kk=>?_
    obtain ⟨t,rfl⟩:=hv
    have I1:Inv X pins σ H {s with heap:=h',toks:=tk}:=I.turned (fun b o hb e=>kk b o (by simpa using hb) e) f0 f1 f3 f4 f5
    refine ⟨_,rfl,Xin (s:={s with heap:=h',toks:=tk}) (n:="range_iterator") st' rfl rfl (by decide) ⟨.int (lo+i),H,I1,⟨t,?_⟩,⟨rfl,rfl⟩,st',fun b hb=>(hf b hb).1⟩⟩
    rw [Int.mul_one]
  done:=by
    intro X hP hw hK hc i pins s σ H E I hf st hg
    subst hP hw hK
    obtain ⟨f0,f1,f2,f3,f4,f5⟩:=hf it (by simp)
    exact wpAny_pyNext_range_end (I.ok.hd hc) st (by have:n≤i:=hg;omega) fun h' eb=>⟨rfl,I.turned (t':=s.toks) (fun b o hb e=>eb b o hb e) f0 f1 f3 f4 f5⟩
  self:=fun _ _ _ _ _ st h=>wpAny_pyIter_rangeiter st h
section
variable {X:Cx}{tg:Expr}
noncomputable def Zyk (K:Frag)(tl:TE):TI:=fun σ H R=>tl σ H fun x H1=>∃a,x=.ref a∧(∃xs,SqL K H1 a xs)∧R (Itl K a) H1
noncomputable def iTup (K:Frag)(tl:TE):TI:=fun σ H R=>tl σ H fun x H1=>∃a,x=.ref a∧(∃xs,SqT K H1 a xs)∧R (Itt K a) H1
theorem Xgt {l:Expr}{tl:TE}(hl:PE X l tl):PI X tg l (Zyk X.K tl):=by
 intro pins s σ H R I h
 refine thn (hl pins s σ H _ I h) fun v s1 hz9=>?_
 obtain ⟨x,H1,I1,r1,q1⟩:=hz9
 obtain ⟨a,e,⟨xs,hq⟩,q⟩:=q1
 subst e
 cases r1
 obtain ⟨its,rv,p,hz⟩:=I1.list hq
 refine wpAny_pyIter_list p.isList ?_
 refine ⟨s1.heap.objs.size,[s1.heap.objs.size],_,_,H1,rfl,I1.kept (t':=s1.toks) fun b o e=>get?_push_of_some _ e,Zxg a _,⟨_,get?_push_size _ rfl,rfl,rfl⟩,fun b hb=>?_,q⟩
 have e:b=s1.heap.objs.size:=by simpa using hb
 subst e
 exact I1.fpOk (le_refl _) (I1.hok.fresh (le_refl _))
theorem Xor {l:Expr}{tl:TE}(hl:PE X l tl):PI X tg l (iTup X.K tl):=by
 intro pins s σ H R I h
 refine thn (hl pins s σ H _ I h) fun v s1 hz9=>?_
 obtain ⟨x,H1,I1,r1,q1⟩:=hz9
 obtain ⟨a,e,⟨xs,hq⟩,q⟩:=q1
 subst e
 cases r1
 obtain ⟨its,rv,p,hz⟩:=I1.tuple hq
 refine wpAny_pyIter_tuple (show s1.heap.IsTuple a its.toArray from p) ?_
 refine ⟨s1.heap.objs.size,[s1.heap.objs.size],_,_,H1,rfl,I1.kept (t':=s1.toks) fun b o e=>get?_push_of_some _ e,Zse a _,⟨_,get?_push_size _ rfl,rfl,rfl⟩,fun b hb=>?_,q⟩
 have e:b=s1.heap.objs.size:=by simpa using hb
 subst e
 exact I1.fpOk (le_refl _) (I1.hok.fresh (le_refl _))
theorem Zzz {pins:List (Addr×Obj)}{σ:St}{H:Hp}{s:Shared}{R:It→Hp→Prop}{E:Value→Shared→Prop}{lo hi:Int}{t u v:Tok}{tk:Nat}(I:Inv X pins σ H s)(h1:-(2 ^ 62)≤lo)(h2:lo<2 ^ 62)(h3:-(2 ^ 62)≤hi)(h4:hi<2 ^ 62)
    (q:R (Itr lo (hi - lo).toNat) H):wpAny (model X.prog X.w) X.A (pyIter (.ref s.heap.objs.size)) (PIE X pins σ tg R) E {s with heap:=s.heap.push {cls:=.type "range",data:=.fields #[.int lo t,.int hi u,.int 1 v]},toks:=tk}:=by
  refine wpAny_pyIter_range (IsRange.new ..) (small_one h1 h2 h3 h4) ?_
  have I1:Inv X pins σ H {s with heap:=s.heap.push {cls:=.type "range",data:=.fields #[.int lo t,.int hi u,.int 1 v]},toks:=tk}:=I.kept fun b o e=>get?_push_of_some _ e
  refine ⟨(s.heap.push {cls:=.type "range",data:=.fields #[.int lo t,.int hi u,.int 1 v]}).objs.size,[(s.heap.push {cls:=.type "range",data:=.fields #[.int lo t,.int hi u,.int 1 v]}).objs.size],_,_,H,rfl,
    I1.kept (t':=tk) fun b o e=>get?_push_of_some _ e,Zrn _ lo (hi - lo).toNat,?_,fun b hb=>?_,q⟩
  · have e1:lo+((0:Nat):Int)*1=lo:=by simp
    have e2:(((hi - lo).toNat:Nat):Int) - ((0:Nat):Int)=Builtin.Range.rangeSize lo hi 1:=by rw [rangeSize_one];split<;>omega
    show IsRangeIter _ _ (lo+((0:Nat):Int)*1) ((((hi - lo).toNat:Nat):Int) - ((0:Nat):Int)) 1
    rw [e1,e2]
    exact get?_push_size _ rfl
  · have e:b=(s.heap.push {cls:=.type "range",data:=.fields #[.int lo t,.int hi u,.int 1 v]}).objs.size:=by simpa using hb
    subst e
    exact I1.fpOk (le_refl _) (I1.hok.fresh (le_refl _))
noncomputable def Xck (ta:TA):TI:=fun σ H R=>ta σ H fun vs H1=>∃j:Int,vs=[.int j]∧-(2 ^ 62)≤j∧j<2 ^ 62∧R (Itr 0 j.toNat) H1
theorem Zws {a:Expr}{ta:TA}{p pos:Pos}(hg:Gl X "range")(hm:X.mg "range"=none)(ha:PA X [a] ta)(hs:starEach [a] X.env=[(false,eval a X.env)]:=by rfl):PI X tg (.Call (.Name "range" p) [a] [] pos) (Xck ta):=by
 intro pins s σ H R I h
 refine Call_ (Zdw I hg hm boot_range (PyProof.Rows.callWith_type1 (thn (ha pos pins s σ H _ I h) fun us s1 hz9=>?_) hs rfl))
 obtain ⟨vs,H1,I1,r1,q1⟩:=hz9
 obtain ⟨j,e,q1,q2,q⟩:=q1
 subst e
 cases r1 with
 | cons r rr =>
  cases rr
  obtain ⟨t,rfl⟩:=r
  exact call_range_1 (Zzz I1 (by omega) (by omega) q1 q2 (by simpa using q))
def tFor (wi:TI)(g:TG)(tb:TS):TS:=fun D σ H=>wi σ H fun J H1=>∃W:Nat→Nat→St→Hp→Prop,(∃m,W 0 m σ H1)∧∀i m σ H,W i m σ H→
 (J.stop i H∧D.nx σ H)∨(J.go i H∧∃N:St→Hp→Prop,(∀σ' H',N σ' H'→∃m',m'<m∧W (i+1) m' σ' H')∧∀x H',J.yld i H x H'→g x σ H' fun σ2 H2=>tb {D with nx:=N,ct:=N,bk:=D.nx} σ2 H2)
noncomputable def Zix (fp:List Addr)(h:Heap):List (Addr×Obj):=fp.filterMap fun b=>(h.get? b).map fun o=>(b,o)
theorem Zbf {fp:List Addr}{h:Heap}{b:Addr}{o:Obj}(hb:b∈fp)(e:h.get? b=some o):(b,o)∈Zix fp h:=List.mem_filterMap.mpr ⟨b,hb,by rw [e];rfl⟩
theorem Zwj {fp:List Addr}{h:Heap}{p:Addr×Obj}(hp:p∈Zix fp h):p.1∈fp∧h.get? p.1=some p.2:=by
 obtain ⟨b,hb,e⟩:=List.mem_filterMap.mp hp
 cases q:h.get? b with
 | none=>rw [q] at e;cases e
 | some o =>
  rw [q] at e
  have e':(b,o)=p:=Option.some.inj e
  subst e'
  exact ⟨hb,q⟩
theorem Inv.pinned {pins:List (Addr×Obj)}{σ:St}{H:Hp}{s:Shared}{fp:List Addr}(I:Inv X pins σ H s)(hf:∀b∈fp,Zin X pins H b)(ho:∀b∈fp,∃o,s.heap.get? b=some o∧∀v,o.data≠.cell v):Inv X (pins++Zix fp s.heap) σ H s:=
 I.pins_of fun p hp=>(List.mem_append.mp hp).elim (fun z=>I.pin p (mem_append_right _ z)) fun z=>by
  obtain ⟨hb,e⟩:=Zwj z
  obtain ⟨f0,f1,f2,_⟩:=hf p.1 hb
  obtain ⟨o,e',d⟩:=ho p.1 hb
  rw [e] at e';cases e'
  exact ⟨e,f0,f1,f2,d⟩
theorem Inv.unpinned {pins pl:List (Addr×Obj)}{σ:St}{H:Hp}{s:Shared}(I:Inv X (pins++pl) σ H s):Inv X pins σ H s:=I.pins_of fun p hp=>I.pin p (mem_append_right _ (mem_append_left _ hp))
theorem Xob {iter:Expr}{body:List Stmt}{wi:TI}{g:TG}{tb:TS}{pos:Pos}(hp:PassesOwn (model X.prog X.w) X.A X.env X.xe)(hc:X.calm=true)(hi:PI X tg iter wi)(hg:PG X tg g)(hb:PSs X body tb)
  (hs:∀x,foldedSetIterable iter X.env x=pure x:=by intro _;rfl):PS X (.For tg iter body [] pos) (tFor wi g tb):=by
 intro pins s σ H D I h
 refine wpAny_For (thn (hi pins s σ H _ I h) fun v s1 h1=>thn h1 fun itv s2 h2=>?_) hs
 obtain ⟨it,fp,tn,J,H2,e,I2,T,st2,f2,W,⟨m0,w0⟩,turn⟩:=h2
 subst e
 have stat:∀{H':Hp},(∀b∈fp,H' b=none)→∀b∈fp,Zin X pins H' b:=fun hn b hb=>⟨hn b hb,(f2 b hb).2⟩
 refine codeAny_forLoop_any (fun n s'=>∃i σ' H',Inv X pins σ' H' s'∧tn i s'.heap∧(∀b∈fp,H' b=none)∧W i n σ' H') ?_ m0 ⟨0,σ,H2,I2,st2,fun b hb=>(f2 b hb).1,w0⟩
 rintro n s3 ⟨i,σ3,H3,I3,st3,fr3,w3⟩
 rcases turn i n σ3 H3 w3 with ⟨stop,qn⟩ | ⟨go,N,hN,step⟩
 ·refine wpAny_passesOwn hp (thn (T.done X rfl rfl rfl hc i pins s3 σ3 H3 X.xe I3 (stat fr3) st3 stop) fun r s4 ⟨hr,I4⟩=>?_)
  subst hr
  exact wpAny_execs_nil ⟨σ3,H3,I4,qn⟩
 ·refine wpAny_passesOwn hp (thn (T.item X rfl rfl rfl hc i pins s3 σ3 H3 X.xe I3 (stat fr3) st3 go) fun r s4 ⟨u,hr,h4⟩=>?_)
  subst hr
  refine wpAny_passesOwn hp (thn h4 fun _ s5 hz9=>?_)
  obtain ⟨x,H5,I5,r5,y5,st5,fr5⟩:=hz9
  have I5':=I5.pinned (stat fr5) (T.obj _ _ st5)
  refine wpAny_passesOwn hp (thn (hg _ s5 σ3 H5 x u _ I5' r5 (step x H5 y5)) fun _ s6 hz9=>?_)
  obtain ⟨σ6,H6,I6,q6⟩:=hz9
  refine wpAny_passesOwn hp (thn (hb _ s6 σ6 H6 _ I6 q6) fun f s7 q7=>?_)
  have again:∀{σ7:St} {H7:Hp},Inv X (pins++Zix fp s5.heap) σ7 H7 s7→N σ7 H7→∃m,m<n∧∃i σ' H',Inv X pins σ' H' s7∧tn i s7.heap∧(∀b∈fp,H' b=none)∧W i m σ' H':=fun {σ7 H7} I7 n7=>by
   obtain ⟨m',hm,w7⟩:=hN σ7 H7 n7
   refine ⟨m',hm,i+1,σ7,H7,I7.unpinned,T.keep _ _ _ st5 fun b hb o e=>(I7.pin (b,o) (mem_append_right _ (mem_append_right _ (Zbf hb e)))).1,fun b hb=>?_,w7⟩
   obtain ⟨o,e,d⟩:=T.obj _ _ st5 b hb
   exact (I7.pin (b,o) (mem_append_right _ (mem_append_right _ (Zbf hb e)))).2.1
  cases f with
  | next=>obtain ⟨σ7,H7,I7,n7⟩:=q7;exact again I7 n7
  | cont=>obtain ⟨σ7,H7,I7,n7⟩:=q7;exact again I7 n7
  | brk=>obtain ⟨σ7,H7,I7,q7⟩:=q7;exact ⟨σ7,H7,I7.unpinned,q7⟩
  | ret v=>obtain ⟨x7,σ7,H7,I7,r7,q7⟩:=q7;exact ⟨x7,σ7,H7,I7.unpinned,r7,q7⟩
end
noncomputable abbrev R2:=V→V→Hp→VK→Prop
def OpR (X:Cx)(f:Value→Value→Sem Value)(r:R2):Prop:=
 ∀(pins:List (Addr×Obj)) (s:Shared) (σ:St) (H:Hp) (x y:V) (v u:Value) (Q:VK),Inv X pins σ H s→RelV x v→RelV y u→r x y H Q→
  wpAny (model X.prog X.w) X.A (f v u) (EP X pins σ Q) X.xe s
def UnR (X:Cx)(f:Value→Sem Value)(r:V→Hp→VK→Prop):Prop:=
 ∀(pins:List (Addr×Obj)) (s:Shared) (σ:St) (H:Hp) (x:V) (v:Value) (Q:VK),Inv X pins σ H s→RelV x v→r x H Q→
  wpAny (model X.prog X.w) X.A (f v) (EP X pins σ Q) X.xe s
def Zbb (X:Cx)(f:Value)(r:List V→Hp→VK→Prop):Prop:=
 ∀(pins:List (Addr×Obj)) (s:Shared) (σ:St) (H:Hp) (xs:List V) (us:List Value) (Q:VK),Inv X pins σ H s→Jc xs us→r xs H Q→
  wpAny (model X.prog X.w) X.A (call f us) (EP X pins σ Q) X.xe s
def tOp (r:R2)(ta tb:TE):TE:=fun σ H Q=>ta σ H fun x H1=>tb σ H1 fun y H2=>r x y H2 Q
def tUn (r:V→Hp→VK→Prop)(ta:TE):TE:=fun σ H Q=>ta σ H fun x H1=>r x H1 Q
noncomputable def rI (C:Int→Int→Prop)(g:Int→Int→V):R2:=fun x y H Q=>∃i j,x=.int i∧y=.int j∧C i j∧Q (g i j) H
noncomputable def rI0 (g:Int→Int→V):R2:=fun x y H Q=>∃i j,x=.int i∧y=.int j∧Q (g i j) H
def rU (g:Int→V):V→Hp→VK→Prop:=fun x H Q=>∃i,x=.int i∧Q (g i) H
section
variable {X:Cx}{a b c:Expr}{ta tb tc:TE}{pos:Pos}
theorem binT (ha:PE X a ta)(hb:PE X b tb){pins:List (Addr×Obj)}{s:Shared}{σ:St}{H:Hp}{R:V→V→Hp→Prop}(I:Inv X pins σ H s)
  (h:ta σ H fun x H1=>tb σ H1 fun y H2=>R x y H2) {Q:Value→Shared→Prop} {f:Value→Value→Sem Value}
  (hf:∀v u s2 x y H2,Inv X pins σ H2 s2→RelV x v→RelV y u→R x y H2→wpAny (model X.prog X.w) X.A (f v u) Q X.xe s2) :
  wpAny (model X.prog X.w) X.A (eval a X.env) (fun v s₁=>wpAny (model X.prog X.w) X.A (eval b X.env) (fun u s₂=>wpAny (model X.prog X.w) X.A (f v u) Q X.xe s₂) X.xe s₁) X.xe s:=by
 refine thn (ha pins s σ H _ I h) fun v s1 hz9=>?_
 obtain ⟨x,H1,I1,r1,q1⟩:=hz9
 refine thn (hb pins s1 σ H1 _ I1 q1) fun u s2 hz9=>?_
 obtain ⟨y,H2,I2,r2,q2⟩:=hz9
 exact hf v u s2 x y H2 I2 r1 r2 q2
theorem pe_op {op:Operator}{r:R2}(ho:OpR X (binaryOp op) r)(ha:PE X a ta)(hb:PE X b tb):PE X (.BinOp a op b pos) (tOp r ta tb):=by
 intro pins s σ H Q I h
 exact wpAny_BinOp (binT ha hb I h fun v u s2 x y H2 I2 rx ry q=>ho pins s2 σ H2 x y v u Q I2 rx ry q)
theorem pe_un {op:UnaryOp}{r:V→Hp→VK→Prop}(ho:UnR X (unaryOp op) r)(ha:PE X a ta):PE X (.UnaryOp op a pos) (tUn r ta):=by
 intro pins s σ H Q I h
 exact UnaryOp_ (thn (ha pins s σ H _ I h) fun v s1 ⟨x,H1,I1,r1,q1⟩=>ho pins s1 σ H1 x v Q I1 r1 q1)
theorem opI {f:Value→Value→Sem Value}{C:Int→Int→Prop}{g:Int→Int→Int}
  (rule:∀(i j:Int) (t u:Tok) (s:Shared) (Q:Value→Shared→Prop) (E:Value→Shared→Prop),C i j→Q (.int (g i j) s.toks) {s with toks:=s.toks+1}→wpAny (model X.prog X.w) X.A (f (.int i t) (.int j u)) Q E s) :
  OpR X f (rI C fun i j=>.int (g i j)):=by
 intro pins s σ H x y v u Q I rx ry h
 obtain ⟨i,j,rfl,rfl,hc,q⟩:=h
 obtain ⟨t,rfl⟩:=rx
 obtain ⟨t',rfl⟩:=ry
 exact rule i j t t' s _ _ hc ⟨.int (g i j),H,I.tok _,⟨_,rfl⟩,q⟩
theorem opI0 {f:Value→Value→Sem Value}{g:Int→Int→Int}
  (rule:∀(i j:Int) (t u:Tok) (s:Shared) (Q:Value→Shared→Prop) (E:Value→Shared→Prop),Q (.int (g i j) s.toks) {s with toks:=s.toks+1}→wpAny (model X.prog X.w) X.A (f (.int i t) (.int j u)) Q E s) :
  OpR X f (rI0 fun i j=>.int (g i j)):=by
 intro pins s σ H x y v u Q I rx ry h
 obtain ⟨i,j,rfl,rfl,q⟩:=h
 obtain ⟨t,rfl⟩:=rx
 obtain ⟨t',rfl⟩:=ry
 exact rule i j t t' s _ _ ⟨.int (g i j),H,I.tok _,⟨_,rfl⟩,q⟩
theorem opB0 {f:Value→Value→Sem Value}{g:Int→Int→Bool}
  (rule:∀(i j:Int) (t u:Tok) (s:Shared) (Q:Value→Shared→Prop) (E:Value→Shared→Prop),Q (.bool (g i j)) s→wpAny (model X.prog X.w) X.A (f (.int i t) (.int j u)) Q E s) :
  OpR X f (rI0 fun i j=>.bl (g i j)):=by
 intro pins s σ H x y v u Q I rx ry h
 obtain ⟨i,j,rfl,rfl,q⟩:=h
 obtain ⟨t,rfl⟩:=rx
 obtain ⟨t',rfl⟩:=ry
 exact rule i j t t' s _ _ ⟨.bl (g i j),H,I,rfl,q⟩
def CPow (i j:Int):Prop:=0≤j∧j≤1000000∧i.natAbs<2 ^ 64
def Xkd (i j:Int):Prop:=(-(2 ^ 64)<i∧i<2 ^ 64)∨(-(2 ^ 64)<j∧j<2 ^ 64)
theorem Xkd.ok {i j:Int}(h:Xkd i j):IntMulOk i j:=by
 rcases h with ⟨h1,h2⟩ | ⟨h1,h2⟩
 ·exact .of_left (intBits_le_64 h1 h2)
 ·exact .of_right (intBits_le_64 h1 h2)
theorem Xom:OpR X (binaryOp .Add) (rI0 fun i j=>.int (i+j)):=opI0 fun _ _ _ _ _ _ _ q=>add_int q
theorem Zja:OpR X (binaryOp .Sub) (rI0 fun i j=>.int (i - j)):=opI0 fun _ _ _ _ _ _ _ q=>sub_int q
theorem Xnz:OpR X (binaryOp .Mult) (rI Xkd fun i j=>.int (i*j)):=opI fun _ _ _ _ _ _ _ hc q=>mul_int q hc.ok
theorem Zbn:OpR X (binaryOp .Mod) (rI (fun _ j=>0<j) fun i j=>.int (i % j)):=opI fun i j _ _ _ _ _ hc q=>by
 have h1:(0:Int)<j:=hc
 exact mod_int' (by omega) (by rw [Int.fmod_eq_emod_of_nonneg i (by omega)];exact q)
theorem Zdv:OpR X (binaryOp .Pow) (rI CPow fun i j=>.int (i ^ j.toNat)):=opI fun _ _ _ _ _ _ _ hc q=>pow_int_small hc.1 hc.2.1 hc.2.2 q
theorem unI {f:Value→Sem Value}{g:Int→Int}
  (rule:∀(i:Int) (t:Tok) (s:Shared) (Q:Value→Shared→Prop) (E:Value→Shared→Prop),Q (.int (g i) s.toks) {s with toks:=s.toks+1}→wpAny (model X.prog X.w) X.A (f (.int i t)) Q E s) :
  UnR X f (rU fun i=>.int (g i)):=by
 intro pins s σ H x v Q I rx h
 obtain ⟨i,rfl,q⟩:=h
 obtain ⟨t,rfl⟩:=rx
 exact rule i t s _ _ ⟨.int (g i),H,I.tok _,⟨_,rfl⟩,q⟩
theorem Xoi:UnR X (unaryOp .USub) (rU fun i=>.int (-i)):=unI fun _ _ _ _ _ q=>neg_int q
end
noncomputable def scal:V→V→Bool
 | .non,.non=>true | .non,.int _=>true | .int _,.non=>true | .non,.bl _=>true | .bl _,.non=>true | .non,.str _=>true | .str _,.non=>true
 | .int _,.int _=>true | .bl _,.bl _=>true | .str _,.str _=>true | .byt _,.byt _=>true
 | .int _,.str _=>true | .str _,.int _=>true | .bl _,.str _=>true | .str _,.bl _=>true
 | _,_=>false
noncomputable def rEq:R2:=fun x y H Q=>scal x y=true∧Q (.bl (decide (x=y))) H
noncomputable def rNe:R2:=fun x y H Q=>scal x y=true∧Q (.bl (!decide (x=y))) H
theorem Zup {i j:Int}:decide (V.int i=V.int j)=(i==j):=by
 rw [Bool.eq_iff_iff]
 simp
theorem Xdi {i j:Bool}:decide (V.bl i=V.bl j)=(i==j):=by
 rw [Bool.eq_iff_iff]
 simp
theorem Ztm {i j:Str}:decide (V.str i=V.str j)=(i==j):=by
 rw [Bool.eq_iff_iff]
 simp
theorem Ztv {i j:Array UInt8}:decide (V.byt i=V.byt j)=(i.toList==j.toList):=by
 rw [Bool.eq_iff_iff]
 cases i
 cases j
 simp
section
variable {X:Cx}{a b c:Expr}{ta tb tc:TE}{pos:Pos}
theorem Yj {pins:List (Addr×Obj)}{σ:St}{H:Hp}{s:Shared}{Q:VK}{k k':Bool}(I:Inv X pins σ H s)(q:Q (.bl k) H)(e:k=k'):EP X pins σ Q (.bool k') s:=by
 subst e
 exact ⟨.bl k,H,I,rfl,q⟩
theorem op_eq:OpR X (compareOp .Eq) rEq:=by
 intro pins s σ H x y v u Q I rx ry h
 obtain ⟨hs,q⟩:=h
 cases x with
 | non =>
  cases rx
  cases y with
  | non=>cases ry;exact PySem.EqNone.eq_none_none (Yj I q (by simp))
  | bl j=>cases ry;exact PySem.EqNone.eq_none_bool (Yj I q (by simp))
  | int j=>obtain ⟨t',rfl⟩:=ry;exact PySem.EqNone.eq_none_int (Yj I q (by simp))
  | str j=>obtain ⟨t',rfl⟩:=ry;exact PySem.EqNone.eq_none_str (Yj I q (by simp))
  | _=>exact absurd (show false=true from hs) Bool.false_ne_true
 | bl i =>
  cases rx
  cases y with
  | non=>cases ry;exact PySem.EqNone.eq_bool_none (Yj I q (by simp))
  | bl j=>cases ry;exact eq_bool (Yj I q Xdi)
  | str j=>obtain ⟨t',rfl⟩:=ry;exact PySem.EqMixed.eq_bool_str (Yj I q (by simp))
  | _=>exact absurd (show false=true from hs) Bool.false_ne_true
 | int i =>
  obtain ⟨t,rfl⟩:=rx
  cases y with
  | non=>cases ry;exact PySem.EqNone.eq_int_none (Yj I q (by simp))
  | int j=>obtain ⟨t',rfl⟩:=ry;exact eq_int (Yj I q Zup)
  | str j=>obtain ⟨t',rfl⟩:=ry;exact PySem.EqMixed.eq_int_str (Yj I q (by simp))
  | _=>exact absurd (show false=true from hs) Bool.false_ne_true
 | str i =>
  obtain ⟨t,rfl⟩:=rx
  cases y with
  | non=>cases ry;exact PySem.EqNone.eq_str_none (Yj I q (by simp))
  | bl j=>cases ry;exact PySem.EqMixed.eq_str_bool (Yj I q (by simp))
  | int j=>obtain ⟨t',rfl⟩:=ry;exact PySem.EqMixed.eq_str_int (Yj I q (by simp))
  | str j=>obtain ⟨t',rfl⟩:=ry;exact eq_str (Yj I q Ztm)
  | _=>exact absurd (show false=true from hs) Bool.false_ne_true
 | byt i =>
  obtain ⟨t,rfl⟩:=rx
  cases y with
  | byt j=>obtain ⟨t',rfl⟩:=ry;exact PySem.W.eq_bytes (Yj I q Ztv)
  | _=>exact absurd (show false=true from hs) Bool.false_ne_true
 | _=>cases y<;>exact absurd (show false=true from hs) Bool.false_ne_true
theorem op_ne:OpR X (compareOp .NotEq) rNe:=by
 intro pins s σ H x y v u Q I rx ry h
 obtain ⟨hs,q⟩:=h
 cases x with
 | non =>
  cases rx
  cases y with
  | non=>cases ry;exact PySem.EqNone.ne_none_none (Yj I q (by simp))
  | bl j=>cases ry;exact PySem.EqNone.ne_none_bool (Yj I q (by simp))
  | int j=>obtain ⟨t',rfl⟩:=ry;exact PySem.EqNone.ne_none_int (Yj I q (by simp))
  | str j=>obtain ⟨t',rfl⟩:=ry;exact PySem.EqNone.ne_none_str (Yj I q (by simp))
  | _=>exact absurd (show false=true from hs) Bool.false_ne_true
 | bl i =>
  cases rx
  cases y with
  | non=>cases ry;exact PySem.EqNone.ne_bool_none (Yj I q (by simp))
  | bl j=>cases ry;exact ne_bool (Yj I q (congrArg not Xdi))
  | str j=>obtain ⟨t',rfl⟩:=ry;exact PySem.EqMixed.ne_bool_str (Yj I q (by simp))
  | _=>exact absurd (show false=true from hs) Bool.false_ne_true
 | int i =>
  obtain ⟨t,rfl⟩:=rx
  cases y with
  | non=>cases ry;exact PySem.EqNone.ne_int_none (Yj I q (by simp))
  | int j=>obtain ⟨t',rfl⟩:=ry;exact ne_int (Yj I q (congrArg not Zup))
  | str j=>obtain ⟨t',rfl⟩:=ry;exact PySem.EqMixed.ne_int_str (Yj I q (by simp))
  | _=>exact absurd (show false=true from hs) Bool.false_ne_true
 | str i =>
  obtain ⟨t,rfl⟩:=rx
  cases y with
  | non=>cases ry;exact PySem.EqNone.ne_str_none (Yj I q (by simp))
  | bl j=>cases ry;exact PySem.EqMixed.ne_str_bool (Yj I q (by simp))
  | int j=>obtain ⟨t',rfl⟩:=ry;exact PySem.EqMixed.ne_str_int (Yj I q (by simp))
  | str j=>obtain ⟨t',rfl⟩:=ry;exact ne_str (Yj I q (congrArg not Ztm))
  | _=>exact absurd (show false=true from hs) Bool.false_ne_true
 | byt i =>
  obtain ⟨t,rfl⟩:=rx
  cases y with
  | byt j=>obtain ⟨t',rfl⟩:=ry;exact PySem.W.ne_bytes (Yj I q (congrArg not Ztv))
  | _=>exact absurd (show false=true from hs) Bool.false_ne_true
 | _=>cases y<;>exact absurd (show false=true from hs) Bool.false_ne_true
theorem Zka:OpR X (compareOp .Lt) (rI0 fun i j=>.bl (decide (i<j))):=opB0 fun _ _ _ _ _ _ _ q=>lt_int q
theorem Zor:OpR X (compareOp .LtE) (rI0 fun i j=>.bl (decide (i≤j))):=opB0 fun _ _ _ _ _ _ _ q=>le_int q
theorem Zew:OpR X (compareOp .Gt) (rI0 fun i j=>.bl (decide (j<i))):=opB0 fun _ _ _ _ _ _ _ q=>gt_int q
theorem Xjc:OpR X (compareOp .GtE) (rI0 fun i j=>.bl (decide (j≤i))):=opB0 fun _ _ _ _ _ _ _ q=>ge_int q
theorem Xgx:OpR X (compareOp .IsNot) (fun x y H Q=>y=.non∧Q (.bl (!decide (x=.non))) H):=by
 intro pins s σ H x y v u Q I rx ry h
 obtain ⟨rfl,q⟩:=h
 cases ry
 refine isnot_none_gen (Yj I q ?_)
 cases x<;>first
  | (cases rx;rfl)
  | (obtain ⟨t,rfl⟩:=rx;rfl)
theorem OpR.or {f:Value→Value→Sem Value}{r r':R2}(h:OpR X f r)(h':OpR X f r'):OpR X f (fun x y H Q=>r x y H Q∨r' x y H Q):=by
 intro pins s σ H x y v u Q I rx ry q
 rcases q with q | q
 ·exact h pins s σ H x y v u Q I rx ry q
 ·exact h' pins s σ H x y v u Q I rx ry q
theorem Xi (b:Expr){op:CmpOp}(h:op≠.In:=by decide)(h2:op≠.NotIn:=by decide):behindInMarks op b=false:=by
 have e1:(op==CmpOp.In)=false:=by cases op<;>first | rfl | exact absurd rfl h
 have e2:(op==CmpOp.NotIn)=false:=by cases op<;>first | rfl | exact absurd rfl h2
 cases b<;>simp [behindInMarks,e1,e2]
theorem Xfn {op:CmpOp}{r:R2}(ho:OpR X (compareOp op) r)(ha:PE X a ta)(hb:PE X b tb)(hm:behindInMarks op b=false):PE X (.Compare a [op] [b] pos) (tOp r ta tb):=by
 intro pins s σ H Q I h
 exact wpAny_Compare1 (binT ha hb I h fun v u s2 x y H2 I2 rx ry q=>ho pins s2 σ H2 x y v u Q I2 rx ry q) hm
def Zyy (t:TE):TT:=fun σ H Q=>t σ H fun x H'=>∃k,x=.bl k∧Q k H'
theorem Xfx {op:CmpOp}{r:R2}(ho:OpR X (compareOp op) r)(ha:PE X a ta)(hb:PE X b tb)(hm:behindInMarks op b=false):PT X (.Compare a [op] [b] pos) (Zyy (tOp r ta tb)):=by
  intro pins s σ H Q I h
  refine wpAny_isTrue_Compare1 (thn (ha pins s σ H _ I h) fun v s1 ⟨x,H1,I1,r1,q1⟩=>thn (hb pins s1 σ H1 _ I1 q1) fun u s2 ⟨y,H2,I2,r2,q2⟩ =>
    thn (ho pins s2 σ H2 x y v u _ I2 r1 r2 q2) fun c s3 ⟨z,H3,I3,r3,k,e,q3⟩=>?_) hm
  subst e
  cases r3
  exact wpAny_truthy_bool ⟨H3,I3,q3⟩
def Zqf (r r':R2)(ta tb tc:TE):TE:=fun σ H Q=>ta σ H fun x H1=>tb σ H1 fun y H2=>r x y H2 fun z H3=>∃k,z=.bl k∧
 (if k=true then tc σ H3 fun w' H4=>r' y w' H4 Q else Q (.bl false) H3)
theorem Xcc {op op':CmpOp}{r r':R2}(ho:OpR X (compareOp op) r)(ho':OpR X (compareOp op') r')(ha:PE X a ta)(hb:PE X b tb)(hc:PE X c tc)
    (hm:lastMarks [op,op'] [b,c]=false:=by with_unfolding_all rfl):PE X (.Compare a [op,op'] [b,c] pos) (Zqf r r' ta tb tc):=by
  intro pins s σ H Q I h
  refine Compare_chain (thn (ha pins s σ H _ I h) fun v s1 ⟨x,H1,I1,r1,q1⟩=>chain_link (thn (hb pins s1 σ H1 _ I1 q1) fun u s2 ⟨y,H2,I2,r2,q2⟩ =>
    thn (ho pins s2 σ H2 x y v u _ I2 r1 r2 q2) fun d s3 ⟨z,H3,I3,r3,k,e,q3⟩=>?_)) hm
  subst e
  cases r3
  refine wpAny_truthy_bool ?_
  cases k with
  | false=>exact ite_ff ⟨.bl false,H3,I3,rfl,q3⟩
  | true=>exact ite_tt (chain_last (thn (hc pins s3 σ H3 _ I3 q3) fun w' s4 ⟨z',H4,I4,r4,q4⟩=>ho' pins s4 σ H4 y z' u w' Q I4 r2 r4 q4))
theorem Zjk:(sizeLine:Nat)<2 ^ 63:=by rw [sizeLine_eq];decide
theorem Zrl:OpR X (binaryOp .Add) (fun x y H Q=>∃i j,x=.str i∧y=.str j∧i.length+j.length≤sizeLine∧Q (.str (i++j)) H):=by
 intro pins s σ H x y v u Q I rx ry h
 obtain ⟨i,j,rfl,rfl,hz,q⟩:=h
 obtain ⟨t,rfl⟩:=rx
 obtain ⟨t',rfl⟩:=ry
 exact add_str (fun t' tk=>⟨.str (i++j),H,I.tok _,⟨_,rfl⟩,q⟩) hz
theorem vals1 {x:V}{us:List Value}(r:Jc [x] us):∃u,us=[u]∧RelV x u:=by
 cases r with
 | cons r1 r2=>cases r2;exact ⟨_,rfl,r1⟩
theorem vals2 {x y:V}{us:List Value}(r:Jc [x,y] us):∃u w',us=[u,w']∧RelV x u∧RelV y w':=by
 cases r with
 | cons r1 r2 =>
  cases r2 with
  | cons r3 r4=>cases r4;exact ⟨_,_,rfl,r1,r3⟩
theorem Zxh (hc:X.calm=true):Zbb X (.builtin "max") (fun xs H Q=>∃i j,xs=[.int i,.int j]∧Q (.int (if j > i then j else i)) H):=by
 intro pins s σ H xs us Q I r h
 obtain ⟨i,j,rfl,q⟩:=h
 obtain ⟨u,w',rfl,⟨t,rfl⟩,⟨t',rfl⟩⟩:=vals2 r
 refine max_two_ints (I.ok.hd hc) fun h' tk k=>⟨_,H,I.kept k,?_,q⟩
 by_cases hj:j > i
 ·rw [if_pos hj,if_pos hj];exact ⟨_,rfl⟩
 ·rw [if_neg hj,if_neg hj];exact ⟨_,rfl⟩
theorem Zvx (hc:X.calm=true):Zbb X (.builtin "min") (fun xs H Q=>∃i j,xs=[.int i,.int j]∧Q (.int (if j<i then j else i)) H):=by
 intro pins s σ H xs us Q I r h
 obtain ⟨i,j,rfl,q⟩:=h
 obtain ⟨u,w',rfl,⟨t,rfl⟩,⟨t',rfl⟩⟩:=vals2 r
 refine min_two_ints (I.ok.hd hc) fun h' tk k=>⟨_,H,I.kept k,?_,q⟩
 by_cases hj:j<i
 ·rw [if_pos hj,if_pos hj];exact ⟨_,rfl⟩
 ·rw [if_neg hj,if_neg hj];exact ⟨_,rfl⟩
end
structure ObjM (h:Heap)(x dx C:Addr)(mA:Str→Option Value):Prop where
 obj:h.get? x=some (PySem.W.instObj C dx)
 ns:h.Ns1 dx mA
 ne:dx≠x
section
variable {prog:Program}{w:World}{A:Around}{E:Value→Shared→Prop}{s:Shared}{K:Frag}{x dx C f:Addr}{mA:Str→Option Value}{name:Str}{v:Value}
end
noncomputable def putF (f:Str)(v:V):List (Str×V)→List (Str×V)
 | []=>[(f,v)]
 | (g,x)::r=>if g=f then (g,v)::r else (g,x)::putF f v r
section
variable {P:Program}{w:World}{H H':Hp}{h h':Heap}{a C dx:Addr}{fs fs':List (Str×V)}
end
structure Cls (K:Frag)(C:Addr):Prop where
 pg:PySem.W.plainGet K C Str.empty=true
 hd:PySem.W.hasDictIn K C=true
 po:PySem.W.plainOver K C=true
 sa:findIn K (.ref C) "__setattr__"=some (some (.builtin "object.__setattr__"))
def Xkn (K:Frag)(C:Addr)(f:Str):Prop:=findIn K (.ref C) f=some none
structure Con (K:Frag)(C:Addr)(f:Str)(v:V)(u:Value):Prop where
 at_:findIn K (.ref C) f=some (some u)
 rel:RelV v u
 get:specialIn K u "__get__"=some none
 cp:PySem.W.copiedNames.contains f=false
structure Meth (K:Frag)(C:Addr)(m:Str)(f:Addr):Prop where
 at_:findIn K (.ref C) m=some (some (.ref f))
 fn:isFn K (.ref f)=true
 kp:keepIn K (.ref f)=true
section
variable {X:Cx}{pins:List (Addr×Obj)}{σ:St}{H:Hp}{s:Shared}{a C dx:Addr}{fs:List (Str×V)}{f:Str}{v:V}{A:Around}{E:Value→Shared→Prop}
end
def sFld (K:Frag)(ta tv:TE)(f:Str):TS:=fun D σ H=>tv σ H fun y H1=>ta σ H1 fun x H2=>∃a C dx fs,x=.ref a∧H2 a=some (.ins C dx fs)∧Cls K C∧Xkn K C f∧fs.length<1000∧
 D.nx σ (upd H2 a (.ins C dx (putF f y fs)))
section
variable {X:Cx}{o e value:Expr}{f:Str}{pos pos' tpos:Pos}{ta tv:TE}
end
section
variable {X:Cx}{pins:List (Addr×Obj)}{σ:St}{H:Hp}{s:Shared}{A:Around}{E:Value→Shared→Prop}{Q:Value→Shared→Prop}{c:Value}{b:Bool}
inductive TyOf (K:Frag)(H:Hp):V→Value→Prop where
 | non:TyOf K H .non (.type "NoneType")
 | bl (x:Bool):TyOf K H (.bl x) (.type "bool")
 | int (i:Int):TyOf K H (.int i) (.type "int")
 | str (x:Str):TyOf K H (.str x) (.type "str")
 | flt (x:UInt64):TyOf K H (.flt x) (.type "float")
 | lst {a:Addr} {xs:List V} (e:H a=some (.lst xs)):TyOf K H (.ref a) (.type "list")
 | frz {a:Addr} {o:Obj} {xs:List V} (e:H a=some (.frz o (.lst xs))):TyOf K H (.ref a) (.type "list")
 | tup {a:Addr} {xs:List V} (e:H a=some (.tup xs)):TyOf K H (.ref a) (.type "tuple")
 | dK {a:Addr} {kvs:List (Key×V)} (e:H a=some (.dK kvs)):TyOf K H (.ref a) (.type "dict")
 | dT {a:Addr} {kvs:List (List Key×V)} (e:H a=some (.dT kvs)):TyOf K H (.ref a) (.type "dict")
 | ins {a C dx:Addr} {fs:List (Str×V)} (e:H a=some (.ins C dx fs)) (cl:Cls K C) (ha:findIn K (.ref C) "__class__"=some (some (.builtin "object.__class__")))
   (hn:specialIn K (.builtin "object.__class__") "__get__"=some (some (.builtin "getset_descriptor.__get__"))) (htk:PySem.W.takesIn K (.builtin "object.__class__")=some true)
   (hm:PySem.W.mroIn K C (.type "object")=some true):TyOf K H (.ref a) (.ref C)
end
structure Zdr (k:Nat)(A:Around):Prop where
 hd:A.handled=none
 dp:A.depth+3*k+5<recursionLimit
 un:A.units+16*k+200<cLine
 gd:A.guards=some []
theorem Zdr.mono {j k:Nat}{A:Around}(r:Zdr k A)(h:j≤k):Zdr j A:=⟨r.hd,by have:=r.dp;omega,by have:=r.un;omega,r.gd⟩
theorem Zdr.deeper {k:Nat}{A:Around}(r:Zdr (k+1) A)(env:Env):Zdr k (A.deeper env):=
 ⟨r.hd,by have:=r.dp;show A.depth+1+3*k+5<_;omega,by have:=r.un;show A.units+3+16*k+200<_;omega,r.gd⟩
theorem Zdr.in1 {k:Nat}{A:Around}(r:Zdr (k+1) A):Zdr k A.in1:=
 ⟨r.hd,by have:=r.dp;show A.depth+3*k+5<_;omega,by have:=r.un;show A.units+1+16*k+200<_;omega,r.gd⟩
theorem Zdr.depth {k:Nat}{A:Around}(r:Zdr k A):A.depth<recursionLimit:=by have:=r.dp;omega
theorem Zdr.units {k:Nat}{A:Around}(r:Zdr k A):A.units+64<cLine:=by have:=r.un;omega
def Zpm:TA:=fun _ H Q=>Q [] H
def Zcw (ta:TE)(tr:TA):TA:=fun σ H Q=>ta σ H fun x H1=>tr σ H1 fun xs H2=>Q (x::xs) H2
section
variable {X:Cx}{e:Expr}{es:List Expr}{te:TE}{t:TA}{pos:Pos}
theorem Zio:PA X [] Zpm:=fun _ _ _ _ H Q I h=>Calls.spliced_nil ⟨[],H,I,.nil,h⟩
theorem Zdm (ha:PE X e te)(hr:PA X es t)(hs:starEach (e::es) X.env=(false,eval e X.env)::starEach es X.env:=by rfl):PA X (e::es) (Zcw te t):=by
 intro pos pins s σ H Q I h
 rw [hs]
 show wpAny _ _ (spliced ((false,eval e X.env)::backTo pos (starEach es X.env))) _ _ s
 refine Calls.spliced_cons (thn (ha pins s σ H _ I h) fun u s1 hz9=>?_)
 obtain ⟨x,H1,I1,r1,q1⟩:=hz9
 exact thn (hr pos pins s1 σ H1 _ I1 q1) fun us s2 ⟨xs,H2,I2,r2,q2⟩=>⟨x::xs,H2,I2,.cons r1 r2,q2⟩
def Xlj (t:TA):TE:=fun σ H Q=>t σ H fun xs H1=>xs.length≤sizeLine∧∀p,H1 p=none→Q (.ref p) (upd H1 p (.tup xs))
def Xjz (t:TA):TE:=fun σ H Q=>t σ H fun xs H1=>xs.length≤sizeLine∧∀p,H1 p=none→Q (.ref p) (upd H1 p (.lst xs))
theorem Xmn {x1}(h:PA X es t):PE X (.Tuple es x1 pos) (Xlj t):=by
 intro pins s σ H Q I hq
 refine wpAny_Tuple_spliced (thn (h pos pins s σ H _ I hq) fun us s1 ⟨xs,H1,I1,r,z,q⟩=>⟨by rw [← r.length];exact z,?_⟩)
 have hf:H1 s1.heap.objs.size=none:=I1.hok.fresh (le_refl _)
 refine ⟨.ref s1.heap.objs.size,upd H1 s1.heap.objs.size (.tup xs),I1.laid (t':=s1.toks) (fun b u e=>get?_push_of_some _ e) (le_refl _) ?_,rfl,q _ hf⟩
 exact ⟨z,us,r,⟨_,get?_push_size _ rfl,rfl,_,rfl⟩⟩
theorem Xlq (h:PA X es t):PE X (.List es pos) (Xjz t):=by
 intro pins s σ H Q I hq
 refine wpAny_List_spliced (thn (h pos pins s σ H _ I hq) fun us s1 ⟨xs,H1,I1,r,z,q⟩=>⟨by rw [← r.length];exact z,?_⟩)
 have hf:H1 s1.heap.objs.size=none:=I1.hok.fresh (le_refl _)
 refine ⟨.ref s1.heap.objs.size,upd H1 s1.heap.objs.size (.lst xs),I1.laid (t':=s1.toks) (fun b u e=>get?_push_of_some _ e) (le_refl _) ?_,rfl,q _ hf⟩
 exact ⟨z,us,0,r,get?_push_size _ rfl⟩
end
noncomputable abbrev Sp:=List V→Hp→VK→XK→Prop
noncomputable abbrev CXT:=List Env→Hp→Shared→XK→Value→Shared→Prop
structure Xkb (P:Program)(w:World)(K:Frag)(mg:Str→Option Value)(base:Heap)(A:Around)(outer:List Env)(s:Shared)(H:Hp):Prop where
 frames:A.frames=some outer
 mod:Mod K mg base
 bs:∀b o,base.get? b=some o→s.heap.get? b=some o∧H b=none
 bsz:base.objs.size≤s.heap.objs.size
 funs:s.heap.FunFrames base outer
 frf:∀b∈frs outer,H b=none
 hok:HOk P w H s.heap
 bare:AllBare s.gens
def CE (outer:List Env)(P:Program)(w:World)(H:Hp)(s:Shared)(Q:VK)(u:Value)(s':Shared):Prop:=
 ∃v H',s'.os=s.os∧AllBare s'.gens∧Un (frs outer) [] H H' s.heap s'.heap∧HOk P w H' s'.heap∧RelV v u∧Q v H'
def CR (CX:CXT)(outer:List Env)(P:Program)(w:World)(H:Hp)(s:Shared)(Q:VK)(E:XK)(r:Result)(s':Shared):Prop:=
 match r with
 | .ok (.ret u)=>CE outer P w H s Q u s'
 | .ok _=>False
 | .error e=>CX outer H s E e s'
structure Zam (P:Program)(w:World)(K:Frag)(mg:Str→Option Value)(base:Heap)(CX:CXT)(k:Nat)(f:Addr)(fd:FuncData)(ps:List Str)(sp:Sp):Prop where
 len:∀vs H Q E,sp vs H Q E→vs.length=ps.length
 run:∀(A:Around) (outer:List Env) (s:Shared) (H:Hp) (args:Args) (us:List Value) (vs:List V) (Q:VK) (E:XK),Zdr k A→Xkb P w K mg base A outer s H→BindsTo s fd args (ps.zip us)→Jc vs us→sp vs H Q E→
  codeAny (model P w) A (.call (.ref f) args) (CR CX outer P w H s Q E) s
theorem Zam.imp {P:Program}{w:World}{K:Frag}{mg:Str→Option Value}{base:Heap}{CX:CXT}{k:Nat}{f:Addr}{fd:FuncData}{ps:List Str}{sp sp':Sp}(F:Zam P w K mg base CX k f fd ps sp)
  (h:∀vs H Q E,sp' vs H Q E→sp vs H Q E):Zam P w K mg base CX k f fd ps sp':=
 ⟨fun vs H Q E q=>F.len vs H Q E (h _ _ _ _ q),fun A outer s H args us vs Q E hr he hb hv hs=>F.run A outer s H args us vs Q E hr he hb hv (h _ _ _ _ hs)⟩
section
variable {X:Cx}{pins:List (Addr×Obj)}{σ:St}{H:Hp}{s s':Shared}
theorem Inv.env0 (I:Inv X pins σ H s):Xkb X.prog X.w X.K X.mg X.base X.A X.stack s H:=
 ⟨I.ok.frames,I.ok.mod,I.bs,le_trans I.ok.bsz I.sz,I.stack,I.stkFree,I.hok,I.bare⟩
theorem Inv.after {Q:VK}{u:Value}(I:Inv X pins σ H s)(h:CE X.stack X.prog X.w H s Q u s'):EP X pins σ Q u s':=by
 obtain ⟨v,H',os,bare,un,hok,r,q⟩:=h
 obtain ⟨hh,g,d,t,os'⟩:=s'
 obtain rfl:os'=s.os:=os
 exact ⟨v,H',I.call (h':=hh) (g':=g) (d':=d) (t':=t) (ch:=[]) un hok bare (fun b z=>absurd z (by simp)),r,q⟩
end
def Zop (sp:Sp)(dvs:List V)(E:XK)(t:TA):TE:=fun σ H Q=>t σ H fun vs H1=>sp (vs++dvs) H1 Q E
def Binds (K:Frag)(fd:FuncData)(ps:List Str)(ds:List Value):Prop:=
 ∀(s:Shared) (us:List Value),K.In s.heap→(us++ds).length=ps.length→BindsTo s fd ⟨us,[]⟩ (ps.zip (us++ds))
theorem Binds.all {K:Frag}{fd:FuncData}{ps:List Str}(h:∀us:List Value,us.length=ps.length→bindArgs fd ⟨us,[]⟩=pure (ps.zip us)):Binds K fd ps []:=fun s us _ hl=>by
 rw [append_nil] at hl ⊢
 exact .of_eq (h us hl)
def Zho (CX:CXT)(X:Cx)(E:XK):Prop:=∀(pins:List (Addr×Obj)) (σ:St) (H:Hp) (s:Shared) (e:Value) (s':Shared),Inv X pins σ H s→CX X.stack H s E e s'→X.xe e s'
section
variable {X:Cx}{CX:CXT}{k:Nat}{f C:Addr}{fd:FuncData}{ps:List Str}{sp:Sp}{dvs:List V}{ds:List Value}{E:XK}{x m:Str}{p pos apos:Pos}{e o:Expr}{es:List Expr}{ta:TE}{t:TA}
theorem Xol {pins:List (Addr×Obj)}{σ:St}{H:Hp}{s:Shared}{Q:VK}{us:List Value}{vs:List V}(F:Zam X.prog X.w X.K X.mg X.base CX k f fd ps sp)(hr:Zdr k X.A)(hb:Binds X.K fd ps ds)(hd:Jc dvs ds)(hx:Zho CX X E)
  (I:Inv X pins σ H s) (r:Jc vs us) (h:sp (vs++dvs) H Q E):wpAny (model X.prog X.w) X.A (call (.ref f) us) (EP X pins σ Q) X.xe s:=by
 have r2:Jc (vs++dvs) (us++ds):=r.append hd
 have hl:(us++ds).length=ps.length:=by rw [← r2.length];exact F.len _ _ _ _ h
 refine wpAny_call (codeAny_mono (F.run X.A X.stack s H ⟨us,[]⟩ (us++ds) (vs++dvs) Q E hr I.env0 (hb s us I.kIn hl) r2 h) fun r s' hq=>?_)
 cases r with
 | error e=>exact hx pins σ H s e s' I hq
 | ok fl =>
  cases fl with
  | ret u=>exact I.after hq
  | next=>exact False.elim hq
  | brk=>exact False.elim hq
  | cont=>exact False.elim hq
theorem Xjt (F:Zam X.prog X.w X.K X.mg X.base CX k f fd ps sp)(hr:Zdr k X.A)(hg:Gl X x)(hm:X.mg x=some (.ref f))(hk:keepIn X.K (.ref f)=true)(hb:Binds X.K fd ps ds)(hd:Jc dvs ds)(hx:Zho CX X E)
  (ha:PA X (e::es) t) (hdb:(x==("__debug__":Str))=false:=by decide) (he:starEach (e::es) X.env=(false,eval e X.env)::starEach es X.env:=by rfl) (hpl:(backTo pos (starEach es X.env)).any (·.1)=false:=by rfl) :
  PE X (.Call (.Name x p) (e::es) [] pos) (Zop sp dvs E t):=by
 intro pins s σ H Q I h
 refine wpAny_Call_Name_kw (Zvc I hg hm ?_ hdb)
 refine PySem.W.callWith_K (h₀:=X.base) I.ok.mod.kin hk (thn (ha pos pins s σ H _ I h) fun us s1 ⟨vs,H1,I1,r,q⟩=>⟨I1.kIn,?_⟩) he hpl
 exact Xol F hr hb hd hx I1 r q
structure Mk (K:Frag)(C f:Addr):Prop where
 makes:PySem.W.makesIn K C=true
 init:findIn K (.ref C) "__init__"=some (some (.ref f))
 fn:isFn K (.ref f)=true
 kp:keepIn K (.ref C)=true
end
section
variable {X:Cx}{CX:CXT}{k:Nat}{f C:Addr}{fd:FuncData}{ps ks:List Str}{sp:Sp}{E:XK}{x m:Str}{p pos apos kpos:Pos}{e o:Expr}{es:List Expr}{kws:List Keyword}{te ta:TE}{t tk:TA}{nm:Option Str}
structure KBinds (K:Frag)(fd:FuncData)(ps ks:List Str)(g:List Value→List Value→List Value)(gV:List V→List V→List V):Prop where
 to:∀(s:Shared) (us ws:List Value),K.In s.heap→(g us ws).length=ps.length→BindsTo s fd ⟨us,ks.zip ws⟩ (ps.zip (g us ws))
 rel:∀{vs:List V} {us:List Value} {zs:List V} {ws:List Value},Jc vs us→Jc zs ws→Jc (gV vs zs) (g us ws)
variable {g:List Value→List Value→List Value}{gV:List V→List V→List V}
end
structure Xa (N P:List Str)(sc:Scope):Prop where
 kind:sc.kind=.function
 co:sc.isCoroutine=false
 gen:sc.isGenerator=false
 nd:N.Nodup
 pre:N.take P.length=P
 par:∀x∈P,sc.names.lookup x=some .local∨sc.names.lookup x=some .cell
 nofree:∀y∈sc.names,y.2≠.free
theorem Zmi {kindOf:Str→Option NameKind}{x:Str}:∀{binds:List (Str×Value)} {m:Str→Option Value},(∀v,(x,v)∉binds)→bindL kindOf binds m x=m x
 | [],_,_=>rfl
 | (n,v)::r,m,h=>by
  unfold bindL
  rw [Zmi fun w hw=>h w (mem_cons_of_mem _ hw)]
  split
  ·have:x≠n:=by rintro rfl;exact h v mem_cons_self
   simp [this]
  ·rfl
theorem Zmv {kindOf:Str→Option NameKind}{x:Str}:∀{binds:List (Str×Value)} {m:Str→Option Value},(∀v,(x,v)∉binds)→bindC kindOf binds m x=m x
 | [],_,_=>rfl
 | (n,v)::r,m,h=>by
  unfold bindC
  rw [Zmv fun w hw=>h w (mem_cons_of_mem _ hw)]
  split
  ·rfl
  ·have:x≠n:=by rintro rfl;exact h v mem_cons_self
   simp [this]
theorem Znn {kindOf:Str→Option NameKind}{x:Str}{v:Value}:∀{P:List Str} {vs:List Value} {i:Nat} {m:Str→Option Value},P.Nodup→P[i]?=some x→vs[i]?=some v→kindOf x=some .local→
  bindL kindOf (P.zip vs) m x=some v
 | [],_,_,_,_,h,_,_=>by simp at h
 | _::_,[],_,_,_,_,h,_=>by simp at h
 | p::P,w::vs,0,m,nd,h1,h2,hk=>by
  simp at h1 h2;subst h1;subst h2
  show bindL kindOf ((p,w)::P.zip vs) m p=_
  unfold bindL
  rw [Zmi fun v hv=>(List.nodup_cons.mp nd).1 (of_mem_zip hv).1,if_pos hk]
  simp
 | p::P,w::vs,i+1,m,nd,h1,h2,hk=>by
  show bindL kindOf ((p,w)::P.zip vs) m x=_
  unfold bindL
  exact Znn (i:=i) (List.nodup_cons.mp nd).2 (by simpa using h1) (by simpa using h2) hk
theorem Zmo {kindOf:Str→Option NameKind}{x:Str}{v:Value}:∀{P:List Str} {vs:List Value} {i:Nat} {m:Str→Option Value},P.Nodup→P[i]?=some x→vs[i]?=some v→kindOf x≠some .local→
  bindC kindOf (P.zip vs) m x=some v
 | [],_,_,_,_,h,_,_=>by simp at h
 | _::_,[],_,_,_,_,h,_=>by simp at h
 | p::P,w::vs,0,m,nd,h1,h2,hk=>by
  simp at h1 h2;subst h1;subst h2
  show bindC kindOf ((p,w)::P.zip vs) m p=_
  unfold bindC
  rw [Zmv fun v hv=>(List.nodup_cons.mp nd).1 (of_mem_zip hv).1,if_neg hk]
  simp
 | p::P,w::vs,i+1,m,nd,h1,h2,hk=>by
  show bindC kindOf ((p,w)::P.zip vs) m x=_
  unfold bindC
  exact Zmo (i:=i) (List.nodup_cons.mp nd).2 (by simpa using h1) (by simpa using h2) hk
noncomputable def start (N:List Str)(vs:List V):St:=vs.map some++List.replicate (N.length - vs.length) none
noncomputable def Zxx (CX:CXT)(P:Program)(w:World)(K:Frag)(mg:Str→Option Value)(base:Heap)(N:List Str)(qual:Str)(scope:Scope)(f:Addr)(cd:Value)(A:Around)(outer:List Env)(s:Shared)(H:Hp)(E:XK):Cx where
 prog:=P
 w:=w
 K:=K
 mg:=mg
 base:=base
 A:=A.deeper (envOfC qual scope s.heap.objs.size f cd)
 N:=N
 s₀:=s
 H₀:=H
 env:=envOfC qual scope s.heap.objs.size f cd
 outer:=outer
 stack:=envOfC qual scope s.heap.objs.size f cd::outer
 ex:=[]
 calm:=true
 fn:=fun _=>true
 pn:=[]
 xe:=fun e s'=>wpAny (model P w) (A.deeper (envOfC qual scope s.heap.objs.size f cd)) (leaving (envOfC qual scope s.heap.objs.size f cd) e) (fun _ s''=>CX outer H s E e s'') (fun e' s''=>CX outer H s E e' s'') s'
theorem Zrd {sc:Scope}{n:Nat}{x:Str}(h:sc.names.lookup x=some .cell):∃c,(cellsFrom n sc.names []).lookup x=some c:=by
 have q:=PySem.W.cellsFrom_some sc.names n [] (.inl h)
 exact Option.isSome_iff_exists.mp q
theorem Zxp {CX:CXT}{P:Program}{w:World}{K:Frag}{mg:Str→Option Value}{base:Heap}{N ps:List Str}{qual:Str}{scope:Scope}{f:Addr}{cd:Value}{A:Around}{outer:List Env}{s s1:Shared}{H:Hp}{E:XK}{us:List Value}{vs:List V}
    (S:Xa N ps scope) (hd:A.handled=none) (e0:Xkb P w K mg base A outer s H) (hl:vs.length=ps.length) (r:Jc vs us)
    (x:InCallC s s.heap.objs.size (bindL (envOfC qual scope s.heap.objs.size f cd).kindOf (ps.zip us) fun _=>none) (cellsFrom (s.heap.objs.size+1) scope.names []) (bindC (envOfC qual scope s.heap.objs.size f cd).kindOf (ps.zip us) fun _=>none) s1) :
    Inv (Zxx CX P w K mg base N qual scope f cd A outer s H E) [] (start N vs) H s1:=by
  have hpl:ps.length≤N.length:=by have:=congrArg List.length S.pre;rw [length_take] at this;omega
  obtain ⟨h1,tk,rfl,hk⟩:=x.done
  have noA:∀b:Addr,b∉(Zxx CX P w K mg base N qual scope f cd A outer s H E).ex:=fun b z=>absurd (show b∈([]:List Addr) from z) (by simp)
  refine ⟨⟨e0.mod,S.kind,rfl,rfl,le_refl _,fun y z c h1 h2=>?_,fun y hy=>?_,fun y c _ h=>?_,fun _=>hd,Around.frames_deeper e0.frames,.inr ⟨rfl,rfl⟩,fun b z=>absurd z (noA b),e0.bs,e0.bsz,fun b _ _=>noA b,fun b z=>absurd z (noA b),e0.funs,e0.frf⟩,
    rfl,e0.bare,Un.kept hk,⟨_,x.toInCall.ns,fun i y v h1 h2 h3=>?_⟩,fun y c h=>⟨_,x.cell y c h⟩,e0.hok.fresh (le_refl _),fun y c h=>?_,fun p hp=>absurd (show p∈([]:List (Addr×Obj)) from hp) (by simp),e0.hok.kept hk,?_⟩
  · exact name_of_addr x.apart (PySem.mem_of_lookup h1) (PySem.mem_of_lookup h2)
  · have hy:scope.names.lookup y=some .cell∨scope.names.lookup y=some .free:=hy
    rcases hy with hy | hy
    · exact Zrd hy
    · exact absurd rfl (S.nofree _ (PySem.mem_of_lookup hy))
  · exact le_of_lt (x.above y c (PySem.mem_of_lookup h))
  · have hi:i<vs.length:=by
      unfold start at h2
      by_cases hi:i<vs.length
      · exact hi
      · rw [getElem?_append_right (by simpa using hi)] at h2
        rw [List.getElem?_replicate] at h2
        split at h2<;>cases h2
    have ha:vs[i]?=some v:=by
      unfold start at h2
      rw [getElem?_append_left (by simpa using hi),getElem?_map] at h2
      cases e:vs[i]? with
      | none=>rw [e] at h2;cases h2
      | some a=>rw [e] at h2;cases h2;rfl
    obtain ⟨u,hu,rv⟩:=r.get ha
    have hp:ps[i]?=some y:=by
      rw [← S.pre,List.getElem?_take_of_lt (by omega)];exact h1
    have ndP:ps.Nodup:=by rw [← S.pre];exact S.nd.sublist (List.take_sublist _ _)
    refine ⟨u,rv,?_⟩
    rcases S.par y (mem_of_getElem? hp) with k | k
    · exact .inl ⟨k,Znn ndP hp hu k⟩
    · obtain ⟨c,e⟩:=Zrd (n:=s.heap.objs.size+1) k
      refine .inr ⟨.inl k,c,e,?_⟩
      have q:=x.cell y c e
      rw [Zmo ndP hp hu (by show scope.names.lookup y≠_;rw [k];decide)] at q
      exact q
  · exact e0.hok.fresh (le_of_lt (x.above y c (PySem.mem_of_lookup h)))
  · unfold start
    show _=N.length
    rw [length_append,length_map,length_replicate]
    omega
theorem Xko {CX:CXT}{P:Program}{w:World}{K:Frag}{mg:Str→Option Value}{base:Heap}{k:Nat}{f:Addr}{name qual:Str}{params:Arguments}{body:List Stmt}{scope:Scope}{dV kV doc pm cdv ct oc:Value}{an od:Option Addr}
    {osl:Array (Option Value)} {N ps:List Str} {sp:Sp} (lk:K.lookup f=some ⟨oc,od,.func (fnOf name qual params body scope dV kV doc pm an cdv ct),osl⟩) (hcd:codeIn K cdv qual=true) (S:Xa N ps scope)
    (len:∀vs H Q E,sp vs H Q E→vs.length=ps.length)
    (hbody:∀(A:Around) (outer:List Env) (s:Shared) (H:Hp) (vs:List V) (Q:VK) (E:XK),Zdr k (A.deeper (envOfC qual scope s.heap.objs.size f cdv))→sp vs H Q E→
      ∃t,PSs (Zxx CX P w K mg base N qual scope f cdv A outer s H E) body t∧t {nx:=fun _ H'=>Q .non H',rt:=Q} (start N vs) H) :
    Zam P w K mg base CX (k+1) f (fnOf name qual params body scope dV kV doc pm an cdv ct) ps sp:=by
  refine ⟨len,fun A outer s H args us vs Q E hr e0 hb r hsp=>?_⟩
  have hl:=len _ _ _ _ hsp
  have KX:K.In s.heap:=e0.mod.kin.keeps fun b o e=>(e0.bs b o e).1
  have lim:s.heap.NoLimit:=e0.mod.nolimit.keeps fun b o e=>(e0.bs b o e).1
  have hkind:∀y∈ps.zip us,scope.names.lookup y.1=some .local∨(scope.names.lookup y.1=some .cell∧((cellsFrom (s.heap.objs.size+1) scope.names []).lookup y.1).isSome=true):=fun ⟨n,v⟩ hy=>by
    rcases S.par n (of_mem_zip hy).1 with q | q
    · exact .inl q
    · exact .inr ⟨q,PySem.W.cellsFrom_some _ _ _ (.inl q)⟩
  refine codeAny_call_function hr.depth (KX _ _ lk) rfl S.co S.gen rfl (PySem.W.codeRec_of KX hcd) (hb _ _ _ _ ?_)
  refine wpAny_newFunctionEnv_cells S.kind hkind fun env he s1 x=>?_
  subst he
  refine ⟨lim.keeps x.toInCall.keep,codeAny_func ?_⟩
  obtain ⟨t,ht,hq⟩:=hbody A outer s H vs Q E (hr.deeper _) hsp
  have I:Inv (Zxx CX P w K mg base N qual scope f cdv A outer s H E) [] (start N vs) H s1:=Zxp S hr.hd e0 hl r x
  refine wpAny_mono (ht [] s1 (start N vs) H _ I hq) (fun fl s' hs=>?_) fun e s' hs=>hs
  have fin:∀{σ':St} {H':Hp} {v:V} {u:Value},Inv (Zxx CX P w K mg base N qual scope f cdv A outer s H E) [] σ' H' s'→RelV v u→Q v H'→CE outer P w H s Q u s':=
    fun {σ' H' v u} J rv q=>⟨v,H',J.os,J.bare,J.base,J.hok,rv,q⟩
  cases fl with
  | ret u =>
    obtain ⟨v,σ',H',J,rv,q⟩:=hs
    exact fin J rv q
  | next =>
    obtain ⟨σ',H',J,q⟩:=hs
    exact fin (v:=V.non) (u:=Value.none) J rfl q
  | brk =>
    obtain ⟨_,_,_,q⟩:=hs
    exact False.elim q
  | cont =>
    obtain ⟨_,_,_,q⟩:=hs
    exact False.elim q
section
variable {X:Cx}{x:Str}{p pos:Pos}{e:Expr}{es:List Expr}{t:TA}{id T:String}{r:List V→Hp→VK→Prop}
def tCB (r:List V→Hp→VK→Prop)(t:TA):TE:=fun σ H Q=>t σ H fun vs H1=>r vs H1 Q
theorem Zzl (hc:Zbb X (.builtin id) r)(hg:Gl X x)(hm:X.mg x=none)(hv:bootBuiltins x=some (.builtin id))(ha:PA X (e::es) t)(hn:x≠"__name__":=by decide)(hdb:(x==("__debug__":Str))=false:=by decide)
  (he:starEach (e::es) X.env=(false,eval e X.env)::starEach es X.env:=by rfl) (hpl:(backTo pos (starEach es X.env)).any (·.1)=false:=by rfl):PE X (.Call (.Name x p) (e::es) [] pos) (tCB r t):=by
 intro pins s σ H Q I h
 refine wpAny_Call_Name_kw (Zdw I hg hm hv ?_ hn hdb)
 exact PyProof.Rows.callWith_builtin1 (thn (ha pos pins s σ H _ I h) fun us s1 ⟨vs,H1,I1,r1,q1⟩=>hc pins s1 σ H1 vs us Q I1 r1 q1) he hpl
theorem Zvm (hc:Zbb X (.type T) r)(hg:Gl X x)(hm:X.mg x=none)(hv:bootBuiltins x=some (.type T))(ha:PA X (e::es) t)(hn:x≠"__name__":=by decide)(hdb:(x==("__debug__":Str))=false:=by decide)
  (he:starEach (e::es) X.env=(false,eval e X.env)::starEach es X.env:=by rfl) (hpl:(backTo pos (starEach es X.env)).any (·.1)=false:=by rfl):PE X (.Call (.Name x p) (e::es) [] pos) (tCB r t):=by
 intro pins s σ H Q I h
 refine wpAny_Call_Name_kw (Zdw I hg hm hv ?_ hn hdb)
 exact PyProof.Rows.callWith_type1 (thn (ha pos pins s σ H _ I h) fun us s1 ⟨vs,H1,I1,r1,q1⟩=>hc pins s1 σ H1 vs us Q I1 r1 q1) he hpl
end
end L2
namespace HT
open PySem PyProof.Rows
noncomputable def lexLt:List Int→List Int→Bool
 | [],[]=>false
 | [],_::_=>true
 | _::_,[]=>false
 | x::xs,y::ys=>if x=y then lexLt xs ys else decide (x<y)
section
open PySem.SeqAt
open PySem.AutoSeq1 (wpAny_loadPart')
open PySem.MeetsSeq PySem.MeetsSeq2 PySem.MeetsSeq3
variable {prog:Program}{w:World}{A:Around}{E:Value→Shared→Prop}{s:Shared}
noncomputable def sIx (n d:Nat):Option Int→Nat
 | none=>d
 | some v=>if v<0 then (v+(n:Int)).toNat else min v.toNat n
theorem clip_eq (v:Int)(n d:Nat):(if v<0 then max (v+(n:Int)) 0 else min v (n:Int))=((sIx n d (some v):Nat):Int):=by
 show (if v<0 then max (v+(n:Int)) 0 else min v (n:Int))=(((if v<0 then (v+(n:Int)).toNat else min v.toNat n):Nat):Int)
 by_cases hv:v<0
 ·simp only [if_pos hv];omega
 ·simp only [if_neg hv];omega
end
end HT
namespace L2
open PySem PySem.Spec PyProof.Rows
noncomputable abbrev TO:=St→Hp→(Option Int→Hp→Prop)→Prop
def PO (X:Cx)(e:Option Expr)(t:TO):Prop:=
 ∀(pins:List (Addr×Obj)) (s:Shared) (σ:St) (H:Hp) (Q:Option Int→Hp→Prop),Inv X pins σ H s→t σ H Q→
  wpAny (model X.prog X.w) X.A (evalPart e X.env) (fun u s'=>∃o H',Inv X pins σ H' s'∧IsPart u o∧Q o H') X.xe s
noncomputable def Zjz:TO:=fun _ H Q=>Q none H
noncomputable def Xcr (t:TE):TO:=fun σ H Q=>t σ H fun x H1=>∃i,x=.int i∧Q (some i) H1
theorem intsAre_of {ns:List Int}:∀{us:List Value},Jc (ns.map V.int) us→IntsAre us ns:=by
 induction ns with
 | nil=>intro us r;rw [List.map_nil] at r;cases r;exact .nil
 | cons n ns ih =>
  intro us r
  rw [map_cons] at r
  cases r with
  | cons r1 r2 =>
   obtain ⟨t,e⟩:=r1
   subst e
   exact .cons n t (ih r2)
section
variable {X:Cx}{e:Expr}{te:TE}{lo hi:Option Expr}{tl th:TO}{pos p2:Pos}
theorem Xjg:PO X none Zjz:=by
 intro pins s σ H Q I h
 rw [evalPart_none]
 exact wpAny_pure ⟨none,H,I,.none,h⟩
theorem Xhv (h:PE X e te):PO X (some e) (Xcr te):=by
 intro pins s σ H Q I hw
 rw [evalPart_some]
 refine thn (h pins s σ H _ I hw) fun u s1 hz9=>?_
 obtain ⟨x,H1,I1,r1,q1⟩:=hz9
 obtain ⟨i,rfl,q⟩:=q1
 obtain ⟨t,rfl⟩:=r1
 exact ⟨some i,H1,I1,.int i t,q⟩
def SlR (X:Cx)(r:V→Option Int→Option Int→Hp→VK→Prop):Prop:=
 ∀(pins:List (Addr×Obj)) (s:Shared) (σ:St) (H:Hp) (x:V) (v vl vu:Value) (lo hi:Option Int) (sl:Addr) (Q:VK),Inv X pins σ H s→RelV x v→s.heap.IsSliceOf sl vl vu .none→IsPart vl lo→IsPart vu hi→r x lo hi H Q→
  ∃T id,typeLookup (.type T) "__getitem__"=pure (some (.builtin id))∧s.TypeIs v T∧wpAny (model X.prog X.w) X.A (getItem v (.ref sl)) (EP X pins σ Q) X.xe s
def tSl (r:V→Option Int→Option Int→Hp→VK→Prop)(te:TE)(tl th:TO):TE:=fun σ H Q=>te σ H fun x H1=>tl σ H1 fun l H2=>th σ H2 fun u H3=>r x l u H3 Q
theorem Xcu {r:V→Option Int→Option Int→Hp→VK→Prop}(hr:SlR X r)(he:PE X e te)(hl:PO X lo tl)(hu:PO X hi th):PE X (.Subscript e (.Slice lo hi none p2) pos) (tSl r te tl th):=by
 intro pins s σ H Q I h
 refine Subscript_ (thn (he pins s σ H _ I h) fun v s1 hz9=>?_)
 obtain ⟨x,H1,I1,r1,q1⟩:=hz9
 refine wpAny_Slice (thn (hl pins s1 σ H1 _ I1 q1) fun vl s2 ⟨l,H2,I2,pl,q2⟩=>thn (hu pins s2 σ H2 _ I2 q2) fun vu s3 ⟨u,H3,I3,pu,q3⟩=>?_)
 rw [evalPart_none]
 refine wpAny_pure ?_
 have I4:Inv X pins σ H3 {s3 with heap:=s3.heap.push {cls:=.type "slice",data:=.fields #[vl,vu,.none]}}:=I3.kept (t':=s3.toks) fun b ob q=>get?_push_of_some _ q
 obtain ⟨T,id,hT,ht,hg⟩:=hr pins {s3 with heap:=s3.heap.push {cls:=.type "slice",data:=.fields #[vl,vu,.none]}} σ H3 x v vl vu l u s3.heap.objs.size Q I4 r1 (Heap.IsSliceOf.new ..) pl pu q3
 show wpAny (model X.prog X.w) X.A (subscriptTail e (.Slice lo hi none p2) v (.ref s3.heap.objs.size)) (EP X pins σ Q) X.xe {s3 with heap:=s3.heap.push {cls:=.type "slice",data:=.fields #[vl,vu,.none]}}
 exact tail_any (ops:=[.ref s3.heap.objs.size,v]) ht hT hg (by with_unfolding_all rfl)
noncomputable def Xci (xs:List V)(lo hi:Option Int):List V:=(xs.drop (HT.sIx xs.length 0 lo)).take (HT.sIx xs.length xs.length hi - HT.sIx xs.length 0 lo)
theorem Zoh (xs:List V)(lo hi:Option Int):(Xci xs lo hi).length≤xs.length:=by
 unfold Xci
 rw [length_take,length_drop]
 omega
end
noncomputable def ixN (n:Nat)(i:Int):Option Nat:=if 0≤i then (if i<n then some i.toNat else none) else if -(n:Int)≤i then some (i+n).toNat else none
noncomputable def atI {α:Type}(xs:List α)(i:Int):Option α:=(ixN xs.length i).bind fun j=>xs[j]?
theorem Zoa {n:Nat}{i:Int}{j:Nat}(h:ixN n i=some j):seqIndex? i n=some j∧j<n∧-(n:Int)≤i∧i<n:=by
 unfold ixN at h
 by_cases h0:0≤i
 ·rw [if_pos h0] at h
  by_cases h1:i<n
  ·rw [if_pos h1] at h
   have e:i.toNat=j:=Option.some.inj h
   exact ⟨by rw [seqIndex_of h0 h1,e],by omega,by omega,h1⟩
  ·rw [if_neg h1] at h;cases h
 ·rw [if_neg h0] at h
  by_cases h1:-(n:Int)≤i
  ·rw [if_pos h1] at h
   have e:(i+n).toNat=j:=Option.some.inj h
   exact ⟨by rw [seqIndex_neg (by omega) h1,e],by omega,h1,by omega⟩
  ·rw [if_neg h1] at h;cases h
theorem Zef {α:Type}{xs:List α}{i:Int}{v:α}(h:atI xs i=some v):∃j,seqIndex? i xs.length=some j∧xs[j]?=some v∧j<xs.length∧-(xs.length:Int)≤i∧i<xs.length:=by
 unfold atI at h
 cases e:ixN xs.length i with
 | none=>rw [e] at h;cases h
 | some j =>
  rw [e] at h
  obtain ⟨h1,h2,h3,h4⟩:=Zoa e
  exact ⟨j,h1,h,h2,h3,h4⟩
def Zdk (b:Expr):Prop:=∀o i,subscripted b false o i=operate [o,i] (getItem o i)
def IxR (X:Cx)(r:R2):Prop:=
 ∀(value slice:Expr) (pins:List (Addr×Obj)) (s:Shared) (σ:St) (H:Hp) (x y:V) (v u:Value) (Q:VK),Inv X pins σ H s→RelV x v→RelV y u→r x y H Q→
  subscripted slice false v u=operate [v,u] (getItem v u)→wpAny (model X.prog X.w) X.A (subscriptTail value slice v u) (EP X pins σ Q) X.xe s
def MtR (X:Cx)(id:String)(r:V→List V→Hp→VK→Prop):Prop:=
 ∀(pins:List (Addr×Obj)) (s:Shared) (σ:St) (H:Hp) (x:V) (xs:List V) (v:Value) (us:List Value) (Q:VK),Inv X pins σ H s→RelV x v→Jc xs us→r x xs H Q→
  wpAny (model X.prog X.w) X.A (call (.builtin id) (v::us)) (EP X pins σ Q) X.xe s
section
variable {X:Cx}{a b:Expr}{ta tb:TE}{pos:Pos}
theorem IxR.or {r r':R2}(h:IxR X r)(h':IxR X r'):IxR X (fun x y H Q=>r x y H Q∨r' x y H Q):=by
 intro value slice pins s σ H x y v u Q I rx ry q hs
 rcases q with q | q
 ·exact h value slice pins s σ H x y v u Q I rx ry q hs
 ·exact h' value slice pins s σ H x y v u Q I rx ry q hs
theorem pe_ix {r:R2}(hr:IxR X r)(ha:PE X a ta)(hb:PE X b tb)(hs:Zdk b):PE X (.Subscript a b pos) (tOp r ta tb):=by
 intro pins s σ H Q I h
 exact Subscript_ (binT ha hb I h fun v u s2 x y H2 I2 rx ry q=>hr a b pins s2 σ H2 x y v u Q I2 rx ry q (hs _ _))
noncomputable def rIxL (K:Frag):R2:=fun x y H Q=>∃p xs i v,x=.ref p∧y=.int i∧SqL K H p xs∧atI xs i=some v∧Q v H
noncomputable def rIxT (K:Frag):R2:=fun x y H Q=>∃p xs i v,x=.ref p∧y=.int i∧SqT K H p xs∧atI xs i=some v∧Q v H
noncomputable def rIxS:R2:=fun x y H Q=>∃z i c,x=.str z∧y=.int i∧z.length≤sizeLine∧atI z.cps.toList i=some c∧Q (.str ⟨#[c]⟩) H
theorem Xfd:IxR X (rIxL X.K):=by
 intro value slice pins s σ H x y v u Q I rx ry h hs
 obtain ⟨p,xs,i,z,rfl,rfl,hq,he,q⟩:=h
 cases rx
 obtain ⟨t,rfl⟩:=ry
 obtain ⟨its,r,pl,hz⟩:=I.list hq
 obtain ⟨j,h1,h2,h3,h4,h5⟩:=Zef he
 obtain ⟨w,ew,rw'⟩:=r.get h2
 have hl:=r.length
 have hn:=Zjk
 have fin:EP X pins σ Q w s:=⟨z,H,I,rw',q⟩
 by_cases h0:0≤i
 ·have hj:i.toNat=j:=by
   rw [seqIndex_of h0 h5] at h1
   exact Option.some.inj h1
  exact item_listR pl.isList h0 (by omega) (by rw [hj];simpa using ew) fin hs
 ·have hj:(i+(its.toArray.size:Int)).toNat=j:=by
   rw [seqIndex_neg (by omega) h4] at h1
   rw [size_toArray,← hl]
   exact Option.some.inj h1
  exact subscriptTail_builtinR (x:=w) pl.isList.typeIs slot_list_getitem.lookup
   (wpAny_getItem_list_neg (Q:=fun r s'=>r=w∧EP X pins σ Q r s') pl.isList (by omega) (by rw [size_toArray]<;>omega) (by omega) (by rw [hj];simpa using ew) ⟨rfl,fin⟩) hs
theorem Xlr:IxR X (rIxT X.K):=by
 intro value slice pins s σ H x y v u Q I rx ry h hs
 obtain ⟨p,xs,i,z,rfl,rfl,hq,he,q⟩:=h
 cases rx
 obtain ⟨t,rfl⟩:=ry
 obtain ⟨its,r,pl,hz⟩:=I.tuple hq
 obtain ⟨j,h1,h2,h3,h4,h5⟩:=Zef he
 obtain ⟨w,ew,rw'⟩:=r.get h2
 have hl:=r.length
 have hn:=Zjk
 have fin:EP X pins σ Q w s:=⟨z,H,I,rw',q⟩
 exact subscriptTail_builtinR (x:=w) pl.typeIs slot_tuple_getitem.lookup
  (getItem_tuple (j:=j) (Q:=fun r s'=>r=w∧EP X pins σ Q r s') pl (by omega) (by omega) (by rw [size_toArray,← hl];exact h1) (by simpa using ew) ⟨rfl,fin⟩) hs
theorem Xmo:IxR X rIxS:=by
  intro value slice pins s σ H x y v u Q I rx ry h hs
  obtain ⟨z,i,c,rfl,rfl,hz,he,q⟩:=h
  obtain ⟨t,rfl⟩:=rx
  obtain ⟨t',rfl⟩:=ry
  obtain ⟨j,h1,h2,h3,h4,h5⟩:=Zef he
  have hl:z.cps.toList.length=z.length:=by simp [Str.length]
  rw [hl] at h1 h4 h5
  have hn:=Zjk
  exact tail_any (typeIs_str s z t) slot_str_getitem.lookup (getItem_str (c:=c) (by
    have e1:decide (i < -(2 ^ 63:Int))=false:=decide_eq_false (by omega)
    have e2:decide (i≥2 ^ 63)=false:=decide_eq_false (by omega)
    rw [e1,e2,Bool.or_false]) (by rw [h1];simpa using h2) ⟨.str ⟨#[c]⟩,H,I.tok _,⟨_,rfl⟩,q⟩) hs
noncomputable def rIx (K:Frag):R2:=fun x y H Q=>rIxL K x y H Q∨rIxT K x y H Q∨rIxS x y H Q
theorem Xki:IxR X (rIx X.K):=Xfd.or (Xlr.or Xmo)
theorem Zsw (its:List Value)(n j:Nat)(u:Value):Obj.mapSeq (·.setIfInBounds j u) {cls:=.type "list",data:=.seq its.toArray n}={cls:=.type "list",data:=.seq (its.set j u).toArray n}:=by
 simp [Obj.mapSeq]
theorem Inv.lst {pins:List (Addr×Obj)}{σ:St}{H:Hp}{s:Shared}{p:Addr}{xs:List V}(I:Inv X pins σ H s)(h:H p=some (.lst xs)) :
  ∃(its:List Value) (n:Nat),Jc xs its∧s.heap.get? p=some {cls:=.type "list",data:=.seq its.toArray n}∧xs.length≤sizeLine:=by
 obtain ⟨z,its,n,r,e⟩:=I.hok p _ h
 exact ⟨its,n,r,e,z⟩
theorem Inv.lstUpd {pins:List (Addr×Obj)}{σ:St}{H:Hp}{s:Shared}{p:Addr}{xs ys:List V}{its its':List Value}{n n':Nat}{f:Obj→Obj}(I:Inv X pins σ H s)(h:H p=some (.lst xs))
  (ho:s.heap.get? p=some {cls:=.type "list",data:=.seq its.toArray n}) (hf:f {cls:=.type "list",data:=.seq its.toArray n}={cls:=.type "list",data:=.seq its'.toArray n'}) (r:Jc ys its') (hz:ys.length≤sizeLine) (t:Nat) :
  Inv X pins σ (upd H p (.lst ys)) {s with heap:=s.heap.update p f,toks:=t}:=by
 have e:(s.heap.update p f).get? p=some {cls:=.type "list",data:=.seq its'.toArray n'}:=by
  rw [Heap.get?_update_self f ho (by rw [hf]<;>rfl),hf]
 refine I.write (x:=p) (e:=p) (by rw [h];trivial) (.inl rfl) (fun b u hb q=>(Heap.get?_update_other _ _ (Ne.symm hb)).trans q) ⟨_,e⟩ ?_
 exact ⟨hz,its',n',r,e⟩
def Xia:V→V→V→Hp→(Hp→Prop)→Prop:=fun o i v H Q=>∃p xs k j,o=.ref p∧i=.int k∧H p=some (.lst xs)∧ixN xs.length k=some j∧Q (upd H p (.lst (xs.set j v)))
theorem set_list:PSet X Xia:=by
 intro pins s σ H o i v ov iv u Q I ro ri rv h
 obtain ⟨p,xs,k,j,rfl,rfl,hp,hj,q⟩:=h
 cases ro
 obtain ⟨t,rfl⟩:=ri
 obtain ⟨its,n,r,ho,hz⟩:=I.lst hp
 obtain ⟨h1,h2,h3,h4⟩:=Zoa hj
 have hl:=r.length
 have hn:=Zjk
 have I':Inv X pins σ (upd H p (.lst (xs.set j v))) {s with heap:=s.heap.update p (Obj.mapSeq (·.setIfInBounds j u))}:=
  I.lstUpd hp ho (Zsw its n j u) (r.set rv j) (by rw [length_set];exact hz) s.toks
 by_cases h0:0≤k
 ·have hk:k.toNat=j:=by
   rw [seqIndex_of h0 h4] at h1
   exact Option.some.inj h1
  exact PySem.W.ki_setAt ho h0 (by omega) (by rw [size_toArray,← hl];exact h4) (by rw [hk];exact ⟨_,I',q⟩)
 ·have hk:(k+(its.toArray.size:Int)).toNat=j:=by
   rw [seqIndex_neg (by omega) h3] at h1
   rw [size_toArray,← hl]
   exact Option.some.inj h1
  exact PySem.W.ki_setBack ho (by omega) (by rw [size_toArray,← hl];exact h3) (by omega) (by rw [hk];exact ⟨_,I',q⟩)
theorem Zms (lo hi:Option Int)(n:Nat):(sliceBounds lo hi none n).1=((HT.sIx n 0 lo:Nat):Int)∧(sliceBounds lo hi none n).2.1=((HT.sIx n n hi:Nat):Int)∧(sliceBounds lo hi none n).2.2=1:=by
 refine ⟨?_,?_,rfl⟩
 ·cases lo with
  | none=>simp [sliceBounds,HT.sIx]
  | some i =>
   simp only [sliceBounds,HT.sIx,Option.getD_none,show (1:Int) > 0 by decide,if_true]
   by_cases h:i<0
   ·simp only [h,if_true]<;>omega
   ·simp only [h,if_false]<;>omega
 ·cases hi with
  | none=>simp [sliceBounds,HT.sIx]
  | some i =>
   simp only [sliceBounds,HT.sIx,Option.getD_none,show (1:Int) > 0 by decide,if_true]
   by_cases h:i<0
   ·simp only [h,if_true]<;>omega
   ·simp only [h,if_false]<;>omega
theorem Zkw (its:List Value)(lo hi:Option Int):slicePick its.toArray lo hi none=((its.drop (HT.sIx its.length 0 lo)).take (HT.sIx its.length its.length hi - HT.sIx its.length 0 lo)).toArray:=by
 obtain ⟨h1,h2,h3⟩:=Zms lo hi its.toArray.size
 unfold slicePick
 rw [h1,h2,h3]
 simp only [sliceRange_one,pick_run,size_toArray]<;>rfl
def rSlL (K:Frag):V→Option Int→Option Int→Hp→VK→Prop:=fun x lo hi H Q=>∃a xs,x=.ref a∧SqL K H a xs∧∀p,H p=none→Q (.ref p) (upd H p (.lst (Xci xs lo hi)))
theorem Xhw:SlR X (rSlL X.K):=by
 intro pins s σ H x v vl vu lo hi sl Q I rx hs pl pu h
 obtain ⟨a,xs,rfl,hx,q⟩:=h
 cases rx
 obtain ⟨its,r,ht,hz⟩:=I.list hx
 have hlen:=r.length
 refine ⟨"list",_,slot_list_getitem.lookup,ht.isList.typeIs,?_⟩
 refine wpAny_getItem_list_slice ht.isList hs pl pu .none (by simp) ?_ (by rw [size_toArray]<;>omega)
 rw [Zkw,← hlen]
 refine ⟨.ref s.heap.objs.size,_,I.laid (t':=s.toks) (o:=.lst (Xci xs lo hi)) (fun b ob q=>get?_push_of_some _ q) (le_refl _) ?_,rfl,q _ (I.hok.fresh (le_refl _))⟩
 exact ⟨le_trans (Zoh xs lo hi) hz,_,0,(r.drop (HT.sIx xs.length 0 lo)).take (HT.sIx xs.length xs.length hi - HT.sIx xs.length 0 lo),get?_push_size _ rfl⟩
theorem Zlw:Zbb X (.builtin "len") (fun xs H Q=>∃p ys,xs=[.ref p]∧(SqL X.K H p ys∨SqT X.K H p ys)∧Q (.int ys.length) H):=by
 intro pins s σ H xs us Q I r h
 obtain ⟨p,ys,rfl,hq,q⟩:=h
 obtain ⟨u,rfl,rx⟩:=vals1 r
 cases rx
 have hn:=Zjk
 rcases hq with hq | hq
 ·obtain ⟨its,r',pl,hz⟩:=I.list hq
  have hlen:=r'.length
  exact Calls.call_len_list pl.isList (by simp only [size_toArray]<;>omega) ⟨.int ys.length,H,I.tok _,⟨s.toks+1,by rw [size_toArray,hlen]⟩,q⟩
 ·obtain ⟨its,r',pl,hz⟩:=I.tuple hq
  have hlen:=r'.length
  exact len_tuple pl (by simp only [size_toArray]<;>omega) ⟨.int ys.length,H,I.tok _,⟨s.toks+1,by rw [size_toArray,hlen]⟩,q⟩
theorem Zlg:Zbb X (.builtin "len") (fun xs H Q=>∃z,xs=[.str z]∧z.length≤sizeLine∧Q (.int z.length) H):=by
 intro pins s σ H xs us Q I r h
 obtain ⟨z,rfl,hz,q⟩:=h
 obtain ⟨u,rfl,t,rfl⟩:=vals1 r
 have hn:=Zjk
 exact len_str (by omega) ⟨.int z.length,H,I.tok _,⟨_,rfl⟩,q⟩
theorem Zbb.or {f:Value}{r r':List V→Hp→VK→Prop}(h:Zbb X f r)(h':Zbb X f r'):Zbb X f (fun xs H Q=>r xs H Q∨r' xs H Q):=by
 intro pins s σ H xs us Q I rs q
 rcases q with q | q
 ·exact h pins s σ H xs us Q I rs q
 ·exact h' pins s σ H xs us Q I rs q
theorem Zmy:Zbb X (.type "list") (fun xs H Q=>∃p ys,xs=[.ref p]∧(SqL X.K H p ys∨SqT X.K H p ys)∧∀l,H l=none→Q (.ref l) (upd H l (.lst ys))):=by
 intro pins s σ H xs us Q I r h
 obtain ⟨p,ys,rfl,hq,q⟩:=h
 obtain ⟨u,rfl,rx⟩:=vals1 r
 cases rx
 have fin:∀(its:List Value),Jc ys its→ys.length≤sizeLine→∀(h':Heap) (c':Nat),(∀b o',s.heap.get? b=some o'→h'.get? b=some o')→
   h'.get? s.heap.objs.size=some {cls:=.type "list",dict:=none,data:=.seq its.toArray c',slots:=#[]}→EP X pins σ Q (.ref s.heap.objs.size) {s with heap:=h'}:=fun its r' hz h' c' kp e =>
  ⟨.ref s.heap.objs.size,_,I.laid (t':=s.toks) kp (le_refl _) (show Zck X.prog X.w _ h' _ (.lst ys) from ⟨hz,its,c',r',e⟩),rfl,q _ (I.hok.fresh (le_refl _))⟩
 rcases hq with hq | hq
 ·obtain ⟨its,r',pl,hz⟩:=I.list hq
  have hlen:=r'.length
  obtain ⟨o,ho,hc,n,hd⟩:=pl.isList
  exact call_list_seq p (.inl rfl) ho hc hd (fun h' c' kp e=>fin its r' hz h' c' kp e) (by simp only [size_toArray]<;>omega)
 ·obtain ⟨its,r',pl,hz⟩:=I.tuple hq
  have hlen:=r'.length
  obtain ⟨o,ho,hc,n,hd⟩:=pl
  exact call_list_seq p (.inr rfl) ho hc hd (fun h' c' kp e=>fin its r' hz h' c' kp e) (by simp only [size_toArray]<;>omega)
def tyV (K:Frag)(T:String)(x:V)(H:Hp):Prop:=match x with
 | .str _=>T="str"
 | .int _=>T="int"
 | .ref p=>(T="list"∧∃xs,SqL K H p xs)∨(T="tuple"∧∃o,K.lookup p=some o∧o.cls=.type "tuple"∧o.dict=none)∨
   (T="dict"∧((∃kvs,H p=some (.dK kvs))∨∃kvs,H p=some (.dT kvs)))∨(T="set"∧∃S n,H p=some (.set S n))
 | _=>False
theorem Xku {pins:List (Addr×Obj)}{σ:St}{H:Hp}{s:Shared}{T:String}{x:V}{v:Value}(I:Inv X pins σ H s)(r:RelV x v)(ty:tyV X.K T x H) :
  s.TypeIs v T∧∀a,v=.ref a→∃ob,s.heap.get? a=some ob∧ob.dict=none:=by
 cases x with
 | str z =>
  obtain ⟨t,rfl⟩:=r
  cases (show T="str" from ty)
  exact ⟨typeIs_str s z t,fun _ e=>nomatch e⟩
 | int i =>
  obtain ⟨t,rfl⟩:=r
  cases (show T="int" from ty)
  exact ⟨typeIs_int s i t,fun _ e=>nomatch e⟩
 | ref p =>
  cases r
  rcases ty with ⟨rfl,xs,hq⟩ | ⟨rfl,o,hk,hc,hd⟩ | ⟨rfl,hk⟩ | ⟨rfl,S,n,hk⟩
  ·obtain ⟨its,_,pl,_⟩:=I.list hq
   refine ⟨pl.isList.typeIs,fun a e=>?_⟩
   cases e
   obtain ⟨o,n,e,c,hd,_⟩:=pl
   exact ⟨o,e,hd⟩
  ·refine ⟨⟨o,I.kIn p o hk,hc⟩,fun a e=>?_⟩
   cases e
   exact ⟨o,I.kIn _ o hk,hd⟩
  ·have z:∃o,s.heap.get? p=some o∧o.ExactDict:=by
    rcases hk with ⟨kvs,hk⟩ | ⟨kvs,hk⟩
    ·obtain ⟨_,_,_,_,o,_,_,e,ex,_⟩:=I.hok p _ hk
     exact ⟨o,e,ex⟩
    ·obtain ⟨_,_,_,_,o,_,_,e,ex,_⟩:=I.hok p _ hk
     exact ⟨o,e,ex⟩
   obtain ⟨o,e,ex⟩:=z
   refine ⟨⟨o,e,ex.1⟩,fun a e2=>?_⟩
   cases e2
   exact ⟨o,e,ex.2.1⟩
  ·obtain ⟨o,_,_,_,e,ex,_⟩:=I.hok p _ hk
   refine ⟨⟨o,e,ex.1⟩,fun a e2=>?_⟩
   cases e2
   exact ⟨o,e,ex.2.1⟩
 | _=>exact False.elim ty
def tBM (K:Frag)(T:String)(r:V→List V→Hp→VK→Prop)(to:TE)(t:TA):TE:=fun σ H Q=>to σ H fun x H1=>tyV K T x H1∧t σ H1 fun xs H2=>r x xs H2 Q
variable {o e:Expr}{es:List Expr}{to:TE}{t:TA}{name:Str}{apos cpos:Pos}{T id:String}{r:V→List V→Hp→VK→Prop}
theorem pe_bm (pa:PlainAttrs T)(slot:Slot T name id)(hty:typeOf (.builtin id)=pure (.type "method_descriptor"))(hm:MtR X id r)(ho:PE X o to)(ha:PA X (e::es) t)
    (hbase:attributeBase o name X.env (eval o X.env)=eval o X.env:=by rfl)
    (hfew:((backTo cpos (starEach (e::es) X.env)).all (fun x=>!x.1)&&(backToKw cpos (keywordEach [] X.env)).all (fun x=>x.1.isSome)
      && decide ((e::es).length+([]:List Keyword).length+(if ([]:List Keyword).isEmpty then 0 else 1)<30))=true:=by rfl)
    (hline:(apos.endLine==cpos.line)=true:=by rfl) (hs:starEach (e::es) X.env=(false,eval e X.env)::starEach es X.env:=by rfl) (hplain:(backTo cpos (starEach es X.env)).any (·.1)=false:=by rfl) :
    PE X (.Call (.Attribute o name apos) (e::es) [] cpos) (tBM X.K T r to t):=by
  intro pins s σ H Q I h
  refine wpAny_Call_method_late hbase hfew hline rfl (thn (ho pins s σ H _ I h) fun v s1 hz9=>?_)
  obtain ⟨x,H1,I1,r1,ty,q1⟩:=hz9
  obtain ⟨h1,h2⟩:=Xku I1 r1 ty
  refine ⟨T,id,pa,slot,hty,h1,h2,?_⟩
  have hA:=ha cpos pins s1 σ H1 _ I1 q1
  rw [hs] at hA ⊢
  refine Calls.callWith_builtin (by show (false||(backTo cpos (starEach es X.env)).any (·.1))=false;rw [hplain]<;>rfl) (Calls.evalArgs_plain ?_)
  exact thn hA fun us s2 ⟨vs,H2,I2,r2,q2⟩=>hm pins s2 σ H2 x vs v us Q I2 r1 r2 q2
end
def MtM (X:Cx)(id:String)(r:V→List V→Hp→VK→Prop):Prop:=
 ∀(pins:List (Addr×Obj)) (s:Shared) (σ:St) (H:Hp) (x:V) (xs:List V) (v:Value) (us:List Value) (Q:VK),Inv X pins σ H s→RelV x v→Jc xs us→r x xs H Q→
  wpAny (model X.prog X.w) X.A (call (.builtin id) (v::us)) (EP X pins σ Q) X.xe s
theorem Jc.one:∀{x:V} {us:List Value},Jc [x] us→∃u,us=[u]∧RelV x u
 | _,_,.cons r .nil=>⟨_,rfl,r⟩
theorem Jc.zero:∀{us:List Value},Jc [] us→us=[]
 | _,.nil=>rfl
theorem Jc.reverse {xs:List V}{us:List Value}(h:Jc xs us):Jc xs.reverse us.reverse:=by
 induction h with
 | nil=>exact .nil
 | cons r t ih=>rw [reverse_cons,reverse_cons];exact Jc.append ih (.cons r .nil)
theorem Jc.rep {xs:List V}{us:List Value}(h:Jc xs us):∀k:Nat,Jc (List.replicate k xs).flatten (List.replicate k us).flatten
 | 0=>.nil
 | k+1=>by
  rw [replicate_succ,replicate_succ,flatten_cons,flatten_cons]
  exact Jc.append h (Jc.rep h k)
theorem foldl_rep (its:List Value):∀(k:Nat) (acc:List Value),
  List.foldl (fun x1 x2=>x1++x2) acc.toArray (List.replicate k its.toArray)=(acc++(List.replicate k its).flatten).toArray
 | 0,acc=>by simp
 | k+1,acc=>by
  have e:acc.toArray++its.toArray=(acc++its).toArray:=by simp
  have e2:(acc++its)++(List.replicate k its).flatten=acc++(List.replicate (k+1) its).flatten:=by
   rw [replicate_succ,flatten_cons,append_assoc]
  rw [← e2,← foldl_rep its k (acc++its),← e,replicate_succ,foldl_cons]
section
variable {X:Cx}{pins:List (Addr×Obj)}{σ:St}{H:Hp}{s:Shared}{l b:Addr}{xs ys zs:List V}
theorem Inv.lset {its its':List Value}{n:Nat}{f:Array Value→Array Value}{t':Nat}(I:Inv X pins σ H s)(hH:H l=some (.lst xs))
  (e:s.heap.get? l=some {cls:=.type "list",data:=.seq its.toArray n}) (hf:f its.toArray=its'.toArray) (hv:Jc ys its') (hz:ys.length≤sizeLine) :
  Inv X pins σ (upd H l (.lst ys)) {s with heap:=s.heap.update l (Obj.mapSeq f),toks:=t'}:=by
 have q:=PySem.IsL.update e f
 rw [hf] at q
 refine I.write (x:=l) (e:=l) (by rw [hH];exact trivial) (.inl rfl) (fun b' u hb hu=>(Heap.get?_update_other s.heap (Obj.mapSeq f) (Ne.symm hb)).trans hu) ⟨_,q⟩ ?_
 exact ⟨hz,its',_,hv,q⟩
theorem Inv.lnew {its:List Value}{t':Nat}(I:Inv X pins σ H s)(hv:Jc ys its)(hz:ys.length≤sizeLine) :
  Inv X pins σ (upd H s.heap.objs.size (.lst ys)) {s with heap:=s.heap.push {cls:=.type "list",data:=.seq its.toArray},toks:=t'}:=
 I.laid (fun _ _ q=>get?_push_of_some _ q) (le_refl _) ⟨hz,its,0,hv,get?_push_size _ rfl⟩
theorem Inv.fresh (I:Inv X pins σ H s):H s.heap.objs.size=none:=I.hok.fresh (le_refl _)
theorem Inv.lstM (I:Inv X pins σ H s)(hH:H l=some (.lst xs)):xs.length≤sizeLine∧∃(its:List Value) (n:Nat),Jc xs its∧xs.length=its.length∧s.heap.get? l=some {cls:=.type "list",data:=.seq its.toArray n}:=by
 obtain ⟨z,its,n,r,e⟩:=I.hok l _ hH
 exact ⟨z,its,n,r,r.length,e⟩
theorem Zzn {n:Nat}(h:n≤sizeLine):Builtin.List.listTooLong n=false:=by
 unfold Builtin.List.listTooLong
 exact decide_eq_false (by omega)
end
section
variable {X:Cx}
def Zcz:V→List V→Hp→VK→Prop:=fun x vs H Q=>∃l xs y,x=.ref l∧vs=[y]∧H l=some (.lst xs)∧xs.length<sizeLine∧Q .non (upd H l (.lst (xs++[y])))
theorem Zfh:MtM X "list.append" Zcz:=by
 intro pins s σ H x vs v us Q I rx rv h
 obtain ⟨l,xs,y,rfl,rfl,hH,hz,q⟩:=h
 cases rx
 obtain ⟨u,rfl,ru⟩:=rv.one
 obtain ⟨z,its,n,r,hl,e⟩:=I.lstM hH
 refine call_meets F.slot_list_append ⟨_,e,rfl⟩ F.entry_list_append (F.args_list_append_2 _ _) (PySem.list_append l its.toArray n u (by rw [size_toArray];omega)) ⟨e,?_⟩
 refine ⟨.non,_,I.lset (its':=its++[u]) hH e (by simp) (r.append (.cons ru .nil)) ?_,rfl,q⟩
 rw [length_append,List.length_singleton]
 omega
noncomputable def rCat:R2:=fun x y H Q=>∃l b xs zs,x=.ref l∧y=.ref b∧H l=some (.lst xs)∧H b=some (.lst zs)∧xs.length+zs.length≤sizeLine∧∀p,H p=none→Q (.ref p) (upd H p (.lst (xs++zs)))
theorem Xkx:OpR X (binaryOp .Add) rCat:=by
 intro pins s σ H x y v u Q I rx ry h
 obtain ⟨l,b,xs,zs,rfl,rfl,hH,hB,hz,q⟩:=h
 cases rx
 cases ry
 obtain ⟨z,its,n,r,hl,e⟩:=I.lstM hH
 obtain ⟨z2,its2,n2,r2,hl2,e2⟩:=I.lstM hB
 refine PySem.P.add_list e e2 ?_ (by rw [size_toArray,size_toArray];omega)
 have ea:its.toArray++its2.toArray=(its++its2).toArray:=by simp
 rw [ea]
 exact ⟨.ref _,_,I.lnew (t':=s.toks) (r.append r2) (by rw [length_append];omega),rfl,q _ I.fresh⟩
noncomputable def rRep:R2:=fun x y H Q=>∃l k xs,x=.ref l∧y=.int k∧H l=some (.lst xs)∧-(2 ^ 63)≤k∧k<2 ^ 63∧xs.length*k.toNat≤sizeLine∧
 ∀p,H p=none→Q (.ref p) (upd H p (.lst (List.replicate k.toNat xs).flatten))
theorem len_rep {α:Type}(xs:List α)(k:Nat):(List.replicate k xs).flatten.length=k*xs.length:=by
 induction k with
 | zero=>simp
 | succ k ih=>rw [replicate_succ,flatten_cons,length_append,ih,Nat.succ_mul,Nat.add_comm]
theorem Xkz:OpR X (binaryOp .Mult) rRep:=by
  intro pins s σ H x y v u Q I rx ry h
  obtain ⟨l,k,xs,rfl,rfl,hH,h1,h2,hz,q⟩:=h
  cases rx
  obtain ⟨t,rfl⟩:=ry
  obtain ⟨z,its,n,r,hl,e⟩:=I.lstM hH
  have hlen:its.toArray.size*k.toNat≤sizeLine:=by rw [size_toArray,← hl];exact hz
  have hcap:¬its.toArray.size*k.toNat > (2 ^ 63 - 1) / 8:=by
    have:(sizeLine:Nat)≤(2 ^ 63 - 1) / 8:=by decide
    omega
  have hfit:¬(!Builtin.List.listFitsIndex k)=true:=by
    rw [fitsIndex_both h1 h2]
    exact Bool.false_ne_true
  have hlong:¬Builtin.List.listTooLong (its.toArray.size*k.toNat)=true:=by
    rw [Zzn hlen]
    exact Bool.false_ne_true
  have hnew:List.foldl (fun x1 x2=>x1++x2) #[] (List.replicate (if its.toArray.isEmpty=true then 0 else k.toNat) its.toArray)=(List.replicate k.toNat its).flatten.toArray:=by
    have f0:∀m:Nat,List.foldl (fun x1 x2=>x1++x2) #[] (List.replicate m its.toArray)=(List.replicate m its).flatten.toArray:=fun m=>by
      have:=foldl_rep its m []
      rw [List.nil_append] at this
      exact this
    rw [f0]
    cases its with
    | nil=>simp
    | cons a r'=>rw [if_neg (by simp)]
  refine wpAny_binaryOp_repeat_ref (T:="list") (U:="int") (by decide) ⟨_,e,rfl⟩ (fun s'=>typeIs_int s' k t) noFill_list_mul F.fills_int_mul F.slot_int_rmul repeat_list F.slot_int_index.lookup
    (call_meets F.slot_int_rmul (typeIs_int s k t) F.entry_int_rmul (F.args_int_rmul_2 _ _) (int___rmul___int_list k t l its.toArray n)
      ⟨e,rfl,⟨_,e,rfl⟩,call_meets F.slot_list_mul ⟨_,e,rfl⟩ F.entry_list_mul (F.args_list_mul_2 _ _) (AutoListH.list___mul___list_int_3 l its.toArray n k t hfit hcap hlong) ⟨e,?_⟩⟩)
  rw [hnew]
  exact ⟨.ref _,_,I.lnew (t':=s.toks) (r.rep k.toNat) (by rw [len_rep,Nat.mul_comm];exact hz),rfl,q _ I.fresh⟩
variable {prog:Program}{w:World}{A:Around}{E:Value→Shared→Prop}{s:Shared}
set_option maxRecDepth 100000 in
end
end L2
namespace Att
open PySem PySem.W PySem.Calls PyProof.Rows
theorem Zia {P:Params}{h:Heap}:∀(ns:List Int) (vs:List Value),WellAll P h vs (ns.map WData.int)→IntsAre vs ns:=by
 intro ns
 induction ns with
 | nil =>
  intro vs w
  rw [List.map_nil] at w
  cases w
  exact .nil
 | cons n ns ih =>
  intro vs w
  rw [map_cons] at w
  cases w with
  | cons a b =>
   cases a
   exact .cons _ _ (ih _ b)
theorem Zxn {l:OpenLaw}{n:Nat}(hn:l.most=some n){P:Params}{h:Heap}{args:List WData}{vals:List Value}
  (hpre:l.row.toRowW.claim.pre args=true) (hwl:WellAll P h vals args) :
  ∃a vs ns,vals=[Value.ref a]∧args=[WData.list (ns.map WData.int)]∧h.get? a=some {cls:=.type "list",data:=.seq vs.toArray}∧IntsAre vs ns∧ns.length≤n:=by
 have hsh:WShape.hasAll [] args [.list .int]=true:=(pre_splitW hpre).1
 have hc:l.pre.holds [] {args:=args}=true:=(pre_splitW hpre).2
 obtain ⟨d,r,rfl,h1,h2⟩:=hasAllW_cons hsh
 obtain rfl:=hasAllW_nil h2
 obtain ⟨xs,rfl,h3⟩:=hasW_list h1
 obtain ⟨ns,rfl⟩:=items_int h3
 have hlen:ns.length≤n:=by
  unfold OpenLaw.pre at hc
  have h4:(WTm.not (.lt (.lit (.int (n:Int))) (.len (.arg 0)))).holds [] {args:=[.list (ns.map .int)]}=true:=by
   have h4:=(holds_andW hc).1
   rw [hn] at h4
   exact h4
  have h5:=condW_of h4 (w_not (w_lt w_lit (w_len_list (w_arg rfl))))
  rw [length_map] at h5
  refine Nat.le_of_not_lt fun q=>?_
  have q':(n:Int)<((ns.length:Nat):Int):=by omega
  first
   | (rw [decide_eq_true q'] at h5;exact absurd h5 (by decide))
   | (simp at h5;omega)
 cases hwl with
 | cons w1 w2 =>
  cases w2
  cases w1 with
  | list ho hall=>exact ⟨_,_,ns,rfl,rfl,ho,Zia ns _ hall,hlen⟩
theorem Zwr (l:OpenLaw)(args:List WData):l.row.toRowW.claim.post args (.bool true) args=true:=
 postW_of (r:=l.row.toRowW) (X:=(true==true))
  (show WShape.has [] (.bool true) .bool=true by first | rfl | decide | simp [WShape.has,WShape.arms,WShape.armsAll])
  (show (WTm.eq .res (.lit (.bool true))).value [] {args:=args,res:=some (.bool true),after:=args}=some (.bool (true==true)) from w_eq_bool (w_res rfl) w_lit) rfl
theorem attach_call {l:OpenLaw}{n:Nat}{q:Program}{loose:List Str}{XP:(Str→Option Value)→Heap→Prop}{YP:World→Heap→Prop}{d:DefRec}
    (hn:l.most=some n) (hdf:d.params.defaults=[])
    (call:∀(w:World) (s₀ s₁:Shared) (mg mb:Str→Option Value) (fa:Addr) (o:Obj) (pm cd doc:Value) (a:Addr) (vs:List Value) (ns:List Int),
      Ground q loose [] XP w s₀ mg mb s₁.heap→YP w s₁.heap→
      s₁.heap.get? fa=some o→o.data=.func (docDef d.name d.params d.body d.scope pm cd doc)→s₁.heap.CodeRec cd d.name→mg d.name=some (.ref fa)→
      s₁.heap.get? a=some {cls:=.type "list",data:=.seq vs.toArray}→IntsAre vs ns→ns.length≤n→s₁.gens=#[]→
      codeAny (model l.prog w) callerA (.call (.ref fa) ⟨[.ref a],[]⟩) (fun r s'=>r=.ok (.ret (.bool true))∧OldK s₁.heap s'.heap∧s'.os=s₁.os∧AllBare s'.gens) s₁) :
    WalkO q loose XP YP l.row.toRowW d [] (fun f vs=>PySem.call f vs):=by
  intro w s₀ s₁ mg mb G Y fa o pm cd doc dV kV ho hd hcd hD hmg hg args vals as hpre hlay hrd hwl hlo
  obtain rfl:dV=.none:=Dflts.none hD hdf
  obtain rfl:kV=.none:=Dflts.noKw hD
  obtain ⟨a,vs,ns,rfl,rfl,hobj,hints,hlen⟩:=Zxn hn hpre hwl
  refine enter_call (codeAny_mono (call w s₀ s₁ mg mb fa o pm cd doc a vs ns G Y ho (fd_plain hd) hcd hmg hobj hints hlen hg) fun r s' hq=>?_)
  obtain ⟨rfl,h2,h3,h4⟩:=hq
  exact ⟨.inl ⟨.bool true,.bool true,[],rfl,fun _=>rfl,.bool true,Zwr l _,fun _=>⟨List.Pairwise.nil,fun _ hm=>(nomatch hm)⟩⟩,h2,h3,h4⟩
section
variable {prog:Program}{w:World}{A:Around}{E:Value→Shared→Prop}{s:Shared}{K:Frag}
end
end Att
namespace L2
open PySem PySem.Spec PyProof.Rows
theorem Zes:∀{vs:List Value} {ns:List Int},IntsAre vs ns→Jc (ns.map V.int) vs
 | _,_,.nil=>.nil
 | _,_,.cons n t h=>.cons ⟨t,rfl⟩ (Zes h)
def Only (H:Hp):Prop:=∀b,H b=none∨∃o xs,H b=some (.frz o (.lst xs))
theorem Zyn {P:Program}{w:World}{K:Frag}{mg mb:Str→Option Value}{CX:CXT}{k:Nat}{fa a:Addr}{fd:FuncData}{x:Str}{sp:Sp}{s₁:Shared}{vs:List Value}{ns:List Int}
    (KX:K.In s₁.heap) (hns:s₁.heap.Ns mainGlobals mg) (hb:s₁.heap.Ns builtinsNs mb) (hbb:∀x:Str,x≠"__name__"→mb x=bootBuiltins x) (hlim:s₁.heap.NoLimit) (hg:s₁.gens=#[])
    (ha:s₁.heap.get? a=some {cls:=.type "list",data:=.seq vs.toArray}) (hi:IntsAre vs ns) (hl:ns.length≤sizeLine) (hr:Zdr k callerA)
    (F:∀base:Heap,K.In base→base.Ns mainGlobals mg→Zam P w K mg base CX k fa fd [x] sp) (hbind:∀(s:Shared) (u:Value),BindsTo s fd ⟨[u],[]⟩ [(x,u)])
    (hsp:∀H:Hp,Only H→SqL K H a (ns.map V.int)→sp [.ref a] H (fun v _=>v=.bl true) fun _ _ _=>False)
    (hCX:∀H e s',CX [] H s₁ (fun _ _ _=>False) e s'→False) :
    codeAny (model P w) callerA (.call (.ref fa) ⟨[.ref a],[]⟩) (fun r s'=>r=.ok (.ret (.bool true))∧OldK s₁.heap s'.heap∧s'.os=s₁.os∧AllBare s'.gens) s₁:=by
  have rv:=Zes hi
  have lenV:=hi.length
  have core:∀H:Hp,Only H→SqL K H a (ns.map V.int)→HOk P w H s₁.heap→(∀b,H b≠none→b=a)→(H a≠none→K.lookup a=none)→
      codeAny (model P w) callerA (.call (.ref fa) ⟨[.ref a],[]⟩) (fun r s'=>r=.ok (.ret (.bool true))∧OldK s₁.heap s'.heap∧s'.os=s₁.os∧AllBare s'.gens) s₁:=by
    intro H hO hS hok hA hK
    have base_of:∀{b:Addr} {o:Obj},s₁.heap.get? b=some o→H b=none→(Zph s₁.heap H).get? b=some o:=fun e n=>Zpw e n
    have noA:∀{b:Addr} {o:Obj} {es:Array DictEntry} {ep:Nat},s₁.heap.get? b=some o→o.data=.dict es ep→H b=none:=fun {b o es ep} e d=>by
      cases q:H b with
      | none=>rfl
      | some u =>
        have e':b=a:=hA b (by rw [q];simp)
        subst e'
        rw [ha] at e;cases e
        have d':Data.seq vs.toArray _=Data.dict es ep:=d
        cases d'
    have nsK:∀{b:Addr} {m:Str→Option Value},s₁.heap.Ns b m→(Zph s₁.heap H).Ns b m:=fun {b m} ⟨o,es,ep,e,d,r⟩=>⟨o,es,ep,base_of e (noA e d),d,r⟩
    have hKb:K.In (Zph s₁.heap H):=fun b o e=>base_of (KX b o e) (by
      cases q:H b with
      | none=>rfl
      | some u =>
        have e':b=a:=hA b (by rw [q];simp)
        subst e'
        rw [hK (by rw [q];simp)] at e;cases e)
    have hM:Mod K mg (Zph s₁.heap H):=⟨hKb,nsK hns,⟨mb,nsK hb,hbb⟩,let ⟨mc,h1,h2⟩:=hlim;⟨mc,nsK h1,h2⟩⟩
    have e0:Xkb P w K mg (Zph s₁.heap H) callerA [] s₁ H:=⟨rfl,hM,fun b o e=>Zvj e,Nat.le_of_eq (Zlf _ _),trivial,fun b hb=>absurd (show b∈([]:List Addr) from hb) (by simp),hok,.of_eq hg⟩
    refine codeAny_mono ((F _ hKb (nsK hns)).run callerA [] s₁ H ⟨[.ref a],[]⟩ [.ref a] [.ref a] _ _ hr e0 (hbind s₁ (.ref a)) (.cons rfl .nil) (hsp H hO hS)) fun r s' h=>?_
    cases r with
    | error e=>exact (hCX H e s' h).elim
    | ok fl =>
      cases fl with
      | next=>exact False.elim h
      | brk=>exact False.elim h
      | cont=>exact False.elim h
      | ret u =>
        obtain ⟨v,H',os,bare,un,hok',r',q⟩:=h
        have q':v=.bl true:=q
        subst q'
        obtain rfl:u=Value.bool true:=r'
        refine ⟨rfl,OldK.of_keep fun b o e=>?_,os,bare⟩
        cases q:H b with
        | none=>exact un.keep b o e q (by intro z;exact absurd (show b∈([]:List Addr) from z) (by simp)) (by simp)
        | some u =>
          rcases hO b with z | ⟨ob,xs,z⟩
          · rw [q] at z;cases z
          · have z2:=un.frzs b ob _ z
            obtain ⟨e1,_⟩:=hok b _ z
            obtain ⟨e2,_⟩:=hok' b _ z2
            rw [e] at e1;cases e1
            exact e2
  cases hk:K.lookup a with
  | some o =>
    have e:=KX a o hk
    rw [ha] at e
    cases e
    refine core (fun _=>none) (fun _=>.inl rfl) (.inr ⟨_,vs.toArray,_,hk,rfl,rfl,rfl,by rw [size_toArray,lenV];exact hl,by simpa using rv⟩) (fun b u z=>by have z':(none:Option HO)=some u:=z;cases z') (fun b z=>absurd rfl z) fun z=>absurd rfl z
  | none =>
    refine core (fun b=>if b=a then some (.frz {cls:=.type "list",data:=.seq vs.toArray} (.lst (ns.map V.int))) else none) (fun b=>?_) (.inl (.inr ⟨{cls:=.type "list",data:=.seq vs.toArray},if_pos rfl⟩)) (fun b u z=>?_) (fun b z=>?_) fun _=>hk
    · by_cases hb:b=a
      · exact .inr ⟨_,_,if_pos hb⟩
      · exact .inl (if_neg hb)
    · by_cases hb:b=a
      · have z':=(if_pos hb).symm.trans z
        cases z'
        subst hb
        exact ⟨ha,by rw [length_map];exact hl,vs,_,rv,ha⟩
      · have z':=(if_neg hb).symm.trans z
        cases z'
    · by_cases hb:b=a
      · exact hb
      · exact absurd (if_neg hb) z
noncomputable abbrev KOf {K:Frag}{h:Heap}(_:K.In h):Frag:=K
theorem walk_of {l:PySem.W.OpenLaw}{n k:Nat}{q:Program}{loose:List Str}{XP:(Str→Option Value)→Heap→Prop}{YP:World→Heap→Prop}{d:DefRec}{K:Params→Frag}{CX:World→CXT}{sp:World→Sp}{x:Str}
    (hn:l.most=some n) (hn2:n≤sizeLine) (hdf:d.params.defaults=[]) (hr:Zdr k callerA)
    (hY:∀(w:World) (h:Heap),YP w h→(K w.params).In h)
    (F:∀(w:World) (mg:Str→Option Value) (fa:Addr) (h:Heap),(K w.params).In h→h.Ns mainGlobals mg→mg d.name=some (.ref fa)→
      ∃fd:FuncData,(∀(s:Shared) (u:Value),BindsTo s fd ⟨[u],[]⟩ [(x,u)])∧
        ∀base:Heap,(K w.params).In base→base.Ns mainGlobals mg→Zam l.prog w (K w.params) mg base (CX w) k fa fd [x] (sp w))
    (hsp:∀(w:World) (H:Hp) (a:Addr) (ns:List Int),ns.length≤n→Only H→SqL (K w.params) H a (ns.map V.int)→sp w [.ref a] H (fun v _=>v=.bl true) fun _ _ _=>False)
    (hCX:∀(w:World) (H:Hp) (s:Shared) (e:Value) (s':Shared),CX w [] H s (fun _ _ _=>False) e s'→False) :
    PySem.W.WalkO q loose XP YP l.row.toRowW d [] (fun f vs=>PySem.call f vs):=by
  refine Att.attach_call hn hdf fun w s₀ s₁ mg mb fa o pm cd doc a vs ns G Y ho hd hcd hmg hobj hints hlen hg=>?_
  have KX:=hY w _ Y
  obtain ⟨fd,hb,hF⟩:=F w mg fa _ KX G.T.g hmg
  exact Zyn KX G.T.g G.T.b G.T.builtins G.T.nolimit hg hobj hints (le_trans hlen hn2) hr hF hb (fun H hO hS=>hsp w H a ns hlen hO hS) fun H e s'=>hCX w H s₁ e s'
noncomputable def Zgc (s:Stmt):Arguments:=match s with
 | .FunctionDef _ a _ _ _ _ _ _ _ _=>a
 | _=>{posonlyargs:=[],args:=[],vararg:=none,kwonlyargs:=[],kw_defaults:=[],kwarg:=none,defaults:=[]}
noncomputable def Zbl (s:Stmt):List Stmt:=match s with
 | .FunctionDef _ _ b _ _ _ _ _ _ _=>b
 | _=>[]
noncomputable def Zj (s:Stmt):Scope:=match s with
 | .FunctionDef _ _ _ _ _ _ sc _ _ _=>sc
 | _=>{kind:=.function,names:=[],isGenerator:=false,isCoroutine:=false}
noncomputable abbrev CX0:CXT:=fun _ _ _ _ _ _=>False
noncomputable abbrev E0:XK:=fun _ _ _=>False
theorem Xg {X:Cx}:Zho CX0 X E0:=fun _ _ _ _ _ _ _ h=>h.elim
structure Fun (K:Frag)(x qual:Str)(st:Stmt)(f:Addr)(fd:FuncData):Prop where
 ex:∃(oc:Value) (od:Option Addr) (kV doc pm:Value) (an:Option Addr) (cdv ct:Value) (osl:Array (Option Value)),
  fd=fnOf x qual (Zgc st) (Zbl st) (Zj st) .none kV doc pm an cdv ct∧K.lookup f=some ⟨oc,od,.func fd,osl⟩∧codeIn K cdv qual=true
 kp:keepIn K (.ref f)=true
section
variable {P:Program}{w:World}{K:Frag}{mg:Str→Option Value}{base:Heap}
theorem Fun.ok {x qual:Str}{st:Stmt}{f:Addr}{fd:FuncData}{N ps:List Str}{k:Nat}{sp:Sp}(F:Fun K x qual st f fd)(S:Xa N ps (Zj st))(len:∀vs H Q E,sp vs H Q E→vs.length=ps.length)
    (hbody:∀(cdv:Value) (A:Around) (outer:List Env) (s:Shared) (H:Hp) (vs:List V) (Q:VK) (E:XK),Zdr k (A.deeper (envOfC qual (Zj st) s.heap.objs.size f cdv))→sp vs H Q E→
      ∃t,PSs (Zxx CX0 P w K mg base N qual (Zj st) f cdv A outer s H E).nox (Zbl st) t∧t {nx:=fun _ H'=>Q .non H',rt:=Q} (start N vs) H):Zam P w K mg base CX0 (k+1) f fd ps sp:=by
  obtain ⟨oc,od,kV,doc,pm,an,cdv,ct,osl,rfl,lk,hcd⟩:=F.ex
  refine Xko lk hcd S len fun A outer s H vs Q E hr hsp=>?_
  obtain ⟨t,h,q⟩:=hbody cdv A outer s H vs Q E hr hsp
  exact ⟨t,h.nox,q⟩
theorem Fun.binds {x qual:Str}{st:Stmt}{f:Addr}{fd:FuncData}{ps:List Str}(F:Fun K x qual st f fd)
  (h:∀(kV doc pm:Value) (an:Option Addr) (cdv ct:Value) (us:List Value),us.length=ps.length→bindArgs (fnOf x qual (Zgc st) (Zbl st) (Zj st) .none kV doc pm an cdv ct) ⟨us,[]⟩=pure (ps.zip us)):Binds K fd ps []:=by
 obtain ⟨oc,od,kV,doc,pm,an,cdv,ct,osl,rfl,lk,hcd⟩:=F.ex
 exact .all (h kV doc pm an cdv ct)
variable {X:Cx}
theorem pv (i:Nat){x:Str}{pos:Pos}(hN:X.N[i]?=some x:=by rfl)(hv:autoParam (Vis X.env.scope x) aT3._auto_1)(hd:(x==("__debug__":Str))=false:=by decide)
  (hcd:(x==("__classdict__":Str))=false:=by decide):PE X (.Name x pos) (Zst i):=Xmu hN hv hd hcd
end
def Xw (H H':Hp):Prop:=∀b o,H b=some o→H' b=some o
theorem Xw.refl (H:Hp):Xw H H:=fun _ _ h=>h
theorem Xw.trans {H H1 H2:Hp}(a:Xw H H1)(b:Xw H1 H2):Xw H H2:=fun c o h=>b c o (a c o h)
theorem Xw.free {H H':Hp}(e:Xw H H'){l:Addr}(h:H' l=Option.none):H l=Option.none:=by
 cases q:H l with
 | none=>rfl
 | some o =>
  rw [e l o q] at h
  cases h
theorem Zz {a b:Expr}{op:Operator}{pos:Pos}{es:List Expr}{env:Env}:starEach (.BinOp a op b pos::es) env=(false,eval (.BinOp a op b pos) env)::starEach es env:=rfl
theorem Zf {c:Const}{k:Nat}{pos:Pos}{es:List Expr}{env:Env}:starEach (.Constant c k pos::es) env=(false,eval (.Constant c k pos) env)::starEach es env:=rfl
theorem Za {x:Str}{pos:Pos}{es:List Expr}{env:Env}:starEach (.Name x pos::es) env=(false,eval (.Name x pos) env)::starEach es env:=rfl
theorem Yn {a b:Expr}{pos:Pos}{es:List Expr}{env:Env}:starEach (.Subscript a b pos::es) env=(false,eval (.Subscript a b pos) env)::starEach es env:=rfl
theorem Xl {a:Expr}{as:List Expr}{ks:List Keyword}{pos:Pos}{es:List Expr}{env:Env}:starEach (.Call a as ks pos::es) env=(false,eval (.Call a as ks pos) env)::starEach es env:=rfl
theorem Zlk {as:List Expr}{pos:Pos}{es:List Expr}{env:Env}:starEach (.List as pos::es) env=(false,eval (.List as pos) env)::starEach es env:=rfl
theorem Zku {as:List Expr}{k:Nat}{pos:Pos}{es:List Expr}{env:Env}:starEach (.Tuple as k pos::es) env=(false,eval (.Tuple as k pos) env)::starEach es env:=rfl
theorem Xis {op:UnaryOp}{a:Expr}{pos:Pos}{es:List Expr}{env:Env}:starEach (.UnaryOp op a pos::es) env=(false,eval (.UnaryOp op a pos) env)::starEach es env:=rfl
theorem Xo {a:Expr}{gs:List Comprehension}{sc:Scope}{pos:Pos}{es:List Expr}{env:Env}:starEach (.ListComp a gs sc pos::es) env=(false,eval (.ListComp a gs sc pos) env)::starEach es env:=rfl
theorem Zbh {a b:Expr}{pos:Pos}:Zdk (.Subscript a b pos):=fun _ _=>rfl
theorem Ym {x:Str}{pos:Pos}:Zdk (.Name x pos):=fun _ _=>rfl
theorem Zk {c:Const}{k:Nat}{pos:Pos}:Zdk (.Constant c k pos):=fun _ _=>rfl
theorem plain_bin {a b:Expr}{op:Operator}{pos:Pos}:Zdk (.BinOp a op b pos):=fun _ _=>rfl
theorem Zkm {a:Expr}{op:UnaryOp}{pos:Pos}:Zdk (.UnaryOp op a pos):=fun _ _=>rfl
noncomputable def Zru:R2:=fun x y H Q=>rI0 (fun i j=>.int (i+j)) x y H Q∨(∃i j,x=.str i∧y=.str j∧i.length+j.length≤sizeLine∧Q (.str (i++j)) H)∨rCat x y H Q
noncomputable def Zzr:R2:=fun x y H Q=>rI Xkd (fun i j=>.int (i*j)) x y H Q∨rRep x y H Q
def Xmf (_ j:Int):Prop:=0<j∧j<2 ^ 200
section
variable {X:Cx}
theorem Zw:OpR X (binaryOp .Add) Zru:=Xom.or (Zrl.or Xkx)
theorem Ye:OpR X (binaryOp .Mult) Zzr:=Xnz.or Xkz
theorem log2_small {j:Int}(h1:0<j)(h2:j<2 ^ 200):j.natAbs.log2<9000:=by
 have h3:j.natAbs<2 ^ 200:=by omega
 exact lt_trans ((Nat.log2_lt (by omega)).mpr h3) (by decide)
theorem Zqc:OpR X (binaryOp .FloorDiv) (rI Xmf fun i j=>.int (i / j)):=opI fun i j _ _ _ _ _ hc q=>by
 have h1:(0:Int)<j:=hc.1
 have h2:j<2 ^ 200:=hc.2
 exact floordiv_int (by omega) (by rw [Int.fdiv_eq_ediv_of_nonneg i (by omega)];exact q) (.inl (PyProof.noPylong_of_log2 (log2_small h1 h2)))
end
mutual
inductive Dn (K:Frag)(H:Hp):V→PyData→Prop
 | non:Dn K H .non .none
 | bl (b:Bool):Dn K H (.bl b) (.bool b)
 | int (i:Int):Dn K H (.int i) (.int i)
 | str (x:Str):Dn K H (.str x) (.str x)
 | lst {a:Addr} {xs:List V} {ds:List PyData}:SqL K H a xs→DnA K H xs ds→Dn K H (.ref a) (.list ds)
 | tup {a:Addr} {xs:List V} {ds:List PyData}:SqT K H a xs→DnA K H xs ds→Dn K H (.ref a) (.tuple ds)
inductive DnA (K:Frag)(H:Hp):List V→List PyData→Prop
 | nil:DnA K H [] []
 | cons {x:V} {d:PyData} {xs:List V} {ds:List PyData}:Dn K H x d→DnA K H xs ds→DnA K H (x::xs) (d::ds)
end
section
variable {X:Cx}{pins:List (Addr×Obj)}{σ:St}{H:Hp}{s:Shared}
mutual
theorem Dn.reads (I:Inv X pins σ H s):∀{x:V} {d:PyData} {u:Value},Dn X.K H x d→RelV x u→∃as,Reads s.heap u d as
 | _,_,_,.non,r=>by cases (show _=Value.none from r);exact ⟨_,.none⟩
 | _,_,_,.bl b,r=>by cases (show _=Value.bool b from r);exact ⟨_,.bool b⟩
 | _,_,_,.int i,r=>by obtain ⟨t,q⟩:=(show ∃t,_=Value.int i t from r);cases q;exact ⟨_,.int i t⟩
 | _,_,_,.str x,r=>by obtain ⟨t,q⟩:=(show ∃t,_=Value.str x t from r);cases q;exact ⟨_,.str x t⟩
 | _,_,_,.lst (a:=a) h ra,r=>by
  cases (show _=Value.ref a from r)
  obtain ⟨its,rv,pl,_⟩:=I.list h
  obtain ⟨as,q⟩:=DnA.reads I ra rv
  obtain ⟨o,ho,hc,n,hd⟩:=pl.isList
  exact ⟨_,.list ho hc hd q⟩
 | _,_,_,.tup (a:=a) h ra,r=>by
  cases (show _=Value.ref a from r)
  obtain ⟨its,rv,pl,_⟩:=I.tuple h
  obtain ⟨as,q⟩:=DnA.reads I ra rv
  obtain ⟨o,ho,hc,n,hd⟩:=pl
  exact ⟨_,.tuple ho hc hd q⟩
theorem DnA.reads (I:Inv X pins σ H s):∀{xs:List V} {ds:List PyData} {us:List Value},DnA X.K H xs ds→Jc xs us→∃as,ReadsAll s.heap us ds as
 | _,_,_,.nil,.nil=>⟨_,.nil⟩
 | _,_,_,.cons h ra,.cons r rs=>by
  obtain ⟨as,q⟩:=Dn.reads I h r
  obtain ⟨bs,q'⟩:=DnA.reads I ra rs
  exact ⟨_,.cons q q'⟩
end
end
noncomputable def rEqD (K:Frag):R2:=fun x y H Q=>∃dx dy,Dn K H x dx∧Dn K H y dy∧SeqAt.shaped dx=true∧SeqAt.shaped dy=true∧Q (.bl (PyData.eqv dx dy)) H
noncomputable def rNeD (K:Frag):R2:=fun x y H Q=>∃dx dy,Dn K H x dx∧Dn K H y dy∧SeqAt.shaped dx=true∧SeqAt.shaped dy=true∧Q (.bl (!PyData.eqv dx dy)) H
noncomputable def Zsx (K:Frag):R2:=fun x y H Q=>rEq x y H Q∨rEqD K x y H Q
noncomputable def Xhl (K:Frag):R2:=fun x y H Q=>rNe x y H Q∨rNeD K x y H Q
section
variable {X:Cx}
theorem Xml (hu:X.A.units+64<cLine):OpR X (compareOp .Eq) (rEqD X.K):=by
 intro pins s σ H x y v u Q I rx ry h
 obtain ⟨dx,dy,h1,h2,s1,s2,q⟩:=h
 obtain ⟨as,ra⟩:=h1.reads I rx
 obtain ⟨bs,rb⟩:=h2.reads I ry
 exact eq_dataH ra rb s1 s2 hu ⟨.bl _,H,I,rfl,q⟩
theorem Xma (hu:X.A.units+64<cLine):OpR X (compareOp .NotEq) (rNeD X.K):=by
 intro pins s σ H x y v u Q I rx ry h
 obtain ⟨dx,dy,h1,h2,s1,s2,q⟩:=h
 obtain ⟨as,ra⟩:=h1.reads I rx
 obtain ⟨bs,rb⟩:=h2.reads I ry
 exact ne_dataH ra rb s1 s2 hu ⟨.bl _,H,I,rfl,q⟩
theorem Zeb (hu:X.A.units+64<cLine):OpR X (compareOp .Eq) (Zsx X.K):=op_eq.or (Xml hu)
theorem Zna (hu:X.A.units+64<cLine):OpR X (compareOp .NotEq) (Xhl X.K):=op_ne.or (Xma hu)
end
def Jx (K:Frag):List V→Hp→VK→Prop:=fun xs H Q=>(∃p ys,xs=[.ref p]∧(SqL K H p ys∨SqT K H p ys)∧Q (.int ys.length) H)∨∃z,xs=[.str z]∧z.length≤sizeLine∧Q (.int z.length) H
def Zss (K:Frag):List V→Hp→VK→Prop:=fun xs H Q=>∃(p:Addr) (ns:List Int),xs=[.ref p]∧SqL K H p (ns.map V.int)∧Q (.int ns.sum) H
noncomputable def Znt (lo:Int)(n:Nat):List V:=(List.range n).map fun (k:Nat)=>V.int (lo+(k:Int))
def Zur (K:Frag):List V→Hp→VK→Prop:=fun xs H Q=>(∃p ys,xs=[.ref p]∧(SqL K H p ys∨SqT K H p ys)∧∀l,H l=none→Q (.ref l) (upd H l (.lst ys)))∨
 ∃p i j,xs=[.ref p]∧H p=some (.rng i j)∧-(2 ^ 62)≤i∧i<2 ^ 62∧-(2 ^ 62)≤j∧j<2 ^ 62∧(j - i).toNat≤1000000∧∀l,H l=none→Q (.ref l) (upd H l (.lst (Znt i (j - i).toNat)))
section
variable {X:Cx}
theorem Xc:Zbb X (.builtin "len") (Jx X.K):=Zlw.or Zlg
theorem Zar (hc:X.calm=true):Zbb X (.builtin "sum") (Zss X.K):=by
 intro pins s σ H xs us Q I r h
 obtain ⟨p,ns,rfl,hq,q⟩:=h
 obtain ⟨u,rfl,rx⟩:=vals1 r
 cases rx
 obtain ⟨its,rv,pl,hz⟩:=I.list hq
 have hi:IntsAre its ns:=intsAre_of rv
 obtain ⟨xs,hxs⟩:=hi.allInts.items
 have hn:numsOf its.toArray.toList=ns:=by rw [show its.toArray.toList=its from rfl,hi.numsOf]
 have hl:=pl.isList
 rw [hxs] at hl hn
 rw [nums_intItems] at hn
 refine sum_intListG (I.ok.hd hc) hl fun h' tk t' hk=>⟨.int ns.sum,H,I.kept hk,⟨t',?_⟩,q⟩
 rw [preSum_eq,take_of_length_le (by simp),hn]
theorem Zke (hc:X.calm=true):Zbb X (.type "list") (fun xs H Q=>∃p i j,xs=[.ref p]∧H p=some (.rng i j)∧-(2 ^ 62)≤i∧i<2 ^ 62∧-(2 ^ 62)≤j∧j<2 ^ 62∧(j - i).toNat≤1000000∧
    ∀l,H l=none→Q (.ref l) (upd H l (.lst (Znt i (j - i).toNat)))):=by
  intro pins s σ H xs us Q I r h
  obtain ⟨p,i,j,rfl,hH,h1,h2,h3,h4,h5,q⟩:=h
  obtain ⟨u,rfl,rx⟩:=vals1 r
  cases rx
  obtain ⟨t,u,v,e⟩:=I.hok p _ hH
  have en:Builtin.Range.rangeSize i j 1=(((j - i).toNat:Nat):Int):=by rw [rangeSize_one];split<;>omega
  refine call_list_range (n:=(j - i).toNat) (I.ok.hd hc) e (small_one h1 h2 h3 h4) en (le_trans h5 (by decide)) fun h' tk acc' c' hk hg hit=>?_
  refine ⟨.ref s.heap.objs.size,_,I.laid (t':=tk) hk (le_refl _) (show Zck X.prog X.w _ h' _ (.lst (Znt i (j - i).toNat)) from ⟨?_,acc'.toList,c',?_,?_⟩),rfl,q _ I.fresh⟩
  · unfold Znt
    rw [length_map,length_range]
    exact le_trans h5 (by decide)
  · obtain ⟨hsz,hv⟩:=hit
    have key:∀(k:Nat) (l:List Value) (lo:Int),l.length=k→(∀(m:Nat) (v:Value),l[m]?=some v→∃t,v=Value.int (lo+(m:Int)) t)→Jc (Znt lo k) l:=by
      intro k
      induction k with
      | zero =>
        intro l lo hl _
        rw [List.length_eq_zero_iff.mp hl]
        exact .nil
      | succ k ih =>
        intro l lo hl hv
        cases l with
        | nil=>simp at hl
        | cons x l =>
          obtain ⟨t,e⟩:=hv 0 x (by simp)
          have er:Znt lo (k+1)=V.int lo::Znt (lo+1) k:=by
            unfold Znt
            rw [List.range_succ_eq_map,map_cons,map_map]
            congr 1
            · simp
            · apply map_congr_left
              intro m _
              show V.int (lo+((m+1:Nat):Int))=V.int (lo+1+(m:Int))
              congr 1
              omega
          rw [er]
          refine .cons ⟨t,?_⟩ (ih l (lo+1) (by simpa using hl) fun m v hm=>?_)
          · rw [e]
            congr 1
            simp
          · obtain ⟨t',e'⟩:=hv (m+1) v (by simpa using hm)
            refine ⟨t',?_⟩
            rw [e']
            congr 1
            omega
    refine key _ _ i (by simpa using hsz) fun m v hm=>?_
    obtain ⟨t,e⟩:=hv m v (by simpa using hm)
    exact ⟨t,by rw [e];congr 1;omega⟩
  · simpa using hg
theorem Zsg (hc:X.calm=true):Zbb X (.type "list") (Zur X.K):=Zmy.or (Zke hc)
def tRev (K:Frag)(te ts:TE):TE:=fun σ H Q=>te σ H fun x H1=>ts σ H1 fun y H2=>∃a xs,x=.ref a∧y=.int (-1)∧SqL K H2 a xs∧∀p,H2 p=none→Q (.ref p) (upd H2 p (.lst xs.reverse))
theorem Xly {e st:Expr}{te ts:TE}{pos p2:Pos}(he:PE X e te)(hst:PE X st ts):PE X (.Subscript e (.Slice none none (some st) p2) pos) (tRev X.K te ts):=by
 intro pins s σ H Q I h
 refine Subscript_ (thn (he pins s σ H _ I h) fun v s1 hz9=>?_)
 obtain ⟨x,H1,I1,r1,q1⟩:=hz9
 refine wpAny_Slice ?_
 rw [evalPart_none]
 refine wpAny_pure (wpAny_pure ?_)
 rw [evalPart_some]
 refine thn (hst pins s1 σ H1 _ I1 q1) fun vk s3 hz9=>?_
 obtain ⟨y,H3,I3,r3,a,xs,ex,ey,hx,q3⟩:=hz9
 subst ex ey
 obtain ⟨tk,rfl⟩:=r3
 cases r1
 have I4:Inv X pins σ H3 {s3 with heap:=s3.heap.push {cls:=.type "slice",data:=.fields #[.none,.none,.int (-1) tk]}}:=I3.kept (t':=s3.toks) fun b ob q=>get?_push_of_some _ q
 obtain ⟨its,r,ht,hz⟩:=I4.list hx
 have hlen:=r.length
 show wpAny (model X.prog X.w) X.A (subscriptTail e (.Slice none none (some st) p2) (.ref a) (.ref s3.heap.objs.size)) (EP X pins σ Q) X.xe {s3 with heap:=s3.heap.push {cls:=.type "slice",data:=.fields #[.none,.none,.int (-1) tk]}}
 refine tail_any (ops:=[.ref a,.ref s3.heap.objs.size]) ht.isList.typeIs slot_list_getitem.lookup ?_ (by with_unfolding_all rfl)
 refine wpAny_getItem_list_slice ht.isList (Heap.IsSliceOf.new ..) .none .none (.int (-1) tk) (by simp) ?_ (by rw [size_toArray]<;>omega)
 rw [PySem.W.krv_pick]
 refine ⟨.ref _,_,I4.laid (t':=s3.toks) (o:=.lst xs.reverse) (fun b ob q=>get?_push_of_some _ q) (le_refl _) ?_,rfl,q3 _ (I4.hok.fresh (le_refl _))⟩
 exact ⟨by rw [length_reverse];exact hz,_,0,r.reverse,get?_push_size _ rfl⟩
end
structure Def (P:Program)(w:World)(K:Frag)(mg:Str→Option Value)(base:Heap)(CX:CXT)(k:Nat)(x:Str)(ps:List Str)(sp:Sp):Prop where
 ex:∃f fd,mg x=some (.ref f)∧keepIn K (.ref f)=true∧Binds K fd ps []∧Zam P w K mg base CX k f fd ps sp
theorem Zqt {X:Cx}{CX:CXT}{k:Nat}{ps:List Str}{sp:Sp}{E:XK}{x:Str}{p pos:Pos}{e:Expr}{es:List Expr}{t:TA}(D:Def X.prog X.w X.K X.mg X.base CX k x ps sp)(hr:Zdr k X.A)(hg:Gl X x)(hx:Zho CX X E)
  (ha:PA X (e::es) t) (hdb:(x==("__debug__":Str))=false:=by decide) (he:starEach (e::es) X.env=(false,eval e X.env)::starEach es X.env:=by rfl) (hpl:(backTo pos (starEach es X.env)).any (·.1)=false:=by rfl) :
  PE X (.Call (.Name x p) (e::es) [] pos) (Zop sp [] E t):=by
 obtain ⟨f,fd,m,kp,b,F⟩:=D.ex
 exact Xjt F hr hg m kp b .nil hx ha hdb he hpl
section
variable {σ:St}{H:Hp}{Q:VK}{D:Ends}{K:Frag}
theorem rd_I {C:Int→Int→Prop}{g:Int→Int→V}{i j:Int}(c:C i j)(q:Q (g i j) H):rI C g (.int i) (.int j) H Q:=⟨i,j,rfl,rfl,c,q⟩
theorem rd_I0 {g:Int→Int→V}{i j:Int}(q:Q (g i j) H):rI0 g (.int i) (.int j) H Q:=⟨i,j,rfl,rfl,q⟩
theorem rd_U {g:Int→V}{i:Int}(q:Q (g i) H):rU g (.int i) H Q:=⟨i,rfl,q⟩
theorem Xoa {i j:Int}(q:Q (.int (i+j)) H):Zru (.int i) (.int j) H Q:=.inl ⟨i,j,rfl,rfl,q⟩
theorem Xok {i j:Int}(c:Xkd i j)(q:Q (.int (i*j)) H):Zzr (.int i) (.int j) H Q:=.inl ⟨i,j,rfl,rfl,c,q⟩
theorem Xhk {sp:Sp}{E:XK}{t:TA}(q:t σ H fun vs H1=>sp vs H1 Q E):Zop sp [] E t σ H Q:=by
 show t σ H fun vs H1=>sp (vs++[]) H1 Q E
 have e:(fun vs H1=>sp (vs++[]) H1 Q E)=fun vs H1=>sp vs H1 Q E:=by
  funext vs H1
  rw [append_nil]
 rw [e]
 exact q
theorem Xmm {p:Addr}{xs:List V}{i:Int}{v:V}(h:SqL K H p xs)(e:atI xs i=some v)(q:Q v H):rIx K (.ref p) (.int i) H Q:=.inl ⟨p,xs,i,v,rfl,rfl,h,e,q⟩
theorem Xoc {p:Addr}{xs:List V}{i:Int}{v:V}(h:SqT K H p xs)(e:atI xs i=some v)(q:Q v H):rIx K (.ref p) (.int i) H Q:=.inr (.inl ⟨p,xs,i,v,rfl,rfl,h,e,q⟩)
theorem Ztj {p:Addr}{ys:List V}(h:SqL K H p ys)(q:Q (.int ys.length) H):Jx K [.ref p] H Q:=.inl ⟨p,ys,rfl,.inl h,q⟩
theorem Xgr {p:Addr}{ys:List V}(h:SqT K H p ys)(q:Q (.int ys.length) H):Jx K [.ref p] H Q:=.inl ⟨p,ys,rfl,.inr h,q⟩
theorem Xhf {z:Str}(h:z.length≤sizeLine)(q:Q (.int z.length) H):Jx K [.str z] H Q:=.inr ⟨z,rfl,h,q⟩
theorem Xdq {l:Addr}{xs:List V}{y:V}(h:H l=some (.lst xs))(hz:xs.length<sizeLine)(q:Q .non (upd H l (.lst (xs++[y])))):Zcz (.ref l) [y] H Q:=⟨l,xs,y,rfl,rfl,h,hz,q⟩
theorem Xei {a:Addr}{xs:List V}{lo hi:Option Int}(h:SqL K H a xs)(q:∀p,H p=none→Q (.ref p) (upd H p (.lst (Xci xs lo hi)))):rSlL K (.ref a) lo hi H Q:=⟨a,xs,rfl,h,q⟩
theorem Xee {a b:Addr}{xs zs:List V}(h1:H a=some (.lst xs))(h2:H b=some (.lst zs))(hz:xs.length+zs.length≤sizeLine)(q:∀p,H p=none→Q (.ref p) (upd H p (.lst (xs++zs)))):Zru (.ref a) (.ref b) H Q:=
 .inr (.inr ⟨a,b,xs,zs,rfl,rfl,h1,h2,hz,q⟩)
theorem Xog {l:Addr}{k:Int}{xs:List V}(h:H l=some (.lst xs))(h1:-(2 ^ 63)≤k)(h2:k<2 ^ 63)(hz:xs.length*k.toNat≤sizeLine)(q:∀p,H p=none→Q (.ref p) (upd H p (.lst (List.replicate k.toNat xs).flatten))):Zzr (.ref l) (.int k) H Q:=
 .inr ⟨l,k,xs,rfl,rfl,h,h1,h2,hz,q⟩
theorem Xmr {p:Addr}{ns:List Int}(h:SqL K H p (ns.map V.int))(q:Q (.int ns.sum) H):Zss K [.ref p] H Q:=⟨p,ns,rfl,h,q⟩
theorem Zzk {p:Addr}{ys:List V}(h:SqL K H p ys)(q:∀l,H l=none→Q (.ref l) (upd H l (.lst ys))):Zur K [.ref p] H Q:=.inl ⟨p,ys,rfl,.inl h,q⟩
theorem Xap {p:Addr}{i j:Int}(h:H p=some (.rng i j))(h1:-(2 ^ 62)≤i)(h2:i<2 ^ 62)(h3:-(2 ^ 62)≤j)(h4:j<2 ^ 62)(h5:(j - i).toNat≤1000000)(q:∀l,H l=none→Q (.ref l) (upd H l (.lst (Znt i (j - i).toNat)))):Zur K [.ref p] H Q:=
 .inr ⟨p,i,j,rfl,h,h1,h2,h3,h4,h5,q⟩
end
structure QE (X:Cx)(e:Expr)(t:TE):Prop where
 out:PE X e t
structure QT (X:Cx)(e:Expr)(t:TT):Prop where
 out:PT X e t
structure QW (X:Cx)(e:Expr)(t:TT):Prop where
 out:PW X e t
structure QA (X:Cx)(es:List Expr)(t:TA):Prop where
 out:PA X es t
structure QO (X:Cx)(e:Option Expr)(t:TO):Prop where
 out:PO X e t
structure QG (X:Cx)(e:Expr)(t:TG):Prop where
 out:PG X e t
structure QGs (X:Cx)(es:List Expr)(t:TGs):Prop where
 out:PGs X es t
structure QI (X:Cx)(tg iter:Expr)(wi:TI):Prop where
 out:PI X tg iter wi
structure QS (X:Cx)(st:Stmt)(t:TS):Prop where
 out:PS X st t
structure QSs (X:Cx)(st:List Stmt)(t:TS):Prop where
 out:PSs X st t
section
variable {X:Cx}{a b c e st o tg iter:Expr}{rest es:List Expr}{ta tb tc te ts to:TE}{tA tB':TT}{t:TA}{pos p p2 apos cpos:Pos}
theorem Xlh {i:Int}{j:Nat}:QE X (.Constant (.int i) j pos) (tC (.int i)):=⟨Xms⟩
theorem qe_bl {i:Bool}{j:Nat}:QE X (.Constant (.bool i) j pos) (tC (.bl i)):=⟨Xls⟩
theorem Xnv {x:Str}{j:Nat}:QE X (.Constant (.str x) j pos) (tC (.str x)):=⟨Xlz⟩
theorem qv (i:Nat){x:Str}(hN:X.N[i]?=some x:=by rfl)(hv:autoParam (Vis X.env.scope x) aT3._auto_1)(hd:(x==("__debug__":Str))=false:=by decide)
  (hcd:(x==("__classdict__":Str))=false:=by decide):QE X (.Name x pos) (Zst i):=⟨pv i hN hv hd hcd⟩
theorem Xfb {x:Str}{v:V}{u:Value}(hg:Gl X x)(hm:X.mg x=some u)(r:RelV v u)(hd:(x==("__debug__":Str))=false:=by decide):QE X (.Name x pos) (tC v):=⟨Xgn hg hm r hd⟩
theorem Xon {op:Operator}{r:R2}(ho:OpR X (binaryOp op) r)(ha:QE X a ta)(hb:QE X b tb):QE X (.BinOp a op b pos) (tOp r ta tb):=⟨pe_op ho ha.out hb.out⟩
theorem qe_un {op:UnaryOp}{r:V→Hp→VK→Prop}(ho:UnR X (unaryOp op) r)(ha:QE X a ta):QE X (.UnaryOp op a pos) (tUn r ta):=⟨pe_un ho ha.out⟩
theorem Xht {op:CmpOp}{r:R2}(ho:OpR X (compareOp op) r)(ha:QE X a ta)(hb:QE X b tb)(hm:behindInMarks op b=false):QE X (.Compare a [op] [b] pos) (tOp r ta tb):=⟨Xfn ho ha.out hb.out hm⟩
theorem Xhg {op:CmpOp}{r:R2}(ho:OpR X (compareOp op) r)(ha:QE X a ta)(hb:QE X b tb)(hm:behindInMarks op b=false):QT X (.Compare a [op] [b] pos) (Zyy (tOp r ta tb)):=⟨Xfx ho ha.out hb.out hm⟩
theorem Zzt {op op':CmpOp}{r r':R2}(ho:OpR X (compareOp op) r)(ho':OpR X (compareOp op') r')(ha:QE X a ta)(hb:QE X b tb)(hc:QE X c tc)(hm:lastMarks [op,op'] [b,c]=false:=by with_unfolding_all rfl):QE X (.Compare a [op,op'] [b,c] pos) (Zqf r r' ta tb tc):=⟨Xcc ho ho' ha.out hb.out hc.out hm⟩
theorem Xlb {op:BoolOp}(h:QE X a ta):QE X (.BoolOp op [a] pos) ta:=⟨Xmb h.out⟩
theorem Xop (ha:QE X a ta)(hb:QE X (.BoolOp .And (b::rest) pos) tb):QE X (.BoolOp .And (a::b::rest) pos) (Xda ta tb):=⟨Xot ha.out hb.out⟩
theorem qe_or (ha:QE X a ta)(hb:QE X (.BoolOp .Or (b::rest) pos) tb):QE X (.BoolOp .Or (a::b::rest) pos) (tOrV ta tb):=⟨pe_or ha.out hb.out⟩
theorem Xcd (hc:QT X c tA)(ha:QE X a ta)(hb:QE X b tb):QE X (.IfExp c a b pos) (tIf tA ta tb):=⟨Xad hc.out ha.out hb.out⟩
theorem Xkw (h:QE X e te)(he:∀whole,isTrue e X.env whole=(do let v ← whole;standAt e.pos;holding [v] (truthy v)):=by intro _;rfl):QT X e (tB te):=⟨Xns h.out he⟩
theorem Xlx (ha:QT X a tA):QT X (.UnaryOp .Not a pos) (tNot tA):=⟨Xmq ha.out⟩
theorem Xhs (ha:QT X a tA):QW X (.BoolOp .And [a] pos) tA:=⟨Xji ha.out⟩
theorem Xlp (ha:QT X a tA):QW X (.BoolOp .Or [a] pos) tA:=⟨Xnm ha.out⟩
theorem Xky (ha:QT X a tA)(hb:QW X (.BoolOp .And (b::rest) pos) tB'):QW X (.BoolOp .And (a::b::rest) pos) (tAnd tA tB'):=⟨Xmj ha.out hb.out⟩
theorem qw_or (ha:QT X a tA)(hb:QW X (.BoolOp .Or (b::rest) pos) tB'):QW X (.BoolOp .Or (a::b::rest) pos) (tOr tA tB'):=⟨pw_or ha.out hb.out⟩
theorem qt_w (h:QW X a tA):QT X a tA:=⟨h.out.pt⟩
theorem Ztg:QA X [] Zpm:=⟨Zio⟩
theorem Zig (ha:QE X e te)(hr:QA X es t)(hs:starEach (e::es) X.env=(false,eval e X.env)::starEach es X.env):QA X (e::es) (Zcw te t):=⟨Zdm ha.out hr.out hs⟩
theorem Xej {x1:Nat}(h:QA X es t):QE X (.Tuple es x1 pos) (Xlj t):=⟨Xmn h.out⟩
theorem Xdx (h:QA X es t):QE X (.List es pos) (Xjz t):=⟨Xlq h.out⟩
theorem qe_ix {r:R2}(hr:IxR X r)(ha:QE X a ta)(hb:QE X b tb)(hs:Zdk b):QE X (.Subscript a b pos) (tOp r ta tb):=⟨pe_ix hr ha.out hb.out hs⟩
theorem Xgm:QO X none Zjz:=⟨Xjg⟩
theorem Xjo (h:QE X e te):QO X (some e) (Xcr te):=⟨Xhv h.out⟩
theorem Zyf {r:V→Option Int→Option Int→Hp→VK→Prop}{lo hi:Option Expr}{tl th:TO}(hr:SlR X r)(he:QE X e te)(hl:QO X lo tl)(hu:QO X hi th):QE X (.Subscript e (.Slice lo hi none p2) pos) (tSl r te tl th):=⟨Xcu hr he.out hl.out hu.out⟩
theorem Xlc (he:QE X e te)(hst:QE X st ts):QE X (.Subscript e (.Slice none none (some st) p2) pos) (tRev X.K te ts):=⟨Xly he.out hst.out⟩
theorem Zyq {CX:CXT}{k:Nat}{ps:List Str}{sp:Sp}{E:XK}{x:Str}(D:Def X.prog X.w X.K X.mg X.base CX k x ps sp)(hr:Zdr k X.A)(hg:Gl X x)(hx:Zho CX X E)
  (ha:QA X (e::es) t) (hdb:(x==("__debug__":Str))=false:=by decide) (he:starEach (e::es) X.env=(false,eval e X.env)::starEach es X.env:=by rfl) (hpl:(backTo pos (starEach es X.env)).any (·.1)=false:=by rfl) :
  QE X (.Call (.Name x p) (e::es) [] pos) (Zop sp [] E t):=⟨Zqt D hr hg hx ha.out hdb he hpl⟩
theorem Xcl {x:Str}{id:String}{r:List V→Hp→VK→Prop}(hc:Zbb X (.builtin id) r)(hg:Gl X x)(hm:X.mg x=none)(hv:bootBuiltins x=some (.builtin id))(ha:QA X (e::es) t)(hn:x≠"__name__":=by decide)(hdb:(x==("__debug__":Str))=false:=by decide)
  (he:starEach (e::es) X.env=(false,eval e X.env)::starEach es X.env:=by rfl) (hpl:(backTo pos (starEach es X.env)).any (·.1)=false:=by rfl):QE X (.Call (.Name x p) (e::es) [] pos) (tCB r t):=⟨Zzl hc hg hm hv ha.out hn hdb he hpl⟩
theorem Ztx {x:Str}{T:String}{r:List V→Hp→VK→Prop}(hc:Zbb X (.type T) r)(hg:Gl X x)(hm:X.mg x=none)(hv:bootBuiltins x=some (.type T))(ha:QA X (e::es) t)(hn:x≠"__name__":=by decide)(hdb:(x==("__debug__":Str))=false:=by decide)
  (he:starEach (e::es) X.env=(false,eval e X.env)::starEach es X.env:=by rfl) (hpl:(backTo pos (starEach es X.env)).any (·.1)=false:=by rfl):QE X (.Call (.Name x p) (e::es) [] pos) (tCB r t):=⟨Zvm hc hg hm hv ha.out hn hdb he hpl⟩
theorem Xnt {name:Str}{T id:String}{r:V→List V→Hp→VK→Prop}(pa:PlainAttrs T)(slot:Slot T name id)(hty:typeOf (.builtin id)=pure (.type "method_descriptor"))(hm:MtR X id r)(ho:QE X o to)(ha:QA X (e::es) t)
    (hbase:attributeBase o name X.env (eval o X.env)=eval o X.env:=by rfl)
    (hfew:((backTo cpos (starEach (e::es) X.env)).all (fun x=>!x.1)&&(backToKw cpos (keywordEach [] X.env)).all (fun x=>x.1.isSome)
      && decide ((e::es).length+([]:List Keyword).length+(if ([]:List Keyword).isEmpty then 0 else 1)<30))=true:=by rfl)
    (hline:(apos.endLine==cpos.line)=true:=by rfl) (hs:starEach (e::es) X.env=(false,eval e X.env)::starEach es X.env:=by rfl) (hplain:(backTo cpos (starEach es X.env)).any (·.1)=false:=by rfl) :
    QE X (.Call (.Attribute o name apos) (e::es) [] cpos) (tBM X.K T r to t):=⟨pe_bm pa slot hty hm ho.out ha.out hbase hfew hline hs hplain⟩
theorem Znu {i:Nat}{x:Str}(hN:X.N.Nodup)(hi:X.N[i]?=some x)(hx:Loc X.env.scope x)(hf:autoParam (X.fn x=true∨X.env.scope.names.lookup x=some .local) aT0._auto_1):QG X (.Name x pos) (Jp i):=⟨Xio hN hi hx hf⟩
theorem Zvk {k:Nat}{tt:TGs}{n:Nat}(hc:X.calm=true)(h:QGs X es tt)(hn:(assignEach es X.env).length=n:=by rfl)(hst:(assignEach es X.env).findIdx? (·.1)=none:=by rfl):QG X (.Tuple es k pos) (Zfm X.K n tt):=⟨Xmw hc h.out hn hst⟩
theorem Zok:QGs X [] Zwb:=⟨Xfs⟩
theorem Zju {tt:TG}{u:TGs}(h1:QG X e tt)(h2:QGs X es u)(hs:(assignEach (e::es) X.env).map (·.2)=assign e X.env::(assignEach es X.env).map (·.2):=by rfl):QGs X (e::es) (Zfa tt u):=⟨Xbg h1.out h2.out hs⟩
theorem Xgi (hl:QE X e te):QI X tg e (Zyk X.K te):=⟨Xgt hl.out⟩
theorem Xle (hl:QE X e te):QI X tg e (iTup X.K te):=⟨Xor hl.out⟩
theorem Zue (hg:Gl X "range")(hm:X.mg "range"=none)(ha:QA X [a] t)(hs:starEach [a] X.env=[(false,eval a X.env)]:=by rfl):QI X tg (.Call (.Name "range" p) [a] [] pos) (Xck t):=⟨Zws hg hm ha.out hs⟩
variable {s1:Stmt}{ss body other:List Stmt}{u v:TS}{pos':Pos}
theorem Xja:QSs X [] Zzi:=⟨Xii⟩
theorem Zkb (h1:QS X s1 u)(h2:QSs X ss v):QSs X (s1::ss) (Zvw u v):=⟨Zzx h1.out h2.out⟩
theorem Xgz (h1:QS X s1 u):QSs X [s1] u:=⟨Xew h1.out⟩
theorem Zyo:QS X s1 Zqa:=⟨Xan⟩
theorem Zxe (he:QE X e te)(hs:swapsWith e none pos.line X.env=pure false:=by rfl):QS X (.Expr e pos) (Zrv te):=⟨Xil he.out hs⟩
theorem Xdh (he:QE X e te):QS X (.Return (some e) pos) (Xjw te):=⟨Xlv he.out⟩
theorem qs_if (hc:QT X c tA)(ha:QSs X body u)(hb:QSs X other v):QS X (.If c body other pos) (tIfS tA u v):=⟨ps_if hc.out ha.out hb.out⟩
theorem Xeb {g:TG}(he:QE X e te)(hg:QG X tg g)(hs:swapsWithSole [tg] e pos.line X.env=pure false:=by rfl)(hw:swappedStores [tg] e X.env=pure none:=by rfl)(h1:(assignEach [tg] X.env).map (·.2)=[assign tg X.env]:=by rfl):QS X (.Assign [tg] e pos) (Zgg te g):=⟨Xnp he.out hg.out hs hw h1⟩
theorem Zmu {i:Nat}{x:Str}(hN:X.N.Nodup)(hi:X.N[i]?=some x)(hx:Loc X.env.scope x)(he:QE X e te)(hs:swapsWith e (some (.Name x pos')) pos.line X.env=pure false:=by rfl)(hf:autoParam (X.fn x=true∨X.env.scope.names.lookup x=some .local) aT0._auto_1) :
  QS X (.Assign [.Name x pos'] e pos) (Zgg te (Jp i)):=⟨Xks hN hi hx he.out hs hf⟩
theorem Xof {wi:TI}{g:TG}(hp:PassesOwn (model X.prog X.w) X.A X.env X.xe)(hc:X.calm=true)(hi:QI X tg iter wi)(hg:QG X tg g)(hb:QSs X body u)(hs:∀x,foldedSetIterable iter X.env x=pure x:=by intro _;rfl):QS X (.For tg iter body [] pos) (tFor wi g u):=⟨Xob hp hc hi.out hg.out hb.out hs⟩
end
theorem Fun.okQ {P:Program}{w:World}{K:Frag}{mg:Str→Option Value}{base:Heap}{x qual:Str}{st:Stmt}{f:Addr}{fd:FuncData}{N ps:List Str}{k:Nat}{sp:Sp}(F:Fun K x qual st f fd)(S:Xa N ps (Zj st))(len:∀vs H Q E,sp vs H Q E→vs.length=ps.length)
    (hbody:∀(cdv:Value) (A:Around) (outer:List Env) (s:Shared) (H:Hp) (vs:List V) (Q:VK) (E:XK),Zdr k (A.deeper (envOfC qual (Zj st) s.heap.objs.size f cdv))→sp vs H Q E→
      ∃t,QSs (Zxx CX0 P w K mg base N qual (Zj st) f cdv A outer s H E).nox (Zbl st) t∧t {nx:=fun _ H'=>Q .non H',rt:=Q} (start N vs) H):Zam P w K mg base CX0 (k+1) f fd ps sp:=
  F.ok S len fun cdv A outer s H vs Q E hr h=>by
    obtain ⟨t,ht,q⟩:=hbody cdv A outer s H vs Q E hr h
    exact ⟨t,ht.out,q⟩
@[reducible] noncomputable def Cx.blk (X:Cx)(N2:List Str)(x:Str)(sc:Scope)(cl:List (Str×Addr))(C:Addr)(s0:Shared)(H0:Hp)(fp:List Addr):Cx:=
 {X with N:=N2++[x],s₀:=s0,H₀:=H0,env:=compEnvC sc cl C X.env,outer:=X.stack,ex:=fp,fn:=fun _=>false,pn:=[],xe:=fun _ _=>False}
structure BlkOk (sc esc:Scope)(x:Str)(N N2:List Str):Prop where
 kind:sc.kind=.function
 cell:∀y∈sc.names,y.2≠.cell
 loc:∀y∈sc.names,y.2=.local→sc.names.lookup y.1=some .local
 own:sc.names.lookup x=some .local
 free:∀y∈sc.names,y.2=.free→esc.names.lookup y.1=some .cell∨esc.names.lookup y.1=some .free
 out:∀y∈N2,sc.names.lookup y≠some .local
 nd:N.Nodup
 nd2:N2.Nodup
 len:N2.length=N.length
 ren:∀p∈N.zip N2,p.2=p.1∨sc.names.lookup p.2=none
theorem lookup_mem {l:List (Str×NameKind)}{y:Str}{k:NameKind}(h:(y,k)∈l):l.lookup y≠none:=by
 induction l with
 | nil=>simp at h
 | cons p r ih =>
  obtain ⟨n,k'⟩:=p
  cases hy:y==n with
  | true=>rw [lookup_cons,hy];simp
  | false =>
   rw [lookup_cons,hy]
   rcases List.mem_cons.mp h with e | e
   ·cases e
    simp at hy
   ·exact ih e
noncomputable def Xz (cells:List (Str×Addr)):List (Str×NameKind)→List (Str×Addr)→List (Str×Addr)
 | [],cs=>cs
 | (n,k)::r,cs=>Xz cells r (if k=.free then (n,(cells.lookup n).getD 0)::cs else cs)
theorem Zcb {sc:Scope}{env:Env}(h:∀y∈sc.names,y.2=.free→∃c,env.cells.lookup y.1=some c):closureFor sc env=pure (Xz env.cells sc.names []):=by
  unfold closureFor
  generalize sc.names=l at h ⊢
  have key:∀(l:List (Str×NameKind)) (cs:List (Str×Addr)),(∀y∈l,y.2=.free→∃c,env.cells.lookup y.1=some c)→
      (forIn l cs fun (y:Str×NameKind) (r:List (Str×Addr))=>(do
        let (name,kind):=y
        if kind==.free then
          let c ← cellOf env name
          pure (ForInStep.yield ((name,c)::r))
        else pure (ForInStep.yield r):Sem (ForInStep (List (Str×Addr)))))=pure (Xz env.cells l cs):=by
    intro l
    induction l with
    | nil=>intro cs _;rfl
    | cons y r ih =>
      intro cs hy
      obtain ⟨n,k⟩:=y
      rw [List.forIn_cons]
      have hr:∀y∈r,y.2=.free→∃c,env.cells.lookup y.1=some c:=fun y h'=>hy y (mem_cons_of_mem _ h')
      by_cases hk:k=.free
      · subst hk
        obtain ⟨c,hc⟩:=hy _ mem_cons_self rfl
        have e:cellOf env n=pure c:=by unfold cellOf;rw [show env.cells.lookup n=some c from hc]
        simp only [beq_self_eq_true,if_true,e]
        rw [Xz,if_pos rfl,show env.cells.lookup n=some c from hc]
        exact ih _ hr
      · have hb:(k==NameKind.free)=false:=by simpa using hk
        rw [Xz,if_neg hk]
        simp only [hb,if_false,Bool.false_eq_true]
        exact ih _ hr
  have q:=key l [] h
  exact (congrArg (fun z:Sem (List (Str×Addr))=>z >>= fun r=>pure r) q).trans rfl
theorem Zhv {cells:List (Str×Addr)}:∀{l:List (Str×NameKind)} {cs:List (Str×Addr)} {y:Str} {c:Addr},(∀z∈l,z.2=.free→∃c,cells.lookup z.1=some c)→(∀c,cs.lookup y=some c→cells.lookup y=some c)→
  (Xz cells l cs).lookup y=some c→cells.lookup y=some c
 | [],_,_,_,_,h0,h=>h0 _ h
 | (n,k)::r,cs,y,c,hl,h0,h=>by
  rw [Xz] at h
  refine Zhv (l:=r) (fun z hz=>hl z (mem_cons_of_mem _ hz)) (fun c' hc'=>?_) h
  by_cases hk:k=.free
  ·rw [if_pos hk] at hc'
   obtain ⟨c0,e0⟩:=hl _ mem_cons_self hk
   cases hy:y==n with
   | true =>
    have e:y=n:=by simpa using hy
    subst e
    rw [lookup_cons,hy] at hc'
    have e1:(cells.lookup y).getD 0=c':=by simpa using hc'
    have e2:cells.lookup y=some c0:=e0
    rw [e2] at e1 ⊢
    simpa using e1
   | false =>
    rw [lookup_cons,hy] at hc'
    exact h0 _ hc'
  ·rw [if_neg hk] at hc'
   exact h0 _ hc'
theorem Znl {cells:List (Str×Addr)}:∀{l:List (Str×NameKind)} {cs:List (Str×Addr)} {y:Str},(∃c,cs.lookup y=some c)→∃c,(Xz cells l cs).lookup y=some c
 | [],_,_,h=>h
 | (n,k)::r,cs,y,h=>by
  rw [Xz]
  refine Znl ?_
  split
  ·cases hy:y==n with
   | true=>exact ⟨_,by rw [lookup_cons,hy]⟩
   | false=>rw [lookup_cons,hy];exact h
  ·exact h
theorem Zfl {cells:List (Str×Addr)}:∀{l:List (Str×NameKind)} {cs:List (Str×Addr)} {y:Str},(y,NameKind.free)∈l→∃c,(Xz cells l cs).lookup y=some c
 | (n,k)::r,cs,y,h=>by
  rw [Xz]
  rcases List.mem_cons.mp h with e | e
  ·cases e
   refine Znl ?_
   rw [if_pos rfl]
   exact ⟨_,by rw [lookup_cons,beq_self_eq_true]⟩
  ·exact Zfl e
theorem Zdd {env:Env}:∀{names:List (Str×NameKind)} {y:Str} {k:NameKind},(∀z∈names,z.2≠.cell)→(k=.cell∨k=.free)→
  (names.map fun (n,k)=>if (k==NameKind.free&&env.scope.kind==.function&&env.kindOf n==some .cell) then (n,NameKind.cell) else (n,k)).lookup y=some k→(y,NameKind.free)∈names
 | [],_,_,_,_,hz=>by simp at hz
 | (n,k0)::r,y,k,hc,hk,h=>by
  rw [map_cons] at h
  cases hy:y==n with
  | true =>
   have e:y=n:=by simpa using hy
   subst e
   by_cases hf:k0=.free
   ·subst hf;exact mem_cons_self
   ·have hb:(k0==NameKind.free)=false:=by simpa using hf
    simp only [hb,Bool.false_and,Bool.false_eq_true,if_false,lookup_cons,beq_self_eq_true] at h
    have e1:k0=k:=by simpa using h
    subst e1
    rcases hk with z | z
    ·exact absurd z (hc _ mem_cons_self)
    ·exact absurd z hf
  | false =>
   refine mem_cons_of_mem _ (Zdd (env:=env) (k:=k) (fun z hz=>hc z (mem_cons_of_mem _ hz)) hk ?_)
   by_cases hc':(k0==NameKind.free&&env.scope.kind==.function&&env.kindOf n==some .cell)=true
   ·simp only [hc',if_true,lookup_cons,hy] at h
    exact h
   ·simp only [hc',Bool.false_eq_true,if_false,lookup_cons,hy] at h
    exact h
theorem Zee {env:Env}:∀{names:List (Str×NameKind)} {y:Str},
  (names.map fun (n,k)=>if (k==NameKind.free&&env.scope.kind==.function&&env.kindOf n==some .cell) then (n,NameKind.cell) else (n,k)).lookup y=some .local→names.lookup y=some .local
 | [],_,h=>by simp at h
 | (n,kn)::r,y,h=>by
  rw [map_cons] at h
  cases hy:y==n with
  | true =>
   rw [lookup_cons,hy]
   by_cases hc:(kn==NameKind.free&&env.scope.kind==.function&&env.kindOf n==some .cell)=true
   ·simp only [hc,if_true,lookup_cons,hy] at h
    cases h
   ·simp only [hc,Bool.false_eq_true,if_false,lookup_cons,hy] at h
    exact h
  | false =>
   rw [lookup_cons,hy]
   refine Zee (env:=env) ?_
   by_cases hc:(kn==NameKind.free&&env.scope.kind==.function&&env.kindOf n==some .cell)=true
   ·simp only [hc,if_true,lookup_cons,hy] at h
    exact h
   ·simp only [hc,Bool.false_eq_true,if_false,lookup_cons,hy] at h
    exact h
section
variable {s:Shared}{R:Result→Shared→Prop}{A:Around}{P:Program}{w:World}
noncomputable def Zxs (ifs:List Expr)(env:Env):Sem Bool:=forIn ifs true fun c r=>if r=true then do let ok ← isTrue c env (eval c env);pure (ForInStep.yield ok) else pure (ForInStep.yield r)
theorem Zjg {elt tg iter:Expr}{ifs:List Expr}{scope:Scope}{pos:Pos}{it ac:Value}{env:Env}(W:Nat→Shared→Prop)
    (turn:∀n s,W n s→wpAny (model P w) A (pyNext it) (fun r s₁=>match r with
      | none=>R (.ok .next) s₁
      | some v=>wpAny (model P w) A (letOwnedTupleGo tg it v) (fun _ s₁'=>wpAny (model P w) A (assign tg env v) (fun _ s₂ =>
          wpAny (model P w) A (Zxs ifs env) (fun ok s₃ =>
            if ok=true then wpAny (model P w) A (eval elt env) (fun z s₄ =>
              wpAny (model P w) A (call (.builtin "list.append") [ac,z]) (fun _ s₅=>∃m,m<n∧W m s₅) (fun _ _=>False) s₄) (fun _ _=>False) s₃
            else ∃m,m<n∧W m s₃) (fun _ _=>False) s₂) (fun _ _=>False) s₁') (fun _ _=>False) s₁) (fun _ _=>False) s)
    (n:Nat) (h:W n s) :
    codeAny (model P w) A (.compLoop (.ListComp elt [⟨tg,iter,ifs,0⟩] scope pos) 0 it ac env) R s:=by
  refine codeAny_loop rfl W (fun n s hI=>?_) n h
  show wpAny _ A ((compTurn (.ListComp elt [⟨tg,iter,ifs,0⟩] scope pos) 0 it ac env).onRaise (fun z=>do noteFrame z env;theTreesLotGoes z)) _ _ s
  refine wpAny_noted ?_
  rw [compTurn_list]
  refine wpAny_bind (wpAny_standAt (wpAny_bind (wpAny_mono (turn n s hI) (fun r s₁ h₁=>?_) fun _ _ h'=>h'.elim)))
  cases r with
  | none=>exact wpAny_pure h₁
  | some v =>
    refine wpAny_bind (wpAny_mono h₁ (fun _ s₁' h₁'=>?_) fun _ _ h'=>h'.elim)
    refine wpAny_bind (wpAny_mono h₁' (fun _ s₂ h₂=>wpAny_bind (wpAny_mono h₂ (fun ok s₃ h₃=>?_) fun _ _ h'=>h'.elim)) fun _ _ h'=>h'.elim)
    cases ok with
    | false=>exact wpAny_pure (And.intro rfl h₃)
    | true =>
      exact wpAny_bind (wpAny_bind (wpAny_mono h₃ (fun x s₄ h₄=>wpAny_bind (wpAny_mono h₄ (fun _ s₅ h₅=>wpAny_pure (wpAny_pure ⟨rfl,h₅⟩)) fun _ _ h'=>h'.elim)) fun _ _ h'=>h'.elim))
end
def PIf (X:Cx)(ifs:List Expr)(t:TT):Prop:=
 ∀(pins:List (Addr×Obj)) (s:Shared) (σ:St) (H:Hp) (Q:Bool→Hp→Prop),Inv X pins σ H s→t σ H Q→wpAny (model X.prog X.w) X.A (Zxs ifs X.env) (TP X pins σ Q) X.xe s
def tYes:TT:=fun _ H Q=>Q true H
theorem Xet {X:Cx}:PIf X [] tYes:=fun _ _ _ H _ I h=>wpAny_pure ⟨H,I,h⟩
theorem Xfm {X:Cx}{c:Expr}{t:TT}(h:PT X c t):PIf X [c] t:=fun pins s σ H Q I hw=>wpAny_tests_one (h pins s σ H Q I hw)
section
variable {X:Cx}{elt iter:Expr}{x:Str}{px pos:Pos}{ifs:List Expr}{sc:Scope}{N2:List Str}{wi:TI}{tc:TT}{te:TE}
end
structure QIf (X:Cx)(ifs:List Expr)(t:TT):Prop where
 out:PIf X ifs t
section
variable {X:Cx}{elt iter c:Expr}{x:Str}{px pos:Pos}{ifs:List Expr}{sc esc:Scope}{N N2:List Str}{wi:TI}{tc:TT}{te:TE}
theorem Xiw:QIf X [] tYes:=⟨Xet⟩
theorem Xhi (h:QT X c tc):QIf X [c] tc:=⟨Xfm h.out⟩
end
section
variable {K:Frag}{a D:Addr}{xs:List V}{tc:TT}{te:TE}{σ:St}{H:Hp}{Q:VK}{R:Hp→Prop}
end
@[reducible] noncomputable def Cx.blkN (X:Cx)(N2 xs:List Str)(sc:Scope)(cl:List (Str×Addr))(C:Addr)(s0:Shared)(H0:Hp)(fp:List Addr):Cx:=
 {X with N:=N2++xs,s₀:=s0,H₀:=H0,env:=compEnvC sc cl C X.env,outer:=X.stack,ex:=fp,fn:=fun _=>false,pn:=[],xe:=fun _ _=>False}
structure Zxy (sc esc:Scope)(xs N N2:List Str):Prop where
 kind:sc.kind=.function
 cell:∀y∈sc.names,y.2≠.cell
 loc:∀y∈sc.names,y.2=.local→sc.names.lookup y.1=some .local
 free:∀y∈sc.names,y.2=.free→esc.names.lookup y.1=some .cell∨esc.names.lookup y.1=some .free
 out:∀y∈N2,sc.names.lookup y≠some .local
 nd:N.Nodup
 len:N2.length=N.length
 ren:∀p∈N.zip N2,p.2=p.1∨sc.names.lookup p.2=none
def Zcr (k:Nat)(g:TG)(wi:TI)(tc:TT)(te:TE):TE:=fun σ H Q=>wi σ H fun J H1=>∀D,H1 D=none→∃W:Nat→Nat→Hp→Prop,(∃m,W 0 m (upd H1 D (.lst [])))∧∀i m H,W i m H→
  (J.stop i H∧Q (.ref D) H)∨(J.go i H∧∃N:Hp→Prop,(∀H',N H'→∃m',m'<m∧W (i+1) m' H')∧∀x H',J.yld i H x H'→∀os:St,os.length=k→g x (σ++os) H' fun σ' Hg=>(∃os',os'.length=k∧σ'=σ++os')∧tc σ' Hg fun b H2 =>
    if b=true then te σ' H2 fun v H3=>∃ys,H3 D=some (.lst ys)∧ys.length<sizeLine∧N (upd H3 D (.lst (ys++[v])))
    else N H2)
section
variable {X:Cx}{elt iter tg:Expr}{xs:List Str}{pos:Pos}{g:TG}{ifs:List Expr}{sc:Scope}{N2:List Str}{wi:TI}{tc:TT}{te:TE}
theorem Zrs {pins:List (Addr×Obj)}{σ:St}{H:Hp}{s s1:Shared}{fp:List Addr}{h':Heap}{m:Str→Option Value}{tk:Nat}(B:Zxy sc X.env.scope xs X.N N2)(I:Inv X pins σ H s)(hf:∀b∈fp,Zin X pins H b)
    (hfl:∀b∈fp,b<s.heap.objs.size) (hn:h'.Ns s.heap.objs.size m) (hk:∀b o,s.heap.get? b=some o→h'.get? b=some o) (e1:s1={s with heap:=h',toks:=tk}) :
    Inv (X.blkN N2 xs sc (Xz X.env.cells sc.names []) s.heap.objs.size s H fp) [] (σ++List.replicate xs.length none) H s1:=by
  subst e1
  have hcl:∀y∈sc.names,y.2=.free→∃c,X.env.cells.lookup y.1=some c:=fun y hy hf=>I.ok.has y.1 (B.free y hy hf)
  have look:∀y c,(Xz X.env.cells sc.names []).lookup y=some c→X.env.cells.lookup y=some c:=fun y c h=>Zhv hcl (fun _ z=>by simp at z) h
  have isfree:∀y,(relabel sc X.env).names.lookup y=some .cell∨(relabel sc X.env).names.lookup y=some .free→(y,NameKind.free)∈sc.names:=fun y hy=>by
    rcases hy with hy | hy
    · exact Zdd (env:=X.env) B.cell (.inl rfl) hy
    · exact Zdd (env:=X.env) B.cell (.inr rfl) hy
  refine ⟨⟨I.ok.mod,B.kind,I.ok.glob,I.ok.blt,le_refl _,fun y z c h1 h2=>I.ok.inj y z c (look y c h1) (look z c h2),fun y hy=>Zfl (isfree y hy),fun _ _ h=>(by cases h),I.ok.hd,I.ok.frames,.inl rfl,fun b hb=>?_,fun b o e=>?_,le_trans I.ok.bsz I.sz,fun b o e hb=>?_,fun b hb hs=>?_,I.stack,I.stkFree⟩,
    rfl,I.bare,Un.kept hk,⟨_,hn,fun i y v h1 h2 h3=>?_⟩,fun y c h=>?_,I.hok.fresh (le_refl _),fun y c h=>I.freeC y c (look y c h),fun p hp=>absurd (show p∈([]:List (Addr×Obj)) from hp) (by simp),I.hok.kept hk,?_⟩
  · exact ⟨ne_of_lt (hfl b hb),fun y c h=>(hf b hb).2.2.2.2.1 y c (look y c h)⟩
  · exact I.bs b o e
  · rcases (hf b hb).2.2.2.1 with z | z
    · exact I.ok.noex b o e z
    · exact absurd (lt_of_lt_of_le (lt_size e) (le_trans I.ok.bsz z)) (lt_irrefl _)
  · rcases List.mem_cons.mp (I.stkSub b hs) with z | z
    · exact (hf b hb).2.1 z
    · exact (hf b hb).2.2.1 z
  · have hlen:=I.len
    have hl2:=B.len
    have h1:(N2++xs)[i]?=some y:=h1
    have h2:(σ++List.replicate xs.length none)[i]?=some (some v):=h2
    have hi:i<X.N.length:=by
      by_cases hi:i<X.N.length
      · exact hi
      · rw [getElem?_append_right (by omega)] at h2
        have hm:=mem_of_getElem? h2
        rw [List.mem_replicate] at hm
        exact absurd hm.2 (by intro z;cases z)
    rw [getElem?_append_left (by omega)] at h1
    rw [getElem?_append_left (by omega)] at h2
    have h3':(relabel sc X.env).names.lookup y=some .cell∨(relabel sc X.env).names.lookup y=some .free:=by
      rcases h3 with z | z
      · exact absurd (Zee (env:=X.env) z) (B.out y (mem_of_getElem? h1))
      · exact z
    have hfr:=isfree y h3'
    have h1:X.N[i]?=some y:=by
      obtain ⟨z,hz⟩:∃z,X.N[i]?=some z:=⟨X.N[i],getElem?_eq_getElem hi⟩
      rcases B.ren (z,y) (mem_of_getElem? (List.getElem?_zip_eq_some.mpr ⟨hz,h1⟩)) with e | e
      · rw [hz,show y=z from e]
      · exact absurd e (lookup_mem hfr)
    obtain ⟨m3,hn3,hl3⟩:=I.loc
    have hv:X.env.scope.names.lookup y=some .cell∨X.env.scope.names.lookup y=some .free:=B.free (y,.free) hfr rfl
    obtain ⟨u,ru,lk⟩:=hl3 i y v h1 h2 (.inr hv)
    refine ⟨u,ru,.inr ⟨h3',?_⟩⟩
    rcases lk with ⟨k1,_⟩ | ⟨k1,c,ec,zc⟩
    · rcases hv with q | q
      · rw [show X.env.kindOf y=X.env.scope.names.lookup y from rfl,q] at k1
        cases k1
      · rw [show X.env.kindOf y=X.env.scope.names.lookup y from rfl,q] at k1
        cases k1
    · obtain ⟨c',e'⟩:=Zfl (cells:=X.env.cells) (cs:=[]) hfr
      have e2:=look y c' e'
      rw [ec] at e2
      cases e2
      obtain ⟨o,ho,hd⟩:=zc
      exact ⟨c,e',o,hk _ _ ho,hd⟩
  · obtain ⟨v,o,ho,hd⟩:=I.cell y c (look y c h)
    exact ⟨v,o,hk _ _ ho,hd⟩
  · show (σ++List.replicate xs.length none).length=(N2++xs).length
    rw [length_append,length_append,I.len,B.len,length_replicate]
theorem Zqb {pins:List (Addr×Obj)}{σ:St}{H2:Hp}{s2:Shared}{it:Addr}{fp:List Addr}{tn:Nat→Heap→Prop}{J:It}{Q:VK}{E:Value→Shared→Prop}{RR:Value→Addr→Result→Shared→Prop}(hc:X.calm=true)(B:Zxy sc X.env.scope xs X.N N2)
    (hg:∀cl C s0 H0 fp,PG (X.blkN N2 xs sc cl C s0 H0 fp) tg g) (ht:∀cl C s0 H0 fp,PIf (X.blkN N2 xs sc cl C s0 H0 fp) ifs tc) (he:∀cl C s0 H0 fp,PE (X.blkN N2 xs sc cl C s0 H0 fp) elt te)
    (I2:Inv X pins σ H2 s2) (T:Turn X.prog X.w X.K tg J fp it tn) (st2:tn 0 s2.heap) (f2:∀b∈fp,Zin X pins H2 b)
    (hw:∀D,H2 D=none→∃W:Nat→Nat→Hp→Prop,(∃m,W 0 m (upd H2 D (.lst [])))∧∀i m H,W i m H→
      (J.stop i H∧Q (.ref D) H)∨(J.go i H∧∃N:Hp→Prop,(∀H',N H'→∃m',m'<m∧W (i+1) m' H')∧∀x H',J.yld i H x H'→∀os:St,os.length=xs.length→g x (σ++os) H' fun σ' Hg=>(∃os',os'.length=xs.length∧σ'=σ++os')∧tc σ' Hg fun b H2 =>
        if b=true then te σ' H2 fun v H3=>∃ys,H3 D=some (.lst ys)∧ys.length<sizeLine∧N (upd H3 D (.lst (ys++[v])))
        else N H2))
    (fin:∀(D C:Addr) (H':Hp) (s':Shared) (m:Str→Option Value),Inv X pins σ H' s'→s'.heap.Ns C m→Zin X pins H' C→Q (.ref D) H'→RR (.ref D) C (.ok .next) s') :
    wpAny (model X.prog X.w) X.A (newList []) (fun acc s₃=>wpAny (model X.prog X.w) X.A (newFunctionEnv sc X.env.globals (Xz X.env.cells sc.names []) [] X.env.qual none .none (some X.env)) (fun cenv s₄ =>
      codeAny (model X.prog X.w) X.A (.compStart (.ListComp elt [⟨tg,iter,ifs,0⟩] sc pos) 0 (.ref it) acc {cenv with scope:=relabel sc X.env}) (RR acc cenv.locals) s₄) E s₃) E s2:=by
  refine wpAny_newObj_type (wpAny_newFunctionEnv B.cell (by intro y hy;simp at hy) (fun h₁ hns₁ hsb₁=>?_) B.kind)
  have hD:H2 s2.heap.objs.size=none:=I2.fresh
  obtain ⟨W,⟨m0,w0⟩,turn⟩:=hw _ hD
  have I3:Inv X pins σ (upd H2 s2.heap.objs.size (.lst [])) {s2 with heap:=s2.heap.push {cls:=.type "list",data:=.seq ([]:List Value).toArray}}:=I2.lnew (its:=[]) (t':=s2.toks) .nil (zero_le _)
  have fne:∀b∈fp,b<s2.heap.objs.size:=fun b hb=>by
    obtain ⟨o,ho,_⟩:=T.obj _ _ st2 b hb
    exact lt_size ho
  generalize hs3:({s2 with heap:=s2.heap.push {cls:=.type "list",data:=.seq ([]:List Value).toArray}}:Shared)=s3 at I3
  have hs3h:s3.heap=s2.heap.push {cls:=.type "list",data:=.seq ([]:List Value).toArray}:=by rw [← hs3]
  have f3:∀b∈fp,Zin X pins (upd H2 s2.heap.objs.size (.lst [])) b:=fun b hb=>⟨by rw [Xq (ne_of_lt (fne b hb))];exact (f2 b hb).1,(f2 b hb).2⟩
  have fl3:∀b∈fp,b<s3.heap.objs.size:=fun b hb=>by
    rw [hs3h,size_push]
    exact Nat.lt_succ_of_lt (fne b hb)
  have keep3:∀b o,s3.heap.get? b=some o→h₁.get? b=some o:=fun b o e=>by
    rw [hs3h] at e
    refine hsb₁.extBut b o ?_ (get?_push_of_some _ e)
    exact ne_of_lt (lt_size e)
  have hns3:h₁.Ns s3.heap.objs.size (fun z=>([]:List (Str×Value)).reverse.lookup z):=by
    rw [hs3h]
    exact hns₁
  have I4:=Zrs (xs:=xs) (sc:=sc) (s1:={s3 with heap:=h₁,toks:=s3.toks+([]:List (Str×Value)).length}) B I3 f3 fl3 hns3 keep3 rfl
  have st4:tn 0 h₁:=T.keep _ _ _ st2 fun b hb o e=>keep3 b o (by rw [hs3h];exact get?_push_of_some _ e)
  have stat:∀{H':Hp},(∀b∈fp,H' b=none)→∀b∈fp,Zin (X.blkN N2 xs sc (Xz X.env.cells sc.names []) s3.heap.objs.size s3 (upd H2 s2.heap.objs.size (.lst [])) fp) [] H' b:=fun hn b hb =>
    ⟨hn b hb,(I4.ok.exf b hb).1,I4.ok.exfs b hb,.inl hb,(I4.ok.exf b hb).2,fun p hp=>absurd (show p∈([]:List (Addr×Obj)) from hp) (by simp)⟩
  have loop:∀s4:Shared,s4={s3 with heap:=h₁,toks:=s3.toks+([]:List (Str×Value)).length}→
      codeAny (model X.prog X.w) X.A (.compLoop (.ListComp elt [⟨tg,iter,ifs,0⟩] sc pos) 0 (.ref it) (.ref s2.heap.objs.size) (compEnvC sc (Xz X.env.cells sc.names []) s3.heap.objs.size X.env)) (RR (.ref s2.heap.objs.size) s3.heap.objs.size) s4:=by
    rintro s4 rfl
    refine Zjg (fun n s'=>∃(i:Nat) (o:St) (H':Hp),o.length=xs.length∧Inv (X.blkN N2 xs sc (Xz X.env.cells sc.names []) s3.heap.objs.size s3 (upd H2 s2.heap.objs.size (.lst [])) fp) [] (σ++o) H' s'∧tn i s'.heap∧(∀b∈fp,H' b=none)∧W i n H') ?_ m0
      ⟨0,List.replicate xs.length none,_,by simp,I4,st4,fun b hb=>(f3 b hb).1,w0⟩
    rintro n s5 ⟨i,o,H5,ol5,I5,st5,fr5,w5⟩
    rcases turn i n H5 w5 with ⟨stop,qn⟩ | ⟨go,N,hN,step⟩
    · refine thn (T.done (X.blkN N2 xs sc (Xz X.env.cells sc.names []) s3.heap.objs.size s3 (upd H2 s2.heap.objs.size (.lst [])) fp) rfl rfl rfl hc i [] s5 (σ++o) H5 _ I5 (stat fr5) st5 stop) fun r s6 ⟨hr,I6⟩=>?_
      subst hr
      obtain ⟨m6,hn6,_⟩:=I6.loc
      refine fin _ _ H5 s6 m6 ?_ hn6 (I3.fpOk (le_refl _) I6.free) qn
      exact I3.call' (ch:=fp) I6.os I6.base I6.hok I6.bare fun b hb=>⟨(f3 b hb).2.2.2.1,(f3 b hb).2.1,(f3 b hb).2.2.2.2.1,(f3 b hb).2.2.2.2.2⟩
    · refine thn (T.item (X.blkN N2 xs sc (Xz X.env.cells sc.names []) s3.heap.objs.size s3 (upd H2 s2.heap.objs.size (.lst [])) fp) rfl rfl rfl hc i [] s5 (σ++o) H5 _ I5 (stat fr5) st5 go) fun r s6 ⟨u,hr,h6⟩=>?_
      subst hr
      refine thn h6 fun _ s7 hz9=>?_
      obtain ⟨v,H7,I7,r7,y7,st7,fr7⟩:=hz9
      have I7':=I7.pinned (stat fr7) (T.obj _ _ st7)
      refine thn (hg _ _ _ _ _ _ s7 _ H7 v u _ I7' r7 (step v H7 y7 o ol5)) fun _ s8 ⟨σ8,H8,I8,⟨os',ol8,e8⟩,q8⟩=>?_
      subst e8
      have again:∀{H9:Hp} {s9:Shared},Inv (X.blkN N2 xs sc (Xz X.env.cells sc.names []) s3.heap.objs.size s3 (upd H2 s2.heap.objs.size (.lst [])) fp) ([]++Zix fp s7.heap) (σ++os') H9 s9→N H9→
          ∃m,m<n∧∃(i:Nat) (o:St) (H':Hp),o.length=xs.length∧Inv (X.blkN N2 xs sc (Xz X.env.cells sc.names []) s3.heap.objs.size s3 (upd H2 s2.heap.objs.size (.lst [])) fp) [] (σ++o) H' s9∧tn i s9.heap∧(∀b∈fp,H' b=none)∧W i m H':=fun {H9 s9} I9 n9=>by
        obtain ⟨m',hm,w9⟩:=hN H9 n9
        refine ⟨m',hm,i+1,os',H9,ol8,I9.unpinned,T.keep _ _ _ st7 fun b hb o e=>(I9.pin (b,o) (mem_append_right _ (mem_append_right _ (Zbf hb e)))).1,fun b hb=>?_,w9⟩
        obtain ⟨o,e,d⟩:=T.obj _ _ st7 b hb
        exact (I9.pin (b,o) (mem_append_right _ (mem_append_right _ (Zbf hb e)))).2.1
      refine thn (ht _ _ _ _ _ _ s8 _ H8 _ I8 q8) fun ok s9 ⟨H9,I9,q9⟩=>?_
      cases ok with
      | false =>
        rw [if_neg Bool.false_ne_true] at q9 ⊢
        exact again I9 q9
      | true =>
        rw [if_pos rfl] at q9 ⊢
        refine thn (he _ _ _ _ _ _ s9 _ H9 _ I9 q9) fun ue s10 hz9=>?_
        obtain ⟨ve,H10,I10,r10,ys,hy,hz,q10⟩:=hz9
        refine thn (Zfh _ s10 _ H10 (.ref s2.heap.objs.size) [ve] (.ref s2.heap.objs.size) [ue] (fun _ H'=>N H') I10 rfl (.cons r10 .nil) ⟨_,ys,ve,rfl,rfl,hy,hz,q10⟩) fun _ s11 hz9=>?_
        obtain ⟨_,H11,I11,_,q11⟩:=hz9
        exact again I11 q11
  have fin':codeAny (model X.prog X.w) X.A (.compStart (.ListComp elt [⟨tg,iter,ifs,0⟩] sc pos) 0 (.ref it) (.ref s2.heap.objs.size) (compEnvC sc (Xz X.env.cells sc.names []) s3.heap.objs.size X.env)) (RR (.ref s2.heap.objs.size) s3.heap.objs.size) {s3 with heap:=h₁,toks:=s3.toks+([]:List (Str×Value)).length}:=
    codeAny_compStart_list (loop _ rfl) (T.self _ 0 _ _ _ st4 (loop _ rfl))
  exact fin'
theorem Zyt (hc:X.calm=true)(B:Zxy sc X.env.scope xs X.N N2)(hi:PI X tg iter wi)(hg:∀cl C s0 H0 fp,PG (X.blkN N2 xs sc cl C s0 H0 fp) tg g)(ht:∀cl C s0 H0 fp,PIf (X.blkN N2 xs sc cl C s0 H0 fp) ifs tc)(he:∀cl C s0 H0 fp,PE (X.blkN N2 xs sc cl C s0 H0 fp) elt te)
  (hs:∀v,foldedSetIterable iter X.env v=pure v:=by intro _;rfl):PE X (.ListComp elt [⟨tg,iter,ifs,0⟩] sc pos) (Zcr xs.length g wi tc te):=by
 intro pins s σ H Q I h
 rw [eval_ListComp]
 have hcl:∀y∈sc.names,y.2=.free→∃c,X.env.cells.lookup y.1=some c:=fun y hy hf=>I.ok.has y.1 (B.free y hy hf)
 refine wpAny_comprehension_free (use:=none) rfl hs (Zcb hcl) B.kind B.loc (thn (hi pins s σ H _ I h) fun v s1 h1=>thn h1 fun itv s2 h2=>?_)
 obtain ⟨it,fp,tn,J,H2,e,I2,T,st2,f2,hw⟩:=h2
 subst e
 refine Zqb (RR:=fun acc C=>compPost (model X.prog X.w) X.A X.xe none (EP X pins σ Q) acc C) hc B hg ht he I2 T st2 f2 hw ?_
 intro D C H' s' m I' hn hC q
 obtain ⟨c0,c1,c2,c3,c4,c5⟩:=hC
 refine ⟨m,hn,fun h'' hs''=>⟨.ref D,H',?_,rfl,q⟩⟩
 exact I'.turned (t':=s'.toks) (fun b o hb e=>hs''.extBut b o hb e) c0 c1 c3 c4 c5
theorem Xbj {i:Nat}{y:Str}{py spos:Pos}(hc:X.calm=true)(B:Zxy sc X.env.scope xs X.N N2)(hi:PI X tg iter wi)(hg:∀cl C s0 H0 fp,PG (X.blkN N2 xs sc cl C s0 H0 fp) tg g)(ht:∀cl C s0 H0 fp,PIf (X.blkN N2 xs sc cl C s0 H0 fp) ifs tc)(he:∀cl C s0 H0 fp,PE (X.blkN N2 xs sc cl C s0 H0 fp) elt te)
    (hy:X.N[i]?=some y) (hl:X.env.scope.names.lookup y=some .local) (hsw:swapsWith (.ListComp elt [⟨tg,iter,ifs,0⟩] sc pos) (some (.Name y py)) spos.line X.env=pure true:=by rfl)
    (hs:∀v,foldedSetIterable iter X.env v=pure v:=by intro _;rfl):PS X (.Assign [.Name y py] (.ListComp elt [⟨tg,iter,ifs,0⟩] sc pos) spos) (Zgg (Zcr xs.length g wi tc te) (Jp i)):=by
  intro pins s σ H D I h
  have hx:=exec_Assign_Name_used (env:=X.env) _ _ _ _ hsw
  rw [hx]
  refine wpAny_bind (wpAny_standAt ?_)
  refine wpAny_bind ?_
  show wpAny _ X.A (do let _ ← comprehension (.ListComp elt [⟨tg,iter,ifs,0⟩] sc pos) sc X.env _ (newList []) false (eval iter X.env) (some (assign (.Name y py) X.env))) _ _ s
  have hcl:∀y∈sc.names,y.2=.free→∃c,X.env.cells.lookup y.1=some c:=fun y hy hf=>I.ok.has y.1 (B.free y hy hf)
  refine wpAny_bind (wpAny_mono (wpAny_comprehension_free (use:=some (assign (.Name y py) X.env)) (Q:=fun _ s'=>SP X pins D .next s') rfl hs (Zcb hcl) B.kind B.loc
    (thn (hi pins s σ H _ I h) fun v s1 h1=>thn h1 fun itv s2 h2=>?_)) (fun _ s' hq=>wpAny_pure (wpAny_pure hq)) fun _ _ e=>e)
  obtain ⟨it,fp,tn,J,H2,e,I2,T,st2,f2,hw⟩:=h2
  subst e
  refine Zqb (Q:=fun v H1=>Jp i v σ H1 D.nx) (RR:=fun acc C=>compPost (model X.prog X.w) X.A X.xe (some (assign (.Name y py) X.env)) (fun _ s'=>SP X pins D .next s') acc C) hc B hg ht he I2 T st2 f2 hw ?_
  intro E C H' s' m I' hn hC q
  obtain ⟨c0,c1,c2,c3,c4,c5⟩:=hC
  show wpAny _ X.A (assign (.Name y py) X.env (.ref E)) _ _ _
  refine wpAny_assign_Name (Zmx (v:=.ref E) I' B.nd hy (.inl hl) rfl (fun s8 I8 ⟨a,sb,ha⟩=>?_) (.inr hl))
  have hCa:C≠a:=by
    rcases ha with z | z
    · rw [z];exact c1
    · exact fun z'=>c4 _ _ z z'.symm
  refine ⟨m,hn.sameBut sb hCa,fun h'' hs''=>⟨_,H',?_,q⟩⟩
  exact I8.turned (t':=s8.toks) (fun b o hb e=>hs''.extBut b o hb e) c0 c1 c3 c4 c5
end
section
variable {X:Cx}{elt iter c tg:Expr}{xs:List Str}{pos:Pos}{ifs:List Expr}{sc esc:Scope}{N N2:List Str}{wi:TI}{tc:TT}{te:TE}{g:TG}
theorem Xaj (esc:Scope)(N N2 xs:List Str)(B:Zxy sc esc xs N N2)(hi:QI X tg iter wi)(hg:∀cl C s0 H0 fp,QG (X.blkN N2 xs sc cl C s0 H0 fp) tg g)(ht:∀cl C s0 H0 fp,QIf (X.blkN N2 xs sc cl C s0 H0 fp) ifs tc)(he:∀cl C s0 H0 fp,QE (X.blkN N2 xs sc cl C s0 H0 fp) elt te)
  (hesc:X.env.scope=esc:=by rfl) (hN:X.N=N:=by rfl) (hc:X.calm=true:=by rfl) (hs:∀v,foldedSetIterable iter X.env v=pure v:=by intro _;rfl):QE X (.ListComp elt [⟨tg,iter,ifs,0⟩] sc pos) (Zcr xs.length g wi tc te):=by
 subst hesc hN
 exact ⟨Zyt hc B hi.out (fun cl C s0 H0 fp=>(hg cl C s0 H0 fp).out) (fun cl C s0 H0 fp=>(ht cl C s0 H0 fp).out) (fun cl C s0 H0 fp=>(he cl C s0 H0 fp).out) hs⟩
theorem Zps {i:Nat}{y:Str}{py spos:Pos}(esc:Scope)(N N2 xs:List Str)(B:Zxy sc esc xs N N2)(hy:N[i]?=some y)(hl:esc.names.lookup y=some .local)(hi:QI X tg iter wi)(hg:∀cl C s0 H0 fp,QG (X.blkN N2 xs sc cl C s0 H0 fp) tg g)(ht:∀cl C s0 H0 fp,QIf (X.blkN N2 xs sc cl C s0 H0 fp) ifs tc)(he:∀cl C s0 H0 fp,QE (X.blkN N2 xs sc cl C s0 H0 fp) elt te)
  (hesc:X.env.scope=esc:=by rfl) (hN:X.N=N:=by rfl) (hc:X.calm=true:=by rfl) (hsw:swapsWith (.ListComp elt [⟨tg,iter,ifs,0⟩] sc pos) (some (.Name y py)) spos.line X.env=pure true:=by rfl)
  (hs:∀v,foldedSetIterable iter X.env v=pure v:=by intro _;rfl):QS X (.Assign [.Name y py] (.ListComp elt [⟨tg,iter,ifs,0⟩] sc pos) spos) (Zgg (Zcr xs.length g wi tc te) (Jp i)):=by
 subst hesc hN
 exact ⟨Xbj hc B hi.out (fun cl C s0 H0 fp=>(hg cl C s0 H0 fp).out) (fun cl C s0 H0 fp=>(ht cl C s0 H0 fp).out) (fun cl C s0 H0 fp=>(he cl C s0 H0 fp).out) hy hl hsw hs⟩
end
theorem Zuz (bt:Nat→Nat→Bool):∀k,argBest bt k≤k
 | 0=>le_refl _
 | k+1=>by
  rw [argBest]
  have:=Zuz bt k
  split<;>omega
theorem Zqd (val:Nat→Int):∀k j,j≤k→val j≤val (argBest (fun i j=>decide (val i > val j)) k)
 | 0,j,h=>by
  have e:j=0:=by omega
  subst e
  exact Int.le_refl _
 | k+1,j,h=>by
  have ih:=Zqd val k
  rw [argBest]
  by_cases c:val (k+1) > val (argBest (fun i j=>decide (val i > val j)) k)
  ·rw [if_pos (by simpa using c)]
   by_cases e:j=k+1
   ·subst e;exact Int.le_refl _
   ·have:=ih j (by omega)
    omega
  ·rw [if_neg (by simpa using c)]
   by_cases e:j=k+1
   ·subst e
    omega
   ·exact ih j (by omega)
def Xlt (K:Frag):List V→Hp→VK→Prop:=fun xs H Q=>∃p ns,xs=[.ref p]∧SqL K H p (ns.map V.int)∧ns≠[]∧∀m,m∈ns→(∀n∈ns,n≤m)→Q (.int m) H
def Zvs (K:Frag):List V→Hp→VK→Prop:=fun xs H Q=>(∃i j,xs=[.int i,.int j]∧Q (.int (if j > i then j else i)) H)∨Xlt K xs H Q
section
variable {X:Cx}
theorem Zxt (hc:X.calm=true):Zbb X (.builtin "max") (Xlt X.K):=by
 intro pins s σ H xs us Q I r h
 obtain ⟨p,ns,rfl,hq,hne,q⟩:=h
 obtain ⟨u,rfl,rx⟩:=vals1 r
 cases rx
 obtain ⟨its,rv,pl,hz⟩:=I.list hq
 have hi:IntsAre its ns:=intsAre_of rv
 obtain ⟨xs,hxs⟩:=hi.allInts.items
 have hn:numsOf its.toArray.toList=ns:=by rw [show its.toArray.toList=its from rfl,hi.numsOf]
 have hl:=pl.isList
 rw [hxs] at hl hn
 rw [nums_intItems] at hn
 have hsz:xs.size=ns.length:=by rw [← hn];simp
 have h0:0<ns.length:=List.length_pos_iff.mpr hne
 have val:∀i,i<ns.length→numAt xs i=ns.getD i 0:=fun i hi=>by
  rw [← hn]
  have:i<xs.size:=by omega
  simp [numAt,List.getD,this]
 refine max_intList (I.ok.hd hc) hl (by omega) fun v h' tk hv hk=>?_
 obtain ⟨tk',rfl⟩:=intItems_at hv
 have hb:=Zuz (fun i j=>decide (numAt xs i > numAt xs j)) (xs.size - 1)
 have hlt:argBest (fun i j=>decide (numAt xs i > numAt xs j)) (xs.size - 1)<ns.length:=by omega
 refine ⟨.int (numAt xs (argBest (fun i j=>decide (numAt xs i > numAt xs j)) (xs.size - 1))),H,I.kept hk,⟨tk',rfl⟩,q _ ?_ fun n hn'=>?_⟩
 ·rw [val _ hlt]
  have e:ns.getD (argBest (fun i j=>decide (numAt xs i > numAt xs j)) (xs.size - 1)) 0=ns[argBest (fun i j=>decide (numAt xs i > numAt xs j)) (xs.size - 1)]:=by simp [List.getD,hlt]
  rw [e]
  exact getElem_mem hlt
 ·obtain ⟨j,hj,e⟩:=List.mem_iff_getElem.mp hn'
  have q1:=Zqd (numAt xs) (xs.size - 1) j (by omega)
  rw [val j hj] at q1
  have e2:ns.getD j 0=ns[j]:=by simp [List.getD,hj]
  rw [e2,e] at q1
  exact q1
theorem Zuw (hc:X.calm=true):Zbb X (.builtin "max") (Zvs X.K):=(Zxh hc).or (Zxt hc)
variable {σ:St}{H:Hp}{Q:VK}{D:Ends}{K:Frag}
theorem Xhz {i j:Int}(q:Q (.int (if j > i then j else i)) H):Zvs K [.int i,.int j] H Q:=.inl ⟨i,j,rfl,q⟩
theorem Xjn {p:Addr}{ns:List Int}(h:SqL K H p (ns.map V.int))(hne:ns≠[])(q:∀m,m∈ns→(∀n∈ns,n≤m)→Q (.int m) H):Zvs K [.ref p] H Q:=.inr ⟨p,ns,rfl,h,hne,q⟩
variable {a b c e o i':Expr}{to ti te:TE}{tc:TT}{pos p2 apos cpos:Pos}{body:List Stmt}{tb:TS}
theorem Xde (hp:PassesOwn (model X.prog X.w) X.A X.env X.xe)(hc:QT X c tc)(hb:QSs X body tb):QS X (.While c body [] pos) (Zqn tc tb):=⟨Xba hp hc.out hb.out⟩
theorem Xkg {t:TSet}(ho:QE X o to)(hi:QE X i' ti)(hs:PSet X t)
    (ha:∀v,assign (.Subscript o i' pos) X.env v=(do
      let ov ← holding [v] (eval o X.env)
      let iv ← holding [v,ov] (eval i' X.env)
      standAt pos
      holding [v,ov,iv] (setItem ov iv v)
      release [v,ov,iv] []):=by intro _;rfl):QG X (.Subscript o i' pos) (Zkz to ti t):=⟨Xoq ho.out hi.out hs ha⟩
end
theorem Xhq:typeLookup (.type "list_reverseiterator") "__len__"=pure none:=by rw [typeLookup_type,builtinLookup_eq_fast];kernel_rfl
theorem Zya:typeLookup (.type "list_reverseiterator") "__length_hint__"=pure (some (.builtin "list_reverseiterator.__length_hint__")):=by rw [typeLookup_type,builtinLookup_eq_fast];kernel_rfl
section
variable {s:Shared}{E:Value→Shared→Prop}{A:Around}{P:Program}{w:World}
theorem Zzg {it l:Addr}{i:Int}{Q:Bool→Shared→Prop}(hit:s.heap.IsRevIter it l i)(h:Q false s):wpAny (model P w) A (Builtin.List.listLengthHint (.ref it)) Q E s:=by
 delta Builtin.List.listLengthHint
 refine wpAny_bind (wpAny_specialOf hit.typeIs Xhq ?_)
 refine wpAny_ite_split (fun z=>absurd z (by decide +kernel)) fun _=>?_
 refine wpAny_ite_split (fun z=>absurd z (by decide +kernel)) fun _=>?_
 refine wpAny_bind (wpAny_specialOf hit.typeIs Zya ?_)
 generalize hid:("list_reverseiterator.__length_hint__":String)=id0
 wp_delta
 rw [show splitId id0=some ("list_reverseiterator","__length_hint__") from by subst hid;decide +kernel]
 subst hid
 refine wpAny_bind (wpAny_isInstance (T:="list_reverseiterator") (b:=true) hit.typeIs (by rw [isSubtype_type];kernel_rfl) ?_)
 refine wpAny_ite_split (fun z=>absurd z (by decide)) fun _=>?_
 refine wpAny_ite_split (fun _=>?_) fun z=>absurd (by decide +kernel) z
 refine wpAny_ite_split (fun z=>absurd z (by decide +kernel)) fun _=>?_
 exact wpAny_pure h
theorem Zrz {R:Result→Shared→Prop}{it l:Addr}{items:Array Value}(hh:A.handled=none)(hit:s.heap.IsRevIter it l ((items.size:Int) - 1))(hl:s.heap.IsList l items)(hne:l≠it)(hn:items.size≤sizeLine)(S:Addr)(res:Value)(c₀:Nat)
    (hN:s.heap.get? S=some {cls:=.type "list",data:=.seq #[] c₀}) (hSi:S≠it) (hSl:S≠l)
    (hR:∀h' tk acc' c',(∀b o,b≠S→b≠it→s.heap.get? b=some o→h'.get? b=some o)→h'.get? S=some {cls:=.type "list",dict:=none,data:=.seq acc' c',slots:=#[]}→
      ItemsOf (fun i v=>items[items.size - 1 - i]?=some v) acc' items.size→R (.ok (.ret res)) {s with heap:=h',toks:=tk}) :
    wpAny (model P w) A.in1 (Builtin.List.listExtendWith (.ref S) (.ref it) res)
      (fun fi s1=>match fi with | .done fl=>R (.ok fl) s1 | .again cd=>cd.quiet=true∧codeAny (model P w) A cd R s1) (fun ev s1=>R (.error ev) s1) s:=by
  have W:=(Walks.listRev (prog:=P) (w:=w) (A:=A.in1) hh it l hne items).toS
  have key:codeAny (model P w) A (.builtin "list.extend.loop" ⟨[.ref S,.ref it,res],[]⟩) R s:=by
    refine codeAny_extend_loopS W hn S (by simp [hSi,hSl]) res items.size 0 s #[] c₀ rfl (zero_le _) ⟨zero_le _,by simpa using hit,hl⟩ hN (ItemsOf.nil _) fun s' acc' c' hm hN1 hacc=>?_
    rw [Moved.eq_with hm]
    exact hR s'.heap s'.toks acc' c' (fun b o hb hbi e=>hm.heap b o (by simp [hb,hbi]) e) hN1 hacc
  delta Builtin.List.listExtendWith
  refine wpAny_bind (wpAny_typeOf (T:="list_reverseiterator") hit.typeIs ?_)
  have h1:Builtin.List.listSameRef (.ref S) (.ref it)=false:=by simp [Builtin.List.listSameRef,hSi]
  have h2:(Value.type "list_reverseiterator"==Value.type "list")=false:=by decide
  have h3:(Value.type "list_reverseiterator"==Value.type "tuple")=false:=by decide
  simp only [h1,h2,h3,Bool.or_false,if_false,Bool.false_eq_true]
  refine wpAny_bind (wpAny_pyIter_revIter hit ?_)
  refine wpAny_bind (wpAny_holding (Zzg hit ?_))
  exact wpAny_ite_split (fun z=>absurd z (by decide +kernel)) (fun _=>wpAny_pure ⟨plainId_quiet F.plain_extend_loop _,key⟩)
theorem Zjw {Q:Value→Shared→Prop}{it l:Addr}{items:Array Value}(hh:A.handled=none)(hit:s.heap.IsRevIter it l ((items.size:Int) - 1))(hl:s.heap.IsList l items)(hne:l≠it)(hn:items.size≤sizeLine)
    (hQ:∀h' tk acc' c',(∀b o,b≠it→s.heap.get? b=some o→h'.get? b=some o)→h'.get? s.heap.objs.size=some {cls:=.type "list",dict:=none,data:=.seq acc' c',slots:=#[]}→
      ItemsOf (fun i v=>items[items.size - 1 - i]?=some v) acc' items.size→Q (.ref s.heap.objs.size) {s with heap:=h',toks:=tk}) :
    wpAny (model P w) A (call (.type "list") [.ref it]) Q E s:=by
  have hit0:=hit
  obtain ⟨oi,hoi,_⟩:=id hit
  obtain ⟨ol,hol,_⟩:=id hl
  have hi:it<s.heap.objs.size:=lt_size hoi
  have hLl:l<s.heap.objs.size:=lt_size hol
  refine callType_codes (Q₁:=fun ob z=>ob=.ref s.heap.objs.size∧z={s with heap:=s.heap.push {cls:=.type "list",data:=.seq #[]}}) F.called_list (F.typeCall_list_1 _) F.entry_list_init
    (code_list_new _ ⟨rfl,rfl⟩) fun ob z h1=>?_
  obtain ⟨rfl,rfl⟩:=h1
  have hN:(s.heap.push {cls:=.type "list",data:=.seq #[]}).get? s.heap.objs.size=some {cls:=.type "list",data:=.seq #[]}:=get?_push_size _ rfl
  refine ⟨⟨_,hN,rfl⟩,F.args_list_init_2 _ _,?_⟩
  show wpAny _ _ (do let old ← Builtin.List.listItems (.ref s.heap.objs.size);Builtin.List.listUpdate (.ref s.heap.objs.size) (fun _=>#[]);letGo old.toList.reverse;Builtin.List.listExtendWith (.ref s.heap.objs.size) (.ref it) .none) _ _ _
  refine wpAny_bind ?_
  unfold Builtin.List.listItems
  refine wpAny_bind (wpAny_seqItems hN rfl (wpAny_pure ?_))
  show wpAny _ _ (updateSeq s.heap.objs.size (fun _=>#[]) >>= fun _=>letGo (#[]:Array Value).toList.reverse >>= fun _=>Builtin.List.listExtendWith (.ref s.heap.objs.size) (.ref it) .none) _ _ _
  refine wpAny_bind (wpAny_updateSeq hN rfl ?_)
  have hN2:=Heap.get?_update_self (Obj.mapSeq (fun _=>(#[]:Array Value))) hN rfl
  have oth:∀b o,b≠s.heap.objs.size→s.heap.get? b=some o→((s.heap.push {cls:=.type "list",data:=.seq #[]}).update s.heap.objs.size (Obj.mapSeq (fun _=>(#[]:Array Value)))).get? b=some o:=
    fun b o hb e=>(Heap.get?_update_other _ _ (Ne.symm hb)).trans (get?_push_of_some _ e)
  refine wpAny_bind (wpAny_letGo ?_)
  refine Zrz (A:=A.in1) hh (hit0.at fun o e=>oth it o (ne_of_lt hi) e) (hl.at fun o e=>oth l o (ne_of_lt hLl) e) hne hn _ .none _ hN2 (ne_of_gt hi) (ne_of_gt hLl) fun h' tk acc' c' hk hN1 hacc=>?_
  exact ⟨rfl,hQ h' tk acc' c' (fun b o hb e=>hk b o (ne_of_lt (lt_size e)) hb (oth b o (ne_of_lt (lt_size e)) e)) hN1 hacc⟩
end
section
variable {X:Cx}{e:Expr}{te:TE}{p p' pos pos':Pos}
def Xax (K:Frag)(te:TE):TE:=fun σ H Q=>Zcw te Zpm σ H fun vs H1=>∃a xs,vs=[.ref a]∧SqL K H1 a xs∧∀r,H1 r=none→Q (.ref r) (upd H1 r (.lst xs.reverse))
theorem Xfy (hc:X.calm=true)(hg:Gl X "list")(hm:X.mg "list"=none)(hg':Gl X "reversed")(hm':X.mg "reversed"=none)(he:PE X e te)(hs2:starEach [e] X.env=(false,eval e X.env)::starEach [] X.env) :
  PE X (.Call (.Name "list" p) [.Call (.Name "reversed" p') [e] [] pos'] [] pos) (Xax X.K te):=by
 intro pins s σ H Q I h
 refine wpAny_Call_Name_kw (Zdw I hg hm boot_list ?_ (by decide) (by decide))
 refine PyProof.Rows.callWith_type1 ?_ Xl rfl
 rw [Xl]
 show wpAny _ _ (spliced ((false,eval (.Call (.Name "reversed" p') [e] [] pos') X.env)::backTo pos (starEach [] X.env))) _ _ s
 refine Calls.spliced_cons ?_
 refine wpAny_Call_Name_kw (Zdw I hg' hm' boot_reversed ?_ (by decide) (by decide))
 refine PyProof.Rows.callWith_type1 (thn (Zdm he Zio hs2 pos' pins s σ H _ I h) fun us s1 hz9=>?_) hs2 rfl
 obtain ⟨vs,H1,I1,r1,q1⟩:=hz9
 obtain ⟨a,xs,rfl,hq,q⟩:=q1
 obtain ⟨u,rfl,rx⟩:=vals1 r1
 cases rx
 obtain ⟨its,rv,pl,hz⟩:=I1.list hq
 have hlen:=rv.length
 have hl:=pl.isList
 obtain ⟨oa,hoa,_⟩:=id hl
 have ha:a<s1.heap.objs.size:=lt_size hoa
 refine call_reversed_list hl (Calls.spliced_nil ?_)
 refine Zjw (it:=s1.heap.objs.size) (l:=a) (items:=its.toArray) (I1.ok.hd hc) ⟨_,get?_push_size _ rfl,rfl,rfl⟩ (hl.push _) (ne_of_lt ha) (by rw [size_toArray];omega) fun h' tk acc' c' hk hN1 hacc=>?_
 have hsz:(s1.heap.push (revObj a ((its.toArray.size:Int) - 1))).objs.size=s1.heap.objs.size+1:=size_push ..
 have hle:s1.heap.objs.size≤(s1.heap.push (revObj a ((its.toArray.size:Int) - 1))).objs.size:=by rw [hsz];exact le_succ _
 have hk1:∀b o,s1.heap.get? b=some o→h'.get? b=some o:=fun b o e=>hk b o (ne_of_lt (lt_size e)) (get?_push_of_some _ e)
 have hrev:acc'.toList=its.reverse:=by
  obtain ⟨h1,h2⟩:=hacc
  have h0:acc'.size=its.length:=h1.trans (size_toArray ..)
  refine List.ext_getElem? fun j=>?_
  by_cases hj:j<its.length
  ·have hj':j<acc'.size:=by omega
   have e1:=h2 j acc'[j] (Array.getElem?_eq_getElem hj')
   have e2:its.toArray[its.toArray.size - 1 - j]?=its[its.length - 1 - j]?:=by simp
   rw [Array.getElem?_toList,Array.getElem?_eq_getElem hj',List.getElem?_reverse hj,← e2]
   exact e1.symm
  ·rw [getElem?_eq_none (by simp;omega),getElem?_eq_none (by simp;omega)]
 refine ⟨.ref _,_,I1.laid (o:=.lst xs.reverse) (t':=tk) hk1 hle ?_,rfl,q _ (I1.hok.fresh hle)⟩
 refine ⟨by rw [length_reverse];exact hz,acc'.toList,c',?_,?_⟩
 ·rw [hrev]
  exact rv.reverse
 ·rw [hN1]
theorem Xik (hg:Gl X "list")(hm:X.mg "list"=none)(hg':Gl X "reversed")(hm':X.mg "reversed"=none)(he:QE X e te)(hs2:starEach [e] X.env=(false,eval e X.env)::starEach [] X.env)(hc:X.calm=true:=by rfl) :
  QE X (.Call (.Name "list" p) [.Call (.Name "reversed" p') [e] [] pos'] [] pos) (Xax X.K te):=⟨Xfy hc hg hm hg' hm' he.out hs2⟩
variable {σ:St}{H:Hp}{Q:VK}{K:Frag}
end
theorem range_any (bs:List Bool):(List.range bs.length).any (fun i=>bs.getD i false)=bs.any id:=by
 refine Bool.eq_iff_iff.mpr ⟨fun h=>List.any_eq_true.mpr ?_,fun h=>List.any_eq_true.mpr ?_⟩
 all_goals obtain ⟨i,hi,h⟩:=List.any_eq_true.mp h
 ·have hl:i<bs.length:=List.mem_range.mp hi
  refine ⟨bs[i],getElem_mem hl,?_⟩
  simpa [List.getD,hl] using h
 ·obtain ⟨j,hj,e⟩:=List.mem_iff_getElem.mp hi
  refine ⟨j,List.mem_range.mpr hj,?_⟩
  have e2:bs.getD j false=bs[j]:=by simp [List.getD,hj]
  rw [e2,e]
  exact h
theorem range_all (bs:List Bool):(List.range bs.length).all (fun i=>bs.getD i false)=bs.all id:=by
 refine Bool.eq_iff_iff.mpr ⟨fun h=>List.all_eq_true.mpr fun b hb=>?_,fun h=>List.all_eq_true.mpr fun i hi=>?_⟩
 ·have h:=List.all_eq_true.mp h
  obtain ⟨i,hi,e⟩:=List.mem_iff_getElem.mp hb
  have q:=h i (List.mem_range.mpr hi)
  have e2:bs.getD i false=bs[i]:=by simp [List.getD,hi]
  rw [e2,e] at q
  exact q
 ·have hl:i<bs.length:=List.mem_range.mp hi
  have e2:bs.getD i false=bs[i]:=by simp [List.getD,hl]
  rw [e2]
  exact List.all_eq_true.mp h _ (getElem_mem hl)
def Zsf (K:Frag):List V→Hp→VK→Prop:=fun xs H Q=>∃(p:Addr) (bs:List Bool),xs=[.ref p]∧SqL K H p (bs.map V.bl)∧Q (.bl (bs.any id)) H
def Zun (K:Frag):List V→Hp→VK→Prop:=fun xs H Q=>∃(p:Addr) (bs:List Bool),xs=[.ref p]∧SqL K H p (bs.map V.bl)∧Q (.bl (bs.all id)) H
section
variable {X:Cx}
theorem Xdn {prog:Program}{w:World}{A:Around}{bs:List Bool}{its:List Value}(rv:Jc (bs.map V.bl) its):TruthOf prog w A (fun i v=>its.toArray[i]?=some v) (fun i=>bs.getD i false):=by
  intro i v s Q E hv hQ
  have hl:=rv.length
  rw [length_map] at hl
  have hv':its[i]?=some v:=by simpa using hv
  have hi:i<its.length:=(List.getElem?_eq_some_iff.mp hv').1
  obtain ⟨u,e,ru⟩:=rv.get (i:=i) (x:=V.bl (bs.getD i false)) (by
    rw [getElem?_map,getElem?_eq_getElem (by omega)]
    simp [List.getD,show i<bs.length by omega])
  rw [hv'] at e
  cases e
  cases (show v=Value.bool (bs.getD i false) from ru)
  exact wpAny_truthy_bool hQ
theorem Zik (hc:X.calm=true):Zbb X (.builtin "any") (Zsf X.K):=by
 intro pins s σ H xs us Q I r h
 obtain ⟨p,bs,rfl,hq,q⟩:=h
 obtain ⟨u,rfl,rx⟩:=vals1 r
 cases rx
 obtain ⟨its,rv,pl,hz⟩:=I.list hq
 have hl:=pl.isList
 have hlen:=rv.length
 rw [length_map] at hlen
 obtain ⟨oa,hoa,_⟩:=id hl
 have hlt:p<s.heap.objs.size:=lt_size hoa
 refine call_any_walk (wpAny_pyIter_list pl.isList ⟨_,_,_,_,_,_,fun i=>bs.getD i false,rfl,Walks.list (A:=X.A.in1) (I.ok.hd hc) s.heap.objs.size p (ne_of_lt hlt) its.toArray,⟨⟨_,get?_push_size _ rfl,rfl,rfl⟩,hl.push _⟩,Xdn rv,fun h' tk hk=>⟨.bl (bs.any id),H,I.kept (old_kept hk),?_,q⟩⟩)
 show Value.bool _=Value.bool _
 rw [size_toArray,← hlen,range_any]
theorem Zlv (hc:X.calm=true):Zbb X (.builtin "all") (Zun X.K):=by
 intro pins s σ H xs us Q I r h
 obtain ⟨p,bs,rfl,hq,q⟩:=h
 obtain ⟨u,rfl,rx⟩:=vals1 r
 cases rx
 obtain ⟨its,rv,pl,hz⟩:=I.list hq
 have hl:=pl.isList
 have hlen:=rv.length
 rw [length_map] at hlen
 obtain ⟨oa,hoa,_⟩:=id hl
 have hlt:p<s.heap.objs.size:=lt_size hoa
 refine call_all_walk (wpAny_pyIter_list pl.isList ⟨_,_,_,_,_,_,fun i=>bs.getD i false,rfl,Walks.list (A:=X.A.in1) (I.ok.hd hc) s.heap.objs.size p (ne_of_lt hlt) its.toArray,⟨⟨_,get?_push_size _ rfl,rfl,rfl⟩,hl.push _⟩,Xdn rv,fun h' tk hk=>⟨.bl (bs.all id),H,I.kept (old_kept hk),?_,q⟩⟩)
 show Value.bool _=Value.bool _
 rw [size_toArray,← hlen,range_all]
variable {H:Hp}{Q:VK}{K:Frag}
theorem Xgs {p:Addr}{bs:List Bool}(h:SqL K H p (bs.map V.bl))(q:Q (.bl (bs.any id)) H):Zsf K [.ref p] H Q:=⟨p,bs,rfl,h,q⟩
theorem Xjf {p:Addr}{bs:List Bool}(h:SqL K H p (bs.map V.bl))(q:Q (.bl (bs.all id)) H):Zun K [.ref p] H Q:=⟨p,bs,rfl,h,q⟩
end
noncomputable def rIsA (neg:Bool):R2:=fun x y H Q=>(y=.non∧Q (.bl (if neg then !decide (x=.non) else decide (x=.non))) H)∨∃b c,x=.bl b∧y=.bl c∧Q (.bl (if neg then !(b==c) else b==c)) H
section
variable {X:Cx}
theorem Zwc:OpR X (compareOp .IsNot) (rIsA true):=by
 intro pins s σ H x y v u Q I rx ry h
 rcases h with ⟨rfl,q⟩ | ⟨b,c,rfl,rfl,q⟩
 ·exact Xgx pins s σ H x .non v u Q I rx ry ⟨rfl,q⟩
 ·cases (show v=Value.bool b from rx)
  cases (show u=Value.bool c from ry)
  refine wpAny_isNot_plain (by cases b<;>cases c<;>rfl) ⟨.bl (!(b==c)),H,I,?_,q⟩
  cases b<;>cases c<;>rfl
variable {H:Hp}{Q:VK}{K:Frag}
end
noncomputable def Dk {α:Type}:Sem α→Prop
 | .pure _=>True
 | .raise _=>True
 | .unsupported _=>True
 | .finish _=>True
 | .rule _ k=>Dk (k ())
 | .at _ k=>Dk (k ())
 | .load _ _ k=>∀o,Dk (k o)
 | .update _ _ f k=>(∀o:Obj,o.isFreed=false→(f o).isFreed=false∧(f o).dict=o.dict)∧Dk (k ())
 | .alloc _ k=>∀a,Dk (k a)
 | .loadIfAlive _ k=>∀o,Dk (k o)
 | .point _ k=>Dk (k ())
 | .fresh k=>∀a,Dk (k a)
 | .ask k=>∀a,Dk (k a)
 | .choose _ _ k=>∀a,Dk (k a)
 | .os _ _ k=>∀a,Dk (k a)
 | .handled _ k=>∀a,Dk (k a)
 | .stack k=>∀a,Dk (k a)
 | .thread k=>∀a,Dk (k a)
 | .register _ _=>False
 | .call ..=>False
 | .newGen ..=>False
 | .genState ..=>False
 | .resume ..=>False
 | .yield ..=>False
 | .fork ..=>False
 | .await ..=>False
section
variable {X:Cx}{pins:List (Addr×Obj)}{σ:St}{H H':Hp}{s:Shared}{h':Heap}
end
section
variable {X:Cx}{pins:List (Addr×Obj)}{σ:St}{H:Hp}{s:Shared}
structure Kept (X:Cx)(own:List Addr)(h h':Heap):Prop where
 st:(hideAll h (own++frs X.stack)).StaysIn h'
 fr:h'.FunFrames (hideAll h (own++frs X.stack)) X.stack
 up:h.UpToSlots h'
end
noncomputable abbrev bmV:List Value:=[.type "ValueError",.type "Exception",.type "BaseException",.type "object"]
section
variable {X:Cx}{pins:List (Addr×Obj)}{σ:St}{H:Hp}{s:Shared}
noncomputable def exO (e:Addr)(cls:Value)(dx:Option Addr):HO:=.ext fun h=>∃o vs,h.get? e=some o∧o.cls=cls∧o.data=.fields vs∧o.dict=dx
noncomputable abbrev Cx.hand (X:Cx)(e:Addr):Cx:={X with A:=X.A.mark (some (.ref e)),calm:=false,xe:=fun _ _=>False}
end
end L2
namespace L2
open PySem PySem.Spec
section
variable {prog:Program}{w:World}{A:Around}{E:Value→Shared→Prop}{h:Heap}{g:Array GenState}{d:Drawn}{t:Nat}{os:OsState}{a C:Addr}{o:Obj}{vs:Array Value}
open PySem.W (Looks)
end
end L2
namespace L2
open PySem PySem.Spec PyProof.Rows
noncomputable abbrev TJ:=St→Hp→(Hp→Prop)→Prop
def PJ (X:Cx)(es:List Expr)(t:TJ):Prop:=
 ∀(out:Str) (pins:List (Addr×Obj)) (s:Shared) (σ:St) (H:Hp) (Q:VK),Inv X pins σ H s→out.length+2000*es.length≤sizeLine→t σ H (fun H1=>∀z,Q (.str z) H1)→
  wpAny (model X.prog X.w) X.A (joinParts out (evalEach es X.env)) (EP X pins σ Q) X.xe s
structure QJ (X:Cx)(es:List Expr)(t:TJ):Prop where
 out:PJ X es t
section
variable {X:Cx}{a b e:Expr}{es:List Expr}{te:TE}{t:TJ}{pos:Pos}
end
end L2
namespace L2
open PySem PySem.Spec PyProof.Rows
open PySem.W (Looks)
structure ErrIn (K:Frag)(C:Addr):Prop where
 exc:PySem.W.excIn K C bmV "ValueError.__new__"=true
 ty:typeIn K (.ref C)=some (.type "type")
 cl:∃c,clsIn K C=some c
 ga:findIn K (.ref C) "__getattribute__"=some (some (.builtin "BaseException.__getattribute__"))
 ge:findIn K (.ref C) "__getattr__"=some none
 lk:findIn K (.ref C) "__class__"=some (some (.builtin "object.__class__"))
 so:subIn K (.ref C) (.type "object")=some true
 sb:subIn K (.ref C) (.type "BaseException")=some true
 se:subIn K (.ref C) (.ref C)=some true
section
variable {K:Frag}{C D e:Addr}{b:Bool}
structure ErrK (K:Frag)(C:Addr):Prop where
 ob:∃dd cd sl,K.lookup C=some ⟨.type "type",dd,.cls cd,sl⟩
 ty:typeIn K (.ref C)=some (.type "type")
 cl:∃c,clsIn K C=some c
 ga:findIn K (.ref C) "__getattribute__"=some (some (.builtin "BaseException.__getattribute__"))
 ge:findIn K (.ref C) "__getattr__"=some none
 lk:findIn K (.ref C) "__class__"=some (some (.builtin "object.__class__"))
 so:subIn K (.ref C) (.type "object")=some true
 sb:subIn K (.ref C) (.type "BaseException")=some true
 se:subIn K (.ref C) (.ref C)=some true
variable {X:Cx}
end
section
variable {σ:St}{H:Hp}{Q:VK}{D:Ends}{K:Frag}
variable {X:Cx}{a b c d:Expr}{ta tb tc td:TE}{pos:Pos}
end
section
variable {X:Cx}{e:Expr}{es:List Expr}{t:TA}{np cpos pos hpos:Pos}
end
end L2
namespace L2
open PySem PySem.Spec PyProof.Rows
structure Pl (n:Nat)(x:Str):Prop where
 len:x.length≤n
 asc:∀c∈x.cps.toList,c<128
section
variable {X:Cx}{e:Expr}{te:TE}{pos:Pos}
end
section
variable {κ:Type}[DecidableEq κ]
noncomputable def putK (kvs:List (κ×V))(k:κ)(v:V):List (κ×V):=
 if (kvs.any fun kv=>decide (kv.1=k))=true then kvs.map (fun kv=>if kv.1=k then (kv.1,v) else kv) else kvs++[(k,v)]
end
section
variable {P:Program}{w:World}{H:Hp}{h:Heap}{a:Addr}
end
def DPut (H:Hp)(a:Addr)(y v:V)(H':Hp):Prop:=
 (∃kvs k,H a=some (.dK kvs)∧y=kV k∧kvs.length<sizeLine∧H'=upd H a (.dK (putK kvs k v)))∨
 ∃kvs k b,H a=some (.dT kvs)∧y=.ref b∧H b=some (.tup (k.map kV))∧kvs.length<sizeLine∧H'=upd H a (.dT (putK kvs k v))
section
variable {X:Cx}{pins:List (Addr×Obj)}{σ:St}{H:Hp}{s:Shared}{a:Addr}{y v:V}{u r:Value}{o:Option V}{A:Around}{E:Value→Shared→Prop}
end
section
variable {X:Cx}{pins:List (Addr×Obj)}{σ:St}{H:Hp}{s:Shared}{a:Addr}{kvs:List (Key×V)}{k:Key}{u:Value}{A:Around}{E:Value→Shared→Prop}
end
def sDPut (td ty tv:TE):TS:=fun D σ H=>tv σ H fun v H1=>td σ H1 fun x H2=>ty σ H2 fun y H3=>∃a H4,x=.ref a∧DPut H3 a y v H4∧D.nx σ H4
section
variable {X:Cx}{o i e value:Expr}{pos pos' tpos:Pos}{td ty tv:TE}
end
noncomputable def Xnl:List (TE×TE)→St→Hp→(List (V×V)→Hp→Prop)→Prop
 | [],_,H,Q=>Q [] H
 | (tk,tv)::r,σ,H,Q=>tk σ H fun x H1=>tv σ H1 fun y H2=>Xnl r σ H2 fun ps H3=>Q ((x,y)::ps) H3
structure M1 (X:Cx)(o:Expr)(m:Str)(apos:Pos)(e:Expr)(cpos:Pos):Prop where
  base:attributeBase o m X.env (eval o X.env)=eval o X.env
  few:((backTo cpos (starEach [e] X.env)).all (fun x=>!x.1)&&(backToKw cpos (keywordEach [] X.env)).all (fun x=>x.1.isSome)
    && decide (([e]:List Expr).length+([]:List Keyword).length+(if ([]:List Keyword).isEmpty then 0 else 1)<30))=true
  line:(apos.endLine==cpos.line)=true
  trees:backTo cpos (starEach [e] X.env)=[(false,eval e X.env)]
structure M2 (X:Cx)(o:Expr)(m:Str)(apos:Pos)(e f:Expr)(cpos:Pos):Prop where
  base:attributeBase o m X.env (eval o X.env)=eval o X.env
  few:((backTo cpos (starEach [e,f] X.env)).all (fun x=>!x.1)&&(backToKw cpos (keywordEach [] X.env)).all (fun x=>x.1.isSome)
    && decide (([e,f]:List Expr).length+([]:List Keyword).length+(if ([]:List Keyword).isEmpty then 0 else 1)<30))=true
  line:(apos.endLine==cpos.line)=true
  trees:backTo cpos (starEach [e,f] X.env)=[(false,eval e X.env),(false,eval f X.env)]
section
variable {X:Cx}{pins:List (Addr×Obj)}{σ:St}{H:Hp}{s:Shared}{a:Addr}{y d:V}{u r:Value}{o:Option V}{A:Around}{E:Value→Shared→Prop}
end
section
variable {X:Cx}{o e f:Expr}{apos cpos:Pos}{td ty tx:TE}
variable {pins:List (Addr×Obj)}{σ:St}{H:Hp}{s:Shared}{a:Addr}{kvs:List (Key×V)}{A:Around}{E:Value→Shared→Prop}
end
section
variable {X:Cx}{pins:List (Addr×Obj)}{σ:St}{H:Hp}{s:Shared}{a:Addr}{y:V}{u:Value}{A:Around}{E:Value→Shared→Prop}
end
end L2
namespace Dl
open PySem
set_option genInjectivity true in
inductive D where
 | non
 | bl (b:Bool)
 | int (i:Int)
 | str (x:Str)
 | lst (xs:List D)
 | tup (xs:List D)
 | scr (ns:List Int)
 | rng (lo hi:Int)
 | exc (c:String) (f:Option Int)
 | obj (c:String) (ns:List Str) (xs:List D)
 | dct (ks:List (Int ⊕ Str)) (xs:List D)
 | dtt (ks:List (List (Int ⊕ Str))) (xs:List D)
 deriving Inhabited
set_option genInjectivity true in
inductive R (α:Type) where
 | ok (a:α)
 | err (c:String) (f:Option Int)
 | bad
noncomputable abbrev Env:=List (Option D)
set_option genInjectivity true in
inductive Fl where
 | nx (ρ:Env)
 | ret (d:D)
 | brk (ρ:Env)
 | cnt (ρ:Env)
noncomputable def R.bind {α β:Type}:R α→(α→R β)→R β
 | .ok a,f=>f a
 | .err c x,_=>.err c x
 | .bad,_=>.bad
@[simp] theorem Jw {α β:Type}(a:α)(f:α→R β):(R.ok a).bind f=f a:=(rfl)
@[simp] theorem bind_err {α β:Type}(c:String)(x:Option Int)(f:α→R β):(R.err c x:R α).bind f=.err c x:=(rfl)
@[simp] theorem bind_bad {α β:Type}(f:α→R β):(R.bad:R α).bind f=.bad:=(rfl)
noncomputable abbrev FE:=Env→R D
noncomputable abbrev FT:=Env→R Bool
noncomputable abbrev FA:=Env→R (List D)
noncomputable abbrev FO:=Env→R (Option Int)
noncomputable abbrev FS:=Env→R Fl
noncomputable def fC (d:D):FE:=fun _=>.ok d
noncomputable def fV (i:Nat):FE:=fun ρ=>match ρ[i]? with
 | some (some d)=>.ok d
 | _=>.bad
noncomputable def oR {α:Type}:Option α→R α
 | some a=>.ok a
 | none=>.bad
@[simp] theorem oR_some {α:Type}(a:α):oR (some a)=.ok a:=(rfl)
@[simp] theorem oR_none {α:Type}:(oR (none:Option α))=.bad:=(rfl)
noncomputable def f1 (g:D→Option D)(a:FE):FE:=fun ρ=>(a ρ).bind fun x=>oR (g x)
noncomputable def f2 (g:D→D→Option D)(a b:FE):FE:=fun ρ=>(a ρ).bind fun x=>(b ρ).bind fun y=>oR (g x y)
noncomputable def Zt:FA:=fun _=>.ok []
noncomputable def Zc (a:FE)(r:FA):FA:=fun ρ=>(a ρ).bind fun x=>(r ρ).bind fun xs=>.ok (x::xs)
noncomputable def fA (g:List D→Option D)(a:FA):FE:=fun ρ=>(a ρ).bind fun xs=>oR (g xs)
noncomputable def Zy (F:List D→R D)(a:FA):FE:=fun ρ=>(a ρ).bind F
noncomputable abbrev lim:Nat:=1000000
noncomputable def Zau (xs:List D):Option D:=if xs.length≤lim then some (.lst xs) else none
noncomputable def Zfm (xs:List D):Option D:=if xs.length≤lim then some (.tup xs) else none
mutual
noncomputable def flat:D→Bool
 | .lst _=>false
 | .tup xs=>Yi xs
 | .non=>true
 | .bl _=>true
 | .int _=>true
 | .str _=>true
 | .scr _=>true
 | .rng _ _=>true
 | .exc _ _=>true
 | .obj _ _ _=>false
 | .dct _ _=>false
 | .dtt _ _=>false
noncomputable def Yi:List D→Bool
 | []=>true
 | x::xs=>flat x&&Yi xs
end
noncomputable def Xt (d:D):Option D:=if flat d then some d else none
noncomputable def Jn:D→D→Option D
 | .int i,.int j=>some (.int (i+j))
 | .str x,.str y=>if x.length+y.length≤lim then some (.str (x++y)) else none
 | .lst xs,.lst ys=>if xs.length+ys.length≤lim∧Yi xs∧Yi ys then some (.lst (xs++ys)) else none
 | _,_=>none
noncomputable def gAddI:D→D→Option D
 | .int i,.int j=>some (.int (i+j))
 | _,_=>none
noncomputable def Zkz:D→D→Option D
 | .int i,.int j=>some (.int (i - j))
 | _,_=>none
noncomputable def short (i:Int):Bool:=decide (-(2 ^ 64)<i)&&decide (i<2 ^ 64)
noncomputable def Zbo:D→D→Option D
 | .int i,.int j=>if short i||short j then some (.int (i*j)) else none
 | .lst xs,.int k=>if k≤1000000∧xs.length*k.toNat≤lim∧-1000000≤k∧Yi xs then some (.lst (List.replicate k.toNat xs).flatten) else none
 | _,_=>none
noncomputable def Zhe:D→D→Option D
 | .int i,.int j=>if 0<j then some (.int (i % j)) else none
 | _,_=>none
noncomputable def Xjy:D→D→Option D
 | .int i,.int j=>if 0<j∧j<2 ^ 200 then some (.int (i / j)) else none
 | _,_=>none
noncomputable def Zir:D→D→Option D
 | .int i,.int j=>if 0≤j∧j≤1000000∧i.natAbs<2 ^ 64 then some (.int (i ^ j.toNat)) else none
 | _,_=>none
noncomputable def Zxw:D→Option D
 | .int i=>some (.int (-i))
 | _=>none
noncomputable def gLt:D→D→Option D
 | .int i,.int j=>some (.bl (decide (i<j)))
 | _,_=>none
noncomputable def gLe:D→D→Option D
 | .int i,.int j=>some (.bl (decide (i≤j)))
 | _,_=>none
noncomputable def gGt:D→D→Option D
 | .int i,.int j=>some (.bl (decide (j<i)))
 | _,_=>none
noncomputable def gGe:D→D→Option D
 | .int i,.int j=>some (.bl (decide (j≤i)))
 | _,_=>none
mutual
noncomputable def dep:D→Nat
 | .lst xs=>Ztz xs+1
 | .tup xs=>Ztz xs+1
 | .scr _=>100
 | .rng _ _=>100
 | .exc _ _=>100
 | .obj _ _ _=>100
 | .dct _ _=>100
 | .dtt _ _=>100
 | .non=>0
 | .bl _=>0
 | .int _=>0
 | .str _=>0
noncomputable def Ztz:List D→Nat
 | []=>0
 | x::xs=>max (dep x) (Ztz xs)
end
mutual
noncomputable def eqv:D→D→Bool
 | .non,.non=>true
 | .bl a,.bl b=>a==b
 | .bl a,.int j=>(if a then 1 else 0)==j
 | .int i,.bl b=>i==(if b then 1 else 0)
 | .int i,.int j=>i==j
 | .str x,.str y=>x==y
 | .lst xs,.lst ys=>Xny xs ys
 | .tup xs,.tup ys=>Xny xs ys
 | _,_=>false
noncomputable def Xny:List D→List D→Bool
 | [],[]=>true
 | x::xs,y::ys=>eqv x y&&Xny xs ys
 | _,_=>false
end
noncomputable def gEq (a b:D):Option D:=if dep a≤20∧dep b≤20 then some (.bl (eqv a b)) else none
noncomputable def gNe (a b:D):Option D:=if dep a≤20∧dep b≤20 then some (.bl (!eqv a b)) else none
noncomputable def Ziu:D→Bool
 | .non=>true
 | _=>false
noncomputable def gIs (x:D):D→Option D
 | .non=>some (.bl (Ziu x))
 | .bl c=>match x with
  | .bl b=>some (.bl (b==c))
  | _=>none
 | _=>none
noncomputable def Ziv (x:D):D→Option D
 | .non=>some (.bl (!Ziu x))
 | .bl c=>match x with
  | .bl b=>some (.bl (!(b==c)))
  | _=>none
 | _=>none
noncomputable def ixD (n:Nat)(i:Int):Option Nat:=if 0≤i then (if i<n then some i.toNat else none) else if -(n:Int)≤i then some (i+n).toNat else none
noncomputable def atD {α:Type}(xs:List α)(i:Int):Option α:=(ixD xs.length i).bind fun j=>xs[j]?
noncomputable def Xhb (n d:Nat):Option Int→Nat
 | none=>d
 | some v=>if v<0 then (max (v+(n:Int)) 0).toNat else min v.toNat n
noncomputable def cut {α:Type}(xs:List α)(lo hi:Option Int):List α:=(xs.drop (Xhb xs.length 0 lo)).take (Xhb xs.length xs.length hi - Xhb xs.length 0 lo)
noncomputable def gIx:D→D→Option D
 | .lst xs,.int i=>(atD xs i)
 | .tup xs,.int i=>(atD xs i)
 | .scr ns,.int i=>((atD ns i).map D.int)
 | .str z,.int i=>if z.length≤lim then ((atD z.cps.toList i).map fun c=>D.str ⟨#[c]⟩) else none
 | _,_=>none
noncomputable def gIxL (x y:D):Option D:=match x with
 | .lst _=>gIx x y
 | _=>none
noncomputable def Zmz:FO:=fun _=>.ok none
noncomputable def Zfr (a:FE):FO:=fun ρ=>(a ρ).bind fun d=>match d with
 | .int i=>.ok (some i)
 | _=>.bad
noncomputable def fSl (g:D→Option Int→Option Int→Option D)(a:FE)(l h:FO):FE:=fun ρ=>(a ρ).bind fun x=>(l ρ).bind fun lo=>(h ρ).bind fun hi=>oR (g x lo hi)
noncomputable def gSl:D→Option Int→Option Int→Option D
 | .lst xs,lo,hi=>if Yi xs then some (.lst (cut xs lo hi)) else none
 | .scr ns,lo,hi=>some (.lst ((cut ns lo hi).map D.int))
 | _,_,_=>none
noncomputable def Zpd:D→D→Option D
 | .lst xs,.lst ys=>if xs.length+ys.length≤lim then some (.lst (xs++ys)) else none
 | _,_=>none
noncomputable def Ztn:D→D→Option D
 | .lst xs,.int i=>if i=-1 then some (.lst xs.reverse) else none
 | _,_=>none
noncomputable def plain (n:Nat)(z:Str):Bool:=decide (z.length≤n)&&z.cps.toList.all (fun c=>decide (c<128))
noncomputable def Zwa:D→Option D
 | .lst xs=>if Yi xs then some (.lst xs.reverse) else none
 | _=>none
noncomputable def intsOf:List D→Option (List Int)
 | []=>some []
 | .int i::r=>(intsOf r).map (i::·)
 | _::_=>none
noncomputable def bools:List D→Option (List Bool)
 | []=>some []
 | .bl i::r=>(bools r).map (i::·)
 | _::_=>none
noncomputable def Zap:List D→Option D
 | [.lst xs]=>some (.int xs.length)
 | [.tup xs]=>some (.int xs.length)
 | [.scr xs]=>some (.int xs.length)
 | [.str z]=>if z.length≤lim then some (.int z.length) else none
 | _=>none
noncomputable def Zid:List D→Option D
 | [.lst xs]=>(intsOf xs).bind fun ns=>some (.int ns.sum)
 | _=>none
noncomputable def Xcn:List Int→Int
 | []=>0
 | x::r=>r.foldl max x
noncomputable def Xoy:List D→Option D
 | [.int i,.int j]=>some (.int (if j > i then j else i))
 | [.lst xs]=>(intsOf xs).bind fun ns=>if ns=[] then none else some (.int (Xcn ns))
 | _=>none
noncomputable def Xka:List D→Option D
 | [.int i,.int j]=>some (.int (if j<i then j else i))
 | _=>none
noncomputable def Zyu:List D→Option D
 | [.lst xs]=>(bools xs).bind fun bs=>some (.bl (bs.any id))
 | _=>none
noncomputable def Xed:List D→Option D
 | [.lst xs]=>(bools xs).bind fun bs=>some (.bl (bs.all id))
 | _=>none
noncomputable def Zek (lo:Int)(n:Nat):List D:=(List.range n).map fun (k:Nat)=>D.int (lo+(k:Int))
noncomputable def Zxd:List D→Option D
 | [.lst xs]=>if Yi xs then some (.lst xs) else none
 | [.tup xs]=>if Yi xs then some (.lst xs) else none
 | [.rng i j]=>if -1000000000≤i∧i≤1000000000∧-1000000000≤j∧j≤1000000000∧(j - i).toNat≤lim then some (.lst (Zek i (j - i).toNat)) else none
 | _=>none
noncomputable def Xlu:List D→Option D
 | [.lst xs]=>some (.lst xs)
 | _=>none
noncomputable def Xke (c:String):D→Option D
 | .non=>some (.bl false)
 | .bl _=>some (.bl (c=="bool"||c=="int"))
 | .int _=>some (.bl (c=="int"))
 | .str _=>some (.bl (c=="str"))
 | .lst _=>some (.bl (c=="list"))
 | .tup _=>some (.bl (c=="tuple"))
 | _=>none
noncomputable def cE (a:FE):FT:=fun ρ=>(a ρ).bind fun d=>match d with
 | .bl b=>.ok b
 | _=>.bad
noncomputable def Xbi (a:FT):FT:=fun ρ=>(a ρ).bind fun b=>.ok (!b)
noncomputable def Zxz (a b:FT):FT:=fun ρ=>(a ρ).bind fun x=>if x then b ρ else .ok false
noncomputable def cOr (a b:FT):FT:=fun ρ=>(a ρ).bind fun x=>if x then .ok true else b ρ
noncomputable def Xfu (a b:FE):FE:=fun ρ=>(a ρ).bind fun x=>match x with
 | .bl true=>b ρ
 | .bl false=>.ok (.bl false)
 | _=>.bad
noncomputable def fOr (a b:FE):FE:=fun ρ=>(a ρ).bind fun x=>match x with
 | .bl true=>.ok (.bl true)
 | .bl false=>b ρ
 | _=>.bad
noncomputable def gNot:D→Option D
 | .bl b=>some (.bl (!b))
 | _=>none
noncomputable def fIf (c:FT)(a b:FE):FE:=fun ρ=>(c ρ).bind fun x=>if x then a ρ else b ρ
noncomputable def Ziy (g g':D→D→Option D)(a b c:FE):FE:=fun ρ=>(a ρ).bind fun x=>(b ρ).bind fun y=>(oR (g x y)).bind fun z=>match z with
 | .bl true=>(c ρ).bind fun w=>oR (g' y w)
 | .bl false=>.ok (.bl false)
 | _=>.bad
noncomputable abbrev FB:=D→Env→R Env
noncomputable def Zp (i:Nat):FB:=fun d ρ=>.ok (ρ.set i (some d))
noncomputable def Zcv:List D→Env→R Env
 | [],ρ=>.ok ρ
 | _,_=>.bad
noncomputable def Xn (b:FB)(r:List D→Env→R Env):List D→Env→R Env
 | d::ds,ρ=>(b d ρ).bind fun ρ'=>r ds ρ'
 | _,_=>.bad
noncomputable def Zcx (r:List D→Env→R Env):FB:=fun d ρ=>match d with
 | .tup ds=>r ds ρ
 | _=>.bad
noncomputable def R.calm {α:Type}:R α→R α
 | .ok a=>.ok a
 | .err _ _=>.bad
 | .bad=>.bad
@[simp] theorem Zuf {α:Type}(a:α):(R.ok a).calm=.ok a:=(rfl)
noncomputable def Yv (k:Nat)(b:FB)(c:FT)(e:FE)(ρ:Env):List D→R (List D)
 | []=>.ok []
 | x::xs=>(b x (ρ++List.replicate k none)).calm.bind fun ρ1=>(c ρ1).bind fun t=>if t then (e ρ1).bind fun y=>(Yv k b c e ρ xs).bind fun ys=>.ok (y::ys) else Yv k b c e ρ xs
noncomputable def Zbg:FT:=fun _=>.ok true
noncomputable abbrev FI:=Env→R (List D)
noncomputable def Zbk (a:FE):FI:=fun ρ=>(a ρ).bind fun d=>match d with
 | .lst xs=>if xs.length≤lim then .ok xs else .bad
 | .scr ns=>if ns.length≤lim then .ok (ns.map D.int) else .bad
 | _=>.bad
noncomputable def Xkf (a:FE):FI:=fun ρ=>(a ρ).bind fun d=>match d with
 | .tup xs=>if xs.length≤lim then .ok xs else .bad
 | _=>.bad
noncomputable def Zds (a:FA):FI:=fun ρ=>(a ρ).bind fun ds=>match ds with
 | [.int j]=>if -1000000000≤j∧j≤1000000 then .ok (Zek 0 j.toNat) else .bad
 | _=>.bad
noncomputable def jRng2 (a:FA):FI:=fun ρ=>(a ρ).bind fun ds=>match ds with
 | [.int i,.int j]=>if -1000000000≤i∧i≤1000000000∧-1000000000≤j∧j≤1000000000∧(j - i).toNat≤lim then .ok (Zek i (j - i).toNat) else .bad
 | _=>.bad
noncomputable def sortI (ns:List Int):List Int:=ns.mergeSort fun a b=>decide (a≤b)
noncomputable def Zjf:List D→Option D
 | [.lst xs]=>(intsOf xs).bind fun ns=>if ns.length<64 then some (.lst ((sortI ns).reverse.map D.int)) else none
 | _=>none
noncomputable def Zgw (ds:List D):List D:=ds.mapIdx fun i d=>D.tup [.int (i:Int),d]
noncomputable def Zqh (ds es:List D):List D:=List.zipWith (fun d e=>D.tup [d,e]) ds es
noncomputable def Zrq (a:FE):FI:=fun ρ=>(a ρ).bind fun d=>match d with
 | .lst xs=>if xs.length≤lim then .ok (Zgw xs) else .bad
 | _=>.bad
noncomputable def Zsn (a b:FE):FI:=fun ρ=>(a ρ).bind fun x=>(b ρ).bind fun y=>match x,y with
 | .lst xs,.lst ys=>if xs.length≤lim∧ys.length≤lim then .ok (Zqh xs ys) else .bad
 | _,_=>.bad
noncomputable def Yy (n k:Nat)(it:FI)(b:FB)(c:FT)(e:FE):FE:=fun ρ=>if ρ.length=n then (it ρ).bind fun xs=>(Yv k b c e ρ xs).calm.bind fun ys=>.ok (.lst ys) else .bad
noncomputable def sNx:FS:=fun ρ=>.ok (.nx ρ)
noncomputable def Zrb:FS:=fun _=>.bad
noncomputable def Xu (a b:FS):FS:=fun ρ=>(a ρ).bind fun fl=>match fl with
 | .nx ρ'=>b ρ'
 | fl=>.ok fl
noncomputable def Yr (i:Nat)(e:FE):FS:=fun ρ=>(e ρ).bind fun d=>.ok (.nx (ρ.set i (some d)))
noncomputable def Zad (e:FE):FS:=fun ρ=>(e ρ).bind fun d=>.ok (.ret d)
noncomputable def sIf (c:FT)(a b:FS):FS:=fun ρ=>(c ρ).bind fun x=>if x then a ρ else b ρ
noncomputable def Zis (i:Nat)(e:FE):FS:=fun ρ=>match ρ[i]? with
 | some (some (.lst xs))=>(e ρ).bind fun d=>if xs.length<lim then .ok (.nx (ρ.set i (some (.lst (xs++[d]))))) else .bad
 | _=>.bad
noncomputable def Xjx (i:Nat)(k e:FE):FS:=fun ρ=>(e ρ).bind fun d=>match ρ[i]? with
 | some (some (.lst xs))=>(k ρ).bind fun z=>match z with
  | .int n=>if flat d=true∧Yi xs=true then match ixD xs.length n with
    | some j=>.ok (.nx (ρ.set i (some (.lst (xs.set j d)))))
    | none=>.bad
   else .bad
  | _=>.bad
 | _=>.bad
noncomputable def Xlw (i j:Nat)(g:D→D→Option D)(x:D)(ρ:Env):R Fl:=match x,ρ[j]? with
 | .int k,some (some (.lst ds))=>match ds.getLast? with
  | some (.int n)=>match g (.int k) (.int n) with
   | some (.int z)=>if Yi ds=true then .ok (.nx ((ρ.set j (some (.lst ds.dropLast))).set i (some (.int z)))) else .bad
   | _=>.bad
  | _=>.bad
 | _,_=>.bad
noncomputable def Xne (i j:Nat)(g:D→D→Option D)(a:FE):FS:=fun ρ=>(a ρ).bind fun x=>Xlw i j g x ρ
noncomputable def sDrop (e:FE):FS:=fun ρ=>(e ρ).bind fun _=>.ok (.nx ρ)
noncomputable def updP (f:List D→Option (List D)):List Int→D→Option D
 | [],.lst xs=>(f xs).map D.lst
 | n::r,.lst xs=>(ixD xs.length n).bind fun j=>xs[j]?.bind fun d=>(updP f r d).map fun d'=>D.lst (xs.set j d')
 | n::r,.tup xs=>(ixD xs.length n).bind fun j=>xs[j]?.bind fun d=>(updP f r d).map fun d'=>D.tup (xs.set j d')
 | _,_=>none
noncomputable def addL (d:D)(xs:List D):Option (List D):=if xs.length<lim then some (xs++[d]) else none
noncomputable def Xpa (i j:Nat)(c:FT)(r:D)(e:FE)(ρ:Env):List D→List D→R Fl
 | dn,[]=>.ok (.nx ((ρ.set i (some (.lst dn))).set j none))
 | dn,x::rest=>(c ((ρ.set i (some (.lst (dn++x::rest)))).set j (some x))).bind fun b=>if b then .ok (.ret r) else
   (e ((ρ.set i (some (.lst (dn++x::rest)))).set j (some x))).calm.bind fun v=>match updP (addL v) [] x with
    | some x'=>Xpa i j c r e ρ (dn++[x']) rest
    | none=>.bad
noncomputable def Xih (e:FE)(b:FB):FS:=fun ρ=>(e ρ).bind fun d=>(b d ρ).calm.bind fun ρ'=>.ok (.nx ρ')
noncomputable def Zdy (b:FB)(s:FS):List D→Env→R Fl
 | [],ρ=>.ok (.nx ρ)
 | x::xs,ρ=>(b x ρ).calm.bind fun ρ1=>(s ρ1).bind fun fl=>match fl with
  | .nx ρ2=>Zdy b s xs ρ2
  | .cnt ρ2=>Zdy b s xs ρ2
  | .brk ρ2=>.ok (.nx ρ2)
  | .ret d=>.ok (.ret d)
noncomputable def Znv (it:FI)(b:FB)(s:FS):FS:=fun ρ=>(it ρ).bind fun xs=>Zdy b s xs ρ
noncomputable def Zdx (c:FT)(s:FS):Nat→Env→R Fl
 | 0,_=>.bad
 | n+1,ρ=>(c ρ).bind fun b=>if b then (s ρ).bind fun fl=>match fl with
  | .nx ρ2=>Zdx c s n ρ2
  | .cnt ρ2=>Zdx c s n ρ2
  | .brk ρ2=>.ok (.nx ρ2)
  | .ret d=>.ok (.ret d)
  else .ok (.nx ρ)
noncomputable def Zri (n:Nat)(c:FT)(s:FS):FS:=fun ρ=>Zdx c s n ρ
noncomputable def Xld (c:String)(words:FA):FS:=fun ρ=>(words ρ).bind fun _=>.err c none
noncomputable def strsOf:List D→Option (List Str)
 | []=>some []
 | .str i::r=>(strsOf r).map (i::·)
 | _::_=>none
noncomputable def Xpb:D→D→Option D
 | .str s,.lst ds=>(strsOf ds).bind fun ts=>if (ts.map (·.length)).sum+ts.length*s.length≤lim then some (.str (Str.join s ts)) else none
 | _,_=>none
noncomputable def Xec:D→D→Option D
 | .lst ds,.int n=>(intsOf ds).bind fun ns=>if n∈ns then some (D.int (ns.idxOf n:Nat)) else none
 | _,_=>none
noncomputable def Xmp (a b:FE):FE:=fun ρ=>(a ρ).bind fun x=>match x with
 | .lst ds=>(b ρ).bind fun y=>oR (Xec (.lst ds) y)
 | _=>.bad
noncomputable def fJoin (a b:FE):FE:=fun ρ=>(a ρ).bind fun x=>match x with
 | .str s=>(b ρ).bind fun y=>oR (Xpb (.str s) y)
 | _=>.bad
noncomputable def pickM (N:Nat)(c:String)(x:Option Int):List (List (String×Bool)×Option Nat×FS)→R Fl
  | []=>.bad
  | z::r=>match z.1.lookup c with
    | some true=>(match z.2.1 with
      | some i=>(z.2.2 ((List.replicate N none).set i (some (.exc c x)))).calm.bind fun fl=>match fl with
        | .nx _=>.ok (.nx (List.replicate N none))
        | .brk _=>.ok (.brk (List.replicate N none))
        | .cnt _=>.ok (.cnt (List.replicate N none))
        | .ret d=>.ok (.ret d)
      | none=>(z.2.2 (List.replicate N none)).calm)
    | some false=>pickM N c x r
    | none=>.bad
noncomputable def fIx (f:Str):List Str→Option Nat
 | []=>none
 | g::r=>if g=f then some 0 else (fIx f r).map (·+1)
noncomputable def putO (c:String)(f:Str)(d:D):D→Option D
 | .obj c' ns xs=>if c'=c∧ns.length<100 then match fIx f ns with
   | some j=>some (.obj c' ns (xs.set j d))
   | none=>some (.obj c' (ns++[f]) (xs++[d]))
  else none
 | _=>none
noncomputable def sFld (i:Nat)(c:String)(f:Str)(e:FE):FS:=fun ρ=>(e ρ).bind fun d=>match ρ[i]? with
 | some (some o)=>(oR (putO c f d o)).bind fun o'=>.ok (.nx (ρ.set i (some o')))
 | _=>.bad
noncomputable abbrev FM:=Env→R (D×Env)
noncomputable abbrev FMT:=Env→R (Bool×Env)
noncomputable def run (N:Nat)(b:FS)(ds:List D):R D:=(b (ds.map some++List.replicate (N - ds.length) none)).bind fun fl=>match fl with
 | .nx _=>.ok .non
 | .ret d=>.ok d
 | _=>.bad
noncomputable def keyD:D→Option (Int ⊕ Str)
 | .int i=>some (.inl i)
 | .str x=>some (.inr x)
 | _=>none
noncomputable def dHas (ks:List (Int ⊕ Str))(k:Int ⊕ Str):Bool:=ks.any fun j=>decide (j=k)
noncomputable def dPut (ks:List (Int ⊕ Str))(xs:List D)(k:Int ⊕ Str)(d:D):D:=if dHas ks k then .dct ks (List.zipWith (fun j x=>if j=k then d else x) ks xs) else .dct (ks++[k]) (xs++[d])
noncomputable def sDPut (i:Nat)(k e:FE):FS:=fun ρ=>(e ρ).bind fun d=>match ρ[i]? with
 | some (some (.dct ks xs))=>(k ρ).bind fun z=>match keyD z with
  | some q=>if flat d=true∧Yi xs=true∧ks.length<lim then .ok (.nx (ρ.set i (some (dPut ks xs q d)))) else .bad
  | none=>.bad
 | _=>.bad
noncomputable def catO:Str→List D→Option D
 | out,[]=>some (.str out)
 | out,.str y::r=>if y.length≤2000 then catO (out++y) r else none
 | _,_=>none
noncomputable def Xdk (c:Nat):List Nat→List (List Nat)
 | []=>[[]]
 | x::r=>if x=c then []::Xdk c r else match Xdk c r with
  | []=>[[x]]
  | w::ws=>(x::w)::ws
noncomputable def unR (p:List Nat):Option (List Nat):=if p.getLast?=some 32 then some p.dropLast else none
noncomputable def unL:List Nat→Option (List Nat)
 | []=>none
 | x::r=>if x=32 then some r else none
noncomputable def unP:List Nat→List (List Nat)→Option (List (List Nat))
 | p,[]=>some [p]
 | p,q::r=>(unR p).bind fun w=>(unL q).bind fun q'=>(unP q' r).bind fun ws=>some (w::ws)
noncomputable def keysD:List D→Option (List (Int ⊕ Str))
 | []=>some []
 | d::r=>(keyD d).bind fun k=>(keysD r).bind fun ks=>some (k::ks)
noncomputable def tAt:List (List (Int ⊕ Str))→List D→List (Int ⊕ Str)→Option D
 | j::ks,x::xs,k=>if j=k then some x else tAt ks xs k
 | _,_,_=>none
noncomputable abbrev Pc:=Int×Str
noncomputable def sLt (x y:Str):Bool:=decide (x.cps.toList<y.cps.toList)
noncomputable def pcLt (p q:Pc):Bool:=if p.1=q.1 then (if p.2=q.2 then false else sLt p.2 q.2) else decide (p.1<q.1)
noncomputable def Xkk:List Pc→List Pc→Bool
 | [],[]=>false
 | [],_::_=>true
 | _::_,[]=>false
 | p::c,q::d=>if p=q then Xkk c d else pcLt p q
noncomputable def insC (c:List Pc):List (List Pc)→List (List Pc)
 | []=>[c]
 | d::r=>if Xkk c d=true then c::d::r else d::insC c r
noncomputable def sortC:List (List Pc)→List (List Pc)
 | []=>[]
 | c::r=>insC c (sortC r)
noncomputable def pcOf:D→Option Pc
 | .tup [.int i,.str z]=>some (i,z)
 | _=>none
noncomputable def Xnr:List D→Option (List Pc)
 | []=>some []
 | d::r=>(pcOf d).bind fun p=>(Xnr r).bind fun ps=>some (p::ps)
noncomputable def ctOf:D→Option (List Pc)
 | .lst ds=>Xnr ds
 | _=>none
noncomputable def ctsOf:List D→Option (List (List Pc))
 | []=>some []
 | d::r=>(ctOf d).bind fun c=>(ctsOf r).bind fun cs=>some (c::cs)
noncomputable def Zgv:List Nat→FA
 | []=>Zt
 | j::r=>Zc (fV j) (Zgv r)
noncomputable def Zdt (fb:FE)(fr:Env):List D→R (List Int)
 | []=>.ok []
 | x::r=>(fb (some x::fr)).calm.bind fun k=>match k with
  | .int k=>(Zdt fb fr r).bind fun ks=>.ok (k::ks)
  | _=>.bad
noncomputable def Zic (lt:Int→Int→Bool)(ks:List Int)(i:Nat):Bool:=(List.range ks.length).all (fun j=>!lt (ks.getD j 0) (ks.getD i 0))&&(List.range i).all (fun j=>lt (ks.getD i 0) (ks.getD j 0))
noncomputable def Zoc (lt:Int→Int→Bool)(ds:List D)(ks:List Int):R D:=match (List.range ks.length).find? (Zic lt ks) with
 | some i=>oR ds[i]?
 | none=>.bad
noncomputable def Zge (lt:Int→Int→Bool)(fe:FE)(js:List Nat)(fb:FE):FE:=fun ρ=>(fe ρ).bind fun d=>match d with
 | .lst ds=>if ds.isEmpty then .bad else (Zgv js ρ).calm.bind fun fs=>(Zdt fb (fs.map some) ds).bind (Zoc lt ds)
 | _=>.bad
noncomputable def goP:List Int→D→Option D
 | [],d=>some d
 | n::r,.lst xs=>(ixD xs.length n).bind fun j=>xs[j]?.bind (goP r)
 | n::r,.tup xs=>(ixD xs.length n).bind fun j=>xs[j]?.bind (goP r)
 | _,_=>none
noncomputable def Xiu (i j:Nat)(path:List Int)(e:FE)(ρ:Env):Nat→Nat→D→R Fl
 | _,0,d=>.ok (.nx ((ρ.set i (some d)).set j none))
 | k,m+1,d=>match goP path d with
  | some (.lst _)=>(e ((ρ.set i (some d)).set j none)).calm.bind fun v=>match updP (addL v) (path++[(k:Int)]) d with
   | some d'=>Xiu i j path e ρ (k+1) m d'
   | none=>.bad
  | _=>.bad
noncomputable def dAt:List (Int ⊕ Str)→List D→Int ⊕ Str→Option D
 | j::ks,x::xs,k=>if j=k then some x else dAt ks xs k
 | _,_,_=>none
noncomputable def intsK:List (Int ⊕ Str)→Option (List Int)
 | []=>some []
 | .inl i::r=>(intsK r).map (i::·)
 | .inr _::_=>none
noncomputable def dFilt (g:D→D→Option D)(ks:List (Int ⊕ Str))(xs:List D)(z:D):List Int→R (List D)
 | []=>.ok []
 | j::js=>(oR (dAt ks xs (.inl j))).bind fun x=>(oR (g x z)).bind fun t=>match t with
  | .bl b=>(dFilt g ks xs z js).bind fun r=>.ok (if b then .int j::r else r)
  | _=>.bad
noncomputable def Zls (y x:Nat)(f1 f2:FE):FS:=fun ρ=>if y<ρ.length then (f1 ρ).bind fun d1=>(f2 (ρ.set y (some d1))).bind fun d2=>match d2 with
 | .lst ds=>if Yi ds=true then .ok (.nx ((ρ.set y none).set x (some (.lst ds)))) else .bad
 | _=>.bad
 else .bad
end Dl
namespace L2
open PySem PySem.Spec PyProof.Rows
open Dl (D R FE FT FA FO FS FI FB Fl)
def FzL (K:Frag)(H:Hp)(a:Addr)(xs:List V):Prop:=
 (∃o,H a=some (.frz o (.lst xs)))∨∃(o:Obj) (its:Array Value) (n:Nat),K.lookup a=some o∧o.cls=.type "list"∧o.dict=none∧o.data=.seq its n∧its.size≤sizeLine∧Jc xs its.toList
theorem FzL.sq {K:Frag}{H:Hp}{a:Addr}{xs:List V}(h:FzL K H a xs):SqL K H a xs:=by
 rcases h with ⟨o,h⟩ | h
 ·exact .inl (.inr ⟨o,h⟩)
 ·exact .inr h
noncomputable def fnm (c:String):Str:=if c="TooMany" then "most" else "at"
def FOk (H:Hp)(c:String)(f:Option Int)(dx:Option Addr):Prop:=match f with
 | none=>True
 | some i=>∃d,dx=some d∧H d=some (.xd [(fnm c,.int i)])
section
variable (K:Frag)(C:String→Addr)
mutual
noncomputable def Rp (H:Hp):D→V→List Addr→Prop
 | .non,v,A=>v=.non∧A=[]
 | .bl b,v,A=>v=.bl b∧A=[]
 | .int i,v,A=>v=.int i∧A=[]
 | .str x,v,A=>v=.str x∧PyData.strOk x=true∧A=[]
 | .lst ds,v,A=>∃a xs B,v=.ref a∧H a=some (.lst xs)∧RpA H ds xs B∧A=a::B
 | .tup ds,v,A=>∃a xs,v=.ref a∧H a=some (.tup xs)∧RpA H ds xs A
 | .scr ns,v,A=>∃a,v=.ref a∧FzL K H a (ns.map V.int)∧A=[]
 | .rng lo hi,v,A=>∃a,v=.ref a∧H a=some (.rng lo hi)∧A=[]
 | .exc c f,v,A=>∃e dx,v=.ref e∧H e=some (exO e (.ref (C c)) dx)∧FOk H c f dx∧A=[]
 | .obj c ns ds,v,A=>∃a dx xs B,v=.ref a∧H a=some (.ins (C c) dx (ns.zip xs))∧ns.length=ds.length∧RpA H ds xs B∧A=a::B
 | .dct ks ds,v,A=>∃a xs B,v=.ref a∧H a=some (.dK (ks.zip xs))∧ks.length=ds.length∧RpA H ds xs B∧A=a::B
 | .dtt ks ds,v,A=>∃a xs B,v=.ref a∧H a=some (.dT (ks.zip xs))∧ks.length=ds.length∧RpA H ds xs B∧A=a::B
noncomputable def RpA (H:Hp):List D→List V→List Addr→Prop
 | [],xs,A=>xs=[]∧A=[]
 | d::ds,xs,A=>∃x r B B',xs=x::r∧Rp H d x B∧RpA H ds r B'∧A=B++B'
end
end
section
variable {K:Frag}{C:String→Addr}{H H' H1 H2:Hp}
inductive IsM:HO→Prop where
 | lst {xs:List V}:IsM (.lst xs)
 | ins {C dx:Addr} {fs:List (Str×V)}:IsM (.ins C dx fs)
 | dct {kvs:List (Key×V)}:IsM (.dK kvs)
 | dtt {kvs:List (List Key×V)}:IsM (.dT kvs)
def Ext (W:Addr→Prop)(H H':Hp):Prop:=∀b o,H b=some o→H' b=some o∨(W b∧IsM o)
theorem Ext.same (h:Xw H H'):Ext (fun _=>False) H H':=fun b o q=>.inl (h b o q)
mutual
theorem Rp.ext {W:Addr→Prop}(h:Ext W H H'):∀{d:D} {v:V} {A:List Addr},(∀a∈A,¬W a)→Rp K C H d v A→Rp K C H' d v A
 | .non,_,_,_,r=>r
 | .bl _,_,_,_,r=>r
 | .int _,_,_,_,r=>r
 | .str _,_,_,_,r=>r
 | .lst ds,v,A,hw,r=>by
  obtain ⟨a,xs,B,e1,e2,e3,e4⟩:=r
  subst e4
  refine ⟨a,xs,B,e1,?_,RpA.ext h (fun b hb=>hw b (.tail _ hb)) e3,rfl⟩
  rcases h a _ e2 with q | ⟨q,_⟩
  ·exact q
  ·exact absurd q (hw a (.head _))
 | .tup ds,v,A,hw,r=>by
  obtain ⟨a,xs,e1,e2,e3⟩:=r
  refine ⟨a,xs,e1,?_,RpA.ext h hw e3⟩
  rcases h a _ e2 with q | ⟨_,q⟩
  ·exact q
  ·cases q
 | .scr ns,v,A,_,r=>by
  obtain ⟨a,e1,e2,e3⟩:=r
  refine ⟨a,e1,?_,e3⟩
  rcases e2 with ⟨o,e2⟩ | e2
  ·rcases h a _ e2 with q | ⟨_,q⟩
   ·exact .inl ⟨o,q⟩
   ·cases q
  ·exact .inr e2
 | .rng lo hi,v,A,_,r=>by
  obtain ⟨a,e1,e2,e3⟩:=r
  refine ⟨a,e1,?_,e3⟩
  rcases h a _ e2 with q | ⟨_,q⟩
  ·exact q
  ·cases q
 | .exc c f,v,A,_,r=>by
  obtain ⟨a,dx,e1,e2,e3,e4⟩:=r
  refine ⟨a,dx,e1,?_,?_,e4⟩
  ·rcases h a _ e2 with q | ⟨_,q⟩
   ·exact q
   ·cases q
  ·cases f with
   | none=>trivial
   | some i =>
    obtain ⟨d,z1,z2⟩:=e3
    refine ⟨d,z1,?_⟩
    rcases h d _ z2 with q | ⟨_,q⟩
    ·exact q
    ·cases q
 | .obj c ns ds,v,A,hw,r=>by
  obtain ⟨a,dx,xs,B,e1,e2,e0,e3,e4⟩:=r
  subst e4
  refine ⟨a,dx,xs,B,e1,?_,e0,RpA.ext h (fun b hb=>hw b (.tail _ hb)) e3,rfl⟩
  rcases h a _ e2 with q | ⟨q,_⟩
  ·exact q
  ·exact absurd q (hw a (.head _))
 | .dct ks ds,v,A,hw,r=>by
  obtain ⟨a,xs,B,e1,e2,e0,e3,e4⟩:=r
  subst e4
  refine ⟨a,xs,B,e1,?_,e0,RpA.ext h (fun b hb=>hw b (.tail _ hb)) e3,rfl⟩
  rcases h a _ e2 with q | ⟨q,_⟩
  ·exact q
  ·exact absurd q (hw a (.head _))
 | .dtt ks ds,v,A,hw,r=>by
  obtain ⟨a,xs,B,e1,e2,e0,e3,e4⟩:=r
  subst e4
  refine ⟨a,xs,B,e1,?_,e0,RpA.ext h (fun b hb=>hw b (.tail _ hb)) e3,rfl⟩
  rcases h a _ e2 with q | ⟨q,_⟩
  ·exact q
  ·exact absurd q (hw a (.head _))
theorem RpA.ext {W:Addr→Prop}(h:Ext W H H'):∀{ds:List D} {vs:List V} {A:List Addr},(∀a∈A,¬W a)→RpA K C H ds vs A→RpA K C H' ds vs A
 | [],_,_,_,r=>r
 | d::ds,vs,A,hw,r=>by
  obtain ⟨x,l,B,B',e1,e2,e3,e4⟩:=r
  subst e4
  exact ⟨x,l,B,B',e1,Rp.ext h (fun a ha=>hw a (mem_append_left _ ha)) e2,RpA.ext h (fun a ha=>hw a (mem_append_right _ ha)) e3,rfl⟩
end
theorem Rp.same (h:Xw H H'){d:D}{v:V}{A:List Addr}(r:Rp K C H d v A):Rp K C H' d v A:=r.ext (Ext.same h) (fun _ _ q=>q)
theorem RpA.same (h:Xw H H'){d:List D}{v:List V}{A:List Addr}(r:RpA K C H d v A):RpA K C H' d v A:=r.ext (Ext.same h) (fun _ _ q=>q)
def Agree (W:List Addr)(H Hb:Hp):Prop:=(∀a∈W,Hb a=H a)∧∀b o,H b=some o→¬IsM o→Hb b=some o
theorem Agree.ext {W:List Addr}(h:Agree W H H'):Ext (fun a=>a∉W) H H':=fun b o q=>by
 by_cases hb:b∈W
 ·exact .inl ((h.1 b hb).trans q)
 ·by_cases ho:IsM o
  ·exact .inr ⟨hb,ho⟩
  ·exact .inl (h.2 b o q ho)
theorem RpA.agree {W:List Addr}(h:Agree W H H'){ds:List D}{vs:List V}{A:List Addr}(hA:∀a∈A,a∈W)(r:RpA K C H ds vs A):RpA K C H' ds vs A:=r.ext h.ext fun a ha z=>z (hA a ha)
mutual
theorem Rp.isl:∀{d:D} {v:V} {A:List Addr},Rp K C H d v A→∀a∈A,∃o,H a=some o∧IsM o
 | .non,_,_,r,a,ha=>by rw [r.2] at ha;cases ha
 | .bl _,_,_,r,a,ha=>by rw [r.2] at ha;cases ha
 | .int _,_,_,r,a,ha=>by rw [r.2] at ha;cases ha
 | .str _,_,_,r,a,ha=>by rw [r.2.2] at ha;cases ha
 | .lst ds,_,_,r,a,ha=>by
  obtain ⟨b,xs,B,e1,e2,e3,e4⟩:=r
  rw [e4] at ha
  rcases List.mem_cons.mp ha with z | z
  ·rw [z];exact ⟨_,e2,.lst⟩
  ·exact RpA.isl e3 a z
 | .tup ds,_,_,r,a,ha=>by
  obtain ⟨b,xs,e1,e2,e3⟩:=r
  exact RpA.isl e3 a ha
 | .scr _,_,_,r,a,ha=>by obtain ⟨_,_,_,e⟩:=r;rw [e] at ha;cases ha
 | .rng _ _,_,_,r,a,ha=>by obtain ⟨_,_,_,e⟩:=r;rw [e] at ha;cases ha
 | .exc _ _,_,_,r,a,ha=>by obtain ⟨_,_,_,_,_,e⟩:=r;rw [e] at ha;cases ha
 | .obj c ns ds,_,_,r,a,ha=>by
  obtain ⟨b,dx,xs,B,e1,e2,e0,e3,e4⟩:=r
  rw [e4] at ha
  rcases List.mem_cons.mp ha with z | z
  ·rw [z];exact ⟨_,e2,.ins⟩
  ·exact RpA.isl e3 a z
 | .dct ks ds,_,_,r,a,ha=>by
  obtain ⟨b,xs,B,e1,e2,e0,e3,e4⟩:=r
  rw [e4] at ha
  rcases List.mem_cons.mp ha with z | z
  ·rw [z];exact ⟨_,e2,.dct⟩
  ·exact RpA.isl e3 a z
 | .dtt ks ds,_,_,r,a,ha=>by
  obtain ⟨b,xs,B,e1,e2,e0,e3,e4⟩:=r
  rw [e4] at ha
  rcases List.mem_cons.mp ha with z | z
  ·rw [z];exact ⟨_,e2,.dtt⟩
  ·exact RpA.isl e3 a z
theorem RpA.isl:∀{ds:List D} {vs:List V} {A:List Addr},RpA K C H ds vs A→∀a∈A,∃o,H a=some o∧IsM o
 | [],_,_,r,a,ha=>by rw [r.2] at ha;cases ha
 | d::ds,_,_,r,a,ha=>by
  obtain ⟨x,l,B,B',e1,e2,e3,e4⟩:=r
  rw [e4] at ha
  rcases List.mem_append.mp ha with z | z
  ·exact Rp.isl e2 a z
  ·exact RpA.isl e3 a z
end
mutual
theorem Rp.flat:∀{d:D} {v:V} {A:List Addr},Dl.flat d=true→Rp K C H d v A→A=[]
 | .non,_,_,_,r=>r.2
 | .bl _,_,_,_,r=>r.2
 | .int _,_,_,_,r=>r.2
 | .str _,_,_,_,r=>r.2.2
 | .lst _,_,_,h,_=>by simp [Dl.flat] at h
 | .tup ds,_,_,h,r=>by
  obtain ⟨b,xs,e1,e2,e3⟩:=r
  exact RpA.flat (by simpa [Dl.flat] using h) e3
 | .scr _,_,_,_,r=>by obtain ⟨_,_,_,e⟩:=r;exact e
 | .rng _ _,_,_,_,r=>by obtain ⟨_,_,_,e⟩:=r;exact e
 | .exc _ _,_,_,_,r=>by obtain ⟨_,_,_,_,_,e⟩:=r;exact e
 | .obj _ _ _,_,_,h,_=>by simp [Dl.flat] at h
 | .dct _ _,_,_,h,_=>by simp [Dl.flat] at h
 | .dtt _ _,_,_,h,_=>by simp [Dl.flat] at h
theorem RpA.flat:∀{ds:List D} {vs:List V} {A:List Addr},Dl.Yi ds=true→RpA K C H ds vs A→A=[]
 | [],_,_,_,r=>r.2
 | d::ds,_,_,h,r=>by
  obtain ⟨x,l,B,B',e1,e2,e3,e4⟩:=r
  simp only [Dl.Yi,Bool.and_eq_true] at h
  rw [e4,Rp.flat h.1 e2,RpA.flat h.2 e3]
  rfl
end
theorem RpA.len:∀{ds:List D} {vs:List V} {A:List Addr},RpA K C H ds vs A→vs.length=ds.length
 | [],_,_,r=>by rw [r.1];rfl
 | d::ds,_,_,r=>by
  obtain ⟨x,l,B,B',e1,e2,e3,e4⟩:=r
  rw [e1,length_cons,length_cons,RpA.len e3]
theorem RpA.get:∀{ds:List D} {vs:List V} {A:List Addr} {i:Nat} {d:D},RpA K C H ds vs A→ds[i]?=some d→∃v B,vs[i]?=some v∧Rp K C H d v B∧∀a∈B,a∈A
 | [],_,_,_,_,_,h=>by simp at h
 | d::ds,_,_,0,_,r,h=>by
  obtain ⟨x,l,B,B',e1,e2,e3,e4⟩:=r
  simp only [List.getElem?_cons_zero,Option.some.injEq] at h
  subst h e1 e4
  exact ⟨x,B,rfl,e2,fun a ha=>mem_append_left _ ha⟩
 | d::ds,_,_,i+1,_,r,h=>by
  obtain ⟨x,l,B,B',e1,e2,e3,e4⟩:=r
  simp only [List.getElem?_cons_succ] at h
  obtain ⟨v,B2,q1,q2,q3⟩:=RpA.get e3 h
  subst e1 e4
  exact ⟨v,B2,by simpa using q1,q2,fun a ha=>mem_append_right _ (q3 a ha)⟩
theorem RpA.get':∀{ds:List D} {vs:List V} {A:List Addr} {i:Nat} {v:V},RpA K C H ds vs A→vs[i]?=some v→∃d B,ds[i]?=some d∧Rp K C H d v B∧∀a∈B,a∈A:=fun {ds vs A i v} r h=>by
 have hl:=r.len
 have hi:i<ds.length:=by
  have:=(List.getElem?_eq_some_iff.mp h).1
  omega
 obtain ⟨v',B,q1,q2,q3⟩:=r.get (getElem?_eq_getElem hi)
 rw [h] at q1
 cases q1
 exact ⟨_,B,getElem?_eq_getElem hi,q2,q3⟩
theorem RpA.app:∀{ds es:List D} {vs ws:List V} {A B:List Addr},RpA K C H ds vs A→RpA K C H es ws B→RpA K C H (ds++es) (vs++ws) (A++B)
 | [],_,_,_,_,_,r,q=>by
  obtain ⟨e1,e2⟩:=r
  subst e1 e2
  exact q
 | d::ds,_,_,_,_,_,r,q=>by
  obtain ⟨x,l,B,B',e1,e2,e3,e4⟩:=r
  subst e1 e4
  exact ⟨x,_,B,_,rfl,e2,RpA.app e3 q,append_assoc ..⟩
theorem RpA.one {d:D}{v:V}{A:List Addr}(r:Rp K C H d v A):RpA K C H [d] [v] A:=⟨v,[],A,[],rfl,r,⟨rfl,rfl⟩,(append_nil _).symm⟩
theorem RpA.flatRev {ds:List D}{vs:List V}{A:List Addr}:Dl.Yi ds=true→RpA K C H ds vs A→RpA K C H ds.reverse vs.reverse []:=by
 intro h r
 induction ds generalizing vs A with
 | nil=>rw [r.1];exact ⟨rfl,rfl⟩
 | cons d ds ih =>
  obtain ⟨x,l,B,B',e1,e2,e3,e4⟩:=r
  simp only [Dl.Yi,Bool.and_eq_true] at h
  have z:=Rp.flat h.1 e2
  subst e1 z
  rw [reverse_cons,reverse_cons]
  exact (ih h.2 e3).app (RpA.one e2)
theorem RpA.flatDrop {ds:List D}{vs:List V}{A:List Addr}:Dl.Yi ds=true→RpA K C H ds vs A→∀n,RpA K C H (ds.drop n) (vs.drop n) []:=by
 intro h r n
 induction ds generalizing vs A n with
 | nil=>rw [r.1];simp;exact ⟨rfl,rfl⟩
 | cons d ds ih =>
  have r0:=r
  obtain ⟨x,l,B,B',e1,e2,e3,e4⟩:=r
  cases n with
  | zero =>
   have z:=RpA.flat h r0
   subst z
   exact r0
  | succ n =>
   simp only [Dl.Yi,Bool.and_eq_true] at h
   subst e1
   exact ih h.2 e3 n
theorem RpA.flatTake {ds:List D}{vs:List V}{A:List Addr}:Dl.Yi ds=true→RpA K C H ds vs A→∀n,RpA K C H (ds.take n) (vs.take n) []:=by
 intro h r n
 induction ds generalizing vs A n with
 | nil=>rw [r.1];simp;exact ⟨rfl,rfl⟩
 | cons d ds ih =>
  obtain ⟨x,l,B,B',e1,e2,e3,e4⟩:=r
  simp only [Dl.Yi,Bool.and_eq_true] at h
  have z:=Rp.flat h.1 e2
  subst e1 z
  cases n with
  | zero=>exact ⟨rfl,rfl⟩
  | succ n=>exact ⟨x,_,[],_,rfl,e2,ih h.2 e3 n,rfl⟩
theorem Zsa {ds:List D}(h:Dl.Yi ds=true):∀n,Dl.Yi (ds.drop n)=true:=by
 intro n
 induction ds generalizing n with
 | nil=>simp;rfl
 | cons d ds ih =>
  cases n with
  | zero=>exact h
  | succ n =>
   simp only [Dl.Yi,Bool.and_eq_true] at h
   exact ih h.2 n
theorem RpA.ints {ns:List Int}:RpA K C H (ns.map D.int) (ns.map V.int) []:=by
 induction ns with
 | nil=>exact ⟨rfl,rfl⟩
 | cons n ns ih=>exact ⟨_,_,[],[],rfl,⟨rfl,rfl⟩,ih,rfl⟩
theorem RpA.ofInts:∀{ds:List D} {vs:List V} {A:List Addr} {ns:List Int},RpA K C H ds vs A→Dl.intsOf ds=some ns→vs=ns.map V.int
 | [],_,_,ns,r,h=>by
  simp only [Dl.intsOf,Option.some.injEq] at h
  rw [r.1,← h]
  rfl
 | d::ds,_,_,ns,r,h=>by
  obtain ⟨x,l,B,B',e1,e2,e3,e4⟩:=r
  cases d<;>simp only [Dl.intsOf] at h<;>try cases h
  obtain ⟨ms,h1,h2⟩:=Option.map_eq_some_iff.mp h
  rw [e1,e2.1,RpA.ofInts e3 h1,← h2]
  rfl
theorem RpA.ofBools:∀{ds:List D} {vs:List V} {A:List Addr} {ns:List Bool},RpA K C H ds vs A→Dl.bools ds=some ns→vs=ns.map V.bl
 | [],_,_,ns,r,h=>by
  simp only [Dl.bools,Option.some.injEq] at h
  rw [r.1,← h]
  rfl
 | d::ds,_,_,ns,r,h=>by
  obtain ⟨x,l,B,B',e1,e2,e3,e4⟩:=r
  cases d<;>simp only [Dl.bools] at h<;>try cases h
  obtain ⟨ms,h1,h2⟩:=Option.map_eq_some_iff.mp h
  rw [e1,e2.1,RpA.ofBools e3 h1,← h2]
  rfl
mutual
noncomputable def toPy:D→PyData
 | .non=>.none
 | .bl b=>.bool b
 | .int i=>.int i
 | .str x=>.str x
 | .lst ds=>.list (Zgt ds)
 | .tup ds=>.tuple (Zgt ds)
 | .scr _=>.none
 | .rng _ _=>.none
 | .exc _ _=>.none
 | .obj _ _ _=>.none
 | .dct _ _=>.none
 | .dtt _ _=>.none
noncomputable def Zgt:List D→List PyData
 | []=>[]
 | d::ds=>toPy d::Zgt ds
end
mutual
theorem Rp.dn:∀{d:D} {v:V} {A:List Addr} {n:Nat},Dl.dep d≤n→n<100→Rp K C H d v A→Dn K H v (toPy d)∧(toPy d).canLay0=true∧(toPy d).depth=Dl.dep d
 | .non,_,_,_,_,_,r=>by rw [r.1];exact ⟨.non,rfl,rfl⟩
 | .bl _,_,_,_,_,_,r=>by rw [r.1];exact ⟨.bl _,rfl,rfl⟩
 | .int _,_,_,_,_,_,r=>by rw [r.1];exact ⟨.int _,rfl,rfl⟩
 | .str _,_,_,_,_,_,r=>by rw [r.1];exact ⟨.str _,by simpa [toPy,PyData.canLay0] using r.2.1,by simp [toPy,PyData.depth,Dl.dep]⟩
 | .lst ds,_,_,n,h,hn,r=>by
  obtain ⟨a,xs,B,e1,e2,e3,e4⟩:=r
  simp only [Dl.dep] at h
  obtain ⟨q1,q2,q3⟩:=RpA.dn (n:=n) (by omega) hn e3
  rw [e1]
  exact ⟨.lst (SqL.of e2) q1,by simpa [toPy,PyData.canLay0] using q2,by simp [toPy,PyData.depth,Dl.dep,q3]⟩
 | .tup ds,_,_,n,h,hn,r=>by
  obtain ⟨a,xs,e1,e2,e3⟩:=r
  simp only [Dl.dep] at h
  obtain ⟨q1,q2,q3⟩:=RpA.dn (n:=n) (by omega) hn e3
  rw [e1]
  exact ⟨.tup (SqT.of e2) q1,by simpa [toPy,PyData.canLay0] using q2,by simp [toPy,PyData.depth,Dl.dep,q3]⟩
 | .scr _,_,_,n,h,hn,_=>by simp only [Dl.dep] at h;omega
 | .rng _ _,_,_,n,h,hn,_=>by simp only [Dl.dep] at h;omega
 | .exc _ _,_,_,n,h,hn,_=>by simp only [Dl.dep] at h;omega
 | .obj _ _ _,_,_,n,h,hn,_=>by simp only [Dl.dep] at h;omega
 | .dct _ _,_,_,n,h,hn,_=>by simp only [Dl.dep] at h;omega
 | .dtt _ _,_,_,n,h,hn,_=>by simp only [Dl.dep] at h;omega
theorem RpA.dn:∀{ds:List D} {vs:List V} {A:List Addr} {n:Nat},Dl.Ztz ds≤n→n<100→RpA K C H ds vs A→DnA K H vs (Zgt ds)∧PyData.canLayAll0 (Zgt ds)=true∧PyData.depthAll (Zgt ds)=Dl.Ztz ds
 | [],_,_,_,_,_,r=>by rw [r.1];exact ⟨.nil,rfl,rfl⟩
 | d::ds,_,_,n,h,hn,r=>by
  obtain ⟨x,l,B,B',e1,e2,e3,e4⟩:=r
  simp only [Dl.Ztz] at h
  obtain ⟨q1,q2,q3⟩:=Rp.dn (n:=n) (by omega) hn e2
  obtain ⟨p1,p2,p3⟩:=RpA.dn (n:=n) (by omega) hn e3
  rw [e1]
  exact ⟨.cons q1 p1,by simp [Zgt,PyData.canLayAll0,q2,p2],by simp [Zgt,PyData.depthAll,Dl.Ztz,q3,p3]⟩
end
mutual
theorem Zuy:∀{d e:D},Dl.dep d<100→Dl.dep e<100→PyData.eqv (toPy d) (toPy e)=Dl.eqv d e
 | .non,e,_,h=>by cases e<;>first | rfl | exact absurd h (lt_irrefl 100)
 | .bl _,e,_,h=>by cases e<;>first | rfl | exact absurd h (lt_irrefl 100)
 | .int _,e,_,h=>by cases e<;>first | rfl | exact absurd h (lt_irrefl 100)
 | .str _,e,_,h=>by cases e<;>first | rfl | exact absurd h (lt_irrefl 100)
 | .lst ds,e,h1,h=>by
  cases e with
  | lst es=>exact Znx (Nat.lt_of_succ_lt h1) (Nat.lt_of_succ_lt h)
  | _=>rfl
 | .tup ds,e,h1,h=>by
  cases e with
  | tup es=>exact Znx (Nat.lt_of_succ_lt h1) (Nat.lt_of_succ_lt h)
  | _=>rfl
 | .scr _,_,h,_=>absurd h (lt_irrefl 100)
 | .rng _ _,_,h,_=>absurd h (lt_irrefl 100)
 | .exc _ _,_,h,_=>absurd h (lt_irrefl 100)
 | .obj _ _ _,_,h,_=>absurd h (lt_irrefl 100)
 | .dct _ _,_,h,_=>absurd h (lt_irrefl 100)
 | .dtt _ _,_,h,_=>absurd h (lt_irrefl 100)
theorem Znx:∀{d e:List D},Dl.Ztz d<100→Dl.Ztz e<100→PyData.eqvAll (Zgt d) (Zgt e)=Dl.Xny d e
 | [],[],_,_=>rfl
 | [],_::_,_,_=>rfl
 | _::_,[],_,_=>rfl
 | d::ds,e::es,h1,h=>by
  have a1:Dl.dep d<100∧Dl.Ztz ds<100:=Nat.max_lt.mp h1
  have a2:Dl.dep e<100∧Dl.Ztz es<100:=Nat.max_lt.mp h
  show (PyData.eqv (toPy d) (toPy e)&&PyData.eqvAll (Zgt ds) (Zgt es))=(Dl.eqv d e&&Dl.Xny ds es)
  rw [Zuy a1.1 a2.1,Znx a1.2 a2.2]
end
end
noncomputable abbrev Yp:=Dl.Env
section
variable (K:Frag)(C:String→Addr)
structure Xb (H0 Hb H:Hp)(Γ Δ:List Nat)(σ:St)(ρ:Yp)(A:Nat→List Addr):Prop where
 s0:Xw H0 Hb
 same:Xw Hb H
 len:σ.length=ρ.length
 rep:∀i d,ρ[i]?=some (some d)→∃v,σ[i]?=some (some v)∧Rp K C H d v (A i)
 nil:∀i,(∀d,ρ[i]?≠some (some d))→A i=[]
 loc:∀i∈Γ,∀a∈A i,H0 a=none
 top:∀i∈Γ,∀a r,A i=a::r→Hb a=none∧a∉r∧∀j,j≠i→a∉A j
 deep:∀i∈Δ,(A i).Nodup∧(∀j,j≠i→∀a∈A i,a∉A j)∧∀a∈A i,Hb a=none
def InS (A:Nat→List Addr)(S:List (Nat×Bool))(a:Addr):Prop:=∃p∈S,if p.2=true then a∈(A p.1).tail else a∈A p.1
def Res (m:Nat)(S:List (Nat×Bool))(H:Hp)(A:Nat→List Addr)(d:D)(v:V)(H':Hp):Prop:=
 ∃B,Rp K C H' d v B∧(∀a∈B,H a=none∨InS A S a)∧(m=1→∀a r,B=a::r→H a=none∧a∉r)∧(m=2→B.Nodup)
def ResA (m:Nat)(S:List (Nat×Bool))(H:Hp)(A:Nat→List Addr)(ds:List D)(vs:List V)(H':Hp):Prop:=
 ∃B,RpA K C H' ds vs B∧(∀a∈B,H a=none∨InS A S a)∧(m=2→B.Nodup)
def EC (E:XK)(c:String)(x:Option Int)(H:Hp):Prop:=∀dx,FOk H c x dx→E (.ref (C c)) dx H
def Yd {α:Type}(r:R α)(ok:α→Prop)(er:String→Option Int→Prop):Prop:=match r with
 | .ok a=>ok a
 | .err c x=>er c x
 | .bad=>False
def EOk (E:XK)(Γ Δ:List Nat)(m:Nat)(S:List (Nat×Bool))(t:TE)(f:FE):Prop:=∀(H0 Hb H:Hp) (σ:St) (ρ:Yp) (A:Nat→List Addr) (Q:VK),Xb K C H0 Hb H Γ Δ σ ρ A→
 Yd (f ρ) (fun d=>∀v H',Xw H H'→Res K C m S H A d v H'→Q v H') (fun c x=>∀H',Xw H H'→EC C E c x H')→t σ H Q
def AOk (E:XK)(Γ Δ:List Nat)(m:Nat)(S:List (Nat×Bool))(t:TA)(f:FA):Prop:=∀(H0 Hb H:Hp) (σ:St) (ρ:Yp) (A:Nat→List Addr) (Q:List V→Hp→Prop),Xb K C H0 Hb H Γ Δ σ ρ A→
 Yd (f ρ) (fun d=>∀v H',Xw H H'→ResA K C m S H A d v H'→Q v H') (fun c x=>∀H',Xw H H'→EC C E c x H')→t σ H Q
def TOk (E:XK)(Γ Δ:List Nat)(t:TT)(f:FT):Prop:=∀(H0 Hb H:Hp) (σ:St) (ρ:Yp) (A:Nat→List Addr) (Q:Bool→Hp→Prop),Xb K C H0 Hb H Γ Δ σ ρ A→
 Yd (f ρ) (fun b=>∀H',Xw H H'→Q b H') (fun c x=>∀H',Xw H H'→EC C E c x H')→t σ H Q
def OOk (E:XK)(Γ Δ:List Nat)(t:TO)(f:FO):Prop:=∀(H0 Hb H:Hp) (σ:St) (ρ:Yp) (A:Nat→List Addr) (Q:Option Int→Hp→Prop),Xb K C H0 Hb H Γ Δ σ ρ A→
 Yd (f ρ) (fun b=>∀H',Xw H H'→Q b H') (fun c x=>∀H',Xw H H'→EC C E c x H')→t σ H Q
def Znc (E:XK)(mr:Nat)(Γl Δl Γ' Δ':List Nat)(H0 Hb:Hp)(D:Ends)(r:R Fl):Prop:=Yd r (fun fl=>match fl with
    | .nx ρ'=>∀σ' H' A',Xb K C H0 Hb H' Γ' Δ' σ' ρ' A'→D.nx σ' H'
    | .ret d=>∀v H',Xw H0 H'→Res K C mr [] H0 (fun _=>[]) d v H'→D.rt v H'
    | .brk ρ'=>∀σ' H' A',Xb K C H0 Hb H' Γl Δl σ' ρ' A'→D.bk σ' H'
    | .cnt ρ'=>∀σ' H' A',Xb K C H0 Hb H' Γl Δl σ' ρ' A'→D.ct σ' H')
  (fun c x=>∀H',Xw H0 H'→EC C E c x H')
def SOk (E:XK)(mr:Nat)(Γl Δl Γ Δ Γ' Δ':List Nat)(t:TS)(f:FS):Prop:=∀(H0 Hb H:Hp) (σ:St) (ρ:Yp) (A:Nat→List Addr) (D:Ends),Xb K C H0 Hb H Γ Δ σ ρ A→
 Znc K C E mr Γl Δl Γ' Δ' H0 Hb D (f ρ)→t D σ H
end
section
variable {K:Frag}{C:String→Addr}{E:XK}{Γ Δ Γ' Δ' Γ1 Δ1 Γl Δl:List Nat}{m m1 m2 mr:Nat}{S S1 S2:List (Nat×Bool)}
theorem Xb.mono {H0 Hb H H':Hp}{σ:St}{ρ:Yp}{A:Nat→List Addr}(h:Xb K C H0 Hb H Γ Δ σ ρ A)(g:Xw H H'):Xb K C H0 Hb H' Γ Δ σ ρ A:=
 ⟨h.s0,h.same.trans g,h.len,fun i d e=>let ⟨v,q1,q2⟩:=h.rep i d e;⟨v,q1,q2.same g⟩,h.nil,h.loc,h.top,h.deep⟩
theorem Xb.weak {H0 Hb H:Hp}{σ:St}{ρ:Yp}{A:Nat→List Addr}(h:Xb K C H0 Hb H Γ Δ σ ρ A)(h1:∀i∈Γ',i∈Γ)(h2:∀i∈Δ',i∈Δ):Xb K C H0 Hb H Γ' Δ' σ ρ A:=
 ⟨h.s0,h.same,h.len,h.rep,h.nil,fun i hi=>h.loc i (h1 i hi),fun i hi=>h.top i (h1 i hi),fun i hi=>h.deep i (h2 i hi)⟩
theorem Xb.is {H0 Hb H:Hp}{σ:St}{ρ:Yp}{A:Nat→List Addr}(h:Xb K C H0 Hb H Γ Δ σ ρ A){j:Nat}{a:Addr}(ha:a∈A j):∃o,H a=some o∧IsM o:=by
 by_cases q:∃d,ρ[j]?=some (some d)
 ·obtain ⟨d,q⟩:=q
  obtain ⟨v,_,r⟩:=h.rep j d q
  exact r.isl a ha
 ·rw [h.nil j fun d e=>q ⟨d,e⟩] at ha
  cases ha
theorem Xb.ne {H0 Hb H:Hp}{σ:St}{ρ:Yp}{A:Nat→List Addr}(h:Xb K C H0 Hb H Γ Δ σ ρ A){j:Nat}{a:Addr}(ha:a∈A j)(hn:H a=none):False:=by
 obtain ⟨xs,q,_⟩:=h.is ha
 rw [q] at hn
 cases hn
theorem InS.mem {A:Nat→List Addr}{a:Addr}(h:InS A S a):∃p∈S,a∈A p.1:=by
 obtain ⟨p,hp,q⟩:=h
 refine ⟨p,hp,?_⟩
 split at q
 ·exact List.mem_of_mem_tail q
 ·exact q
theorem InS.mono {A:Nat→List Addr}{a:Addr}(h:InS A S1 a)(hs:∀p∈S1,p∈S2):InS A S2 a:=let ⟨p,hp,q⟩:=h;⟨p,hs p hp,q⟩
theorem Yd.imp {α:Type}{r:R α}{ok ok':α→Prop}{er er':String→Option Int→Prop}(h:Yd r ok er)(h1:∀a,ok a→ok' a)(h2:∀c x,er c x→er' c x):Yd r ok' er':=by
 cases r with
 | ok a=>exact h1 a h
 | err c x=>exact h2 c x h
 | bad=>exact h
theorem Yd.bind {α β:Type}{r:R α}{g:α→R β}{ok:β→Prop}{er:String→Option Int→Prop}(h:Yd (r.bind g) ok er):Yd r (fun a=>Yd (g a) ok er) er:=by
 cases r with
 | ok a=>exact h
 | err c x=>exact h
 | bad=>exact h
theorem Res.flat {H H':Hp}{A:Nat→List Addr}{d:D}{v:V}(r:Rp K C H' d v []):Res K C m S H A d v H':=⟨[],r,fun _ h=>(nomatch h),fun _ _ _ e=>(nomatch e),fun _=>nodup_nil⟩
theorem Zzh {d:D}{v:V}(h:∀H,Rp K C H d v []):EOk K C E Γ Δ 2 [] (tC v) (Dl.fC d):=fun _ _ H _ _ _ _ _ p=>p v H (Xw.refl _) (Res.flat (h H))
theorem Xnj {i:Nat}{ρ:Yp}{ok:D→Prop}{er:String→Option Int→Prop}(h:Yd (Dl.fV i ρ) ok er):∃d,ρ[i]?=some (some d)∧ok d:=by
 unfold Dl.fV at h
 split at h
 ·rename_i d e
  exact ⟨d,e,h⟩
 ·exact h.elim
theorem eok_v {i:Nat}:EOk K C E Γ Δ 0 [(i,false)] (Zst i) (Dl.fV i):=fun H0 Hb H σ ρ A Q I p=>by
 obtain ⟨d,e,p⟩:=Xnj p
 obtain ⟨v,e1,r⟩:=I.rep i d e
 exact ⟨v,e1,p v H (Xw.refl _) ⟨A i,r,fun a ha=>.inr ⟨(i,false),.head _,ha⟩,(fun z=>nomatch z),(fun z=>nomatch z)⟩⟩
theorem Xoo {i:Nat}(hi:i∈Δ):EOk K C E Γ Δ 2 [(i,false)] (Zst i) (Dl.fV i):=fun H0 Hb H σ ρ A Q I p=>by
 obtain ⟨d,e,p⟩:=Xnj p
 obtain ⟨v,e1,r⟩:=I.rep i d e
 exact ⟨v,e1,p v H (Xw.refl _) ⟨A i,r,fun a ha=>.inr ⟨(i,false),.head _,ha⟩,(fun z=>nomatch z),fun _=>(I.deep i hi).1⟩⟩
theorem Xbm {t:TE}{f:FE}(h:EOk K C E Γ Δ m S t f):EOk K C E Γ Δ 2 [] t (Dl.f1 Dl.Xt f):=fun H0 Hb H σ ρ A Q I p =>
  h H0 Hb H σ ρ A Q I (p.bind.imp (fun d q v H' g r=>by
    unfold Dl.Xt at q
    split at q
    · rename_i hf
      obtain ⟨B,r1,_⟩:=r
      have e:=r1.flat hf
      subst e
      exact q v H' g (Res.flat r1)
    · exact q.elim) fun _ _ q=>q)
theorem Res.later {H0 H1 H2 H3:Hp}{A:Nat→List Addr}{d:D}{v:V}(g1:Xw H0 H1)(g2:Xw H2 H3)(r:Res K C m S H1 A d v H2):Res K C m S H0 A d v H3:=by
 obtain ⟨B,r1,r2,r3,r4⟩:=r
 exact ⟨B,r1.same g2,fun a ha=>(r2 a ha).imp (fun h=>g1.free h) id,fun hm a l e=>⟨g1.free (r3 hm a l e).1,(r3 hm a l e).2⟩,r4⟩
theorem Res.new {H H':Hp}{A:Nat→List Addr}{d:D}{v:V}{B:List Addr}(r:Rp K C H' d v B)(h1:B.Nodup)(h2:∀a∈B,H a=none):Res K C m S H A d v H':=
 ⟨B,r,fun a ha=>.inl (h2 a ha),fun _ a l e=>by subst e;exact ⟨h2 a (.head _),(List.nodup_cons.mp h1).1⟩,fun _=>h1⟩
theorem Zet {α:Type}{o:Option α}{ok:α→Prop}{er:String→Option Int→Prop}(h:Yd (Dl.oR o) ok er):∃a,o=some a∧ok a:=by
 cases o with
 | none=>exact h.elim
 | some a=>exact ⟨a,rfl,h⟩
def GOk (K:Frag)(C:String→Addr)(r:R2)(g:D→D→Option D):Prop:=
 ∀(H:Hp) (x y d:D) (vx vy:V) (Bx By:List Addr) (Q:VK),Rp K C H x vx Bx→Rp K C H y vy By→g x y=some d→(∀v H' B,Xw H H'→Rp K C H' d v B→B.Nodup→(∀a∈B,H a=none)→Q v H')→r vx vy H Q
def GAk (K:Frag)(C:String→Addr)(r:List V→Hp→VK→Prop)(g:List D→Option D):Prop:=
 ∀(H:Hp) (xs:List D) (d:D) (vs:List V) (Bx:List Addr) (Q:VK),RpA K C H xs vs Bx→g xs=some d→(∀v H' B,Xw H H'→Rp K C H' d v B→B.Nodup→(∀a∈B,H a=none)→Q v H')→r vs H Q
theorem Zwf {r:R2}{g:D→D→Option D}{ta tb:TE}{fa fb:FE}(hg:GOk K C r g)(ha:EOk K C E Γ Δ m1 S1 ta fa)(hb:EOk K C E Γ Δ m2 S2 tb fb):EOk K C E Γ Δ 2 [] (tOp r ta tb) (Dl.f2 g fa fb):=
  fun H0 Hb H σ ρ A Q I p=>ha H0 Hb H σ ρ A _ I (p.bind.imp (fun x q vx H1 g1 r1=>hb H0 Hb H1 σ ρ A _ (I.mono g1) (q.bind.imp (fun y q vy H2 g2 r2=>by
    obtain ⟨d,e,q⟩:=Zet q
    obtain ⟨Bx,r1,_⟩:=r1
    obtain ⟨By,r2,_⟩:=r2
    exact hg H2 x y d vx vy Bx By Q (r1.same g2) r2 e fun v H' B g3 r3 h1 h2=>q v H' (g1.trans (g2.trans g3)) (Res.new r3 h1 fun a ha=>(g1.trans g2).free (h2 a ha))) fun c x q H' g'=>q H' (g1.trans g'))) fun c x q H' g'=>q H' g')
theorem Xmz {r:V→Hp→VK→Prop}{g:D→Option D}{ta:TE}{fa:FE}(hg:∀(H:Hp) (x d:D) (vx:V) (Bx:List Addr) (Q:VK),Rp K C H x vx Bx→g x=some d→(∀v H' B,Xw H H'→Rp K C H' d v B→B.Nodup→(∀a∈B,H a=none)→Q v H')→r vx H Q)
    (ha:EOk K C E Γ Δ m1 S1 ta fa):EOk K C E Γ Δ 2 [] (tUn r ta) (Dl.f1 g fa):=
  fun H0 Hb H σ ρ A Q I p=>ha H0 Hb H σ ρ A _ I (p.bind.imp (fun x q vx H1 g1 r1=>by
    obtain ⟨d,e,q⟩:=Zet q
    obtain ⟨Bx,r1,_⟩:=r1
    exact hg H1 x d vx Bx Q r1 e fun v H' B g3 r3 h1 h2=>q v H' (g1.trans g3) (Res.new r3 h1 fun a ha=>g1.free (h2 a ha))) fun c x q H' g'=>q H' g')
theorem Jh {α:Type}{d:α}{P:Prop}(e:(none:Option α)=some d):P:=nomatch e
theorem Zlo {F:List D→Option D}(hn:F []=none)(hc:∀x y r,F (x::y::r)=none):∀{ds:List D} {d:D},F ds=some d→∃x,ds=[x]
 | [],_,e=>Jh (hn.symm.trans e)
 | [x],_,_=>⟨x,rfl⟩
 | x::y::r,_,e=>Jh ((hc x y r).symm.trans e)
theorem Xfp {ds:List D}{y d:D}(e:Dl.gIx (.lst ds) y=some d):∃i,y=.int i∧atI ds i=some d:=by
 cases y with
 | int i=>exact ⟨i,rfl,e⟩
 | _=>exact Jh e
theorem Xip {ds:List D}{y d:D}(e:Dl.gIx (.tup ds) y=some d):∃i,y=.int i∧atI ds i=some d:=by
 cases y with
 | int i=>exact ⟨i,rfl,e⟩
 | _=>exact Jh e
theorem Xjk {ns:List Int}{y d:D}(e:Dl.gIx (.scr ns) y=some d):∃i,y=.int i∧(atI ns i).map D.int=some d:=by
 cases y with
 | int i=>exact ⟨i,rfl,e⟩
 | _=>exact Jh e
theorem Xjm {z:Str}{y d:D}(e:Dl.gIx (.str z) y=some d):∃i,y=.int i∧z.length≤Dl.lim∧(atI z.cps.toList i).map (fun c=>D.str ⟨#[c]⟩)=some d:=by
 cases y with
 | int i =>
  have e':(if z.length≤Dl.lim then ((Dl.atD z.cps.toList i).map fun c=>D.str ⟨#[c]⟩) else none)=some d:=e
  by_cases h:z.length≤Dl.lim
  ·rw [if_pos h] at e'
   exact ⟨i,rfl,h,e'⟩
  ·rw [if_neg h] at e'
   exact Jh e'
 | _=>exact Jh e
theorem Xmv {x y d:D}(e:Dl.gIx x y=some d):∃i,y=.int i∧((∃ds,x=.lst ds∧atI ds i=some d)∨(∃ds,x=.tup ds∧atI ds i=some d)∨(∃ns,x=.scr ns∧(atI ns i).map D.int=some d)∨∃z,x=.str z∧z.length≤Dl.lim∧(atI z.cps.toList i).map (fun c=>D.str ⟨#[c]⟩)=some d):=by
 cases x with
 | lst ds=>exact (Xfp e).imp fun _ h=>⟨h.1,.inl ⟨ds,rfl,h.2⟩⟩
 | tup ds=>exact (Xip e).imp fun _ h=>⟨h.1,.inr (.inl ⟨ds,rfl,h.2⟩)⟩
 | scr ns=>exact (Xjk e).imp fun _ h=>⟨h.1,.inr (.inr (.inl ⟨ns,rfl,h.2⟩))⟩
 | str z=>exact (Xjm e).imp fun _ h=>⟨h.1,.inr (.inr (.inr ⟨z,rfl,h.2⟩))⟩
 | _=>exact Jh e
theorem Zvq {α β:Type}{ds:List α}{xs:List β}{i:Int}{d:α}{v:β}{j:Nat}(hl:xs.length=ds.length)(e:atI ds i=some d)(h1:seqIndex? i ds.length=some j)(hv:xs[j]?=some v):atI xs i=some v:=by
 unfold atI at e ⊢
 rw [hl]
 cases hx:ixN ds.length i with
 | none=>rw [hx] at e;cases e
 | some k =>
  obtain ⟨z1,_⟩:=Zoa hx
  rw [h1] at z1
  cases z1
  exact hv
theorem Xlg {H:Hp}{x y d:D}{vx vy:V}{Bx By:List Addr}{Q:VK}(rx:Rp K C H x vx Bx)(ry:Rp K C H y vy By)(e:Dl.gIx x y=some d)(q:∀v B,Rp K C H d v B→(∀a∈B,a∈Bx)→((∃ds,x=.lst ds)→∀a∈B,a∈Bx.tail)→Q v H):rIx K vx vy H Q:=by
 obtain ⟨i,rfl,h⟩:=Xmv e
 cases ry.1
 rcases h with ⟨ds,rfl,e'⟩ | ⟨ds,rfl,e'⟩ | ⟨ns,rfl,e'⟩ | ⟨z,rfl,hz,e'⟩
 ·obtain ⟨a,xs,B,rfl,e2,e3,rfl⟩:=rx
  obtain ⟨j,h1,h2,_⟩:=Zef e'
  obtain ⟨v,B',q1,q2,q3⟩:=e3.get h2
  exact Xmm (SqL.of e2) (v:=v) (Zvq e3.len e' h1 q1) (q v B' q2 (fun a ha=>.tail _ (q3 a ha)) fun _ a ha=>q3 a ha)
 ·obtain ⟨a,xs,rfl,e2,e3⟩:=rx
  obtain ⟨j,h1,h2,_⟩:=Zef e'
  obtain ⟨v,B',q1,q2,q3⟩:=e3.get h2
  exact Xoc (SqT.of e2) (v:=v) (Zvq e3.len e' h1 q1) (q v B' q2 q3 fun z=>by obtain ⟨_,z⟩:=z;cases z)
 ·obtain ⟨a,rfl,e2,rfl⟩:=rx
  obtain ⟨n,h1,rfl⟩:=Option.map_eq_some_iff.mp e'
  obtain ⟨j,h2,h3,_⟩:=Zef h1
  exact .inl ⟨a,ns.map V.int,i,.int n,rfl,rfl,e2.sq,Zvq (length_map _) h1 h2 (by rw [getElem?_map,h3];rfl),q (.int n) [] ⟨rfl,rfl⟩ (fun _ h=>(nomatch h)) fun _ _ h=>(nomatch h)⟩
 ·obtain ⟨rfl,e2,rfl⟩:=rx
  obtain ⟨c,h1,rfl⟩:=Option.map_eq_some_iff.mp e'
  refine .inr (.inr ⟨z,i,c,rfl,rfl,le_trans hz (by decide),h1,q _ [] ⟨rfl,?_,rfl⟩ (fun _ h=>(nomatch h)) fun _ _ h=>(nomatch h)⟩)
  obtain ⟨j,_,h3,_⟩:=Zef h1
  have hm:c∈z.cps:=Array.mem_toList_iff.mp (mem_of_getElem? h3)
  have ho:z.cps.all (·<0x110000)=true:=e2
  have:=(Array.all_eq_true_iff_forall_mem.mp ho) c hm
  unfold PyData.strOk
  simpa using this
theorem Xox {ta tb:TE}{fa fb:FE}(ha:EOk K C E Γ Δ m1 S1 ta fa)(hb:EOk K C E Γ Δ m2 S2 tb fb):EOk K C E Γ Δ 0 S1 (tOp (rIx K) ta tb) (Dl.f2 Dl.gIx fa fb):=
  fun H0 Hb H σ ρ A Q I p=>ha H0 Hb H σ ρ A _ I (p.bind.imp (fun x q vx H1 g1 r1=>hb H0 Hb H1 σ ρ A _ (I.mono g1) (q.bind.imp (fun y q vy H2 g2 r2=>by
    obtain ⟨d,e,q⟩:=Zet q
    obtain ⟨Bx,r1,r1',_⟩:=r1
    obtain ⟨By,r2,_⟩:=r2
    exact Xlg (r1.same g2) r2 e fun v B r3 h _=>q v H2 (g1.trans g2) ⟨B,r3,fun a ha=>r1' a (h a ha),(fun z=>nomatch z),(fun z=>nomatch z)⟩) fun c x q H' g'=>q H' (g1.trans g'))) fun c x q H' g'=>q H' g')
noncomputable def gIxL (x y:D):Option D:=match x with
 | .lst _=>Dl.gIx x y
 | _=>none
end
section
variable {K:Frag}{C:String→Addr}{E:XK}{Γ Δ:List Nat}{m m1 m2 m3 mr:Nat}{S S1 S2 S3:List (Nat×Bool)}{H:Hp}{Q:VK}
theorem sameNew {H:Hp}{p:Addr}(h:H p=none)(o:HO):Xw H (upd H p o):=fun b u q=>by rw [Xq (Xj q h)];exact q
noncomputable abbrev Out (K:Frag)(C:String→Addr)(H:Hp)(d:D)(Q:VK):Prop:=∀v H' B,Xw H H'→Rp K C H' d v B→B.Nodup→(∀a∈B,H a=none)→Q v H'
theorem Out.flat {d:D}{v:V}(q:Out K C H d Q)(r:Rp K C H d v []):Q v H:=q v H [] (Xw.refl _) r nodup_nil (fun _ h=>nomatch h)
theorem Out.lst {ds:List D}{vs:List V}{p:Addr}(q:Out K C H (.lst ds) Q)(r:RpA K C H ds vs [])(hp:H p=none):Q (.ref p) (upd H p (.lst vs)):=
 q _ _ [p] (sameNew hp _) ⟨p,vs,[],rfl,Ya,r.same (sameNew hp _),rfl⟩ (by simp) (fun a ha=>by rw [List.mem_singleton.mp ha];exact hp)
theorem Zdb {n:Nat}(h:n≤Dl.lim):n≤sizeLine:=le_trans h (by decide)
theorem Zhl {n:Nat}(h:n<Dl.lim):n<sizeLine:=lt_of_lt_of_le h (by decide)
theorem Zvt {x y:Str}(h1:PyData.strOk x=true)(h2:PyData.strOk y=true):PyData.strOk (x++y)=true:=by
 unfold PyData.strOk at *
 show (x.cps++y.cps).all _=true
 rw [Array.all_append,h1,h2]
 rfl
theorem RpA.nil:RpA K C H [] [] []:=⟨rfl,rfl⟩
theorem RpA.flat' {ds:List D}{vs:List V}{A:List Addr}(h:Dl.Yi ds=true)(r:RpA K C H ds vs A):RpA K C H ds vs []:=by
 have e:=RpA.flat h r
 subst e
 exact r
theorem RpA.rep {ds:List D}{vs:List V}(r:RpA K C H ds vs []):∀n,RpA K C H (List.replicate n ds).flatten (List.replicate n vs).flatten []
 | 0=>RpA.nil
 | n+1=>by
  rw [replicate_succ,replicate_succ,flatten_cons,flatten_cons]
  exact r.app (RpA.rep r n)
theorem Zx:GOk K C Zru Dl.Jn:=by
 intro H x y d vx vy Bx By Q rx ry e q
 unfold Dl.Jn at e
 split at e
 ·cases e
  obtain ⟨rfl,_⟩:=rx
  obtain ⟨rfl,_⟩:=ry
  exact Xoa (Out.flat q ⟨rfl,rfl⟩)
 ·split at e
  ·rename_i hz
   cases e
   obtain ⟨rfl,h1,_⟩:=rx
   obtain ⟨rfl,h2,_⟩:=ry
   exact .inr (.inl ⟨_,_,rfl,rfl,Zdb hz,Out.flat q ⟨rfl,Zvt h1 h2,rfl⟩⟩)
  ·cases e
 ·split at e
  ·rename_i hz
   cases e
   obtain ⟨a,xs,B,rfl,e2,e3,_⟩:=rx
   obtain ⟨a',xs',B',rfl,e2',e3',_⟩:=ry
   obtain ⟨hz,f1,f2⟩:=hz
   refine Xee e2 e2' (by rw [e3.len,e3'.len];exact Zdb hz) fun p hp=>?_
   exact Out.lst q ((e3.flat' f1).app (e3'.flat' f2)) hp
  ·cases e
 ·cases e
theorem Zmb {g:Int→Int→D}{gv:Int→Int→V}{f:D→D→Option D}(hf:∀x y d,f x y=some d→∃i j,x=.int i∧y=.int j∧d=g i j)(hr:∀H i j,Rp K C H (g i j) (gv i j) []):GOk K C (rI0 gv) f:=by
 intro H x y d vx vy Bx By Q rx ry e q
 obtain ⟨i,j,rfl,rfl,rfl⟩:=hf x y d e
 obtain ⟨rfl,_⟩:=rx
 obtain ⟨rfl,_⟩:=ry
 exact rd_I0 (Out.flat q (hr H i j))
theorem Xeu {Cd:Int→Int→Prop}{g:Int→Int→D}{gv:Int→Int→V}{f:D→D→Option D}(hf:∀x y d,f x y=some d→∃i j,x=.int i∧y=.int j∧d=g i j∧Cd i j)(hr:∀H i j,Rp K C H (g i j) (gv i j) []):GOk K C (rI Cd gv) f:=by
 intro H x y d vx vy Bx By Q rx ry e q
 obtain ⟨i,j,rfl,rfl,rfl,hc⟩:=hf x y d e
 obtain ⟨rfl,_⟩:=rx
 obtain ⟨rfl,_⟩:=ry
 exact rd_I hc (Out.flat q (hr H i j))
theorem rpI {i:Int}:Rp K C H (.int i) (.int i) []:=⟨rfl,rfl⟩
theorem rpB {i:Bool}:Rp K C H (.bl i) (.bl i) []:=⟨rfl,rfl⟩
theorem Zfz:GOk K C (rI0 fun i j=>.int (i - j)) Dl.Zkz:=Zmb (fun x y d e=>by unfold Dl.Zkz at e;split at e<;>cases e;exact ⟨_,_,rfl,rfl,rfl⟩) fun _ _ _=>rpI
theorem Zeu:GOk K C (rI0 fun i j=>.bl (decide (i<j))) Dl.gLt:=Zmb (fun x y d e=>by unfold Dl.gLt at e;split at e<;>cases e;exact ⟨_,_,rfl,rfl,rfl⟩) fun _ _ _=>rpB
theorem Zhm:GOk K C (rI0 fun i j=>.bl (decide (i≤j))) Dl.gLe:=Zmb (fun x y d e=>by unfold Dl.gLe at e;split at e<;>cases e;exact ⟨_,_,rfl,rfl,rfl⟩) fun _ _ _=>rpB
theorem Zbt:GOk K C (rI0 fun i j=>.bl (decide (j<i))) Dl.gGt:=Zmb (fun x y d e=>by unfold Dl.gGt at e;split at e<;>cases e;exact ⟨_,_,rfl,rfl,rfl⟩) fun _ _ _=>rpB
theorem Ztc:GOk K C (rI0 fun i j=>.bl (decide (j≤i))) Dl.gGe:=Zmb (fun x y d e=>by unfold Dl.gGe at e;split at e<;>cases e;exact ⟨_,_,rfl,rfl,rfl⟩) fun _ _ _=>rpB
theorem Zaa:GOk K C (rI (fun _ j=>0<j) fun i j=>.int (i % j)) Dl.Zhe:=Xeu (fun x y d e=>by
  unfold Dl.Zhe at e
  split at e
  · split at e
    · rename_i h;cases e;exact ⟨_,_,rfl,rfl,rfl,h⟩
    · cases e
  · cases e) fun _ _ _=>rpI
theorem Zum:GOk K C (rI Xmf fun i j=>.int (i / j)) Dl.Xjy:=Xeu (fun x y d e=>by
  unfold Dl.Xjy at e
  split at e
  · split at e
    · rename_i h;cases e;exact ⟨_,_,rfl,rfl,rfl,h⟩
    · cases e
  · cases e) fun _ _ _=>rpI
theorem Zca:GOk K C (rI CPow fun i j=>.int (i ^ j.toNat)) Dl.Zir:=Xeu (fun x y d e=>by
  unfold Dl.Zir at e
  split at e
  · split at e
    · rename_i h;cases e;exact ⟨_,_,rfl,rfl,rfl,h⟩
    · cases e
  · cases e) fun _ _ _=>rpI
theorem Zuq {i j:Int}(h:(Dl.short i||Dl.short j)=true):Xkd i j:=by
 unfold Dl.short at h
 simp only [Bool.or_eq_true,Bool.and_eq_true,decide_eq_true_eq] at h
 exact h
theorem Yf:GOk K C Zzr Dl.Zbo:=by
 intro H x y d vx vy Bx By Q rx ry e q
 unfold Dl.Zbo at e
 split at e
 ·split at e
  ·rename_i h
   cases e
   obtain ⟨rfl,_⟩:=rx
   obtain ⟨rfl,_⟩:=ry
   exact Xok (Zuq h) (Out.flat q rpI)
  ·cases e
 ·split at e
  ·rename_i h
   cases e
   obtain ⟨a,xs,B,rfl,e2,e3,_⟩:=rx
   obtain ⟨rfl,_⟩:=ry
   obtain ⟨h1,h2,h3,h4⟩:=h
   refine Xog e2 (by omega) (by omega) (by rw [e3.len];exact Zdb h2) fun p hp=>?_
   exact Out.lst q ((e3.flat' h4).rep _) hp
  ·cases e
 ·cases e
theorem Zey {d:D}{v:V}{A:List Addr}(h:Dl.dep d≤20)(r:Rp K C H d v A):Dn K H v (toPy d)∧SeqAt.shaped (toPy d)=true:=by
 obtain ⟨q1,q2,q3⟩:=r.dn h (by decide)
 refine ⟨q1,?_⟩
 unfold SeqAt.shaped
 rw [q2,q3]
 simp only [Bool.true_and,decide_eq_true_eq]
 omega
theorem Zec:GOk K C (Zsx K) Dl.gEq:=by
 intro H x y d vx vy Bx By Q rx ry e q
 unfold Dl.gEq at e
 split at e
 ·rename_i h
  cases e
  obtain ⟨a1,a2⟩:=Zey h.1 rx
  obtain ⟨b1,b2⟩:=Zey h.2 ry
  refine .inr ⟨_,_,a1,b1,a2,b2,?_⟩
  rw [Zuy (by omega) (by omega)]
  exact Out.flat q rpB
 ·cases e
theorem Zlr:GOk K C (Xhl K) Dl.gNe:=by
 intro H x y d vx vy Bx By Q rx ry e q
 unfold Dl.gNe at e
 split at e
 ·rename_i h
  cases e
  obtain ⟨a1,a2⟩:=Zey h.1 rx
  obtain ⟨b1,b2⟩:=Zey h.2 ry
  refine .inr ⟨_,_,a1,b1,a2,b2,?_⟩
  rw [Zuy (by omega) (by omega)]
  exact Out.flat q rpB
 ·cases e
theorem Xbp {x:D}{v:V}{B:List Addr}(r:Rp K C H x v B):decide (v=.non)=Dl.Ziu x:=by
 cases x
 ·rw [r.1];rfl
 ·rw [r.1];rfl
 ·rw [r.1];rfl
 ·rw [r.1];rfl
 ·obtain ⟨a,xs,B,rfl,_⟩:=r;rfl
 ·obtain ⟨a,xs,rfl,_⟩:=r;rfl
 ·obtain ⟨a,rfl,_⟩:=r;rfl
 ·obtain ⟨a,rfl,_⟩:=r;rfl
 ·obtain ⟨a,dx,rfl,_⟩:=r;rfl
 ·obtain ⟨a,dx,xs,B,rfl,_⟩:=r;rfl
 ·obtain ⟨a,xs,B,rfl,_⟩:=r;rfl
 ·obtain ⟨a,xs,B,rfl,_⟩:=r;rfl
theorem Zme:GOk K C (rIsA true) Dl.Ziv:=by
 intro H x y d vx vy Bx By Q rx ry e q
 unfold Dl.Ziv at e
 split at e
 ·cases e
  refine .inl ⟨ry.1,?_⟩
  simp only [if_true]
  rw [Xbp rx]
  exact Out.flat q rpB
 ·split at e
  ·cases e
   obtain ⟨rfl,_⟩:=rx
   obtain ⟨rfl,_⟩:=ry
   exact .inr ⟨_,_,rfl,rfl,by simp only [if_true];exact Out.flat q rpB⟩
  ·cases e
 ·cases e
theorem Ztb:AOk K C E Γ Δ 2 [] Zpm Dl.Zt:=fun _ _ H _ _ _ _ _ p=>p [] H (Xw.refl _) ⟨[],RpA.nil,(fun _ h=>nomatch h),fun _=>nodup_nil⟩
theorem InS.left {A:Nat→List Addr}{a:Addr}(h:InS A S1 a):InS A (S1++S2) a:=h.mono fun _ hp=>mem_append_left _ hp
theorem InS.right {A:Nat→List Addr}{a:Addr}(h:InS A S2 a):InS A (S1++S2) a:=h.mono fun _ hp=>mem_append_right _ hp
theorem Zpn {te:TE}{t:TA}{fe:FE}{f:FA}(he:EOk K C E Γ Δ m1 S1 te fe)(ha:AOk K C E Γ Δ m2 S2 t f):AOk K C E Γ Δ 0 (S1++S2) (Zcw te t) (Dl.Zc fe f):=
  fun H0 Hb H σ ρ A Q I p=>he H0 Hb H σ ρ A _ I (p.bind.imp (fun x q vx H1 g1 r1=>ha H0 Hb H1 σ ρ A _ (I.mono g1) (q.bind.imp (fun ys q vs H2 g2 r2=>by
    obtain ⟨Bx,r1,r1',_⟩:=r1
    obtain ⟨By,r2,r2',_⟩:=r2
    exact q _ H2 (g1.trans g2) ⟨Bx++By,⟨vx,vs,Bx,By,rfl,r1.same g2,r2,rfl⟩,fun a h=>(List.mem_append.mp h).elim (fun h=>(r1' a h).imp id InS.left) (fun h=>(r2' a h).imp (fun h=>g1.free h) InS.right),(fun z=>nomatch z)⟩)
    fun c x q H' g'=>q H' (g1.trans g'))) fun c x q H' g'=>q H' g')
theorem Zmt {te:TE}{t:TA}{fe:FE}{f:FA}(he:EOk K C E Γ Δ 2 S1 te fe)(ha:AOk K C E Γ Δ 2 S2 t f)(h1:∀p∈S1,p.1∈Δ:=by decide)(h2:∀p∈S1,∀q∈S2,p.1≠q.1:=by decide):AOk K C E Γ Δ 2 (S1++S2) (Zcw te t) (Dl.Zc fe f):=
  fun H0 Hb H σ ρ A Q I p=>he H0 Hb H σ ρ A _ I (p.bind.imp (fun x q vx H1 g1 r1=>ha H0 Hb H1 σ ρ A _ (I.mono g1) (q.bind.imp (fun ys q vs H2 g2 r2=>by
    obtain ⟨Bx,r1,r1',_,n1⟩:=r1
    obtain ⟨By,r2,r2',n2⟩:=r2
    refine q _ H2 (g1.trans g2) ⟨Bx++By,⟨vx,vs,Bx,By,rfl,r1.same g2,r2,rfl⟩,fun a h=>(List.mem_append.mp h).elim (fun h=>(r1' a h).imp id InS.left) (fun h=>(r2' a h).imp (fun h=>g1.free h) InS.right),fun _=>?_⟩
    refine List.nodup_append.mpr ⟨n1 rfl,n2 rfl,fun a ha b hb e=>?_⟩
    subst e
    rcases r2' a hb with z | z
    · obtain ⟨xs,w,_⟩:=r1.isl a ha
      rw [w] at z
      cases z
    · obtain ⟨p2,hp2,z⟩:=z.mem
      rcases r1' a ha with w | w
      · exact I.ne z w
      · obtain ⟨p1,hp1,w⟩:=w.mem
        exact (I.deep p1.1 (h1 p1 hp1)).2.1 p2.1 (fun e=>h2 p1 hp1 p2 hp2 e.symm) a w z)
    fun c x q H' g'=>q H' (g1.trans g'))) fun c x q H' g'=>q H' g')
theorem Xfe {t:TA}{f:FA}(ha:AOk K C E Γ Δ 2 S t f):EOk K C E Γ Δ 2 S (Xjz t) (Dl.fA Dl.Zau f):=
  fun H0 Hb H σ ρ A Q I p=>ha H0 Hb H σ ρ A _ I (p.bind.imp (fun ds q vs H1 g1 r1=>by
    obtain ⟨d,e,q⟩:=Zet q
    unfold Dl.Zau at e
    split at e
    · rename_i hz
      cases e
      obtain ⟨B,r1,r1',n1⟩:=r1
      refine ⟨by rw [r1.len];exact Zdb hz,fun p hp=>?_⟩
      have g2:=sameNew hp (.lst vs)
      refine q _ _ (g1.trans g2) ⟨p::B,⟨p,vs,B,rfl,Ya,r1.same g2,rfl⟩,fun a ha=>?_,(fun z=>nomatch z),fun _=>List.nodup_cons.mpr ⟨fun h=>?_,n1 rfl⟩⟩
      · rcases List.mem_cons.mp ha with z | z
        · rw [z];exact .inl (g1.free hp)
        · exact r1' a z
      · obtain ⟨xs,w,_⟩:=r1.isl p h
        rw [w] at hp
        cases hp
    · cases e) fun c x q H' g'=>q H' g')
theorem Xbt {t:TA}{f:FA}(ha:AOk K C E Γ Δ m S t f):EOk K C E Γ Δ 1 S (Xjz t) (Dl.fA Dl.Zau f):=
  fun H0 Hb H σ ρ A Q I p=>ha H0 Hb H σ ρ A _ I (p.bind.imp (fun ds q vs H1 g1 r1=>by
    obtain ⟨d,e,q⟩:=Zet q
    unfold Dl.Zau at e
    split at e
    · rename_i hz
      cases e
      obtain ⟨B,r1,r1',n1⟩:=r1
      refine ⟨by rw [r1.len];exact Zdb hz,fun p hp=>?_⟩
      have g2:=sameNew hp (.lst vs)
      refine q _ _ (g1.trans g2) ⟨p::B,⟨p,vs,B,rfl,Ya,r1.same g2,rfl⟩,fun a ha=>?_,fun _ a r e=>?_,(fun z=>nomatch z)⟩
      · rcases List.mem_cons.mp ha with z | z
        · rw [z];exact .inl (g1.free hp)
        · exact r1' a z
      · cases e
        refine ⟨g1.free hp,fun h=>?_⟩
        obtain ⟨xs,w,_⟩:=r1.isl p h
        rw [w] at hp
        cases hp
    · cases e) fun c x q H' g'=>q H' g')
theorem Zwu (hm:m=0∨m=2){t:TA}{f:FA}(ha:AOk K C E Γ Δ m S t f):EOk K C E Γ Δ m S (Xlj t) (Dl.fA Dl.Zfm f):=
  fun H0 Hb H σ ρ A Q I p=>ha H0 Hb H σ ρ A _ I (p.bind.imp (fun ds q vs H1 g1 r1=>by
    obtain ⟨d,e,q⟩:=Zet q
    unfold Dl.Zfm at e
    split at e
    · rename_i hz
      cases e
      obtain ⟨B,r1,r1',n1⟩:=r1
      refine ⟨by rw [r1.len];exact Zdb hz,fun p hp=>?_⟩
      have g2:=sameNew hp (.tup vs)
      exact q _ _ (g1.trans g2) ⟨B,⟨p,vs,rfl,Ya,r1.same g2⟩,r1',(fun z=>by omega),n1⟩
    · cases e) fun c x q H' g'=>q H' g')
theorem Zts {r:List V→Hp→VK→Prop}{g:List D→Option D}{t:TA}{f:FA}(hg:GAk K C r g)(ha:AOk K C E Γ Δ m S t f):EOk K C E Γ Δ 2 [] (tCB r t) (Dl.fA g f):=
  fun H0 Hb H σ ρ A Q I p=>ha H0 Hb H σ ρ A _ I (p.bind.imp (fun ds q vs H1 g1 r1=>by
    obtain ⟨d,e,q⟩:=Zet q
    obtain ⟨B,r1,_⟩:=r1
    exact hg H1 ds d vs B Q r1 e fun v H' B' g2 r2 h1 h2=>q v H' (g1.trans g2) (Res.new r2 h1 fun a ha=>g1.free (h2 a ha))) fun c x q H' g'=>q H' g')
theorem RpA.one' {d:D}{vs:List V}{A:List Addr}(r:RpA K C H [d] vs A):∃v,vs=[v]∧Rp K C H d v A:=by
 obtain ⟨x,l,B,B',e1,e2,e3,e4⟩:=r
 obtain ⟨e5,e6⟩:=e3
 subst e1 e4 e5 e6
 rw [append_nil]
 exact ⟨x,rfl,e2⟩
theorem RpA.two' {d e:D}{vs:List V}{A:List Addr}(r:RpA K C H [d,e] vs A):∃v w B B',vs=[v,w]∧Rp K C H d v B∧Rp K C H e w B':=by
 obtain ⟨x,l,B,B',e1,e2,e3,e4⟩:=r
 obtain ⟨w,e5,e6⟩:=e3.one'
 subst e1 e5
 exact ⟨x,w,B,B',rfl,e2,e6⟩
theorem Xy:GAk K C (Jx K) Dl.Zap:=by
 intro H xs d vs B Q r e q
 obtain ⟨x,rfl⟩:=Zlo (F:=Dl.Zap) rfl (fun x _ _=>by cases x<;>rfl) e
 obtain ⟨v,rfl,r1⟩:=r.one'
 cases x with
 | lst xs =>
  cases (show some (D.int xs.length)=some d from e)
  obtain ⟨a,ys,B,rfl,e2,e3,_⟩:=r1
  refine Ztj (SqL.of e2) ?_
  rw [e3.len]
  exact Out.flat q rpI
 | tup xs =>
  cases (show some (D.int xs.length)=some d from e)
  obtain ⟨a,ys,rfl,e2,e3⟩:=r1
  refine Xgr (SqT.of e2) ?_
  rw [e3.len]
  exact Out.flat q rpI
 | scr xs =>
  cases (show some (D.int xs.length)=some d from e)
  obtain ⟨a,rfl,e2,_⟩:=r1
  refine Ztj e2.sq ?_
  rw [length_map]
  exact Out.flat q rpI
 | str z =>
  have e:(if z.length≤Dl.lim then some (D.int z.length) else none)=some d:=e
  by_cases hz:z.length≤Dl.lim
  ·rw [if_pos hz] at e
   cases e
   obtain ⟨rfl,_⟩:=r1
   exact Xhf (Zdb hz) (Out.flat q rpI)
  ·rw [if_neg hz] at e
   exact Jh e
 | _=>exact Jh e
theorem Zbw:GAk K C (Zss K) Dl.Zid:=by
 intro H xs d vs B Q r e q
 obtain ⟨x,rfl⟩:=Zlo (F:=Dl.Zid) rfl (fun x _ _=>by cases x<;>rfl) e
 obtain ⟨v,rfl,r1⟩:=r.one'
 cases x with
 | lst xs =>
  obtain ⟨ns,h1,h2⟩:=Option.bind_eq_some_iff.mp e
  cases h2
  obtain ⟨a,ys,B,rfl,e2,e3,_⟩:=r1
  have h:=e3.ofInts h1
  subst h
  exact Xmr (SqL.of e2) (Out.flat q rpI)
 | _=>exact Jh e
theorem Zvy (x:Int):∀(r:List Int),(r.foldl max x=x∨r.foldl max x∈r)∧x≤r.foldl max x∧∀y∈r,y≤r.foldl max x:=by
 intro r
 induction r generalizing x with
 | nil=>simp
 | cons y r ih =>
  obtain ⟨h1,h2,h3⟩:=ih (max x y)
  rw [foldl_cons]
  refine ⟨?_,by omega,fun z hz=>?_⟩
  ·rcases h1 with h | h
   ·rw [h]
    by_cases hxy:x≤y
    ·right;rw [Int.max_eq_right hxy];exact .head _
    ·left;omega
   ·right;exact .tail _ h
  ·rcases List.mem_cons.mp hz with e | e
   ·omega
   ·exact h3 z e
theorem Zvp {ns:List Int}(h:ns≠[]):Dl.Xcn ns∈ns∧∀n∈ns,n≤Dl.Xcn ns:=by
 cases ns with
 | nil=>exact absurd rfl h
 | cons x r =>
  obtain ⟨h1,h2,h3⟩:=Zvy x r
  show r.foldl max x∈x::r∧∀n∈x::r,n≤r.foldl max x
  refine ⟨?_,fun n hn=>?_⟩
  ·rcases h1 with e | e
   ·rw [e];exact .head _
   ·exact .tail _ e
  ·rcases List.mem_cons.mp hn with e | e
   ·omega
   ·exact h3 n e
theorem Xex:GAk K C (Zvs K) Dl.Xoy:=by
 intro H xs d vs B Q r e q
 unfold Dl.Xoy at e
 split at e
 ·cases e
  obtain ⟨v,w,B,B',rfl,r1,r2⟩:=r.two'
  obtain ⟨rfl,_⟩:=r1
  obtain ⟨rfl,_⟩:=r2
  exact Xhz (Out.flat q rpI)
 ·obtain ⟨ns,h1,h2⟩:=Option.bind_eq_some_iff.mp e
  split at h2
  ·cases h2
  ·rename_i hne
   cases h2
   obtain ⟨v,rfl,r1⟩:=r.one'
   obtain ⟨a,ys,B,rfl,e2,e3,_⟩:=r1
   have h:=e3.ofInts h1
   subst h
   obtain ⟨s1,s2⟩:=Zvp hne
   refine Xjn (SqL.of e2) hne fun mm h1 h2=>?_
   have e:mm=Dl.Xcn ns:=Int.le_antisymm (s2 mm h1) (h2 _ s1)
   rw [e]
   exact Out.flat q rpI
 ·cases e
def Xby:List V→Hp→VK→Prop:=fun xs H Q=>∃i j,xs=[.int i,.int j]∧Q (.int (if j<i then j else i)) H
theorem Znb {X:Cx}(hc:X.calm=true):Zbb X (.builtin "min") Xby:=Zvx hc
theorem Zwz:GAk K C Xby Dl.Xka:=by
 intro H xs d vs B Q r e q
 unfold Dl.Xka at e
 split at e
 ·cases e
  obtain ⟨v,w,B,B',rfl,r1,r2⟩:=r.two'
  obtain ⟨rfl,_⟩:=r1
  obtain ⟨rfl,_⟩:=r2
  exact ⟨_,_,rfl,Out.flat q rpI⟩
 ·cases e
theorem Znw:GAk K C (Zsf K) Dl.Zyu:=by
 intro H xs d vs B Q r e q
 obtain ⟨x,rfl⟩:=Zlo (F:=Dl.Zyu) rfl (fun x _ _=>by cases x<;>rfl) e
 obtain ⟨v,rfl,r1⟩:=r.one'
 cases x with
 | lst xs =>
  obtain ⟨ns,h1,h2⟩:=Option.bind_eq_some_iff.mp e
  cases h2
  obtain ⟨a,ys,B,rfl,e2,e3,_⟩:=r1
  have h:=e3.ofBools h1
  subst h
  exact Xgs (SqL.of e2) (Out.flat q rpB)
 | _=>exact Jh e
theorem Zvz:GAk K C (Zun K) Dl.Xed:=by
 intro H xs d vs B Q r e q
 obtain ⟨x,rfl⟩:=Zlo (F:=Dl.Xed) rfl (fun x _ _=>by cases x<;>rfl) e
 obtain ⟨v,rfl,r1⟩:=r.one'
 cases x with
 | lst xs =>
  obtain ⟨ns,h1,h2⟩:=Option.bind_eq_some_iff.mp e
  cases h2
  obtain ⟨a,ys,B,rfl,e2,e3,_⟩:=r1
  have h:=e3.ofBools h1
  subst h
  exact Xjf (SqL.of e2) (Out.flat q rpB)
 | _=>exact Jh e
theorem RpA.rng {lo:Int}{n:Nat}:RpA K C H (Dl.Zek lo n) (Znt lo n) []:=by
 unfold Dl.Zek Znt
 generalize List.range n=l
 induction l with
 | nil=>exact RpA.nil
 | cons k l ih=>exact ⟨_,_,[],[],rfl,rpI,ih,rfl⟩
theorem Xaw:GAk K C (Zur K) Dl.Zxd:=by
 intro H xs d vs B Q r e q
 obtain ⟨x,rfl⟩:=Zlo (F:=Dl.Zxd) rfl (fun x _ _=>by cases x<;>rfl) e
 obtain ⟨v,rfl,r1⟩:=r.one'
 cases x with
 | lst xs =>
  have e:(if Dl.Yi xs then some (D.lst xs) else none)=some d:=e
  split at e
  ·rename_i hf
   cases e
   obtain ⟨a,ys,B,rfl,e2,e3,_⟩:=r1
   exact Zzk (SqL.of e2) fun l hl=>Out.lst q (e3.flat' hf) hl
  ·exact Jh e
 | tup xs =>
  have e:(if Dl.Yi xs then some (D.lst xs) else none)=some d:=e
  split at e
  ·rename_i hf
   cases e
   obtain ⟨a,ys,rfl,e2,e3⟩:=r1
   exact .inl ⟨a,ys,rfl,.inr (SqT.of e2),fun l hl=>Out.lst q (e3.flat' hf) hl⟩
  ·exact Jh e
 | rng i j =>
  have e:(if -1000000000≤i∧i≤1000000000∧-1000000000≤j∧j≤1000000000∧(j - i).toNat≤Dl.lim then some (D.lst (Dl.Zek i (j - i).toNat)) else none)=some d:=e
  split at e
  ·rename_i hf
   cases e
   obtain ⟨a,rfl,e2,_⟩:=r1
   obtain ⟨h1,h2,h3,h4,h5⟩:=hf
   exact Xap e2 (by omega) (by omega) (by omega) (by omega) h5 fun l hl=>Out.lst q RpA.rng hl
  ·exact Jh e
 | _=>exact Jh e
theorem Zyp:OOk K C E Γ Δ Zjz Dl.Zmz:=fun _ _ H _ _ _ _ _ p=>p H (Xw.refl _)
theorem Xbl {t:TE}{f:FE}(h:EOk K C E Γ Δ m S t f):OOk K C E Γ Δ (Xcr t) (Dl.Zfr f):=fun H0 Hb H σ ρ A Q I p=>h H0 Hb H σ ρ A _ I (p.bind.imp (fun d q v H' g r=>by
  obtain ⟨B,r,_⟩:=r
  cases d with
  | int i =>
    obtain ⟨rfl,_⟩:=r
    exact ⟨i,rfl,q H' g⟩
  | _=>exact q.elim) fun c x q H' g'=>q H' g')
theorem Zqr (n d:Nat)(o:Option Int):Dl.Xhb n d o=HT.sIx n d o:=by
 cases o with
 | none=>rfl
 | some v =>
  have h:=HT.clip_eq v n d
  show (if v<0 then (max (v+(n:Int)) 0).toNat else min v.toNat n)=_
  by_cases hv:v<0
  ·rw [if_pos hv] at h ⊢
   omega
  ·rw [if_neg hv] at h ⊢
   omega
theorem RpA.cut {ds:List D}{vs:List V}{A:List Addr}(h:Dl.Yi ds=true)(r:RpA K C H ds vs A)(lo hi:Option Int):RpA K C H (Dl.cut ds lo hi) (Xci vs lo hi) []:=by
 unfold Dl.cut Xci
 rw [Zqr,Zqr,r.len]
 exact (r.flatDrop h _).flatTake (Zsa h _) _
theorem Xaa (ns:List Int)(lo hi:Option Int):Xci (ns.map V.int) lo hi=(Dl.cut ns lo hi).map V.int:=by
 unfold Dl.cut Xci
 rw [Zqr,Zqr,length_map,map_take,map_drop]
theorem Xnc {ta:TE}{tl th:TO}{fa:FE}{fl fh:FO}(ha:EOk K C E Γ Δ m S ta fa)(hl:OOk K C E Γ Δ tl fl)(hh:OOk K C E Γ Δ th fh):EOk K C E Γ Δ 2 [] (tSl (rSlL K) ta tl th) (Dl.fSl Dl.gSl fa fl fh):=
  fun H0 Hb H σ ρ A Q I p=>ha H0 Hb H σ ρ A _ I (p.bind.imp (fun x q vx H1 g1 r1=>hl H0 Hb H1 σ ρ A _ (I.mono g1) (q.bind.imp (fun lo q H2 g2=>hh H0 Hb H2 σ ρ A _ (I.mono (g1.trans g2)) (q.bind.imp (fun hi q H3 g3=>by
    obtain ⟨d,e,q⟩:=Zet q
    obtain ⟨B,r1,_⟩:=r1
    have r1:=r1.same (g2.trans g3)
    have g13:=g1.trans (g2.trans g3)
    have out:Out K C H3 d Q:=fun v H' B g4 r h1 h2=>q v H' (g13.trans g4) (Res.new r h1 fun a ha=>g13.free (h2 a ha))
    unfold Dl.gSl at e
    split at e
    · split at e
      · rename_i hf
        cases e
        obtain ⟨a,ys,B,rfl,e2,e3,_⟩:=r1
        exact Xei (SqL.of e2) fun p hp=>Out.lst out (e3.cut hf _ _) hp
      · cases e
    · cases e
      obtain ⟨a,rfl,e2,_⟩:=r1
      refine Xei e2.sq fun p hp=>?_
      rw [Xaa]
      exact Out.lst out RpA.ints hp
    · cases e) fun c x q H' g'=>q H' ((g1.trans g2).trans g'))) fun c x q H' g'=>q H' (g1.trans g'))) fun c x q H' g'=>q H' g')
theorem Zyg {ta:TE}{fa:FE}(ha:EOk K C E Γ Δ m1 S1 ta fa):EOk K C E Γ Δ 2 [] (Xax K ta) (Dl.f1 Dl.Zwa fa):=
  fun H0 Hb H σ ρ A Q I p=>ha H0 Hb H σ ρ A _ I (p.bind.imp (fun x q vx H1 g1 r1=>by
    obtain ⟨d,e,q⟩:=Zet q
    obtain ⟨Bx,r1,_⟩:=r1
    have out:Out K C H1 d Q:=fun v H' B g4 r h1 h2=>q v H' (g1.trans g4) (Res.new r h1 fun a ha=>g1.free (h2 a ha))
    unfold Dl.Zwa at e
    split at e
    · split at e
      · rename_i hf
        cases e
        obtain ⟨a,ys,B,rfl,e2,e3,_⟩:=r1
        exact ⟨a,ys,rfl,SqL.of e2,fun p hp=>Out.lst out (RpA.flatRev hf e3) hp⟩
      · cases e
    · cases e) fun c x q H' g'=>q H' g')
end
section
variable {K:Frag}{C:String→Addr}{E:XK}{Γ Δ Γ' Δ' Γ1 Δ1 Γl Δl:List Nat}{m m1 m2 m3 mr:Nat}{S S1 S2 S3:List (Nat×Bool)}{H:Hp}{Q:VK}
theorem Xdl {t:TE}{f:FE}(h:EOk K C E Γ Δ m S t f):∀(H0 Hb H:Hp) (σ:St) (ρ:Yp) (A:Nat→List Addr) (Q:Bool→Hp→Prop),Xb K C H0 Hb H Γ Δ σ ρ A→
    Yd (Dl.cE f ρ) (fun b=>∀H',Xw H H'→Q b H') (fun c x=>∀H',Xw H H'→EC C E c x H')→t σ H fun x H'=>∃k,x=.bl k∧Q k H':=fun H0 Hb H σ ρ A Q I p=>h H0 Hb H σ ρ A _ I (p.bind.imp (fun d q v H' g r=>by
  obtain ⟨B,r,_⟩:=r
  cases d with
  | bl b =>
    obtain ⟨rfl,_⟩:=r
    exact ⟨b,rfl,q H' g⟩
  | _=>exact q.elim) fun c x q H' g'=>q H' g')
theorem Xch {t:TE}{f:FE}(h:EOk K C E Γ Δ m S t f):TOk K C E Γ Δ (Zyy t) (Dl.cE f):=Xdl h
theorem tok_B {t:TE}{f:FE}(h:EOk K C E Γ Δ m S t f):TOk K C E Γ Δ (tB t) (Dl.cE f):=Xdl h
theorem Xiz {t:TT}{f:FT}(h:TOk K C E Γ Δ t f):TOk K C E Γ Δ (tNot t) (Dl.Xbi f):=fun H0 Hb H σ ρ A Q I p=>h H0 Hb H σ ρ A _ I (p.bind.imp (fun b q H' g=>q H' g) fun c x q H' g'=>q H' g')
theorem Xgf {t u:TT}{f g:FT}(h:TOk K C E Γ Δ t f)(h':TOk K C E Γ Δ u g):TOk K C E Γ Δ (tAnd t u) (Dl.Zxz f g):=fun H0 Hb H σ ρ A Q I p=>h H0 Hb H σ ρ A _ I (p.bind.imp (fun b q H' g'=>by
  cases b with
  | true=>exact h' H0 Hb H' σ ρ A Q (I.mono g') (Yd.imp q (fun b q H2 g2=>q H2 (g'.trans g2)) fun c x q H2 g2=>q H2 (g'.trans g2))
  | false=>exact q H' g') fun c x q H' g'=>q H' g')
theorem Xng {t u:TT}{f g:FT}(h:TOk K C E Γ Δ t f)(h':TOk K C E Γ Δ u g):TOk K C E Γ Δ (tOr t u) (Dl.cOr f g):=fun H0 Hb H σ ρ A Q I p=>h H0 Hb H σ ρ A _ I (p.bind.imp (fun b q H' g'=>by
  cases b with
  | false=>exact h' H0 Hb H' σ ρ A Q (I.mono g') (Yd.imp q (fun b q H2 g2=>q H2 (g'.trans g2)) fun c x q H2 g2=>q H2 (g'.trans g2))
  | true=>exact q H' g') fun c x q H' g'=>q H' g')
theorem Xiy:TOk K C E Γ Δ tYes Dl.Zbg:=fun _ _ H _ _ _ _ _ p=>p H (Xw.refl _)
theorem EOk.run {t:TE}{f:FE}(h:EOk K C E Γ Δ m S t f){H0 Hb H H1:Hp}{σ:St}{ρ:Yp}{A:Nat→List Addr}{Q:VK}(I:Xb K C H0 Hb H Γ Δ σ ρ A)(g:Xw H H1)
  (p:Yd (f ρ) (fun d=>∀v H',Xw H H'→Res K C m S H A d v H'→Q v H') (fun c x=>∀H',Xw H H'→EC C E c x H')):t σ H1 Q:=
 h H0 Hb H1 σ ρ A Q (I.mono g) (p.imp (fun d q v H2 g2 r=>q v H2 (g.trans g2) (r.later g (Xw.refl _))) fun c x q H2 g2=>q H2 (g.trans g2))
theorem Xhx {ta tb:TE}{fa fb:FE}(ha:EOk K C E Γ Δ m1 S1 ta fa)(hb:EOk K C E Γ Δ m S tb fb):EOk K C E Γ Δ m S (Xda ta tb) (Dl.Xfu fa fb):=fun H0 Hb H σ ρ A Q I p=>ha H0 Hb H σ ρ A _ I (p.bind.imp (fun d q v H' g r=>by
  obtain ⟨B,r,_⟩:=r
  cases d with
  | bl b =>
    obtain ⟨rfl,_⟩:=r
    refine ⟨b,rfl,?_⟩
    cases b with
    | true=>exact hb.run I g q
    | false=>exact q _ H' g (Res.flat rpB)
  | _=>exact q.elim) fun c x q H' g'=>q H' g')
theorem Xkr {ta tb:TE}{fa fb:FE}(ha:EOk K C E Γ Δ m1 S1 ta fa)(hb:EOk K C E Γ Δ m S tb fb):EOk K C E Γ Δ m S (tOrV ta tb) (Dl.fOr fa fb):=fun H0 Hb H σ ρ A Q I p=>ha H0 Hb H σ ρ A _ I (p.bind.imp (fun d q v H' g r=>by
  obtain ⟨B,r,_⟩:=r
  cases d with
  | bl b =>
    obtain ⟨rfl,_⟩:=r
    refine ⟨b,rfl,?_⟩
    cases b with
    | false=>exact hb.run I g q
    | true=>exact q _ H' g (Res.flat rpB)
  | _=>exact q.elim) fun c x q H' g'=>q H' g')
theorem Xou {tc:TT}{ta tb:TE}{fc:FT}{fa fb:FE}(hc:TOk K C E Γ Δ tc fc)(ha:EOk K C E Γ Δ m S ta fa)(hb:EOk K C E Γ Δ m S tb fb):EOk K C E Γ Δ m S (tIf tc ta tb) (Dl.fIf fc fa fb):=
  fun H0 Hb H σ ρ A Q I p=>hc H0 Hb H σ ρ A _ I (p.bind.imp (fun b q H' g=>by
    cases b with
    | true=>exact ha.run I g q
    | false=>exact hb.run I g q) fun c x q H' g'=>q H' g')
theorem Zwi {r r':R2}{g g':D→D→Option D}{ta tb tc:TE}{fa fb fc:FE}(hg:GOk K C r g)(hg':GOk K C r' g')(hbl:∀x y d,g x y=some d→∃b,d=.bl b)(ha:EOk K C E Γ Δ m1 S1 ta fa)(hb:EOk K C E Γ Δ m2 S2 tb fb)(hc:EOk K C E Γ Δ m3 S3 tc fc) :
    EOk K C E Γ Δ 2 [] (Zqf r r' ta tb tc) (Dl.Ziy g g' fa fb fc):=
  fun H0 Hb H σ ρ A Q I p=>ha H0 Hb H σ ρ A _ I (p.bind.imp (fun x q vx H1 g1 r1=>hb H0 Hb H1 σ ρ A _ (I.mono g1) (q.bind.imp (fun y q vy H2 g2 r2=>by
    obtain ⟨z,e,q⟩:=Zet q.bind
    obtain ⟨Bx,r1,_⟩:=r1
    obtain ⟨By,r2,_⟩:=r2
    obtain ⟨b,rfl⟩:=hbl _ _ _ e
    refine hg H2 x y _ vx vy Bx By _ (r1.same g2) r2 e fun v H3 B g3 r3 _ _=>?_
    obtain ⟨rfl,_⟩:=r3
    refine ⟨b,rfl,?_⟩
    have g03:=g1.trans (g2.trans g3)
    cases b with
    | false=>exact q _ H3 g03 (Res.flat rpB)
    | true =>
      refine hc H0 Hb H3 σ ρ A _ (I.mono g03) (q.bind.imp (fun w q vw H4 g4 r4=>?_) fun c x q H' g'=>q H' (g03.trans g'))
      obtain ⟨d,e',q⟩:=Zet q
      obtain ⟨Bw,r4,_⟩:=r4
      exact hg' H4 y w d vy vw By Bw Q (r2.same (g3.trans g4)) r4 e' fun v H' B g5 r5 h1 h2=>q v H' (g03.trans (g4.trans g5)) (Res.new r5 h1 fun a ha=>(g03.trans g4).free (h2 a ha)))
    fun c x q H' g'=>q H' (g1.trans g'))) fun c x q H' g'=>q H' g')
theorem bl_le {x y d:D}(h:Dl.gLe x y=some d):∃b,d=.bl b:=by unfold Dl.gLe at h;split at h<;>cases h;exact ⟨_,rfl⟩
noncomputable def spD (K:Frag)(C:String→Addr)(n mr:Nat)(F:List D→R D):Sp:=fun vs H Q E=>∃ds B,ds.length=n∧RpA K C H ds vs B∧
 Yd (F ds) (fun d=>∀v H',Xw H H'→Res K C mr [] H (fun _=>[]) d v H'→Q v H') (fun c x=>∀H',Xw H H'→EC C E c x H')
theorem InS.none {A:Nat→List Addr}{a:Addr}(h:InS A [] a):False:=by
 obtain ⟨p,hp,_⟩:=h
 cases hp
theorem Res.reA {H H':Hp}{A A':Nat→List Addr}{d:D}{v:V}(r:Res K C m [] H A d v H'):Res K C m S H A' d v H':=by
 obtain ⟨B,r1,r2,r3,r4⟩:=r
 exact ⟨B,r1,fun a ha=>(r2 a ha).imp id fun h=>h.none.elim,r3,r4⟩
theorem Zra {n:Nat}{F:List D→R D}{t:TA}{f:FA}(ha:AOk K C E Γ Δ m S t f)(hn:∀ρ ds,f ρ=.ok ds→ds.length=n):EOk K C E Γ Δ mr [] (Zop (spD K C n mr F) [] E t) (Dl.Zy F f):=
  fun H0 Hb H σ ρ A Q I p=>Xhk (ha H0 Hb H σ ρ A _ I (by
    have p':=p.bind
    cases e:f ρ with
    | bad=>rw [e] at p';exact p'
    | err c x=>rw [e] at p';exact p'
    | ok ds =>
      rw [e] at p'
      intro vs H1 g1 r1
      obtain ⟨B,r1,_⟩:=r1
      exact ⟨ds,B,hn ρ ds e,r1,Yd.imp p' (fun d q v H' g2 r=>q v H' (g1.trans g2) ((r.later g1 (Xw.refl _)).reA)) fun c x q H' g'=>q H' (g1.trans g')⟩))
theorem Xfo (ρ:Yp)(ds:List D)(h:Dl.Zt ρ=.ok ds):ds.length=0:=by cases h;rfl
theorem Zkv {n:Nat}{fe:FE}{f:FA}(hf:∀ρ ds,f ρ=.ok ds→ds.length=n)(ρ:Yp)(ds:List D)(h:Dl.Zc fe f ρ=.ok ds):ds.length=n+1:=by
 unfold Dl.Zc at h
 cases e:fe ρ with
 | ok x =>
  rw [e] at h
  cases e':f ρ with
  | ok xs =>
   rw [e'] at h
   cases h
   rw [length_cons,hf ρ xs e']
  | err c x=>rw [e'] at h;cases h
  | bad=>rw [e'] at h;cases h
 | err c x=>rw [e] at h;cases h
 | bad=>rw [e] at h;cases h
def Goes (K:Frag)(C:String→Addr)(J:It)(ds:List D)(Hb:Hp):Prop:=∀H2,Xw Hb H2→(∀i,i<ds.length→J.go i H2)∧(∀i,ds.length≤i→J.stop i H2)∧
 ∀i x H3,i<ds.length→J.yld i H2 x H3→Xw H2 H3∧∃d B,ds[i]?=some d∧Rp K C H3 d x B∧∀a∈B,Hb a≠none
def IOk (K:Frag)(C:String→Addr)(E:XK)(Γ Δ:List Nat)(S:List (Nat×Bool))(wi:TI)(f:FI):Prop:=∀(H0 Hb H:Hp) (σ:St) (ρ:Yp) (A:Nat→List Addr) (Rr:It→Hp→Prop),Xb K C H0 Hb H Γ Δ σ ρ A→
  Yd (f ρ) (fun ds=>∀J H' W,Xw H H'→(∀a∈W,(∃o,H' a=some o∧IsM o)∧(H a=none∨InS A S a))→ds.length≤Dl.lim→
    (∀Hc,Agree W H' Hc→Goes K C J ds Hc)→Rr J H') (fun c x=>∀H',Xw H H'→EC C E c x H')→wi σ H Rr
theorem Zoo {J:It}{ds:List D}{vs:List V}{B:List Addr}{Hc:Hp}(r:RpA K C Hc ds vs B)(h:∀H2,Xw Hc H2→(∀i,i<vs.length→J.go i H2)∧(∀i,vs.length≤i→J.stop i H2)∧∀i x H3,J.yld i H2 x H3→H3=H2∧(i<vs.length→vs[i]?=some x)):Goes K C J ds Hc:=fun H2 g=>by
 obtain ⟨h1,h2,h3⟩:=h H2 g
 have hl:=r.len
 refine ⟨fun i hi=>h1 i (by omega),fun i hi=>h2 i (by omega),fun i x H3 hi y=>?_⟩
 obtain ⟨e,y2⟩:=h3 i x H3 y
 subst e
 obtain ⟨d,Bd,q1,q2,q3⟩:=r.get' (y2 (by omega))
 refine ⟨Xw.refl _,d,Bd,q1,q2.same g,fun a ha z=>?_⟩
 obtain ⟨xs,e,_⟩:=q2.isl a ha
 rw [e] at z
 cases z
theorem Zlp {a:Addr}{ds:List D}{vs:List V}{B:List Addr}{Hc:Hp}(r:RpA K C Hc ds vs B)(h:∀H2,Xw Hc H2→SqL K H2 a vs):Goes K C (Itl K a) ds Hc:=Zoo r fun H2 g=>by
 have q:=h H2 g
 exact ⟨fun i hi=>⟨vs,vs[i],q,by simp [hi]⟩,fun i hi=>⟨vs,q,hi⟩,fun i x H3 y=>⟨y.1,fun _=>y.2 vs q⟩⟩
theorem Zym {a:Addr}{ds:List D}{vs:List V}{B:List Addr}{Hc:Hp}(r:RpA K C Hc ds vs B)(h:∀H2,Xw Hc H2→SqT K H2 a vs):Goes K C (Itt K a) ds Hc:=Zoo r fun H2 g=>by
 have q:=h H2 g
 exact ⟨fun i hi=>⟨vs,vs[i],q,by simp [hi]⟩,fun i hi=>⟨vs,q,hi⟩,fun i x H3 y=>⟨y.1,fun _=>y.2 vs q⟩⟩
theorem Zye {lo:Int}{n:Nat}{Hc:Hp}:Goes K C (Itr lo n) (Dl.Zek lo n) Hc:=Zoo (vs:=Znt lo n) RpA.rng fun H2 _=>by
 have hl:(Znt lo n).length=n:=by simp [Znt]
 refine ⟨fun i hi=>by rw [hl] at hi;exact hi,fun i hi=>by rw [hl] at hi;exact hi,fun i x H3 y=>⟨y.1,fun hi=>?_⟩⟩
 rw [hl] at hi
 rw [y.2]
 simp [Znt,hi]
theorem FzL.keep {a:Addr}{xs:List V}{H Hb:Hp}(h:FzL K H a xs)(hk:∀b o,H b=some o→¬IsM o→Hb b=some o):FzL K Hb a xs:=by
 rcases h with ⟨o,h⟩ | h
 ·exact .inl ⟨o,hk a _ h (fun z=>by cases z)⟩
 ·exact .inr h
theorem FzL.same {a:Addr}{xs:List V}{H Hb:Hp}(h:FzL K H a xs)(g:Xw H Hb):FzL K Hb a xs:=h.keep fun b o q _=>g b o q
theorem Zzv {t:TE}{f:FE}(h:EOk K C E Γ Δ m S t f):IOk K C E Γ Δ S (Zyk K t) (Dl.Zbk f):=fun H0 Hb H σ ρ A Rr I p=>h H0 Hb H σ ρ A _ I (p.bind.imp (fun d q v H' g r=>by
  obtain ⟨B,r,r',_⟩:=r
  cases d with
  | lst ds =>
    obtain ⟨a,xs,B',rfl,e2,e3,e4⟩:=r
    subst e4
    simp only at q
    split at q
    · rename_i hl
      refine ⟨a,rfl,⟨xs,SqL.of e2⟩,q _ H' (a::B') g (fun b hb=>?_) hl fun Hc h1=>Zlp (e3.agree h1 fun b hb=>.tail _ hb) fun H2 g2=>SqL.of (g2 _ _ ((h1.1 a (.head _)).trans e2))⟩
      rcases List.mem_cons.mp hb with z | z
      · rw [z]
        exact ⟨⟨_,e2,.lst⟩,r' a (.head _)⟩
      · exact ⟨e3.isl b z,r' b (.tail _ z)⟩
    · exact q.elim
  | scr ns =>
    obtain ⟨a,rfl,e2,_⟩:=r
    simp only at q
    split at q
    · rename_i hl
      exact ⟨a,rfl,⟨_,e2.sq⟩,q _ H' [] g (fun b hb=>nomatch hb) (by rw [length_map];exact hl) fun Hc h2=>Zlp RpA.ints fun H2 g2=>((e2.keep h2.2).same g2).sq⟩
    · exact q.elim
  | _=>exact q.elim) fun c x q H' g'=>q H' g')
theorem Xgb {t:TE}{f:FE}(h:EOk K C E Γ Δ m S t f):IOk K C E Γ Δ S (iTup K t) (Dl.Xkf f):=fun H0 Hb H σ ρ A Rr I p=>h H0 Hb H σ ρ A _ I (p.bind.imp (fun d q v H' g r=>by
  obtain ⟨B,r,r',_⟩:=r
  cases d with
  | tup ds =>
    obtain ⟨a,xs,rfl,e2,e3⟩:=r
    simp only at q
    split at q
    · rename_i hl
      exact ⟨a,rfl,⟨xs,SqT.of e2⟩,q _ H' B g (fun b hb=>⟨e3.isl b hb,r' b hb⟩) hl fun Hc h2=>Zym (e3.agree h2 fun b hb=>hb) fun H2 g2=>SqT.of (g2 _ _ (h2.2 a _ e2 fun z=>by cases z))⟩
    · exact q.elim
  | _=>exact q.elim) fun c x q H' g'=>q H' g')
theorem Xbd (lo:Int)(n:Nat):(Dl.Zek lo n).length=n:=by simp [Dl.Zek]
theorem Xbz {t:TA}{f:FA}(h:AOk K C E Γ Δ m S t f):IOk K C E Γ Δ [] (Xck t) (Dl.Zds f):=fun H0 Hb H σ ρ A Rr I p=>h H0 Hb H σ ρ A _ I (p.bind.imp (fun ds q vs H' g r=>by
  obtain ⟨B,r,_⟩:=r
  split at q
  · split at q
    · rename_i hl
      obtain ⟨v,rfl,r1⟩:=r.one'
      obtain ⟨rfl,_⟩:=r1
      exact ⟨_,rfl,by omega,by omega,q _ H' [] g (fun b hb=>nomatch hb) (by rw [Xbd];show _≤1000000;omega) fun Hc _=>Zye⟩
    · exact q.elim
  · exact q.elim) fun c x q H' g'=>q H' g')
theorem Zqx {J:It}{ds:List D}{Hc H:Hp}{Dd:Addr}{k:Nat}{g:TG}{tc:TT}{te:TE}{σ:St}{Rr:Hp→Prop}(go:Goes K C J ds Hc)(Pv:Nat→Hp→Prop)(h0:Pv 0 (upd H Dd (.lst [])))(hb:∀i H,Pv i H→Xw Hc H)
    (hs:∀i d x B H H3,ds[i]?=some d→Pv i H→Xw H H3→Rp K C H3 d x B→(∀a∈B,Hc a≠none)→∀os:St,os.length=k→g x (σ++os) H3 fun σ' Hg=>(∃os',os'.length=k∧σ'=σ++os')∧tc σ' Hg fun b H2=>if b=true then te σ' H2 fun v H3=>∃ys,H3 Dd=some (.lst ys)∧ys.length<sizeLine∧Pv (i+1) (upd H3 Dd (.lst (ys++[v]))) else Pv (i+1) H2)
    (hd:∀H,Pv ds.length H→Rr H) :
    ∃W:Nat→Nat→Hp→Prop,(∃m,W 0 m (upd H Dd (.lst [])))∧∀i m H,W i m H→
      (J.stop i H∧Rr H)∨(J.go i H∧∃N:Hp→Prop,(∀H',N H'→∃m',m'<m∧W (i+1) m' H')∧∀x H',J.yld i H x H'→∀os:St,os.length=k→g x (σ++os) H' fun σ' Hg=>(∃os',os'.length=k∧σ'=σ++os')∧tc σ' Hg fun b H2 =>
        if b=true then te σ' H2 fun v H3=>∃ys,H3 Dd=some (.lst ys)∧ys.length<sizeLine∧N (upd H3 Dd (.lst (ys++[v])))
        else N H2):=by
  refine ⟨fun i m H=>m=ds.length - i∧i≤ds.length∧Pv i H,⟨ds.length,by simp,zero_le _,h0⟩,?_⟩
  rintro i m H1 ⟨rfl,hi,p⟩
  obtain ⟨g1,g2,g3⟩:=go H1 (hb i H1 p)
  by_cases hlt:i<ds.length
  · refine .inr ⟨g1 i hlt,Pv (i+1),fun H' p'=>⟨ds.length - (i+1),by omega,rfl,hlt,p'⟩,fun x H' y=>?_⟩
    obtain ⟨e,d,B,y1,y2,y3⟩:=g3 i x H' hlt y
    exact hs i d x B H1 H' y1 p e y2 y3
  · have e:i=ds.length:=by omega
    subst e
    exact .inl ⟨g2 _ (le_refl _),hd H1 p⟩
theorem Xhr {J:It}{ds:List D}{Hc H:Hp}{g:TG}{tb:TS}{Dd:Ends}{σ:St}(go:Goes K C J ds Hc)(Pv:Nat→St→Hp→Prop)(h0:Pv 0 σ H)(hb:∀i σ H,Pv i σ H→Xw Hc H)
  (hs:∀i d x B σ H H3,ds[i]?=some d→Pv i σ H→Xw H H3→Rp K C H3 d x B→(∀a∈B,Hc a≠none)→g x σ H3 fun σ2 H2=>tb {Dd with nx:=Pv (i+1),ct:=Pv (i+1),bk:=Dd.nx} σ2 H2) (hd:∀σ H,Pv ds.length σ H→Dd.nx σ H) :
  ∃W:Nat→Nat→St→Hp→Prop,(∃m,W 0 m σ H)∧∀i m σ H,W i m σ H→
   (J.stop i H∧Dd.nx σ H)∨(J.go i H∧∃N:St→Hp→Prop,(∀σ' H',N σ' H'→∃m',m'<m∧W (i+1) m' σ' H')∧∀x H',J.yld i H x H'→g x σ H' fun σ2 H2=>tb {Dd with nx:=N,ct:=N,bk:=Dd.nx} σ2 H2):=by
 refine ⟨fun i m σ H=>m=ds.length - i∧i≤ds.length∧Pv i σ H,⟨ds.length,by simp,zero_le _,h0⟩,?_⟩
 rintro i m σ H1 ⟨rfl,hi,p⟩
 obtain ⟨g1,g2,g3⟩:=go H1 (hb i σ H1 p)
 by_cases hlt:i<ds.length
 ·refine .inr ⟨g1 i hlt,Pv (i+1),fun σ' H' p'=>⟨ds.length - (i+1),by omega,rfl,hlt,p'⟩,fun x H' y=>?_⟩
  obtain ⟨e,d,B,y1,y2,y3⟩:=g3 i x H' hlt y
  exact hs i d x B σ H1 H' y1 p e y2 y3
 ·have e:i=ds.length:=by omega
  subst e
  exact .inl ⟨g2 _ (le_refl _),hd σ H1 p⟩
theorem Xb.more {H0 Hb H:Hp}{σ:St}{ρ:Yp}{A:Nat→List Addr}(I:Xb K C H0 Hb H Γ Δ σ ρ A)(os:St):Xb K C H H H [] [] (σ++os) (ρ++List.replicate os.length none) A:=by
 refine ⟨Xw.refl _,Xw.refl _,by rw [length_append,length_append,I.len,length_replicate],fun i e h=>?_,fun i h=>?_,(fun _ h=>nomatch h),(fun _ h=>nomatch h),(fun _ h=>nomatch h)⟩
 ·by_cases hi:i<ρ.length
  ·rw [getElem?_append_left hi] at h
   obtain ⟨w,q1,q2⟩:=I.rep i e h
   refine ⟨w,?_,q2⟩
   rw [getElem?_append_left (by rw [I.len];exact hi)]
   exact q1
  ·rw [getElem?_append_right (by omega)] at h
   have hm:=mem_of_getElem? h
   rw [List.mem_replicate] at hm
   exact absurd hm.2 (by intro z;cases z)
 ·refine I.nil i fun e h'=>h e ?_
  rw [getElem?_append_left (List.getElem?_eq_some_iff.mp h').1]
  exact h'
def NOk (K:Frag)(C:String→Addr)(n k:Nat)(g:TG)(b:FB):Prop:=∀(H:Hp) (σ os:St) (ρ:Yp) (A:Nat→List Addr) (d:D) (v:V) (B:List Addr) (Rr:St→Hp→Prop),σ.length=n→os.length=k→Xb K C H H H [] [] (σ++os) ρ A→Rp K C H d v B→
 Yd (b d ρ) (fun ρ'=>∀os' A',os'.length=k→Xb K C H H H [] [] (σ++os') ρ' A'→Rr (σ++os') H) (fun _ _=>False)→g v (σ++os) H Rr
def Xoj (K:Frag)(C:String→Addr)(n k:Nat)(g:TGs)(b:List D→Yp→R Yp):Prop:=∀(H:Hp) (σ os:St) (ρ:Yp) (A:Nat→List Addr) (d:List D) (v:List V) (B:List Addr) (Rr:St→Hp→Prop),σ.length=n→os.length=k→Xb K C H H H [] [] (σ++os) ρ A→RpA K C H d v B→
 Yd (b d ρ) (fun ρ'=>∀os' A',os'.length=k→Xb K C H H H [] [] (σ++os') ρ' A'→Rr (σ++os') H) (fun _ _=>False)→g v (σ++os) H Rr
theorem Ziz (k:Nat)(b:FB)(c:FT)(e:FE)(ρ:Yp)(xs:List D){i:Nat}{x:D}(h:xs[i]?=some x):Dl.Yv k b c e ρ (xs.drop i)=(b x (ρ++List.replicate k none)).calm.bind fun ρ1=>(c ρ1).bind fun t=>if t then (e ρ1).bind fun y=>(Dl.Yv k b c e ρ (xs.drop (i+1))).bind fun ys=>.ok (y::ys) else Dl.Yv k b c e ρ (xs.drop (i+1)):=by
 obtain ⟨hi,rfl⟩:=List.getElem?_eq_some_iff.mp h
 rw [List.drop_eq_getElem_cons hi]
 rfl
theorem Zcl {α:Type}{r:R α}{ok:α→Prop}{er:String→Option Int→Prop}(h:Yd r.calm ok er):Yd r ok (fun _ _=>False):=by
 cases r with
 | ok a=>exact h
 | err c x=>exact h
 | bad=>exact h
theorem get_set {α:Type}{l:List α}{i j:Nat}{x y:α}(h:(l.set i x)[j]?=some y):(j=i∧i<l.length∧y=x)∨(j≠i∧l[j]?=some y):=by
 by_cases e:i=j
 ·subst e
  rw [List.getElem?_set_self'] at h
  by_cases hi:i<l.length
  ·rw [getElem?_eq_getElem hi] at h
   simp at h
   exact .inl ⟨rfl,hi,h.symm⟩
  ·rw [getElem?_eq_none (by omega)] at h
   cases h
 ·rw [getElem?_set_ne e] at h
  exact .inr ⟨fun z=>e z.symm,h⟩
theorem Xb.put {H0 Hb H:Hp}{σ:St}{ρ:Yp}{A:Nat→List Addr}{i:Nat}{d:D}{v:V}{B:List Addr}(I:Xb K C H0 Hb H Γ Δ σ ρ A)(r:Rp K C H d v B)
  (h1:∀j∈Γ',j≠i→j∈Γ∧∀a l,A j=a::l→a∉B)
  (h2:i∈Γ'→(∀a∈B,H0 a=none)∧∀a l,B=a::l→Hb a=none∧a∉l∧∀j,j≠i→a∉A j)
  (h3:∀j∈Δ',j≠i→j∈Δ∧∀a∈A j,a∉B)
  (h4:i∈Δ'→B.Nodup∧(∀j,j≠i→∀a∈B,a∉A j)∧∀a∈B,Hb a=none):∃A',Xb K C H0 Hb H Γ' Δ' (σ.set i (some v)) (ρ.set i (some d)) A'∧∀j a,a∈A' j→a∈B∨a∈A j:=by
 by_cases hi:i<ρ.length
 ·refine ⟨fun j=>if j=i then B else A j,⟨I.s0,I.same,by rw [length_set,length_set,I.len],fun j e h=>?_,fun j h=>?_,fun j hj a ha=>?_,fun j hj a l e=>?_,fun j hj=>?_⟩,fun j a ha=>?_⟩
  ·rcases get_set h with ⟨e1,_,e2⟩ | ⟨e1,e2⟩
   ·subst e1
    cases e2
    refine ⟨v,?_,by rw [if_pos rfl];exact r⟩
    rw [getElem?_set_self (by rw [I.len];exact hi)]
   ·obtain ⟨w,q1,q2⟩:=I.rep j e e2
    refine ⟨w,?_,by rw [if_neg e1];exact q2⟩
    rw [getElem?_set_ne (fun z=>e1 z.symm)]
    exact q1
  ·by_cases e:j=i
   ·subst e
    exact absurd (getElem?_set_self hi) (h d)
   ·rw [if_neg e]
    refine I.nil j fun x hx=>h x ?_
    rw [getElem?_set_ne (fun z=>e z.symm)]
    exact hx
  ·by_cases e:j=i
   ·subst e
    rw [if_pos rfl] at ha
    exact (h2 hj).1 a ha
   ·rw [if_neg e] at ha
    exact I.loc j (h1 j hj e).1 a ha
  ·by_cases e':j=i
   ·subst e'
    rw [if_pos rfl] at e
    obtain ⟨q0,q1,q2⟩:=(h2 hj).2 a l e
    refine ⟨q0,q1,fun k hk=>?_⟩
    rw [if_neg hk]
    exact q2 k hk
   ·rw [if_neg e'] at e
    obtain ⟨q0,q⟩:=h1 j hj e'
    obtain ⟨q3,q1,q2⟩:=I.top j q0 a l e
    refine ⟨q3,q1,fun k hk=>?_⟩
    by_cases ek:k=i
    ·rw [if_pos ek];exact q a l e
    ·rw [if_neg ek];exact q2 k hk
  ·by_cases e:j=i
   ·subst e
    rw [if_pos rfl]
    obtain ⟨q1,q2,q3⟩:=h4 hj
    refine ⟨q1,fun k hk a ha=>?_,q3⟩
    rw [if_neg hk]
    exact q2 k hk a ha
   ·rw [if_neg e]
    obtain ⟨q0,q⟩:=h3 j hj e
    obtain ⟨q1,q2,q3⟩:=I.deep j q0
    refine ⟨q1,fun k hk a ha=>?_,q3⟩
    by_cases ek:k=i
    ·rw [if_pos ek];exact q a ha
    ·rw [if_neg ek];exact q2 k hk a ha
  ·have ha:a∈(if j=i then B else A j):=ha
   by_cases e:j=i
   ·rw [if_pos e] at ha;exact .inl ha
   ·rw [if_neg e] at ha;exact .inr ha
 ·have e1:ρ.set i (some d)=ρ:=List.set_eq_of_length_le (by omega)
  have e2:σ.set i (some v)=σ:=List.set_eq_of_length_le (by rw [I.len];omega)
  have e3:A i=[]:=I.nil i fun x h=>by
   have:=(List.getElem?_eq_some_iff.mp h).1
   omega
  refine ⟨A,?_,fun j a ha=>.inr ha⟩
  rw [e1,e2]
  refine ⟨I.s0,I.same,I.len,I.rep,I.nil,fun j hj a ha=>?_,fun j hj a l e=>?_,fun j hj=>?_⟩
  ·by_cases e:j=i
   ·subst e;rw [e3] at ha;cases ha
   ·exact I.loc j (h1 j hj e).1 a ha
  ·by_cases e':j=i
   ·subst e';rw [e3] at e;cases e
   ·exact I.top j (h1 j hj e').1 a l e
  ·by_cases e:j=i
   ·subst e
    rw [e3]
    exact ⟨nodup_nil,fun _ _ _ h=>(nomatch h),fun _ h=>(nomatch h)⟩
   ·exact I.deep j (h3 j hj e).1
theorem Xb.writeO {H0 Hb H:Hp}{σ:St}{ρ:Yp}{A:Nat→List Addr}{i:Nat}{es:List D}{ys:List V}{o':HO}{d':D}{B':List Addr}{a:Addr}{l:List Addr}(I:Xb K C H0 Hb H Γ Δ σ ρ A)(hi:i∈Γ)(hA:A i=a::l)(hl:i<ρ.length)(hs:σ[i]?=some (some (.ref a)))
  (mk:∀H',H' a=some o'→RpA K C H' es ys B'→Rp K C H' d' (.ref a) (a::B')) (r:RpA K C H es ys B') (hn:∀b∈B',H0 b=none) (ha:a∉B')
  (h1:∀j∈Γ',j≠i→j∈Γ∧∀b l,A j=b::l→b∉B')
  (h2:∀j∈Δ',j≠i→j∈Δ∧∀b∈A j,b∉B')
  (h3:i∈Δ'→B'.Nodup∧(∀j,j≠i→∀b∈B',b∉A j)∧∀b∈B',Hb b=none):∃A',Xb K C H0 Hb (upd H a o') Γ' Δ' σ (ρ.set i (some d')) A':=by
 obtain ⟨xs,hxs,hm⟩:=I.is (j:=i) (a:=a) (by rw [hA];exact .head _)
 have hne:∀j,j≠i→a∉A j:=(I.top i hi a l hA).2.2
 have hb0:Hb a=none:=(I.top i hi a l hA).1
 have h0:H0 a=none:=I.loc i hi a (by rw [hA];exact .head _)
 have ext:Ext (fun b=>b=a) H (upd H a o'):=fun b o h=>by
  by_cases e:b=a
  ·subst e
   rw [hxs] at h
   cases h
   exact .inr ⟨rfl,hm⟩
  ·rw [Xq e]
   exact .inl h
 refine ⟨fun j=>if j=i then a::B' else A j,I.s0,fun b o h=>?_,by rw [length_set,I.len],fun j e h=>?_,fun j h=>?_,fun j hj b hb=>?_,fun j hj b l' e=>?_,fun j hj=>?_⟩
 ·rw [Xq (Xj h hb0)]
  exact I.same b o h
 ·rcases get_set h with ⟨e1,_,e2⟩ | ⟨e1,e2⟩
  ·subst e1
   cases e2
   refine ⟨.ref a,hs,?_⟩
   rw [if_pos rfl]
   exact mk _ Ya (r.ext ext (fun b hb h=>ha (by rw [h] at hb;exact hb)))
  ·obtain ⟨w,q1,q2⟩:=I.rep j e e2
   refine ⟨w,q1,?_⟩
   rw [if_neg e1]
   exact q2.ext ext fun b hb h=>hne j e1 (by rw [h] at hb;exact hb)
 ·by_cases e:j=i
  ·subst e
   exact absurd (getElem?_set_self hl) (h _)
  ·rw [if_neg e]
   refine I.nil j fun x hx=>h x ?_
   rw [getElem?_set_ne (fun z=>e z.symm)]
   exact hx
 ·by_cases e:j=i
  ·subst e
   rw [if_pos rfl] at hb
   rcases List.mem_cons.mp hb with z | z
   ·rw [z];exact h0
   ·exact hn b z
  ·rw [if_neg e] at hb
   exact I.loc j (h1 j hj e).1 b hb
 ·by_cases e':j=i
  ·subst e'
   rw [if_pos rfl] at e
   cases e
   refine ⟨hb0,ha,fun k hk=>?_⟩
   rw [if_neg hk]
   exact hne k hk
  ·rw [if_neg e'] at e
   obtain ⟨q0,q⟩:=h1 j hj e'
   obtain ⟨q3,q1,q2⟩:=I.top j q0 b l' e
   refine ⟨q3,q1,fun k hk=>?_⟩
   by_cases ek:k=i
   ·rw [if_pos ek]
    intro z
    rcases List.mem_cons.mp z with z | z
    ·exact hne j e' (by rw [e,z];exact .head _)
    ·exact q b l' e z
   ·rw [if_neg ek];exact q2 k hk
 ·by_cases e:j=i
  ·subst e
   rw [if_pos rfl]
   obtain ⟨q1,q2,q3⟩:=h3 hj
   refine ⟨List.nodup_cons.mpr ⟨ha,q1⟩,fun k hk b hb=>?_,fun b hb=>?_⟩
   ·rw [if_neg hk]
    rcases List.mem_cons.mp hb with z | z
    ·rw [z];exact hne k hk
    ·exact q2 k hk b z
   ·rcases List.mem_cons.mp hb with z | z
    ·rw [z];exact hb0
    ·exact q3 b z
  ·rw [if_neg e]
   obtain ⟨q0,q⟩:=h2 j hj e
   obtain ⟨q1,q2,q3⟩:=I.deep j q0
   refine ⟨q1,fun k hk b hb=>?_,q3⟩
   by_cases ek:k=i
   ·rw [if_pos ek]
    intro z
    rcases List.mem_cons.mp z with z | z
    ·exact hne j e (by rw [← z];exact hb)
    ·exact q b hb z
   ·rw [if_neg ek];exact q2 k hk b hb
theorem Xb.write {H0 Hb H:Hp}{σ:St}{ρ:Yp}{A:Nat→List Addr}{i:Nat}{es:List D}{ys:List V}{B':List Addr}{a:Addr}{l:List Addr}(I:Xb K C H0 Hb H Γ Δ σ ρ A)(hi:i∈Γ)(hA:A i=a::l)(hl:i<ρ.length)(hs:σ[i]?=some (some (.ref a)))
  (r:RpA K C H es ys B') (hn:∀b∈B',H0 b=none) (ha:a∉B')
  (h1:∀j∈Γ',j≠i→j∈Γ∧∀b l,A j=b::l→b∉B')
  (h2:∀j∈Δ',j≠i→j∈Δ∧∀b∈A j,b∉B')
  (h3:i∈Δ'→B'.Nodup∧(∀j,j≠i→∀b∈B',b∉A j)∧∀b∈B',Hb b=none):∃A',Xb K C H0 Hb (upd H a (.lst ys)) Γ' Δ' σ (ρ.set i (some (.lst es))) A':=I.writeO hi hA hl hs (fun _ q1 q2=>⟨a,_,_,rfl,q1,q2,rfl⟩) r hn ha h1 h2 h3
theorem Xbo {n k:Nat}(i:Nat)(h1:n≤i)(h2:i<n+k):NOk K C n k (Jp i) (Dl.Zp i):=fun H σ os ρ A d v B Rr hσ hos I r p=>by
 have e:(σ++os).set i (some v)=σ++os.set (i - n) (some v):=by rw [← hσ,set_append_right _ _ (by omega)]
 obtain ⟨A',I',_⟩:=I.put (Γ':=[]) (Δ':=[]) (i:=i) r (fun _ h=>nomatch h) (fun h=>nomatch h) (fun _ h=>nomatch h) (fun h=>nomatch h)
 show Rr ((σ++os).set i (some v)) H
 rw [e] at I' ⊢
 exact p _ A' (by rw [length_set];exact hos) I'
theorem Xgv {n k:Nat}:Xoj K C n k Zwb Dl.Zcv:=fun H σ os ρ A d v B Rr hσ hos I r p=>by
 cases d with
 | nil=>exact ⟨r.1,p _ A hos I⟩
 | cons _ _=>exact p.elim
theorem Zyi {n k:Nat}{g:TG}{gs:TGs}{b:FB}{bs:List D→Yp→R Yp}(h1:NOk K C n k g b)(h2:Xoj K C n k gs bs):Xoj K C n k (Zfa g gs) (Dl.Xn b bs):=fun H σ os ρ A d v B Rr hσ hos I r p=>by
 cases d with
 | nil=>exact p.elim
 | cons d ds =>
  obtain ⟨x,l,B1,B2,e1,e2,e3,e4⟩:=r
  subst e1 e4
  exact ⟨x,l,rfl,h1 H σ os ρ A d x B1 _ hσ hos I e2 (Yd.imp (Yd.bind p) (fun ρ1 q os1 A1 ho1 I1=>h2 H σ os1 ρ1 A1 ds l B2 Rr hσ ho1 I1 e3 q) fun _ _ z=>z)⟩
theorem Xhn {n k:Nat}{gs:TGs}{bs:List D→Yp→R Yp}{l:Nat}(hn:∀ds ρ ρ',bs ds ρ=.ok ρ'→ds.length=l)(h:Xoj K C n k gs bs):NOk K C n k (Zfm K l gs) (Dl.Zcx bs):=fun H σ os ρ A d v B Rr hσ hos I r p=>by
 cases d with
 | tup ds =>
  obtain ⟨a,xs,rfl,e2,e3⟩:=r
  have p':Yd (bs ds ρ) (fun ρ'=>∀os' A',os'.length=k→Xb K C H H H [] [] (σ++os') ρ' A'→Rr (σ++os') H) (fun _ _=>False):=p
  have hl:xs.length=l:=by
   rw [e3.len]
   cases e:bs ds ρ with
   | ok ρ'=>exact hn ds ρ ρ' e
   | err _ _=>rw [e] at p';exact p'.elim
   | bad=>rw [e] at p';exact p'.elim
  exact ⟨a,xs,rfl,SqT.of e2,hl,h H σ os ρ A ds xs B Rr hσ hos I e3 p'⟩
 | _=>exact p.elim
theorem Zkq {n k:Nat}{g:TG}{wi:TI}{tc:TT}{te:TE}{fi:FI}{fb:FB}{fc:FT}{fe:FE}(hi:IOk K C E Γ Δ S wi fi)(hg:NOk K C n k g fb)(hc:TOk K C E0 [] [] tc fc)(he:EOk K C E0 [] [] 2 [] te fe):EOk K C E Γ Δ 2 [] (Zcr k g wi tc te) (Dl.Yy n k fi fb fc fe):=fun H0 Hb H σ ρ A Q I p=>by
  unfold Dl.Yy at p
  split at p
  · rename_i hn
    refine hi H0 Hb H σ ρ A _ I (p.bind.imp (fun ds q J H1 W g1 hW hlen hJ Dd hD=>?_) fun c x q H' g'=>q H' g')
    have I1:=I.mono g1
    have go:Goes K C J ds H1:=hJ H1 ⟨fun _ _=>rfl,fun b o h _=>h⟩
    have q':=Zcl q.bind
    refine Zqx go (fun i H2=>Xw H1 H2∧∃(us:List D) (ys:List V) (B':List Addr),H2 Dd=some (.lst ys)∧us.length≤i∧RpA K C H2 us ys B'∧B'.Nodup∧Dd∉B'∧(∀a∈B',H1 a=none)∧
      Yd (Dl.Yv k fb fc fe ρ (ds.drop i)) (fun zs=>∀v H',Xw H H'→Res K C 2 [] H A (.lst (us++zs)) v H'→Q v H') (fun _ _=>False)) ⟨sameNew hD _,[],[],[],Ya,le_refl _,RpA.nil,nodup_nil,(fun h=>nomatch h),(fun _ h=>nomatch h),q'⟩ (fun _ _ h=>h.1) ?_ ?_
    · rintro i x v Bx H2a H2 hx ⟨g2a,us,ys,B',hD2,hul,ru,nd,hDB,hnew,pq⟩ g2b rx _ os hos
      have g2:=g2a.trans g2b
      have hil:=(List.getElem?_eq_some_iff.mp hx).1
      rw [Ziz _ _ _ _ _ _ hx] at pq
      have I2:=(I1.mono g2).more os
      have pq':=Zcl pq.bind
      rw [← hos] at pq'
      refine hg H2 σ os _ A x v Bx _ (by rw [I.len,hn]) hos I2 rx (pq'.imp (fun ρ1 pq os1 A1 ho1 I3=>⟨⟨os1,ho1,rfl⟩,?_⟩) fun _ _ z=>z)
      refine hc H2 H2 H2 _ _ _ _ I3 (pq.bind.imp (fun b pq H3 g3=>?_) fun _ _ z=>z.elim)
      have hD2':=g2b _ _ hD2
      have ru':=ru.same g2b
      cases b with
      | false =>
        simp only [Bool.false_eq_true,if_false] at pq ⊢
        rw [hos] at pq
        exact ⟨g2.trans g3,us,ys,B',g3 _ _ hD2',by omega,ru'.same g3,nd,hDB,hnew,pq⟩
      | true =>
        simp only [if_true] at pq ⊢
        refine he H2 H2 H3 _ _ _ _ (I3.mono g3) (pq.bind.imp (fun y pq w H4 g4 r4=>?_) fun _ _ z=>z.elim)
        rw [hos] at pq
        obtain ⟨By,ry,hy1,_,hy2⟩:=r4
        have g24:=g3.trans g4
        have hD4:=g24 _ _ hD2'
        have hnewy:∀a∈By,H3 a=none:=fun a ha=>(hy1 a ha).elim id fun z=>z.none.elim
        have hDy:Dd∉By:=fun h=>by
          have z:=hnewy Dd h
          rw [g3 _ _ hD2'] at z
          cases z
        have ext:Ext (fun a=>a=Dd) H4 (upd H4 Dd (.lst (ys++[w]))):=fun b o h=>by
          by_cases e:b=Dd
          · subst e
            rw [hD4] at h
            cases h
            exact .inr ⟨rfl,.lst⟩
          · rw [Xq e]
            exact .inl h
        have hDB':Dd∉B'++By:=fun h=>(List.mem_append.mp h).elim hDB hDy
        refine ⟨ys,hD4,?_,?_,us++[y],ys++[w],B'++By,Ya,by rw [length_append];simp;omega,?_,?_,hDB',?_,?_⟩
        · rw [ru.len]
          exact Zhl (by omega)
        · intro b o h
          have hb:b≠Dd:=Xj h hD
          rw [Xq hb]
          exact (g2.trans g24) b o h
        · exact ((ru'.same g24).app (RpA.one ry)).ext ext fun a ha h=>hDB' (by rw [h] at ha;exact ha)
        · refine List.nodup_append.mpr ⟨nd,hy2 rfl,fun a ha b hb e=>?_⟩
          subst e
          obtain ⟨xs,z,_⟩:=(ru'.same g3).isl a ha
          rw [hnewy a hb] at z
          cases z
        · intro a ha
          rcases List.mem_append.mp ha with h | h
          · exact hnew a h
          · exact (g2.trans g3).free (hnewy a h)
        · exact pq.bind.imp (fun zs pq v H' g' r=>by
            rw [append_assoc] at r
            exact pq v H' g' r) fun _ _ z=>z
    · rintro H2 ⟨g2,us,ys,B',hD2,hul,ru,nd,hDB,hnew,pq⟩
      rw [List.drop_length] at pq
      have pq:∀v H',Xw H H'→Res K C 2 [] H A (.lst (us++[])) v H'→Q v H':=pq
      rw [append_nil] at pq
      refine pq _ H2 (g1.trans g2) ⟨Dd::B',⟨Dd,ys,B',rfl,hD2,ru,rfl⟩,fun a ha=>.inl ?_,(fun z=>nomatch z),fun _=>List.nodup_cons.mpr ⟨hDB,nd⟩⟩
      rcases List.mem_cons.mp ha with h | h
      · rw [h];exact g1.free hD
      · exact g1.free (hnew a h)
  · exact p.elim
end
section
variable {K:Frag}{C:String→Addr}{E:XK}{Γ Δ Γ' Δ' Γ1 Δ1 Γl Δl Γk Δk:List Nat}{m m1 m2 m3 mr:Nat}{S S1 S2 S3:List (Nat×Bool)}{H:Hp}{Q:VK}
theorem Znc.weak {H0 Hb:Hp}{D:Ends}{r:R Fl}(h:Znc K C E mr Γl Δl Γ' Δ' H0 Hb D r)(h1:∀i∈Γ',i∈Γ1)(h2:∀i∈Δ',i∈Δ1):Znc K C E mr Γl Δl Γ1 Δ1 H0 Hb D r:=by
 unfold Znc at *
 refine Yd.imp h (fun fl q=>?_) fun _ _ q=>q
 cases fl with
 | nx ρ'=>exact fun σ' H' A' I=>q σ' H' A' (I.weak h1 h2)
 | ret d=>exact q
 | brk ρ'=>exact q
 | cnt ρ'=>exact q
theorem Xbs {t:TS}{f:FS}(h:SOk K C E mr Γl Δl Γ Δ Γ1 Δ1 t f)(h1:∀i∈Γ',i∈Γ1:=by decide)(h2:∀i∈Δ',i∈Δ1:=by decide):SOk K C E mr Γl Δl Γ Δ Γ' Δ' t f:=fun H0 Hb H σ ρ A D I p =>
 h H0 Hb H σ ρ A D I (p.weak h1 h2)
theorem Xmx:SOk K C E mr Γl Δl Γ Δ Γ Δ Zzi Dl.sNx:=fun _ _ H σ _ A _ I p=>p σ H A I
theorem Zvr:SOk K C E mr Γl Δl Γ Δ Γ' Δ' Zqa Dl.Zrb:=fun _ _ _ _ _ _ _ _ p=>p.elim
theorem Zxf {t u:TS}{f g:FS}(h1:SOk K C E mr Γl Δl Γ Δ Γ1 Δ1 t f)(h2:SOk K C E mr Γl Δl Γ1 Δ1 Γ' Δ' u g):SOk K C E mr Γl Δl Γ Δ Γ' Δ' (Zvw t u) (Dl.Xu f g):=fun H0 Hb H σ ρ A D I p =>
  h1 H0 Hb H σ ρ A _ I (Yd.imp (Yd.bind p) (fun fl q=>by
    cases fl with
    | nx ρ'=>exact fun σ' H' A' I'=>h2 H0 Hb H' σ' ρ' A' D I' q
    | ret d=>exact q
    | brk ρ'=>exact q
    | cnt ρ'=>exact q) fun _ _ q=>q)
theorem Xw.from0 {H0 Hb H H':Hp}{σ:St}{ρ:Yp}{A:Nat→List Addr}(I:Xb K C H0 Hb H Γ Δ σ ρ A)(g:Xw H H'):Xw H0 H':=I.s0.trans (I.same.trans g)
theorem Xb.top_out {H0 Hb H:Hp}{σ:St}{ρ:Yp}{A:Nat→List Addr}(I:Xb K C H0 Hb H Γ Δ σ ρ A){j:Nat}(hj:j∈Γ)(hS:(j,false)∉S){a:Addr}{l:List Addr}(e:A j=a::l):¬InS A S a:=fun h=>by
 obtain ⟨q0,q1,q2⟩:=I.top j hj a l e
 obtain ⟨p,hp,q⟩:=h
 split at q
 ·by_cases ep:p.1=j
  ·rw [ep,e] at q
   exact q1 q
  ·exact q2 p.1 ep (List.mem_of_mem_tail q)
 ·rename_i hf
  by_cases ep:p.1=j
  ·refine hS ?_
   have:p=(j,false):=by
    obtain ⟨p1,p2⟩:=p
    simp at ep hf
    rw [ep,hf]
   rw [← this]
   exact hp
  ·exact q2 p.1 ep q
theorem Xb.deep_out {H0 Hb H:Hp}{σ:St}{ρ:Yp}{A:Nat→List Addr}(I:Xb K C H0 Hb H Γ Δ σ ρ A){j:Nat}(hj:j∈Δ)(hS:∀p∈S,p.1≠j){a:Addr}(e:a∈A j):¬InS A S a:=fun h=>by
 obtain ⟨p,hp,q⟩:=h.mem
 exact (I.deep j hj).2.1 p.1 (hS p hp) a e q
theorem Zqp {i:Nat}{te:TE}{fe:FE}(he:EOk K C E Γ Δ 2 [] te fe)(h1:∀j∈Γ',j=i∨j∈Γ:=by decide)(h2:∀j∈Δ',j=i∨j∈Δ:=by decide):SOk K C E mr Γl Δl Γ Δ Γ' Δ' (Zgg te (Jp i)) (Dl.Yr i fe):=fun H0 Hb H σ ρ A D I p =>
  he H0 Hb H σ ρ A _ I (Yd.imp (Yd.bind p) (fun d q v H1 g1 r=>by
    obtain ⟨B,r1,r2,r3,r4⟩:=r
    have hn:∀a∈B,H a=none:=fun a ha=>(r2 a ha).elim id fun z=>z.none.elim
    have nd:=r4 rfl
    obtain ⟨A',I',_⟩:=(I.mono g1).put (Γ':=Γ') (Δ':=Δ') (i:=i) r1 (fun j hj e=>⟨(h1 j hj).elim (fun z=>absurd z e) id,fun a l e' ha=>I.ne (j:=j) (by rw [e'];exact .head _) (hn a ha)⟩)
      (fun _=>⟨fun a ha=>I.s0.free (I.same.free (hn a ha)),fun a l e=>by subst e;exact ⟨I.same.free (hn a (.head _)),(List.nodup_cons.mp nd).1,fun j _ h=>I.ne h (hn a (.head _))⟩⟩)
      (fun j hj e=>⟨(h2 j hj).elim (fun z=>absurd z e) id,fun a ha hB=>I.ne ha (hn a hB)⟩)
      (fun _=>⟨nd,fun j _ a ha h=>I.ne h (hn a ha),fun a ha=>I.same.free (hn a ha)⟩)
    exact q _ H1 A' I') fun c x q H' g'=>q H' (Xw.from0 I g'))
theorem Zpq {i:Nat}{te:TE}{fe:FE}(he:EOk K C E Γ Δ 1 S te fe)(h0:∀p∈S,p.1∈Γ:=by decide)(h1:∀j∈Γ',j=i∨(j∈Γ∧(j,false)∉S):=by decide)(h2:∀j∈Δ',j≠i∧j∈Δ∧∀p∈S,p.1≠j:=by decide) :
    SOk K C E mr Γl Δl Γ Δ Γ' Δ' (Zgg te (Jp i)) (Dl.Yr i fe):=fun H0 Hb H σ ρ A D I p =>
  he H0 Hb H σ ρ A _ I (Yd.imp (Yd.bind p) (fun d q v H1 g1 r=>by
    obtain ⟨B,r1,r2,r3,r4⟩:=r
    obtain ⟨A',I',_⟩:=(I.mono g1).put (Γ':=Γ') (Δ':=Δ') (i:=i) r1 (fun j hj e=>by
        obtain ⟨q1,q2⟩:=(h1 j hj).elim (fun z=>absurd z e) id
        exact ⟨q1,fun a l e' ha=>(r2 a ha).elim (fun z=>I.ne (j:=j) (by rw [e'];exact .head _) z) (I.top_out q1 q2 e')⟩)
      (fun _=>⟨fun a ha=>(r2 a ha).elim (fun z=>I.s0.free (I.same.free z)) fun z=>by
          obtain ⟨p,hp,z⟩:=z.mem
          exact I.loc p.1 (h0 p hp) a z,fun a l e=>⟨I.same.free (r3 rfl a l e).1,(r3 rfl a l e).2,fun j _ h=>I.ne h (r3 rfl a l e).1⟩⟩)
      (fun j hj e=>⟨(h2 j hj).2.1,fun a ha hB=>(r2 a hB).elim (fun z=>I.ne ha z) (I.deep_out (h2 j hj).2.1 (h2 j hj).2.2 ha)⟩)
      (fun hj=>absurd rfl (h2 i hj).1)
    exact q _ H1 A' I') fun c x q H' g'=>q H' (Xw.from0 I g'))
theorem Xcm {i:Nat}{te:TE}{fe:FE}(he:EOk K C E Γ Δ m S te fe)(h1:∀j∈Γ',j≠i∧j∈Γ∧(j,false)∉S:=by decide)(h2:∀j∈Δ',j≠i∧j∈Δ∧∀p∈S,p.1≠j:=by decide) :
    SOk K C E mr Γl Δl Γ Δ Γ' Δ' (Zgg te (Jp i)) (Dl.Yr i fe):=fun H0 Hb H σ ρ A D I p =>
  he H0 Hb H σ ρ A _ I (Yd.imp (Yd.bind p) (fun d q v H1 g1 r=>by
    obtain ⟨B,r1,r2,r3,r4⟩:=r
    obtain ⟨A',I',_⟩:=(I.mono g1).put (Γ':=Γ') (Δ':=Δ') (i:=i) r1 (fun j hj e=>by
        obtain ⟨_,q1,q2⟩:=h1 j hj
        exact ⟨q1,fun a l e' ha=>(r2 a ha).elim (fun z=>I.ne (j:=j) (by rw [e'];exact .head _) z) (I.top_out q1 q2 e')⟩)
      (fun hj=>absurd rfl (h1 i hj).1)
      (fun j hj e=>⟨(h2 j hj).2.1,fun a ha hB=>(r2 a hB).elim (fun z=>I.ne ha z) (I.deep_out (h2 j hj).2.1 (h2 j hj).2.2 ha)⟩)
      (fun hj=>absurd rfl (h2 i hj).1)
    exact q _ H1 A' I') fun c x q H' g'=>q H' (Xw.from0 I g'))
theorem Xdf {te:TE}{fe:FE}(he:EOk K C E Γ Δ 2 S te fe)(h0:∀p∈S,p.1∈Δ:=by decide):SOk K C E 2 Γl Δl Γ Δ Γ' Δ' (Xjw te) (Dl.Zad fe):=fun H0 Hb H σ ρ A D I p =>
  he H0 Hb H σ ρ A _ I (Yd.imp (Yd.bind p) (fun d q v H1 g1 r=>by
    obtain ⟨B,r1,r2,r3,r4⟩:=r
    refine q v H1 (Xw.from0 I g1) ⟨B,r1,fun a ha=>.inl ((r2 a ha).elim (fun z=>I.s0.free (I.same.free z)) fun z=>?_),(fun z=>nomatch z),r4⟩
    obtain ⟨p,hp,z⟩:=z.mem
    exact I.s0.free ((I.deep p.1 (h0 p hp)).2.2 a z)) fun c x q H' g'=>q H' (Xw.from0 I g'))
theorem Zzw {te:TE}{fe:FE}(he:EOk K C E Γ Δ m S te fe)(h0:∀p∈S,p.1∈Γ:=by decide):SOk K C E 0 Γl Δl Γ Δ Γ' Δ' (Xjw te) (Dl.Zad fe):=fun H0 Hb H σ ρ A D I p =>
  he H0 Hb H σ ρ A _ I (Yd.imp (Yd.bind p) (fun d q v H1 g1 r=>by
    obtain ⟨B,r1,r2,r3,r4⟩:=r
    refine q v H1 (Xw.from0 I g1) ⟨B,r1,fun a ha=>.inl ((r2 a ha).elim (fun z=>I.s0.free (I.same.free z)) fun z=>?_),(fun z=>nomatch z),(fun z=>nomatch z)⟩
    obtain ⟨p,hp,z⟩:=z.mem
    exact I.loc p.1 (h0 p hp) a z) fun c x q H' g'=>q H' (Xw.from0 I g'))
theorem Xni {tc:TT}{t u:TS}{fc:FT}{f g:FS}(hc:TOk K C E Γ Δ tc fc)(h1:SOk K C E mr Γl Δl Γ Δ Γ' Δ' t f)(h2:SOk K C E mr Γl Δl Γ Δ Γ' Δ' u g):SOk K C E mr Γl Δl Γ Δ Γ' Δ' (tIfS tc t u) (Dl.sIf fc f g):=fun H0 Hb H σ ρ A D I p =>
  hc H0 Hb H σ ρ A _ I (Yd.imp (Yd.bind p) (fun b q H1 g1=>by
    cases b with
    | true=>exact h1 H0 Hb H1 σ ρ A D (I.mono g1) q
    | false=>exact h2 H0 Hb H1 σ ρ A D (I.mono g1) q) fun c x q H' g'=>q H' (Xw.from0 I g'))
theorem Zjr {H0 Hb H:Hp}{σ:St}{ρ:Yp}{A:Nat→List Addr}{i:Nat}{ds:List D}(I:Xb K C H0 Hb H Γ Δ σ ρ A)(e:ρ[i]?=some (some (.lst ds))):∃a xs l,σ[i]?=some (some (.ref a))∧H a=some (.lst xs)∧RpA K C H ds xs l∧A i=a::l∧i<ρ.length:=by
 obtain ⟨v,q1,a,xs,l,rfl,q3,q4,q5⟩:=I.rep i _ e
 exact ⟨a,xs,l,q1,q3,q4,q5,(List.getElem?_eq_some_iff.mp e).1⟩
theorem Xbx {i:Nat}{te:TE}{fe:FE}(hi:i∈Γ:=by decide)(he:EOk K C E Γ Δ 2 [] te fe):SOk K C E mr Γl Δl Γ Δ Γ Δ (Zrv (tBM K "list" Zcz (Zst i) (Zcw te Zpm))) (Dl.Zis i fe):=fun H0 Hb H σ ρ A D I p=>by
  unfold Dl.Zis at p
  split at p
  · rename_i ds e
    obtain ⟨a,xs,l,s1,h1,r1,hA,hl⟩:=Zjr I e
    refine ⟨.ref a,s1,.inl ⟨rfl,xs,SqL.of h1⟩,he H0 Hb H σ ρ A _ I (Yd.imp (Yd.bind p) (fun d q v H1 g1 r=>?_) fun c x q H' g'=>q H' (Xw.from0 I g'))⟩
    split at q
    · rename_i hz
      obtain ⟨B,r2,r3,_,r4⟩:=r
      have hn:∀a∈B,H a=none:=fun a ha=>(r3 a ha).elim id fun z=>z.none.elim
      have h1':=g1 _ _ h1
      show Zcz (.ref a) [v] H1 fun _ H3=>D.nx σ H3
      refine Xdq h1' (by rw [r1.len];exact Zhl hz) ?_
      obtain ⟨tb,ta,tt⟩:=I.top i hi a l hA
      have I1:=I.mono g1
      have haB:a∉B:=fun z=>by
        have:=hn a z
        rw [h1] at this
        cases this
      have w1:∀b∈l++B,H0 b=none:=fun b hb=>by
        rcases List.mem_append.mp hb with z | z
        · exact I.loc i hi b (by rw [hA];exact .tail _ z)
        · exact I.s0.free (I.same.free (hn b z))
      have w2:∀j∈Γ,j≠i→j∈Γ∧∀b l',A j=b::l'→b∉l++B:=fun j hj e=>⟨hj,fun b l' e' z=>by
        rcases List.mem_append.mp z with z | z
        · exact (I.top j hj b l' e').2.2 i (fun w=>e w.symm) (by rw [hA];exact .tail _ z)
        · exact I.ne (j:=j) (by rw [e'];exact .head _) (hn b z)⟩
      have w3:∀j∈Δ,j≠i→j∈Δ∧∀b∈A j,b∉l++B:=fun j hj e=>⟨hj,fun b hb z=>by
        rcases List.mem_append.mp z with z | z
        · exact (I.deep j hj).2.1 i (fun w=>e w.symm) b hb (by rw [hA];exact .tail _ z)
        · exact I.ne hb (hn b z)⟩
      have w4:i∈Δ→(l++B).Nodup∧(∀j,j≠i→∀b∈l++B,b∉A j)∧∀b∈l++B,Hb b=none:=fun hd=>by
        obtain ⟨d1,d2,d3⟩:=I.deep i hd
        rw [hA] at d1 d2 d3
        refine ⟨List.nodup_append.mpr ⟨(List.nodup_cons.mp d1).2,r4 rfl,fun x hx y hy e=>?_⟩,fun j hj b hb=>?_,fun b hb=>?_⟩
        · subst e
          exact I.ne (j:=i) (by rw [hA];exact .tail _ hx) (hn x hy)
        · rcases List.mem_append.mp hb with z | z
          · exact d2 j hj b (.tail _ z)
          · exact fun w=>I.ne w (hn b z)
        · rcases List.mem_append.mp hb with z | z
          · exact d3 b (.tail _ z)
          · exact I.same.free (hn b z)
      obtain ⟨A',I'⟩:=I1.write (Γ':=Γ) (Δ':=Δ) hi hA hl s1 ((r1.same g1).app (RpA.one r2)) w1 (fun z=>(List.mem_append.mp z).elim ta haB) w2 w3 w4
      exact q _ _ A' I'
    · exact q.elim
  · exact p.elim
def BOk (K:Frag)(C:String→Addr)(Γ Δ:List Nat)(g:TG)(b:FB):Prop:=∀(H0 Hb H:Hp) (σ:St) (ρ:Yp) (A:Nat→List Addr) (d:D) (v:V) (B:List Addr) (Rr:St→Hp→Prop),Xb K C H0 Hb H Γ Δ σ ρ A→Rp K C H d v B→(∀a∈B,Hb a≠none)→
 Yd (b d ρ) (fun ρ'=>∀σ' A',Xb K C H0 Hb H Γ Δ σ' ρ' A'→Rr σ' H) (fun _ _=>False)→g v σ H Rr
def Xnq (K:Frag)(C:String→Addr)(Γ Δ:List Nat)(g:TGs)(b:List D→Yp→R Yp):Prop:=∀(H0 Hb H:Hp) (σ:St) (ρ:Yp) (A:Nat→List Addr) (d:List D) (v:List V) (B:List Addr) (Rr:St→Hp→Prop),Xb K C H0 Hb H Γ Δ σ ρ A→RpA K C H d v B→(∀a∈B,Hb a≠none)→
 Yd (b d ρ) (fun ρ'=>∀σ' A',Xb K C H0 Hb H Γ Δ σ' ρ' A'→Rr σ' H) (fun _ _=>False)→g v σ H Rr
theorem Xbq {i:Nat}(h1:i∉Γ:=by decide)(h2:i∉Δ:=by decide):BOk K C Γ Δ (Jp i) (Dl.Zp i):=fun H0 Hb H σ ρ A d v B Rr I r hB p=>by
 obtain ⟨A',I',_⟩:=I.put (Γ':=Γ) (Δ':=Δ) (i:=i) r (fun j hj e=>⟨hj,fun a l e' ha=>hB a ha (I.top j hj a l e').1⟩) (fun hj=>absurd hj h1) (fun j hj e=>⟨hj,fun a ha hb=>hB a hb ((I.deep j hj).2.2 a ha)⟩) (fun hj=>absurd hj h2)
 exact p _ A' I'
theorem Xjs:Xnq K C Γ Δ Zwb Dl.Zcv:=fun H0 Hb H σ ρ A d v B Rr I r hB p=>by
 cases d with
 | nil=>exact ⟨r.1,p _ A I⟩
 | cons _ _=>exact p.elim
theorem Xar {g:TG}{gs:TGs}{b:FB}{bs:List D→Yp→R Yp}(h1:BOk K C Γ Δ g b)(h2:Xnq K C Γ Δ gs bs):Xnq K C Γ Δ (Zfa g gs) (Dl.Xn b bs):=fun H0 Hb H σ ρ A d v B Rr I r hB p=>by
 cases d with
 | nil=>exact p.elim
 | cons d ds =>
  obtain ⟨x,l,B1,B2,e1,e2,e3,e4⟩:=r
  subst e1 e4
  refine ⟨x,l,rfl,h1 H0 Hb H σ ρ A d x B1 _ I e2 (fun a ha=>hB a (mem_append_left _ ha)) (Yd.imp (Yd.bind p) (fun ρ1 q σ1 A1 I1=>?_) fun _ _ z=>z)⟩
  exact h2 H0 Hb H σ1 ρ1 A1 ds l B2 Rr I1 e3 (fun a ha=>hB a (mem_append_right _ ha)) q
theorem Xjb {gs:TGs}{bs:List D→Yp→R Yp}{n:Nat}(hn:∀ds ρ ρ',bs ds ρ=.ok ρ'→ds.length=n)(h:Xnq K C Γ Δ gs bs):BOk K C Γ Δ (Zfm K n gs) (Dl.Zcx bs):=fun H0 Hb H σ ρ A d v B Rr I r hB p=>by
 cases d with
 | tup ds =>
  obtain ⟨a,xs,rfl,e2,e3⟩:=r
  have hl:xs.length=n:=by
   rw [e3.len]
   have p':Yd (bs ds ρ) (fun ρ'=>∀σ' A',Xb K C H0 Hb H Γ Δ σ' ρ' A'→Rr σ' H) (fun _ _=>False):=p
   cases e:bs ds ρ with
   | ok ρ'=>exact hn ds ρ ρ' e
   | err _ _=>rw [e] at p';exact p'.elim
   | bad=>rw [e] at p';exact p'.elim
  exact ⟨a,xs,rfl,SqT.of e2,hl,h H0 Hb H σ ρ A ds xs B Rr I e3 hB p⟩
 | _=>exact p.elim
theorem Zwt (ds:List D)(ρ ρ':Yp)(h:Dl.Zcv ds ρ=.ok ρ'):ds.length=0:=by
 cases ds with
 | nil=>rfl
 | cons _ _=>cases h
theorem Zos {n:Nat}{b:FB}{bs:List D→Yp→R Yp}(hb:∀ds ρ ρ',bs ds ρ=.ok ρ'→ds.length=n)(ds:List D)(ρ ρ':Yp)(h:Dl.Xn b bs ds ρ=.ok ρ'):ds.length=n+1:=by
 cases ds with
 | nil=>cases h
 | cons d ds =>
  have h:((b d ρ).bind fun ρ'=>bs ds ρ')=.ok ρ':=h
  cases e:b d ρ with
  | ok ρ1 =>
   rw [e] at h
   rw [length_cons,hb ds ρ1 ρ' h]
  | err _ _=>rw [e] at h;cases h
  | bad=>rw [e] at h;cases h
noncomputable def ownAt (A:Nat→List Addr)(Γ Δ:List Nat):List Addr:=Γ.flatMap (fun i=>(A i).take 1)++Δ.flatMap A
theorem Zkx {A:Nat→List Addr}{a:Addr}(h:a∈ownAt A Γ Δ):(∃i∈Γ,∃l,A i=a::l)∨∃i∈Δ,a∈A i:=by
 rcases List.mem_append.mp h with h | h
 ·obtain ⟨i,hi,h⟩:=List.mem_flatMap.mp h
  left
  refine ⟨i,hi,?_⟩
  cases e:A i with
  | nil=>rw [e] at h;cases h
  | cons b l =>
   rw [e] at h
   simp only [take_succ_cons,take_zero,List.mem_singleton] at h
   rw [h]
   exact ⟨l,rfl⟩
 ·obtain ⟨i,hi,h⟩:=List.mem_flatMap.mp h
  exact .inr ⟨i,hi,h⟩
theorem Xid {A:Nat→List Addr}{i:Nat}(hi:i∈Γ){a:Addr}{l:List Addr}(e:A i=a::l):a∈ownAt A Γ Δ:=mem_append_left _ (List.mem_flatMap.mpr ⟨i,hi,by rw [e];simp⟩)
theorem Xdc {A:Nat→List Addr}{i:Nat}(hi:i∈Δ){a:Addr}(h:a∈A i):a∈ownAt A Γ Δ:=mem_append_right _ (List.mem_flatMap.mpr ⟨i,hi,h⟩)
theorem Zsu (b:FB)(s:FS)(xs:List D){i:Nat}{x:D}(h:xs[i]?=some x)(ρ:Yp):Dl.Zdy b s (xs.drop i) ρ=(b x ρ).calm.bind fun ρ1=>(s ρ1).bind fun fl=>match fl with
  | .nx ρ2=>Dl.Zdy b s (xs.drop (i+1)) ρ2
  | .cnt ρ2=>Dl.Zdy b s (xs.drop (i+1)) ρ2
  | .brk ρ2=>.ok (.nx ρ2)
  | .ret d=>.ok (.ret d):=by
 obtain ⟨hi,rfl⟩:=List.getElem?_eq_some_iff.mp h
 rw [List.drop_eq_getElem_cons hi]
 rfl
theorem Xgl {wi:TI}{g:TG}{tb:TS}{fi:FI}{fb:FB}{fs:FS}(hi:IOk K C E Γ Δ S wi fi)(hb:BOk K C Γl Δl g fb)(hs:SOk K C E mr Γl Δl Γl Δl Γl Δl tb fs)
    (h1:∀i∈Γl,i∈Γ:=by decide) (h2:∀i∈Δl,i∈Δ:=by decide) (h3:∀p∈S,p.1∉Γl∧p.1∉Δl:=by decide):SOk K C E mr Γk Δk Γ Δ Γl Δl (tFor wi g tb) (Dl.Znv fi fb fs):=fun H0 Hb H σ ρ A D I p=>by
  refine hi H0 Hb H σ ρ A _ I (Yd.imp (Yd.bind p) (fun ds q J H1 W g1 hW hlen hJ=>?_) fun c x q H' g'=>q H' (Xw.from0 I g'))
  have I1:=(I.mono g1).weak h1 h2
  have hlst:∀a∈ownAt A Γl Δl,∃o,H1 a=some o∧IsM o:=fun a ha=>by
    rcases Zkx ha with ⟨i,_,l,e⟩ | ⟨i,_,e⟩
    · exact I1.is (j:=i) (by rw [e];exact .head _)
    · exact I1.is e
  have hbn:∀a∈ownAt A Γl Δl,Hb a=none:=fun a ha=>by
    rcases Zkx ha with ⟨i,hi,l,e⟩ | ⟨i,hi,e⟩
    · exact (I1.top i hi a l e).1
    · exact (I1.deep i hi).2.2 a e
  have hout:∀a∈W,a∉ownAt A Γl Δl:=fun a ha ho=>by
    rcases (hW a ha).2 with z | z
    · rcases Zkx ho with ⟨i,hi,l,e⟩ | ⟨i,hi,e⟩
      · exact I.ne (j:=i) (by rw [e];exact .head _) z
      · exact I.ne e z
    · rcases Zkx ho with ⟨i,hi,l,e⟩ | ⟨i,hi,e⟩
      · exact I1.top_out hi (fun h=>(h3 _ h).1 hi) e z
      · exact I1.deep_out hi (fun p hp e'=>(h3 p hp).2 (by rw [e'];exact hi)) e z
  let Hc:Hp:=fun b=>if b∈ownAt A Γl Δl then none else H1 b
  have c1:Xw Hc H1:=fun b o h=>by
    show H1 b=some o
    have h:(if b∈ownAt A Γl Δl then none else H1 b)=some o:=h
    split at h
    · cases h
    · exact h
  have c2:Xw Hb Hc:=fun b o h=>by
    show (if b∈ownAt A Γl Δl then none else H1 b)=some o
    rw [if_neg fun ho=>by rw [hbn b ho] at h;cases h]
    exact I1.same b o h
  have c3:∀a,a∉ownAt A Γl Δl→Hc a=H1 a:=fun a ha=>if_neg ha
  have c4:∀a∈ownAt A Γl Δl,Hc a=none:=fun a ha=>if_pos ha
  have I2:Xb K C H0 Hc H1 Γl Δl σ ρ A:=⟨I1.s0.trans c2,c1,I1.len,I1.rep,I1.nil,I1.loc,fun i hi a l e=>⟨c4 a (Xid hi e),(I1.top i hi a l e).2⟩,fun i hi=>⟨(I1.deep i hi).1,(I1.deep i hi).2.1,fun a ha=>c4 a (Xdc hi ha)⟩⟩
  have back:∀{σ':St} {ρ':Yp} {H':Hp} {A':Nat→List Addr},Xb K C H0 Hc H' Γl Δl σ' ρ' A'→Xb K C H0 Hb H' Γl Δl σ' ρ' A':=fun I' =>
    ⟨I1.s0,c2.trans I'.same,I'.len,I'.rep,I'.nil,I'.loc,fun i hi a l e=>⟨c2.free (I'.top i hi a l e).1,(I'.top i hi a l e).2⟩,fun i hi=>⟨(I'.deep i hi).1,(I'.deep i hi).2.1,fun a ha=>c2.free ((I'.deep i hi).2.2 a ha)⟩⟩
  have go:Goes K C J ds Hc:=hJ Hc ⟨fun a ha=>c3 a (hout a ha),fun b o h hn=>(c3 b fun ho=>by
    obtain ⟨xs,e,hm⟩:=hlst b ho
    rw [e] at h
    cases h
    exact hn hm).trans h⟩
  refine Xhr go (fun k σ' H'=>∃ρ' A',Xb K C H0 Hc H' Γl Δl σ' ρ' A'∧Znc K C E mr Γk Δk Γl Δl H0 Hb D (Dl.Zdy fb fs (ds.drop k) ρ')) ⟨ρ,A,I2,q⟩ (fun _ _ _ ⟨_,_,I',_⟩=>I'.same) ?_ ?_
  · rintro k d x Bx σ' Ha H' hd ⟨ρ',A',Ia,pq⟩ ga rx hBx
    have I':=Ia.mono ga
    rw [Zsu _ _ _ hd] at pq
    have pq':=Zcl (Yd.bind pq)
    refine hb H0 Hc H' σ' ρ' A' d x Bx _ I' rx hBx (Yd.imp pq' (fun ρ1 pq σ1 A1 I1'=>?_) fun _ _ z=>z)
    refine hs H0 Hc H' σ1 ρ1 A1 _ I1' (Yd.imp (Yd.bind pq) (fun fl pq=>?_) fun _ _ z=>z)
    cases fl with
    | nx ρ2=>exact fun σ2 H2 A2 I2'=>⟨ρ2,A2,I2',pq⟩
    | cnt ρ2=>exact fun σ2 H2 A2 I2'=>⟨ρ2,A2,I2',pq⟩
    | brk ρ2=>exact fun σ2 H2 A2 I2'=>pq σ2 H2 A2 (back I2')
    | ret d=>exact pq
  · rintro σ' H' ⟨ρ',A',I',pq⟩
    rw [List.drop_length] at pq
    exact pq σ' H' A' (back I')
theorem Zsy {n:Nat}{tc:TT}{tb:TS}{fc:FT}{fs:FS}(hc:TOk K C E Γ Δ tc fc)(hs:SOk K C E mr Γ Δ Γ Δ Γ Δ tb fs):SOk K C E mr Γk Δk Γ Δ Γ Δ (Zqn tc tb) (Dl.Zri n fc fs):=fun H0 Hb H σ ρ A D I p=>by
 refine ⟨fun k σ' H'=>∃ρ' A',Xb K C H0 Hb H' Γ Δ σ' ρ' A'∧Znc K C E mr Γk Δk Γ Δ H0 Hb D (Dl.Zdx fc fs k ρ'),⟨n,ρ,A,I,p⟩,?_⟩
 rintro k σ' H' ⟨ρ',A',I',pq⟩
 cases k with
 | zero=>exact pq.elim
 | succ k =>
  refine hc H0 Hb H' σ' ρ' A' _ I' (Yd.imp (Yd.bind pq) (fun b pq H1 g1=>?_) fun c x q H' g'=>q H' (Xw.from0 I' g'))
  cases b with
  | false =>
   simp only [Bool.false_eq_true,if_false] at pq ⊢
   exact pq σ' H1 A' (I'.mono g1)
  | true =>
   simp only [if_true] at pq ⊢
   refine ⟨fun σ2 H2=>∃ρ2 A2,Xb K C H0 Hb H2 Γ Δ σ2 ρ2 A2∧Znc K C E mr Γk Δk Γ Δ H0 Hb D (Dl.Zdx fc fs k ρ2),fun σ2 H2 h=>⟨k,lt_succ_self k,h⟩,?_⟩
   refine hs H0 Hb H1 σ' ρ' A' _ (I'.mono g1) (Yd.imp (Yd.bind pq) (fun fl pq=>?_) fun _ _ z=>z)
   cases fl with
   | nx ρ2=>exact fun σ2 H2 A2 I2'=>⟨ρ2,A2,I2',pq⟩
   | cnt ρ2=>exact fun σ2 H2 A2 I2'=>⟨ρ2,A2,I2',pq⟩
   | brk ρ2=>exact fun σ2 H2 A2 I2'=>pq σ2 H2 A2 I2'
   | ret d=>exact pq
theorem Zlq {N:Nat}{ds:List D}{vs:List V}{B:List Addr}{H:Hp}(r:RpA K C H ds vs B):∃A,Xb K C H H H [] [] (vs.map some++List.replicate (N - vs.length) none) (ds.map some++List.replicate (N - ds.length) none) A:=by
 have hl:=r.len
 have key:∀{ds:List D} {vs:List V} {B:List Addr},RpA K C H ds vs B→∃A:Nat→List Addr,(∀(i:Nat) d,ds[i]?=some d→∃v,vs[i]?=some v∧Rp K C H d v (A i))∧∀i,ds.length≤i→A i=[]:=by
  intro ds
  induction ds with
  | nil=>intro vs B r;exact ⟨fun _=>[],fun i d h=>by simp at h,fun _ _=>rfl⟩
  | cons d ds ih =>
   intro vs B r
   obtain ⟨x,l,B1,B2,e1,e2,e3,e4⟩:=r
   obtain ⟨A,h1,h2⟩:=ih e3
   subst e1
   refine ⟨fun i=>match i with | 0=>B1 | i+1=>A i,fun i d' h=>?_,fun i h=>?_⟩
   ·cases i with
    | zero=>simp at h;subst h;exact ⟨x,rfl,e2⟩
    | succ i=>simp at h;obtain ⟨v,q1,q2⟩:=h1 i d' h;exact ⟨v,by simpa using q1,q2⟩
   ·cases i with
    | zero=>simp at h
    | succ i=>exact h2 i (by simpa using h)
 obtain ⟨A,h1,h2⟩:=key r
 refine ⟨A,Xw.refl _,Xw.refl _,by simp [hl],fun i d h=>?_,fun i h=>?_,(fun _ h=>nomatch h),(fun _ h=>nomatch h),(fun _ h=>nomatch h)⟩
 ·by_cases hi:i<ds.length
  ·rw [getElem?_append_left (by simpa using hi),getElem?_map] at h
   obtain ⟨d',hd,e⟩:=Option.map_eq_some_iff.mp h
   cases e
   obtain ⟨v,q1,q2⟩:=h1 i d hd
   refine ⟨v,?_,q2⟩
   rw [getElem?_append_left (by simp [hl,hi]),getElem?_map,q1]
   rfl
  ·rw [getElem?_append_right (by simpa using hi)] at h
   have:=mem_of_getElem? h
   rw [List.mem_replicate] at this
   exact absurd this.2 (by intro z;cases z)
 ·by_cases hi:i<ds.length
  ·exact absurd (by rw [getElem?_append_left (by simpa using hi),getElem?_map,getElem?_eq_getElem hi];rfl) (h ds[i])
  ·exact h2 i (by omega)
theorem Zkj {N:Nat}{t:TS}{f:FS}{E:XK}{ds:List D}{vs:List V}{B:List Addr}{H:Hp}{Q:VK}(h:SOk K C E mr [] [] [] [] Γ' Δ' t f)(r:RpA K C H ds vs B)
  (p:Yd (Dl.run N f ds) (fun d=>∀v H',Xw H H'→Res K C mr [] H (fun _=>[]) d v H'→Q v H') (fun c x=>∀H',Xw H H'→EC C E c x H')) :
  t {nx:=fun _ H'=>Q .non H',rt:=Q} (vs.map some++List.replicate (N - vs.length) none) H:=by
 obtain ⟨A,I⟩:=Zlq (N:=N) r
 refine h H H H _ _ A _ I (Yd.imp (Yd.bind p) (fun fl q=>?_) fun _ _ q=>q)
 cases fl with
 | nx ρ'=>exact fun σ' H' A' I'=>q _ H' I'.same (Res.flat ⟨rfl,rfl⟩)
 | ret d=>exact q
 | brk _=>exact q.elim
 | cnt _=>exact q.elim
end
structure JE (X:Cx)(C:String→Addr)(E:XK)(Γ Δ:List Nat)(m:Nat)(S:List (Nat×Bool))(e:Expr)(t:TE)(f:FE):Prop where
 q:QE X e t
 o:EOk X.K C E Γ Δ m S t f
structure JT (X:Cx)(C:String→Addr)(E:XK)(Γ Δ:List Nat)(e:Expr)(t:TT)(f:FT):Prop where
 q:QT X e t
 o:TOk X.K C E Γ Δ t f
structure JW (X:Cx)(C:String→Addr)(E:XK)(Γ Δ:List Nat)(e:Expr)(t:TT)(f:FT):Prop where
 q:QW X e t
 o:TOk X.K C E Γ Δ t f
structure JA (X:Cx)(C:String→Addr)(E:XK)(Γ Δ:List Nat)(m:Nat)(S:List (Nat×Bool))(e:List Expr)(n:Nat)(t:TA)(f:FA):Prop where
 q:QA X e t
 o:AOk X.K C E Γ Δ m S t f
 n:∀ρ ds,f ρ=.ok ds→ds.length=n
structure JO (X:Cx)(C:String→Addr)(E:XK)(Γ Δ:List Nat)(e:Option Expr)(t:TO)(f:FO):Prop where
 q:QO X e t
 o:OOk X.K C E Γ Δ t f
structure JI (X:Cx)(C:String→Addr)(E:XK)(Γ Δ:List Nat)(S:List (Nat×Bool))(tg e:Expr)(t:TI)(f:FI):Prop where
 q:QI X tg e t
 o:IOk X.K C E Γ Δ S t f
structure JG (X:Cx)(C:String→Addr)(Γ Δ:List Nat)(e:Expr)(t:TG)(f:FB):Prop where
 q:QG X e t
 o:BOk X.K C Γ Δ t f
structure JGs (X:Cx)(C:String→Addr)(Γ Δ:List Nat)(es:List Expr)(n:Nat)(t:TGs)(f:List D→Yp→R Yp):Prop where
 q:QGs X es t
 o:Xnq X.K C Γ Δ t f
 n:∀ds ρ ρ',f ds ρ=.ok ρ'→ds.length=n
structure JS (X:Cx)(C:String→Addr)(E:XK)(mr:Nat)(Γl Δl Γ Δ Γ' Δ':List Nat)(s:Stmt)(t:TS)(f:FS):Prop where
 q:QS X s t
 o:SOk X.K C E mr Γl Δl Γ Δ Γ' Δ' t f
structure JSs (X:Cx)(C:String→Addr)(E:XK)(mr:Nat)(Γl Δl Γ Δ Γ' Δ':List Nat)(s:List Stmt)(t:TS)(f:FS):Prop where
 q:QSs X s t
 o:SOk X.K C E mr Γl Δl Γ Δ Γ' Δ' t f
structure JIf (X:Cx)(C:String→Addr)(E:XK)(Γ Δ:List Nat)(e:List Expr)(t:TT)(f:FT):Prop where
 q:QIf X e t
 o:TOk X.K C E Γ Δ t f
section
variable {X:Cx}{C:String→Addr}{E:XK}{Γ Δ Γ' Δ' Γ1 Δ1 Γl Δl Γk Δk:List Nat}{m m1 m2 m3 mr:Nat}{S S1 S2 S3:List (Nat×Bool)}{a b c e st o tg iter:Expr}{es rest:List Expr}{ta tb tc te ts:TE}{fa fb fc fe fs:FE}{t:TA}{f:FA}{pos p p2 apos cpos:Pos}{n:Nat}
theorem Ze {i:Int}{j:Nat}:JE X C E Γ Δ 2 [] (.Constant (.int i) j pos) (tC (.int i)) (Dl.fC (.int i)):=⟨Xlh,Zzh fun _=>rpI⟩
theorem Zcg {i:Bool}{j:Nat}:JE X C E Γ Δ 2 [] (.Constant (.bool i) j pos) (tC (.bl i)) (Dl.fC (.bl i)):=⟨qe_bl,Zzh fun _=>rpB⟩
theorem Zay {x:Str}{j:Nat}(h:PyData.strOk x=true:=by decide +kernel):JE X C E Γ Δ 2 [] (.Constant (.str x) j pos) (tC (.str x)) (Dl.fC (.str x)):=⟨Xnv,Zzh fun _=>⟨rfl,h,rfl⟩⟩
theorem Zi (i:Nat){x:Str}(hN:X.N[i]?=some x:=by rfl)(hv:autoParam (Vis X.env.scope x) aT3._auto_1)(hd:(x==("__debug__":Str))=false:=by decide)
  (hcd:(x==("__classdict__":Str))=false:=by decide):JE X C E Γ Δ 0 [(i,false)] (.Name x pos) (Zst i) (Dl.fV i):=⟨qv i hN hv hd hcd,eok_v⟩
theorem Zit (i:Nat){x:Str}(hi:i∈Δ:=by decide)(hN:X.N[i]?=some x:=by rfl)(hv:autoParam (Vis X.env.scope x) aT3._auto_1)(hd:(x==("__debug__":Str))=false:=by decide)
  (hcd:(x==("__classdict__":Str))=false:=by decide):JE X C E Γ Δ 2 [(i,false)] (.Name x pos) (Zst i) (Dl.fV i):=⟨qv i hN hv hd hcd,Xoo hi⟩
theorem Xs (h:JE X C E Γ Δ m S e te fe):JE X C E Γ Δ 2 [] e te (Dl.f1 Dl.Xt fe):=⟨h.q,Xbm h.o⟩
theorem Zu {op:Operator}{r:R2}{g:D→D→Option D}(ho:OpR X (binaryOp op) r)(hg:GOk X.K C r g)(ha:JE X C E Γ Δ m1 S1 a ta fa)(hb:JE X C E Γ Δ m2 S2 b tb fb):JE X C E Γ Δ 2 [] (.BinOp a op b pos) (tOp r ta tb) (Dl.f2 g fa fb):=⟨Xon ho ha.q hb.q,Zwf hg ha.o hb.o⟩
theorem Zni (ha:JE X C E Γ Δ m1 S1 a ta fa):JE X C E Γ Δ 2 [] (.UnaryOp .USub a pos) (tUn (rU fun i=>.int (-i)) ta) (Dl.f1 Dl.Zxw fa):=⟨qe_un Xoi ha.q,Xmz (fun H x d vx Bx Q r e q=>by
  unfold Dl.Zxw at e
  split at e
  · cases e
    obtain ⟨rfl,_⟩:=r
    exact rd_U (Out.flat q rpI)
  · cases e) ha.o⟩
theorem Zdl {op:CmpOp}{r:R2}{g:D→D→Option D}(ho:OpR X (compareOp op) r)(hg:GOk X.K C r g)(ha:JE X C E Γ Δ m1 S1 a ta fa)(hb:JE X C E Γ Δ m2 S2 b tb fb)(hm:behindInMarks op b=false):JE X C E Γ Δ 2 [] (.Compare a [op] [b] pos) (tOp r ta tb) (Dl.f2 g fa fb):=⟨Xht ho ha.q hb.q hm,Zwf hg ha.o hb.o⟩
theorem Xv {op:CmpOp}{r:R2}{g:D→D→Option D}(ho:OpR X (compareOp op) r)(hg:GOk X.K C r g)(ha:JE X C E Γ Δ m1 S1 a ta fa)(hb:JE X C E Γ Δ m2 S2 b tb fb)(hm:behindInMarks op b=false):JT X C E Γ Δ (.Compare a [op] [b] pos) (Zyy (tOp r ta tb)) (Dl.cE (Dl.f2 g fa fb)):=⟨Xhg ho ha.q hb.q hm,Xch (Zwf hg ha.o hb.o)⟩
theorem Xbe {op op':CmpOp}{r r':R2}{g g':D→D→Option D}(ho:OpR X (compareOp op) r)(ho':OpR X (compareOp op') r')(hg:GOk X.K C r g)(hg':GOk X.K C r' g')(hbl:∀{x y d},g x y=some d→∃b,d=.bl b)(ha:JE X C E Γ Δ m1 S1 a ta fa)(hb:JE X C E Γ Δ m2 S2 b tb fb)(hc:JE X C E Γ Δ m3 S3 c tc fc)
  (hm:lastMarks [op,op'] [b,c]=false:=by with_unfolding_all rfl):JE X C E Γ Δ 2 [] (.Compare a [op,op'] [b,c] pos) (Zqf r r' ta tb tc) (Dl.Ziy g g' fa fb fc):=⟨Zzt ho ho' ha.q hb.q hc.q hm,Zwi hg hg' (fun _ _ _=>hbl) ha.o hb.o hc.o⟩
theorem Zxo {op:BoolOp}(h:JE X C E Γ Δ m S a ta fa):JE X C E Γ Δ m S (.BoolOp op [a] pos) ta fa:=⟨Xlb h.q,h.o⟩
theorem Xeq (ha:JE X C E Γ Δ m1 S1 a ta fa)(hb:JE X C E Γ Δ m S (.BoolOp .And (b::rest) pos) tb fb):JE X C E Γ Δ m S (.BoolOp .And (a::b::rest) pos) (Xda ta tb) (Dl.Xfu fa fb):=⟨Xop ha.q hb.q,Xhx ha.o hb.o⟩
theorem ce_or (ha:JE X C E Γ Δ m1 S1 a ta fa)(hb:JE X C E Γ Δ m S (.BoolOp .Or (b::rest) pos) tb fb):JE X C E Γ Δ m S (.BoolOp .Or (a::b::rest) pos) (tOrV ta tb) (Dl.fOr fa fb):=⟨qe_or ha.q hb.q,Xkr ha.o hb.o⟩
theorem Xit {tA:TT}{fA:FT}(hc:JT X C E Γ Δ c tA fA)(ha:JE X C E Γ Δ m S a ta fa)(hb:JE X C E Γ Δ m S b tb fb):JE X C E Γ Δ m S (.IfExp c a b pos) (tIf tA ta tb) (Dl.fIf fA fa fb):=⟨Xcd hc.q ha.q hb.q,Xou hc.o ha.o hb.o⟩
theorem Zdz (h:JE X C E Γ Δ m S e te fe)(he:∀whole,isTrue e X.env whole=(do let v ← whole;standAt e.pos;holding [v] (truthy v)):=by intro _;rfl):JT X C E Γ Δ e (tB te) (Dl.cE fe):=⟨Xkw h.q he,tok_B h.o⟩
theorem Zmh {tA:TT}{fA:FT}(ha:JT X C E Γ Δ a tA fA):JT X C E Γ Δ (.UnaryOp .Not a pos) (tNot tA) (Dl.Xbi fA):=⟨Xlx ha.q,Xiz ha.o⟩
theorem Zog {tA:TT}{fA:FT}(ha:JT X C E Γ Δ a tA fA):JW X C E Γ Δ (.BoolOp .And [a] pos) tA fA:=⟨Xhs ha.q,ha.o⟩
theorem Zhx {tA:TT}{fA:FT}(ha:JT X C E Γ Δ a tA fA):JW X C E Γ Δ (.BoolOp .Or [a] pos) tA fA:=⟨Xlp ha.q,ha.o⟩
theorem Zwy {tA tB':TT}{fA fB:FT}(ha:JT X C E Γ Δ a tA fA)(hb:JW X C E Γ Δ (.BoolOp .And (b::rest) pos) tB' fB):JW X C E Γ Δ (.BoolOp .And (a::b::rest) pos) (tAnd tA tB') (Dl.Zxz fA fB):=⟨Xky ha.q hb.q,Xgf ha.o hb.o⟩
theorem Zmj {tA tB':TT}{fA fB:FT}(ha:JT X C E Γ Δ a tA fA)(hb:JW X C E Γ Δ (.BoolOp .Or (b::rest) pos) tB' fB):JW X C E Γ Δ (.BoolOp .Or (a::b::rest) pos) (tOr tA tB') (Dl.cOr fA fB):=⟨qw_or ha.q hb.q,Xng ha.o hb.o⟩
theorem Zxv {tA:TT}{fA:FT}(h:JW X C E Γ Δ a tA fA):JT X C E Γ Δ a tA fA:=⟨qt_w h.q,h.o⟩
theorem Zg:JA X C E Γ Δ 2 [] [] 0 Zpm Dl.Zt:=⟨Ztg,Ztb,Xfo⟩
theorem Zb (ha:JE X C E Γ Δ m1 S1 e te fe)(hr:JA X C E Γ Δ m2 S2 es n t f)(hs:starEach (e::es) X.env=(false,eval e X.env)::starEach es X.env):JA X C E Γ Δ 0 (S1++S2) (e::es) (n+1) (Zcw te t) (Dl.Zc fe f):=⟨Zig ha.q hr.q hs,Zpn ha.o hr.o,Zkv hr.n⟩
theorem Zbp (S:List (Nat×Bool))(ha:JE X C E Γ Δ 2 S1 e te fe)(hr:JA X C E Γ Δ 2 S2 es n t f)(hs:starEach (e::es) X.env=(false,eval e X.env)::starEach es X.env)(h1:∀p∈S1,p.1∈Δ:=by decide)(h2:∀p∈S1,∀q∈S2,p.1≠q.1:=by decide)(hS:S1++S2=S:=by rfl):JA X C E Γ Δ 2 S (e::es) (n+1) (Zcw te t) (Dl.Zc fe f):=by
 subst hS
 exact ⟨Zig ha.q hr.q hs,Zmt ha.o hr.o h1 h2,Zkv hr.n⟩
theorem Zl (ha:JE X C E Γ Δ 2 [] e te fe)(hr:JA X C E Γ Δ 2 [] es n t f)(hs:starEach (e::es) X.env=(false,eval e X.env)::starEach es X.env):JA X C E Γ Δ 2 [] (e::es) (n+1) (Zcw te t) (Dl.Zc fe f):=
 ⟨Zig ha.q hr.q hs,Zmt (S1:=[]) (S2:=[]) ha.o hr.o (fun _ h=>nomatch h) (fun _ h=>nomatch h),Zkv hr.n⟩
theorem Zje {x1:Nat}(h:JA X C E Γ Δ 2 S es n t f):JE X C E Γ Δ 2 S (.Tuple es x1 pos) (Xlj t) (Dl.fA Dl.Zfm f):=⟨Xej h.q,Zwu (.inr rfl) h.o⟩
theorem Zxa {x1:Nat}(h:JA X C E Γ Δ 0 S es n t f):JE X C E Γ Δ 0 S (.Tuple es x1 pos) (Xlj t) (Dl.fA Dl.Zfm f):=⟨Xej h.q,Zwu (.inl rfl) h.o⟩
theorem Jt (h:JA X C E Γ Δ 2 S es n t f):JE X C E Γ Δ 2 S (.List es pos) (Xjz t) (Dl.fA Dl.Zau f):=⟨Xdx h.q,Xfe h.o⟩
theorem Zdh (h:JA X C E Γ Δ m S es n t f):JE X C E Γ Δ 1 S (.List es pos) (Xjz t) (Dl.fA Dl.Zau f):=⟨Xdx h.q,Xbt h.o⟩
theorem Xe (K:Frag)(ha:JE X C E Γ Δ m1 S1 a ta fa)(hb:JE X C E Γ Δ m2 S2 b tb fb)(hs:Zdk b)(hK:X.K=K:=by rfl):JE X C E Γ Δ 0 S1 (.Subscript a b pos) (tOp (rIx K) ta tb) (Dl.f2 Dl.gIx fa fb):=by
 subst hK
 exact ⟨qe_ix Xki ha.q hb.q hs,Xox ha.o hb.o⟩
theorem Zjv:JO X C E Γ Δ none Zjz Dl.Zmz:=⟨Xgm,Zyp⟩
theorem Zde (h:JE X C E Γ Δ m S e te fe):JO X C E Γ Δ (some e) (Xcr te) (Dl.Zfr fe):=⟨Xjo h.q,Xbl h.o⟩
theorem Zsq (K:Frag){lo hi:Option Expr}{tl th:TO}{fl fh:FO}(he:JE X C E Γ Δ m S e te fe)(hl:JO X C E Γ Δ lo tl fl)(hu:JO X C E Γ Δ hi th fh)(hK:X.K=K:=by rfl):JE X C E Γ Δ 2 [] (.Subscript e (.Slice lo hi none p2) pos) (tSl (rSlL K) te tl th) (Dl.fSl Dl.gSl fe fl fh):=by
 subst hK
 exact ⟨Zyf Xhw he.q hl.q hu.q,Xnc he.o hl.o hu.o⟩
theorem Zr {K:Frag}{CX:CXT}{k:Nat}{ps:List Str}{F:List D→R D}{x:Str}(Df:Def X.prog X.w X.K X.mg X.base CX k x ps (spD K C n mr F))(hr:Zdr k X.A)(hg:Gl X x)(hx:Zho CX X E)
  (ha:JA X C E Γ Δ m S (e::es) n t f) (hdb:(x==("__debug__":Str))=false:=by decide) (he:starEach (e::es) X.env=(false,eval e X.env)::starEach es X.env:=by rfl) (hpl:(backTo pos (starEach es X.env)).any (·.1)=false:=by rfl) (hK:X.K=K:=by rfl) :
  JE X C E Γ Δ mr [] (.Call (.Name x p) (e::es) [] pos) (Zop (spD K C n mr F) [] E t) (Dl.Zy F f):=by
 subst hK
 exact ⟨Zyq Df hr hg hx ha.q hdb he hpl,Zra ha.o ha.n⟩
theorem Zq {x:Str}{id:String}{r:List V→Hp→VK→Prop}{g:List D→Option D}(hc:Zbb X (.builtin id) r)(hgk:GAk X.K C r g)(hg:Gl X x)(hm:X.mg x=none)(hv:bootBuiltins x=some (.builtin id))(ha:JA X C E Γ Δ m S (e::es) n t f)(hn:x≠"__name__":=by decide)(hdb:(x==("__debug__":Str))=false:=by decide)
  (he:starEach (e::es) X.env=(false,eval e X.env)::starEach es X.env:=by rfl) (hpl:(backTo pos (starEach es X.env)).any (·.1)=false:=by rfl):JE X C E Γ Δ 2 [] (.Call (.Name x p) (e::es) [] pos) (tCB r t) (Dl.fA g f):=⟨Xcl hc hg hm hv ha.q hn hdb he hpl,Zts hgk ha.o⟩
theorem Ztr {x:Str}{T:String}{r:List V→Hp→VK→Prop}{g:List D→Option D}(hc:Zbb X (.type T) r)(hgk:GAk X.K C r g)(hg:Gl X x)(hm:X.mg x=none)(hv:bootBuiltins x=some (.type T))(ha:JA X C E Γ Δ m S (e::es) n t f)(hn:x≠"__name__":=by decide)(hdb:(x==("__debug__":Str))=false:=by decide)
  (he:starEach (e::es) X.env=(false,eval e X.env)::starEach es X.env:=by rfl) (hpl:(backTo pos (starEach es X.env)).any (·.1)=false:=by rfl):JE X C E Γ Δ 2 [] (.Call (.Name x p) (e::es) [] pos) (tCB r t) (Dl.fA g f):=⟨Ztx hc hg hm hv ha.q hn hdb he hpl,Zts hgk ha.o⟩
theorem Xfv (K:Frag)(hg:Gl X "list")(hm:X.mg "list"=none)(hg':Gl X "reversed")(hm':X.mg "reversed"=none)(he:JE X C E Γ Δ m S e te fe)(hs2:starEach [e] X.env=(false,eval e X.env)::starEach [] X.env)(hc:X.calm=true:=by rfl)(hK:X.K=K:=by rfl) :
  JE X C E Γ Δ 2 [] (.Call (.Name "list" p) [.Call (.Name "reversed" p2) [e] [] apos] [] cpos) (Xax K te) (Dl.f1 Dl.Zwa fe):=by
 subst hK
 exact ⟨Xik hg hm hg' hm' he.q hs2 hc,Zyg he.o⟩
theorem Jo (h:JE X C E Γ Δ m S e te fe):JI X C E Γ Δ S tg e (Zyk X.K te) (Dl.Zbk fe):=⟨Xgi h.q,Zzv h.o⟩
theorem Xel (h:JE X C E Γ Δ m S e te fe):JI X C E Γ Δ S tg e (iTup X.K te) (Dl.Xkf fe):=⟨Xle h.q,Xgb h.o⟩
theorem Zbz (hg:Gl X "range")(hm:X.mg "range"=none)(ha:JA X C E Γ Δ m S [a] n t f)(hs:starEach [a] X.env=[(false,eval a X.env)]:=by rfl):JI X C E Γ Δ [] tg (.Call (.Name "range" p) [a] [] pos) (Xck t) (Dl.Zds f):=⟨Zue hg hm ha.q hs,Xbz ha.o⟩
theorem Zax {i:Nat}{x:Str}(h1:i∉Γ:=by decide)(h2:i∉Δ:=by decide)(hN:X.N.Nodup)(hi:X.N[i]?=some x)(hx:Loc X.env.scope x)(hf:autoParam (X.fn x=true∨X.env.scope.names.lookup x=some .local) aT0._auto_1):JG X C Γ Δ (.Name x pos) (Jp i) (Dl.Zp i):=⟨Znu hN hi hx hf,Xbq h1 h2⟩
theorem Xhe:JGs X C Γ Δ [] 0 Zwb Dl.Zcv:=⟨Zok,Xjs,Zwt⟩
theorem Zpr {tt:TG}{u:TGs}{fb:FB}{fu:List D→Yp→R Yp}(h1:JG X C Γ Δ e tt fb)(h2:JGs X C Γ Δ es n u fu)(hs:(assignEach (e::es) X.env).map (·.2)=assign e X.env::(assignEach es X.env).map (·.2):=by rfl):JGs X C Γ Δ (e::es) (n+1) (Zfa tt u) (Dl.Xn fb fu):=⟨Zju h1.q h2.q hs,Xar h1.o h2.o,Zos h2.n⟩
theorem Xnk {k:Nat}{u:TGs}{fu:List D→Yp→R Yp}(hc:X.calm=true)(h:JGs X C Γ Δ es n u fu)(hn:(assignEach es X.env).length=n:=by rfl)(hst:(assignEach es X.env).findIdx? (·.1)=none:=by rfl):JG X C Γ Δ (.Tuple es k pos) (Zfm X.K n u) (Dl.Zcx fu):=⟨Zvk hc h.q hn hst,Xjb h.n h.o⟩
theorem Yk:JIf X C E Γ Δ [] tYes Dl.Zbg:=⟨Xiw,Xiy⟩
theorem Zpa {tA:TT}{fA:FT}(h:JT X C E Γ Δ c tA fA):JIf X C E Γ Δ [c] tA fA:=⟨Xhi h.q,h.o⟩
structure JB (X:Cx)(C:String→Addr)(n k:Nat)(e:Expr)(t:TG)(f:FB):Prop where
 q:QG X e t
 o:NOk X.K C n k t f
structure JBs (X:Cx)(C:String→Addr)(n k:Nat)(es:List Expr)(l:Nat)(t:TGs)(f:List D→Yp→R Yp):Prop where
 q:QGs X es t
 o:Xoj X.K C n k t f
 n:∀ds ρ ρ',f ds ρ=.ok ρ'→ds.length=l
theorem Xm {k:Nat}(i:Nat){x:Str}(hN:X.N.Nodup:=by decide +kernel)(hi:X.N[i]?=some x:=by rfl)(hx:Loc X.env.scope x:=by exact .inl rfl)(hf:X.fn x=true∨X.env.scope.names.lookup x=some .local:=by exact .inr rfl)(h1:n≤i:=by decide)(h2:i<n+k:=by decide):JB X C n k (.Name x pos) (Jp i) (Dl.Zp i):=⟨Znu hN hi hx hf,Xbo i h1 h2⟩
theorem Zej {k:Nat}:JBs X C n k [] 0 Zwb Dl.Zcv:=⟨Zok,Xgv,Zwt⟩
theorem Je {k l:Nat}{tt:TG}{u:TGs}{fb:FB}{fu:List D→Yp→R Yp}(h1:JB X C n k e tt fb)(h2:JBs X C n k es l u fu)(hs:(assignEach (e::es) X.env).map (·.2)=assign e X.env::(assignEach es X.env).map (·.2):=by rfl):JBs X C n k (e::es) (l+1) (Zfa tt u) (Dl.Xn fb fu):=⟨Zju h1.q h2.q hs,Zyi h1.o h2.o,Zos h2.n⟩
theorem Zil (K:Frag){k l kk:Nat}{u:TGs}{fu:List D→Yp→R Yp}(h:JBs X C n k es l u fu)(hc:X.calm=true:=by rfl)(hn:(assignEach es X.env).length=l:=by rfl)(hst:(assignEach es X.env).findIdx? (·.1)=none:=by rfl)(hK:X.K=K:=by rfl):JB X C n k (.Tuple es kk pos) (Zfm K l u) (Dl.Zcx fu):=by
 subst hK
 exact ⟨Zvk hc h.q hn hst,Xhn h.n h.o⟩
theorem Jd {elt:Expr}{ifs:List Expr}{sc:Scope}{wi:TI}{tc:TT}{gg:TG}{fi:FI}{fc:FT}{fg:FB}(esc:Scope)(N N2 xs:List Str)(B:Zxy sc esc xs N N2)(hi:JI X C E Γ Δ S tg iter wi fi)(hg:∀cl C' s0 H0 fp,JB (X.blkN N2 xs sc cl C' s0 H0 fp) C n xs.length tg gg fg)(ht:∀cl C' s0 H0 fp,JIf (X.blkN N2 xs sc cl C' s0 H0 fp) C E0 [] [] ifs tc fc)(he:∀cl C' s0 H0 fp,JE (X.blkN N2 xs sc cl C' s0 H0 fp) C E0 [] [] 2 [] elt te fe)
  (hesc:X.env.scope=esc:=by rfl) (hN:X.N=N:=by rfl) (hc:X.calm=true:=by rfl) (hs:∀v,foldedSetIterable iter X.env v=pure v:=by intro _;rfl):JE X C E Γ Δ 2 [] (.ListComp elt [⟨tg,iter,ifs,0⟩] sc pos) (Zcr xs.length gg wi tc te) (Dl.Yy n xs.length fi fg fc fe):=
 ⟨Xaj esc N N2 xs B hi.q (fun cl C' s0 H0 fp=>(hg cl C' s0 H0 fp).q) (fun cl C' s0 H0 fp=>(ht cl C' s0 H0 fp).q) (fun cl C' s0 H0 fp=>(he cl C' s0 H0 fp).q) hesc hN hc hs,Zkq hi.o (hg [] 0 X.s₀ X.H₀ []).o (ht [] 0 X.s₀ X.H₀ []).o (he [] 0 X.s₀ X.H₀ []).o⟩
variable {s1:Stmt}{ss body other:List Stmt}{u v:TS}{g h:FS}{pos':Pos}
theorem Xx:JSs X C E mr Γl Δl Γ Δ Γ Δ [] Zzi Dl.sNx:=⟨Xja,Xmx⟩
theorem Zh (Γ1 Δ1:List Nat)(h1:JS X C E mr Γl Δl Γ Δ Γ1 Δ1 s1 u g)(h2:JSs X C E mr Γl Δl Γ1 Δ1 Γ' Δ' ss v h):JSs X C E mr Γl Δl Γ Δ Γ' Δ' (s1::ss) (Zvw u v) (Dl.Xu g h):=⟨Zkb h1.q h2.q,Zxf h1.o h2.o⟩
theorem Zm (h1:JS X C E mr Γl Δl Γ Δ Γ' Δ' s1 u g):JSs X C E mr Γl Δl Γ Δ Γ' Δ' [s1] u g:=⟨Xgz h1.q,h1.o⟩
theorem Zhi (Γ1 Δ1:List Nat)(h:JSs X C E mr Γl Δl Γ Δ Γ1 Δ1 ss u g)(h1:∀i∈Γ',i∈Γ1:=by decide)(h2:∀i∈Δ',i∈Δ1:=by decide):JSs X C E mr Γl Δl Γ Δ Γ' Δ' ss u g:=⟨h.q,Xbs h.o h1 h2⟩
theorem Zze:JS X C E mr Γl Δl Γ Δ Γ' Δ' s1 Zqa Dl.Zrb:=⟨Zyo,Zvr⟩
theorem Xf (he:JE X C E Γ Δ 2 S e te fe)(h0:∀p∈S,p.1∈Δ:=by decide):JS X C E 2 Γl Δl Γ Δ Γ' Δ' (.Return (some e) pos) (Xjw te) (Dl.Zad fe):=⟨Xdh he.q,Xdf he.o h0⟩
theorem Zva (he:JE X C E Γ Δ m S e te fe)(h0:∀p∈S,p.1∈Γ:=by decide):JS X C E 0 Γl Δl Γ Δ Γ' Δ' (.Return (some e) pos) (Xjw te) (Dl.Zad fe):=⟨Xdh he.q,Zzw he.o h0⟩
theorem Zaj {tA:TT}{fA:FT}(hc:JT X C E Γ Δ c tA fA)(ha:JSs X C E mr Γl Δl Γ Δ Γ' Δ' body u g)(hb:JSs X C E mr Γl Δl Γ Δ Γ' Δ' other v h):JS X C E mr Γl Δl Γ Δ Γ' Δ' (.If c body other pos) (tIfS tA u v) (Dl.sIf fA g h):=⟨qs_if hc.q ha.q hb.q,Xni hc.o ha.o hb.o⟩
theorem Xd {i:Nat}{x:Str}(hN:X.N.Nodup)(hi:X.N[i]?=some x)(hx:Loc X.env.scope x)(he:JE X C E Γ Δ 2 [] e te fe)(hs:swapsWith e (some (.Name x pos')) pos.line X.env=pure false:=by rfl)(hf:autoParam (X.fn x=true∨X.env.scope.names.lookup x=some .local) aT0._auto_1)
  (h1:∀j∈Γ',j=i∨j∈Γ:=by decide) (h2:∀j∈Δ',j=i∨j∈Δ:=by decide):JS X C E mr Γl Δl Γ Δ Γ' Δ' (.Assign [.Name x pos'] e pos) (Zgg te (Jp i)) (Dl.Yr i fe):=⟨Zmu hN hi hx he.q hs hf,Zqp he.o h1 h2⟩
theorem Zvo {i:Nat}{x:Str}(hN:X.N.Nodup)(hi:X.N[i]?=some x)(hx:Loc X.env.scope x)(he:JE X C E Γ Δ 1 S e te fe)(hs:swapsWith e (some (.Name x pos')) pos.line X.env=pure false:=by rfl)(hf:autoParam (X.fn x=true∨X.env.scope.names.lookup x=some .local) aT0._auto_1)
  (h0:∀p∈S,p.1∈Γ:=by decide) (h1:∀j∈Γ',j=i∨(j∈Γ∧(j,false)∉S):=by decide) (h2:∀j∈Δ',j≠i∧j∈Δ∧∀p∈S,p.1≠j:=by decide):JS X C E mr Γl Δl Γ Δ Γ' Δ' (.Assign [.Name x pos'] e pos) (Zgg te (Jp i)) (Dl.Yr i fe):=⟨Zmu hN hi hx he.q hs hf,Zpq he.o h0 h1 h2⟩
theorem Zvu {i:Nat}{x:Str}(hN:X.N.Nodup)(hi:X.N[i]?=some x)(hx:Loc X.env.scope x)(he:JE X C E Γ Δ m S e te fe)(hs:swapsWith e (some (.Name x pos')) pos.line X.env=pure false:=by rfl)(hf:autoParam (X.fn x=true∨X.env.scope.names.lookup x=some .local) aT0._auto_1)
  (h1:∀j∈Γ',j≠i∧j∈Γ∧(j,false)∉S:=by decide) (h2:∀j∈Δ',j≠i∧j∈Δ∧∀p∈S,p.1≠j:=by decide):JS X C E mr Γl Δl Γ Δ Γ' Δ' (.Assign [.Name x pos'] e pos) (Zgg te (Jp i)) (Dl.Yr i fe):=⟨Zmu hN hi hx he.q hs hf,Xcm he.o h1 h2⟩
theorem Zfx {elt:Expr}{y:Str}{py spos:Pos}{ifs:List Expr}{sc:Scope}{wi:TI}{tc:TT}{gg:TG}{fi:FI}{fc:FT}{fg:FB}{i:Nat}(esc:Scope)(N N2 xs:List Str)(B:Zxy sc esc xs N N2)(hy:N[i]?=some y)(hl:esc.names.lookup y=some .local)(hi:JI X C E Γ Δ S tg iter wi fi)(hg:∀cl C' s0 H0 fp,JB (X.blkN N2 xs sc cl C' s0 H0 fp) C n xs.length tg gg fg)(ht:∀cl C' s0 H0 fp,JIf (X.blkN N2 xs sc cl C' s0 H0 fp) C E0 [] [] ifs tc fc)(he:∀cl C' s0 H0 fp,JE (X.blkN N2 xs sc cl C' s0 H0 fp) C E0 [] [] 2 [] elt te fe)
  (hesc:X.env.scope=esc:=by rfl) (hN:X.N=N:=by rfl) (hc:X.calm=true:=by rfl) (hsw:swapsWith (.ListComp elt [⟨tg,iter,ifs,0⟩] sc pos) (some (.Name y py)) spos.line X.env=pure true:=by rfl) (hs:∀v,foldedSetIterable iter X.env v=pure v:=by intro _;rfl)
  (h1:∀j∈Γ',j=i∨j∈Γ:=by decide) (h2:∀j∈Δ',j=i∨j∈Δ:=by decide):JS X C E mr Γl Δl Γ Δ Γ' Δ' (.Assign [.Name y py] (.ListComp elt [⟨tg,iter,ifs,0⟩] sc pos) spos) (Zgg (Zcr xs.length gg wi tc te) (Jp i)) (Dl.Yr i (Dl.Yy n xs.length fi fg fc fe)):=
 ⟨Zps esc N N2 xs B hy hl hi.q (fun cl C' s0 H0 fp=>(hg cl C' s0 H0 fp).q) (fun cl C' s0 H0 fp=>(ht cl C' s0 H0 fp).q) (fun cl C' s0 H0 fp=>(he cl C' s0 H0 fp).q) hesc hN hc hsw hs,Zqp (Zkq hi.o (hg [] 0 X.s₀ X.H₀ []).o (ht [] 0 X.s₀ X.H₀ []).o (he [] 0 X.s₀ X.H₀ []).o) h1 h2⟩
theorem Zcu {i:Nat}{x:Str}(hi:i∈Γ:=by decide)(hN:X.N[i]?=some x:=by rfl)(hv:autoParam (Vis X.env.scope x) aT3._auto_1)(hd:(x==("__debug__":Str))=false:=by decide)(hcd:(x==("__classdict__":Str))=false:=by decide)
  (he:JE X C E Γ Δ 2 [] e te fe) (hse:starEach [e] X.env=(false,eval e X.env)::starEach [] X.env)
  (hbase:attributeBase (.Name x p) "append" X.env (eval (.Name x p) X.env)=eval (.Name x p) X.env:=by rfl)
  (hfew:((backTo cpos (starEach [e] X.env)).all (fun x=>!x.1)&&(backToKw cpos (keywordEach [] X.env)).all (fun x=>x.1.isSome)&&decide (([e]:List Expr).length+([]:List Keyword).length+(if ([]:List Keyword).isEmpty then 0 else 1)<30))=true:=by rfl)
  (hline:(apos.endLine==cpos.line)=true:=by rfl) (hplain:(backTo cpos (starEach ([]:List Expr) X.env)).any (·.1)=false:=by rfl) (hsw:swapsWith (.Call (.Attribute (.Name x p) "append" apos) [e] [] cpos) none pos.line X.env=pure false:=by rfl) :
  JS X C E mr Γl Δl Γ Δ Γ Δ (.Expr (.Call (.Attribute (.Name x p) "append" apos) [e] [] cpos) pos) (Zrv (tBM X.K "list" Zcz (Zst i) (Zcw te Zpm))) (Dl.Zis i fe):=
 ⟨Zxe (Xnt PySem.F.plainAttrs_list PySem.F.slot_list_append PySem.F.type_list_append Zfh (qv i hN hv hd hcd) (Zig he.q Ztg hse) hbase hfew hline hse hplain) hsw,Xbx hi he.o⟩
theorem Zdn {wi:TI}{tt:TG}{fi:FI}{fb:FB}(Γl Δl:List Nat)(hp:PassesOwn (model X.prog X.w) X.A X.env X.xe)(hc:X.calm=true)(hi:JI X C E Γ Δ S tg iter wi fi)(hg:JG X C Γl Δl tg tt fb)(hb:JSs X C E mr Γl Δl Γl Δl Γl Δl body u g)(hs:∀x,foldedSetIterable iter X.env x=pure x:=by intro _;rfl)
  (h1:∀i∈Γl,i∈Γ:=by decide) (h2:∀i∈Δl,i∈Δ:=by decide) (h3:∀p∈S,p.1∉Γl∧p.1∉Δl:=by decide):JS X C E mr Γk Δk Γ Δ Γl Δl (.For tg iter body [] pos) (tFor wi tt u) (Dl.Znv fi fb g):=⟨Xof hp hc hi.q hg.q hb.q hs,Xgl hi.o hg.o hb.o h1 h2 h3⟩
theorem Xcg {tA:TT}{fA:FT}(k:Nat)(hp:PassesOwn (model X.prog X.w) X.A X.env X.xe)(hc:JT X C E Γ Δ c tA fA)(hb:JSs X C E mr Γ Δ Γ Δ Γ Δ body u g):JS X C E mr Γk Δk Γ Δ Γ Δ (.While c body [] pos) (Zqn tA u) (Dl.Zri k fA g):=⟨Xde hp hc.q hb.q,Zsy hc.o hb.o⟩
end
theorem Fun.okC {P:Program}{w:World}{K:Frag}{C:String→Addr}{mg:Str→Option Value}{base:Heap}{x qual:Str}{st:Stmt}{f:Addr}{fd:FuncData}{N ps:List Str}{k n mr:Nat}{Γ' Δ':List Nat}{g:FS}(F:Fun K x qual st f fd)(S:Xa N ps (Zj st))(hn:ps.length=n)
    (hbody:∀(cdv:Value) (A:Around) (outer:List Env) (s:Shared) (H:Hp) (E:XK),Zdr k (A.deeper (envOfC qual (Zj st) s.heap.objs.size f cdv))→
      ∃t,JSs (Zxx CX0 P w K mg base N qual (Zj st) f cdv A outer s H E).nox C E0 mr [] [] [] [] Γ' Δ' (Zbl st) t g):Zam P w K mg base CX0 (k+1) f fd ps (spD K C n mr fun ds=>(Dl.run N.length g ds).calm):=
  F.okQ S (fun vs H Q E h=>by
    obtain ⟨ds,B,h1,h2,_⟩:=h
    rw [h2.len,h1,hn]) fun cdv A outer s H vs Q E hr h=>by
    obtain ⟨ds,B,h1,h2,h3⟩:=h
    obtain ⟨t,ht⟩:=hbody cdv A outer s H E hr
    exact ⟨t,ht.q,Zkj (K:=K) ht.o h2 (Yd.imp (Zcl h3) (fun _ q=>q) fun _ _ z=>z.elim)⟩
section
variable {K:Frag}{C:String→Addr}{E:XK}{Γ Δ Γ' Δ' Γ1 Δ1 Γl Δl Γk Δk:List Nat}{m m1 m2 m3 mr:Nat}{S S1 S2 S3:List (Nat×Bool)}{H:Hp}{Q:VK}
theorem Xb.rewrite {H0 Hb H H1:Hp}{σ:St}{ρ:Yp}{A:Nat→List Addr}{i:Nat}{a:Addr}{l B':List Addr}{es:List D}{ys:List V}(I:Xb K C H0 Hb H Γ Δ σ ρ A)(g1:Xw H H1)(hi:i∈Γ)(hA:A i=a::l)(hl:i<ρ.length)(s1:σ[i]?=some (some (.ref a)))(r:RpA K C H1 es ys B')
    (hB:∀b∈B',b∈l∨H b=none) (hD:i∈Δ→B'.Nodup):∃A',Xb K C H0 Hb (upd H1 a (.lst ys)) Γ Δ σ (ρ.set i (some (.lst es))) A':=by
  obtain ⟨tb,ta,tt⟩:=I.top i hi a l hA
  have ha:a∈A i:=by rw [hA];exact .head _
  have w1:∀b∈B',H0 b=none:=fun b hb=>(hB b hb).elim (fun z=>I.loc i hi b (by rw [hA];exact .tail _ z)) fun z=>I.s0.free (I.same.free z)
  have w0:a∉B':=fun z=>(hB a z).elim ta fun z=>I.ne ha z
  have w2:∀j∈Γ,j≠i→j∈Γ∧∀b l',A j=b::l'→b∉B':=fun j hj e=>⟨hj,fun b l' e' z=>(hB b z).elim
    (fun z=>(I.top j hj b l' e').2.2 i (fun w=>e w.symm) (by rw [hA];exact .tail _ z)) fun z=>I.ne (j:=j) (by rw [e'];exact .head _) z⟩
  have w3:∀j∈Δ,j≠i→j∈Δ∧∀b∈A j,b∉B':=fun j hj e=>⟨hj,fun b hb z=>(hB b z).elim
    (fun z=>(I.deep j hj).2.1 i (fun w=>e w.symm) b hb (by rw [hA];exact .tail _ z)) fun z=>I.ne hb z⟩
  have w4:i∈Δ→B'.Nodup∧(∀j,j≠i→∀b∈B',b∉A j)∧∀b∈B',Hb b=none:=fun hd=>by
    obtain ⟨d1,d2,d3⟩:=I.deep i hd
    rw [hA] at d2 d3
    exact ⟨hD hd,fun j hj b hb=>(hB b hb).elim (fun z=>d2 j hj b (.tail _ z)) fun z w=>I.ne w z,fun b hb=>(hB b hb).elim (fun z=>d3 b (.tail _ z)) fun z=>I.same.free z⟩
  exact (I.mono g1).write (Γ':=Γ) (Δ':=Δ) hi hA hl s1 r w1 w0 w2 w3 w4
theorem RpA.set:∀{ds:List D} {vs:List V} {A:List Addr} {j:Nat} {d:D} {v:V},RpA K C H ds vs A→Rp K C H d v []→Dl.Yi ds=true→RpA K C H (ds.set j d) (vs.set j v) []
 | [],_,_,_,_,_,r,_,_=>by rw [r.1];exact RpA.nil
 | x::ds,_,_,0,d,v,r,q,h=>by
  obtain ⟨y,l,B,B',e1,e2,e3,e4⟩:=r
  simp only [Dl.Yi,Bool.and_eq_true] at h
  subst e1
  exact ⟨v,l,[],[],rfl,q,e3.flat' h.2,rfl⟩
 | x::ds,_,_,j+1,d,v,r,q,h=>by
  obtain ⟨y,l,B,B',e1,e2,e3,e4⟩:=r
  simp only [Dl.Yi,Bool.and_eq_true] at h
  subst e1
  have z:=e2.flat h.1
  subst z
  exact ⟨y,_,[],[],rfl,e2,RpA.set e3 q h.2,rfl⟩
theorem Xjh {i:Nat}{te tk:TE}{fe fk:FE}(hi:i∈Γ:=by decide)(he:EOk K C E Γ Δ m1 S1 te fe)(hk:EOk K C E Γ Δ m2 S2 tk fk):SOk K C E mr Γl Δl Γ Δ Γ Δ (Zgg te (Zkz (Zst i) tk Xia)) (Dl.Xjx i fk fe):=fun H0 Hb H σ ρ A D I p=>by
 refine he H0 Hb H σ ρ A _ I (Yd.imp (Yd.bind p) (fun d q v H1 g1 r=>?_) fun c x q H' g'=>q H' (Xw.from0 I g'))
 have I1:=I.mono g1
 split at q
 ·rename_i ds e
  obtain ⟨a,xs,l,s1,h1,r1,hA,hl⟩:=Zjr I1 e
  refine ⟨.ref a,s1,hk H0 Hb H1 σ ρ A _ I1 (Yd.imp (Yd.bind q) (fun z q w H2 g2 rz=>?_) fun c x q H' g'=>q H' (Xw.from0 I1 g'))⟩
  obtain ⟨Bz,rz,_⟩:=rz
  obtain ⟨B,rd,_⟩:=r
  cases z with
  | int n =>
   obtain ⟨rfl,_⟩:=rz
   simp only at q
   split at q
   ·rename_i hf
    split at q
    ·rename_i j ej
     have zB:=rd.flat hf.1
     subst zB
     obtain ⟨A',I'⟩:=I1.rewrite g2 hi hA hl s1 (RpA.set (j:=j) (r1.same g2) (rd.same g2) hf.2) (fun _ hb=>nomatch hb) fun _=>nodup_nil
     exact ⟨a,xs,n,j,rfl,rfl,g2 _ _ h1,by rw [r1.len];exact ej,q _ _ A' I'⟩
    ·exact q.elim
   ·exact q.elim
  | _=>exact q.elim
 ·exact q.elim
def BsN (K:Frag)(C:String→Addr)(Γ Δ Γ' Δ':List Nat)(g:TGs)(b:List D→Yp→R Yp):Prop:=∀(H0 Hb H:Hp) (σ:St) (ρ:Yp) (A:Nat→List Addr) (d:List D) (v:List V) (B:List Addr) (Rr:St→Hp→Prop),Xb K C H0 Hb H Γ Δ σ ρ A→RpA K C H d v B→B.Nodup→(∀a∈B,Hb a=none∧∀j,a∉A j)→
 Yd (b d ρ) (fun ρ'=>∀σ' A',Xb K C H0 Hb H Γ' Δ' σ' ρ' A'→Rr σ' H) (fun _ _=>False)→g v σ H Rr
theorem Xgc (h1:∀i∈Γ',i∈Γ)(h2:∀i∈Δ',i∈Δ):BsN K C Γ Δ Γ' Δ' Zwb Dl.Zcv:=fun H0 Hb H σ ρ A d v B Rr I r _ _ p=>by
 cases d with
 | nil=>exact ⟨r.1,p _ A (I.weak h1 h2)⟩
 | cons _ _=>exact p.elim
theorem Xdb {i:Nat}{gs:TGs}{bs:List D→Yp→R Yp}(h2:BsN K C (i::Γ) (i::Δ) Γ' Δ' gs bs):BsN K C Γ Δ Γ' Δ' (Zfa (Jp i) gs) (Dl.Xn (Dl.Zp i) bs):=fun H0 Hb H σ ρ A d v B Rr I r nd hB p=>by
  cases d with
  | nil=>exact p.elim
  | cons d ds =>
    obtain ⟨x,l,B1,B2,e1,e2,e3,e4⟩:=r
    subst e1 e4
    obtain ⟨n1,n2,n3⟩:=List.nodup_append.mp nd
    have hB1:∀a∈B1,Hb a=none∧∀j,a∉A j:=fun a ha=>hB a (mem_append_left _ ha)
    obtain ⟨A',I',hA'⟩:=I.put (Γ':=i::Γ) (Δ':=i::Δ) (i:=i) e2
      (fun j hj e=>⟨(List.mem_cons.mp hj).elim (fun z=>absurd z e) id,fun a l' e' ha=>(hB1 a ha).2 j (by rw [e'];exact .head _)⟩)
      (fun _=>⟨fun a ha=>I.s0.free (hB1 a ha).1,fun a l' e=>by
        subst e
        exact ⟨(hB1 a (.head _)).1,(List.nodup_cons.mp n1).1,fun j _=>(hB1 a (.head _)).2 j⟩⟩)
      (fun j hj e=>⟨(List.mem_cons.mp hj).elim (fun z=>absurd z e) id,fun a ha hb=>(hB1 a hb).2 j ha⟩)
      (fun _=>⟨n1,fun j _ a ha=>(hB1 a ha).2 j,fun a ha=>(hB1 a ha).1⟩)
    exact ⟨x,l,rfl,h2 H0 Hb H _ _ A' ds l B2 Rr I' e3 n2 (fun a ha=>⟨(hB a (mem_append_right _ ha)).1,fun j h=>(hA' j a h).elim (fun z=>n3 a z a ha rfl) fun z=>(hB a (mem_append_right _ ha)).2 j z⟩) p⟩
theorem Zsh {te:TE}{gs:TGs}{fe:FE}{bs:List D→Yp→R Yp}{n:Nat}(hn:∀ds ρ ρ',bs ds ρ=.ok ρ'→ds.length=n)(he:EOk K C E Γ Δ 2 [] te fe)(hb:BsN K C Γ Δ Γ' Δ' gs bs):SOk K C E mr Γl Δl Γ Δ Γ' Δ' (Zgg te (Zfm K n gs)) (Dl.Xih fe (Dl.Zcx bs)):=fun H0 Hb H σ ρ A D I p=>by
 refine he H0 Hb H σ ρ A _ I (Yd.imp (Yd.bind p) (fun d q v H1 g1 r=>?_) fun c x q H' g'=>q H' (Xw.from0 I g'))
 obtain ⟨B,r1,r2,_,r4⟩:=r
 have hn':∀a∈B,H a=none:=fun a ha=>(r2 a ha).elim id fun z=>z.none.elim
 have q':=Zcl (Yd.bind q)
 cases d with
 | tup ds =>
  obtain ⟨a,xs,rfl,e2,e3⟩:=r1
  have q'':Yd (bs ds ρ) (fun ρ'=>∀σ' H' A',Xb K C H0 Hb H' Γ' Δ' σ' ρ' A'→D.nx σ' H') (fun _ _=>False):=q'
  have hl:xs.length=n:=by
   rw [e3.len]
   cases e:bs ds ρ with
   | ok ρ'=>exact hn ds ρ ρ' e
   | err _ _=>rw [e] at q'';exact q''.elim
   | bad=>rw [e] at q'';exact q''.elim
  exact ⟨a,xs,rfl,SqT.of e2,hl,hb H0 Hb H1 σ ρ A ds xs B D.nx (I.mono g1) e3 (r4 rfl) (fun a ha=>⟨I.same.free (hn' a ha),fun j z=>I.ne z (hn' a ha)⟩) (Yd.imp q'' (fun ρ' q σ' A' I'=>q σ' H1 A' I') fun _ _ z=>z)⟩
 | _=>exact q'.elim
end
section
variable {X:Cx}{C:String→Addr}{E:XK}{Γ Δ Γ' Δ' Γ1 Δ1 Γl Δl Γk Δk:List Nat}{m m1 m2 m3 mr:Nat}{S S1 S2 S3:List (Nat×Bool)}{a b c e st o tg iter:Expr}{es rest:List Expr}{ta tb tc te ts:TE}{fa fb fc fe fs:FE}{t:TA}{f:FA}{pos p p2 apos cpos pos':Pos}{n:Nat}
theorem Xkm {i:Nat}{x:Str}{kx:Expr}{tk:TE}{fk:FE}(hi:i∈Γ:=by decide)(hN:X.N[i]?=some x:=by rfl)(hv:autoParam (Vis X.env.scope x) aT3._auto_1)(hd:(x==("__debug__":Str))=false:=by decide)(hcd:(x==("__classdict__":Str))=false:=by decide)
    (he:JE X C E Γ Δ m1 S1 e te fe) (hk:JE X C E Γ Δ m2 S2 kx tk fk) (hs:swapsWithSole [.Subscript (.Name x p) kx p2] e pos.line X.env=pure false:=by rfl) (hw:swappedStores [.Subscript (.Name x p) kx p2] e X.env=pure none:=by rfl) (h1:(assignEach [.Subscript (.Name x p) kx p2] X.env).map (·.2)=[assign (.Subscript (.Name x p) kx p2) X.env]:=by rfl)
    (hq:∀v,assign (.Subscript (.Name x p) kx p2) X.env v=(do
      let ov ← holding [v] (eval (.Name x p) X.env)
      let iv ← holding [v,ov] (eval kx X.env)
      standAt p2
      holding [v,ov,iv] (setItem ov iv v)
      release [v,ov,iv] []):=by intro _;rfl) :
    JS X C E mr Γl Δl Γ Δ Γ Δ (.Assign [.Subscript (.Name x p) kx p2] e pos) (Zgg te (Zkz (Zst i) tk Xia)) (Dl.Xjx i fk fe):=⟨Xeb he.q (Xkg (qv i hN hv hd hcd) hk.q set_list hq) hs hw h1,Xjh hi he.o hk.o⟩
structure JN (X:Cx)(C:String→Addr)(Γ Δ Γ' Δ':List Nat)(es:List Expr)(n:Nat)(t:TGs)(f:List D→Yp→R Yp):Prop where
 q:QGs X es t
 o:BsN X.K C Γ Δ Γ' Δ' t f
 n:∀ds ρ ρ',f ds ρ=.ok ρ'→ds.length=n
theorem Xef (h1:∀i∈Γ',i∈Γ:=by decide)(h2:∀i∈Δ',i∈Δ:=by decide):JN X C Γ Δ Γ' Δ' [] 0 Zwb Dl.Zcv:=⟨Zok,Xgc h1 h2,Zwt⟩
theorem Zkp {i:Nat}{x:Str}{u:TGs}{fu:List D→Yp→R Yp}(hN:X.N.Nodup)(hi:X.N[i]?=some x)(hx:Loc X.env.scope x)(h2:JN X C (i::Γ) (i::Δ) Γ' Δ' es n u fu)(hf:autoParam (X.fn x=true∨X.env.scope.names.lookup x=some .local) aT0._auto_1)
  (hs:(assignEach (.Name x p::es) X.env).map (·.2)=assign (.Name x p) X.env::(assignEach es X.env).map (·.2):=by rfl):JN X C Γ Δ Γ' Δ' (.Name x p::es) (n+1) (Zfa (Jp i) u) (Dl.Xn (Dl.Zp i) fu):=⟨Zju (Znu hN hi hx hf) h2.q hs,Xdb h2.o,Zos h2.n⟩
theorem Zmg {k:Nat}{u:TGs}{fu:List D→Yp→R Yp}(hc:X.calm=true)(he:JE X C E Γ Δ 2 [] e te fe)(hb:JN X C Γ Δ Γ' Δ' es n u fu)(hn:(assignEach es X.env).length=n:=by rfl)(hst:(assignEach es X.env).findIdx? (·.1)=none:=by rfl)
  (hs:swapsWithSole [.Tuple es k p] e pos.line X.env=pure false:=by rfl) (hw:swappedStores [.Tuple es k p] e X.env=pure none:=by rfl) (h1:(assignEach [.Tuple es k p] X.env).map (·.2)=[assign (.Tuple es k p) X.env]:=by rfl) :
  JS X C E mr Γl Δl Γ Δ Γ' Δ' (.Assign [.Tuple es k p] e pos) (Zgg te (Zfm X.K n u)) (Dl.Xih fe (Dl.Zcx fu)):=⟨Xeb he.q (Zvk hc hb.q hn hst) hs hw h1,Zsh hb.n he.o hb.o⟩
theorem Xjd {x:Str}{i:Int}{u:Value}(hg:Gl X x)(hm:X.mg x=some u)(r:RelV (.int i) u)(hd:(x==("__debug__":Str))=false:=by decide):JE X C E Γ Δ 2 [] (.Name x pos) (tC (.int i)) (Dl.fC (.int i)):=⟨Xfb hg hm r hd,Zzh fun _=>rpI⟩
end
section
variable {K:Frag}{C:String→Addr}{E:XK}{Γ Δ Γ' Δ' Γ1 Δ1 Γl Δl Γk Δk:List Nat}{m m1 m2 m3 mr:Nat}{S S1 S2 S3:List (Nat×Bool)}{H:Hp}{Q:VK}
theorem Xct {i:Nat}{te:TE}{fe:FE}(hi:i∈Γ:=by decide)(he:EOk K C E Γ Δ m S te fe)(h0:∀p∈S,p.1∈Γ:=by decide)(hS:∀p∈S,p.1≠i:=by decide)(h1:∀j∈Γ',j∈Γ∧(j=i∨(j,false)∉S):=by decide)(h2:∀j∈Δ',j≠i∧j∈Δ∧∀p∈S,p.1≠j:=by decide) :
  SOk K C E mr Γl Δl Γ Δ Γ' Δ' (Zrv (tBM K "list" Zcz (Zst i) (Zcw te Zpm))) (Dl.Zis i fe):=fun H0 Hb H σ ρ A D I p=>by
 unfold Dl.Zis at p
 split at p
 ·rename_i ds e
  obtain ⟨a,xs,l,s1,h1',r1,hA,hl⟩:=Zjr I e
  refine ⟨.ref a,s1,.inl ⟨rfl,xs,SqL.of h1'⟩,he H0 Hb H σ ρ A _ I (Yd.imp (Yd.bind p) (fun d q v H1 g1 r=>?_) fun c x q H' g'=>q H' (Xw.from0 I g'))⟩
  split at q
  ·rename_i hz
   obtain ⟨B,r2,r3,_⟩:=r
   show Zcz (.ref a) [v] H1 fun _ H3=>D.nx σ H3
   refine Xdq (g1 _ _ h1') (by rw [r1.len];exact Zhl hz) ?_
   obtain ⟨tb,ta,tt⟩:=I.top i hi a l hA
   have ha:a∈A i:=by rw [hA];exact .head _
   have w0:a∉l++B:=fun z=>(List.mem_append.mp z).elim ta fun z=>(r3 a z).elim (fun w=>I.ne ha w) fun w=>by
    obtain ⟨p,hp,w⟩:=w.mem
    exact tt p.1 (hS p hp) w
   have w1:∀b∈l++B,H0 b=none:=fun b hb=>(List.mem_append.mp hb).elim (fun z=>I.loc i hi b (by rw [hA];exact .tail _ z)) fun z=>(r3 b z).elim (fun w=>I.s0.free (I.same.free w)) fun w=>by
    obtain ⟨p,hp,w⟩:=w.mem
    exact I.loc p.1 (h0 p hp) b w
   have w2:∀j∈Γ',j≠i→j∈Γ∧∀b l',A j=b::l'→b∉l++B:=fun j hj e=>by
    obtain ⟨q1,q2⟩:=h1 j hj
    refine ⟨q1,fun b l' e' z=>(List.mem_append.mp z).elim (fun z=>(I.top j q1 b l' e').2.2 i (fun w=>e w.symm) (by rw [hA];exact .tail _ z)) fun z=>(r3 b z).elim (fun w=>I.ne (j:=j) (by rw [e'];exact .head _) w) ?_⟩
    exact I.top_out q1 (q2.elim (fun z=>absurd z e) id) e'
   have w3:∀j∈Δ',j≠i→j∈Δ∧∀b∈A j,b∉l++B:=fun j hj e=>⟨(h2 j hj).2.1,fun b hb z=>(List.mem_append.mp z).elim (fun z=>(I.deep j (h2 j hj).2.1).2.1 i (fun w=>e w.symm) b hb (by rw [hA];exact .tail _ z)) fun z=>(r3 b z).elim (fun w=>I.ne hb w) (I.deep_out (h2 j hj).2.1 (h2 j hj).2.2 hb)⟩
   obtain ⟨A',I'⟩:=(I.mono g1).write (Γ':=Γ') (Δ':=Δ') hi hA hl s1 ((r1.same g1).app (RpA.one r2)) w1 w0 w2 w3 (fun hd=>absurd rfl (h2 i hd).1)
   exact q _ _ A' I'
  ·exact q.elim
 ·exact p.elim
end
section
variable {X:Cx}{C:String→Addr}{E:XK}{Γ Δ Γ' Δ' Γ1 Δ1 Γl Δl Γk Δk:List Nat}{m m1 m2 m3 mr:Nat}{S S1 S2 S3:List (Nat×Bool)}{a b c e st o tg iter:Expr}{es rest:List Expr}{ta tb tc te ts:TE}{fa fb fc fe fs:FE}{t:TA}{f:FA}{pos p p2 apos cpos pos':Pos}{n:Nat}
theorem Xjl {i:Nat}{x:Str}(hi:i∈Γ:=by decide)(hN:X.N[i]?=some x:=by rfl)(hv:autoParam (Vis X.env.scope x) aT3._auto_1)(hd:(x==("__debug__":Str))=false:=by decide)(hcd:(x==("__classdict__":Str))=false:=by decide)
  (he:JE X C E Γ Δ m S e te fe) (hse:starEach [e] X.env=(false,eval e X.env)::starEach [] X.env)
  (hbase:attributeBase (.Name x p) "append" X.env (eval (.Name x p) X.env)=eval (.Name x p) X.env:=by rfl)
  (hfew:((backTo cpos (starEach [e] X.env)).all (fun x=>!x.1)&&(backToKw cpos (keywordEach [] X.env)).all (fun x=>x.1.isSome)&&decide (([e]:List Expr).length+([]:List Keyword).length+(if ([]:List Keyword).isEmpty then 0 else 1)<30))=true:=by rfl)
  (hline:(apos.endLine==cpos.line)=true:=by rfl) (hplain:(backTo cpos (starEach ([]:List Expr) X.env)).any (·.1)=false:=by rfl) (hsw:swapsWith (.Call (.Attribute (.Name x p) "append" apos) [e] [] cpos) none pos.line X.env=pure false:=by rfl)
  (h0:∀p∈S,p.1∈Γ:=by decide) (hS:∀p∈S,p.1≠i:=by decide) (h1:∀j∈Γ',j∈Γ∧(j=i∨(j,false)∉S):=by decide) (h2:∀j∈Δ',j≠i∧j∈Δ∧∀p∈S,p.1≠j:=by decide) :
  JS X C E mr Γl Δl Γ Δ Γ' Δ' (.Expr (.Call (.Attribute (.Name x p) "append" apos) [e] [] cpos) pos) (Zrv (tBM X.K "list" Zcz (Zst i) (Zcw te Zpm))) (Dl.Zis i fe):=
 ⟨Zxe (Xnt PySem.F.plainAttrs_list PySem.F.slot_list_append PySem.F.type_list_append Zfh (qv i hN hv hd hcd) (Zig he.q Ztg hse) hbase hfew hline hse hplain) hsw,Xct hi he.o h0 hS h1 h2⟩
end
section
variable {K:Frag}{C:String→Addr}{E:XK}{Γ Δ Γ' Δ' Γ1 Δ1 Γl Δl Γk Δk:List Nat}{m m1 m2 m3 mr:Nat}{S S1 S2 S3:List (Nat×Bool)}{H:Hp}{Q:VK}
def JOk (K:Frag)(C:String→Addr)(E:XK)(Γ Δ:List Nat)(t:TJ)(f:FA):Prop:=∀(H0 Hb H:Hp) (σ:St) (ρ:Yp) (A:Nat→List Addr) (Q:Hp→Prop),Xb K C H0 Hb H Γ Δ σ ρ A→
 Yd (f ρ) (fun _=>∀H',Xw H H'→Q H') (fun c x=>∀H',Xw H H'→EC C E c x H')→t σ H Q
end
section
variable {X:Cx}{C:String→Addr}{E:XK}{Γ Δ Γ' Δ' Γ1 Δ1 Γl Δl Γk Δk:List Nat}{m n mr:Nat}{S:List (Nat×Bool)}{e:Expr}{es:List Expr}{t:TA}{f:FA}{np cpos pos hpos:Pos}
end
section
variable {K:Frag}{C:String→Addr}{E:XK}{Γ Δ Γ' Δ' Γ1 Δ1 Γl Δl Γk Δk:List Nat}{m m1 m2 m3 mr:Nat}{S S1 S2 S3:List (Nat×Bool)}{H:Hp}{Q:VK}
theorem Res.newTop {H H':Hp}{A:Nat→List Addr}{ds:List D}{vs:List V}{p:Addr}{B:List Addr}(g1:Xw H H')(r:RpA K C H' ds vs B)(hB:∀a∈B,H a=none∨InS A S a)(hp:H' p=none):Res K C 1 S H A (.lst ds) (.ref p) (upd H' p (.lst vs)):=by
 have g2:=sameNew hp (.lst vs)
 refine ⟨p::B,⟨p,vs,B,rfl,Ya,r.same g2,rfl⟩,fun b hb=>?_,fun _ b l e=>?_,(fun z=>nomatch z)⟩
 ·rcases List.mem_cons.mp hb with z | z
  ·rw [z];exact .inl (g1.free hp)
  ·exact hB b z
 ·cases e
  refine ⟨g1.free hp,fun h=>?_⟩
  obtain ⟨ys,w,_⟩:=r.isl p h
  rw [w] at hp
  cases hp
theorem InS.l {A:Nat→List Addr}{a:Addr}(h:InS A S1 a):InS A (S1++S2) a:=h.mono fun _ hp=>mem_append_left _ hp
theorem InS.r {A:Nat→List Addr}{a:Addr}(h:InS A S2 a):InS A (S1++S2) a:=h.mono fun _ hp=>mem_append_right _ hp
theorem Xaf {ta tb:TE}{fa fb:FE}(ha:EOk K C E Γ Δ m1 S1 ta fa)(hb:EOk K C E Γ Δ m2 S2 tb fb):EOk K C E Γ Δ 1 (S1++S2) (tOp Zru ta tb) (Dl.f2 Dl.Zpd fa fb):=
  fun H0 Hb H σ ρ A Q I p=>ha H0 Hb H σ ρ A _ I (p.bind.imp (fun x q vx H1 g1 r1=>hb H0 Hb H1 σ ρ A _ (I.mono g1) (q.bind.imp (fun y q vy H2 g2 r2=>by
    obtain ⟨d,e,q⟩:=Zet q
    obtain ⟨Bx,r1,rB,_⟩:=r1
    obtain ⟨By,r2,rB2,_⟩:=r2
    have r1:=r1.same g2
    have g13:=g1.trans g2
    unfold Dl.Zpd at e
    split at e
    · split at e
      · rename_i hz
        cases e
        obtain ⟨a,xs,B,rfl,e2,e3,e4⟩:=r1
        obtain ⟨a',xs',B',rfl,e2',e3',e4'⟩:=r2
        subst e4 e4'
        refine Xee e2 e2' (by rw [e3.len,e3'.len];exact Zdb hz) fun p hp=>?_
        exact q _ _ (g13.trans (sameNew hp _)) (Res.newTop g13 (e3.app e3') (fun b hb=>(List.mem_append.mp hb).elim (fun h=>(rB b (.tail _ h)).imp id InS.l) fun h=>(rB2 b (.tail _ h)).imp (fun z=>g1.free z) InS.r) hp)
      · cases e
    · cases e) fun c x q H' g'=>q H' (g1.trans g'))) fun c x q H' g'=>q H' g')
end
section
variable {X:Cx}{C:String→Addr}{E:XK}{Γ Δ Γ' Δ' Γ1 Δ1 Γl Δl Γk Δk:List Nat}{m m1 m2 m3 mr:Nat}{S S1 S2 S3:List (Nat×Bool)}{a b c e st o tg iter:Expr}{es rest:List Expr}{ta tb tc te ts:TE}{fa fb fc fe fs:FE}{t:TA}{f:FA}{pos p p2 apos cpos pos':Pos}{n:Nat}{body:List Stmt}{u:TS}{g:FS}
theorem Ztk (ha:JE X C E Γ Δ m1 S1 a ta fa)(hb:JE X C E Γ Δ m2 S2 b tb fb):JE X C E Γ Δ 1 (S1++S2) (.BinOp a .Add b pos) (tOp Zru ta tb) (Dl.f2 Dl.Zpd fa fb):=⟨Xon Zw ha.q hb.q,Xaf ha.o hb.o⟩
end
structure ClsIn (K:Frag)(C:Addr):Prop where
 ty:typeIn K (.ref C)=some (.type "type")
 cl:∃c,clsIn K C=some c
 se:subIn K (.ref C) (.ref C)=some true
section
variable {K:Frag}{C:String→Addr}{E:XK}{Γ Δ Γ' Δ' Γ1 Δ1 Γl Δl Γk Δk:List Nat}{m m1 m2 m3 mr:Nat}{S S1 S2 S3:List (Nat×Bool)}{H:Hp}{Q:VK}
theorem RpA.rev {ds:List D}{vs:List V}{A:List Addr}(r:RpA K C H ds vs A):∃B,RpA K C H ds.reverse vs.reverse B∧∀a∈B,a∈A:=by
 induction ds generalizing vs A with
 | nil =>
  obtain ⟨e1,e2⟩:=r
  subst e1 e2
  exact ⟨[],⟨rfl,rfl⟩,fun _ h=>h⟩
 | cons d ds ih =>
  obtain ⟨x,l,B,B',e1,e2,e3,e4⟩:=r
  subst e1 e4
  obtain ⟨B2,q1,q2⟩:=ih e3
  refine ⟨B2++B,?_,fun a ha=>(List.mem_append.mp ha).elim (fun h=>mem_append_right _ (q2 a h)) fun h=>mem_append_left _ h⟩
  rw [reverse_cons,reverse_cons]
  exact q1.app (RpA.one e2)
theorem Zzf {ta ts:TE}{fa fs:FE}(ha:EOk K C E Γ Δ m1 S1 ta fa)(hs:EOk K C E Γ Δ m2 S2 ts fs):EOk K C E Γ Δ 1 S1 (tRev K ta ts) (Dl.f2 Dl.Ztn fa fs):=
  fun H0 Hb H σ ρ A Q I p=>ha H0 Hb H σ ρ A _ I (p.bind.imp (fun x q vx H1 g1 r1=>hs H0 Hb H1 σ ρ A _ (I.mono g1) (q.bind.imp (fun y q vy H2 g2 r2=>by
    obtain ⟨d,e,q⟩:=Zet q
    obtain ⟨Bx,r1,rB,_⟩:=r1
    obtain ⟨By,r2,_⟩:=r2
    have r1:=r1.same g2
    have g13:=g1.trans g2
    unfold Dl.Ztn at e
    split at e
    · split at e
      · rename_i hf
        cases e
        obtain ⟨a,ys,B,rfl,e2,e3,e4⟩:=r1
        subst e4
        obtain ⟨rfl,_⟩:=r2
        obtain ⟨B2,q1,q2⟩:=e3.rev
        refine ⟨a,ys,rfl,by rw [hf],SqL.of e2,fun p hp=>q _ _ (g13.trans (sameNew hp _)) (Res.newTop g13 q1 (fun b hb=>rB b (.tail _ (q2 b hb))) hp)⟩
      · cases e
    · cases e) fun c x q H' g'=>q H' (g1.trans g'))) fun c x q H' g'=>q H' g')
end
structure JJ (X:Cx)(C:String→Addr)(E:XK)(Γ Δ:List Nat)(es:List Expr)(t:TJ)(f:FA):Prop where
 q:QJ X es t
 o:JOk X.K C E Γ Δ t f
section
variable {X:Cx}{C:String→Addr}{E:XK}{Γ Δ Γ' Δ' Γ1 Δ1 Γl Δl Γk Δk:List Nat}{m m1 m2 m3 mr:Nat}{S S1 S2 S3:List (Nat×Bool)}{a b c e st o tg iter:Expr}{es rest:List Expr}{ta tb tc te ts:TE}{fa fb fc fe fs:FE}{t:TA}{f:FA}{pos p p2 apos cpos pos' np jp:Pos}{n:Nat}{body:List Stmt}{s:Stmt}{u:TS}{g:FS}{tj:TJ}
theorem Xij (K:Frag)(he:JE X C E Γ Δ m S e te fe)(hst:JE X C E Γ Δ m2 S2 st ts fs)(hK:X.K=K:=by rfl):JE X C E Γ Δ 1 S (.Subscript e (.Slice none none (some st) p2) pos) (tRev K te ts) (Dl.f2 Dl.Ztn fe fs):=by
 subst hK
 exact ⟨Xlc he.q hst.q,Zzf he.o hst.o⟩
end
section
variable {K:Frag}{C:String→Addr}{E:XK}{Γ Δ Γ' Δ' Γ1 Δ1 Γl Δl Γk Δk:List Nat}{m m1 m2 m3 mr:Nat}{S S1 S2 S3:List (Nat×Bool)}{H:Hp}{Q:VK}
end
section
variable {X:Cx}{C:String→Addr}{E:XK}{Γ Δ Γ' Δ' Γ1 Δ1 Γl Δl Γk Δk:List Nat}{m m1 m2 m3 mr:Nat}{S S1 S2 S3:List (Nat×Bool)}{a b c e st o tg iter:Expr}{es rest:List Expr}{ta tb tc te ts:TE}{fa fb fc fe fs:FE}{t:TA}{f:FA}{pos p p2 apos cpos pos' np jp:Pos}{n:Nat}{tj:TJ}
end
section
variable {K:Frag}{C:String→Addr}{E:XK}{Γ Δ Γ' Δ' Γ1 Δ1 Γl Δl Γk Δk:List Nat}{m m1 m2 m3 mr:Nat}{S S1 S2 S3:List (Nat×Bool)}{H:Hp}{Q:VK}
end
section
variable {X:Cx}{C:String→Addr}{E:XK}{Γ Δ:List Nat}{m:Nat}{S:List (Nat×Bool)}{e:Expr}{es:List Expr}{te:TE}{fe:FE}{f:FA}{pos:Pos}{tj:TJ}
end
section
variable {K:Frag}{C:String→Addr}{E:XK}{Γ Δ Γ' Δ' Γ1 Δ1 Γl Δl Γk Δk:List Nat}{m m1 m2 m3 mr:Nat}{S S1 S2 S3:List (Nat×Bool)}{H:Hp}{Q:VK}
end
section
variable {X:Cx}{C:String→Addr}{E:XK}{Γ Δ Γ' Δ' Γ1 Δ1 Γl Δl Γk Δk:List Nat}{mr:Nat}{np pos hpos:Pos}
end
section
variable {K:Frag}{C:String→Addr}{E:XK}{Γ Δ Γ' Δ' Γ1 Δ1 Γl Δl Γk Δk:List Nat}{m m1 m2 m3 mr:Nat}{S S1 S2 S3:List (Nat×Bool)}{H:Hp}{Q:VK}
end
section
variable {X:Cx}{C:String→Addr}{E:XK}{Γ Δ Γ' Δ' Γ1 Δ1 Γl Δl Γk Δk:List Nat}{m m1 m2 m3 mr:Nat}{S S1 S2 S3:List (Nat×Bool)}{a b c e st o tg iter:Expr}{es rest:List Expr}{ta tb tc te ts:TE}{fa fb fc fe fs:FE}{pos p p2 apos cpos pos':Pos}
end
section
variable {X:Cx}{pins:List (Addr×Obj)}{σ:St}{H:Hp}{s:Shared}{h':Heap}
theorem Inv.turnTup {t':Nat}{ch:List Addr}{p:Addr}{xs:List V}{its:List Value}(I:Inv X pins σ H s)(k:∀b o,b∉ch→s.heap.get? b=some o→h'.get? b=some o)(hf:∀b∈ch,Zin X pins H b)
  (hp:s.heap.objs.size≤p) (hz:xs.length≤sizeLine) (hv:Jc xs its) (ho:IsTup h' p its.toArray):Inv X pins σ (upd H p (.tup xs)) {s with heap:=h',toks:=t'}:=by
 have hn:H p=none:=I.hok.fresh hp
 have nch:∀b u,H b=some u→b∉ch:=fun b u e z=>by rw [(hf b z).1] at e;cases e
 refine I.step (g':=s.gens) (d':=s.drawn) (ch:=ch) (fun b hb=>⟨(hf b hb).2.2.2.1,(hf b hb).2.1,(hf b hb).2.2.2.2.1,(hf b hb).2.2.2.2.2⟩) (fun b o _ _ hc e _=>k b o hc e) (fun b o _ _ hc e _=>⟨o.slots,k b o hc e⟩) (fun b o _ e n=>?_)
  (fun b o hc e=>⟨o,k b o hc e⟩) (fun b ys e=>by rw [Xq (Xj e hn)];exact e) (fun b o u e=>by rw [Xq (Xj e hn)];exact e) (fun b p n e=>by rw [Xq (Xj e hn)];exact e) (fun m hm=>?_) (fun b u e=>?_) I.bare
 ·rw [Xq]
  ·exact n
  ·exact ne_of_lt (lt_of_lt_of_le (lt_size e) hp)
 ·obtain ⟨o,es,ep,ho,r⟩:=hm
  exact ⟨o,es,ep,k _ o (fun z=>(hf _ z).2.1 rfl) ho,r⟩
 ·by_cases hb:b=p
  ·subst hb
   rw [Ya] at e
   cases e
   exact ⟨hz,its,hv,ho⟩
  ·rw [Xq hb] at e
   refine (I.hok b u e).stay (fun c v hc q=>k c v ?_ q) (fun c q=>by rw [Xq (Xj q hn)];exact q) (fun c ys q=>by rw [Xq (Xj q hn)];exact q) fun c ob u q=>by rw [Xq (Xj q hn)];exact q
   rcases hc with z | z
   ·rw [z];exact nch b u e
   ·exact nch c _ z
theorem Inv.turneds {t':Nat}{ch:List Addr}(I:Inv X pins σ H s)(k:∀b o,b∉ch→s.heap.get? b=some o→h'.get? b=some o)(hf:∀b∈ch,Zin X pins H b):Inv X pins σ H {s with heap:=h',toks:=t'}:=by
 have nch:∀b u,H b=some u→b∉ch:=fun b u e z=>by rw [(hf b z).1] at e;cases e
 refine I.step (g':=s.gens) (d':=s.drawn) (ch:=ch) (fun b hb=>⟨(hf b hb).2.2.2.1,(hf b hb).2.1,(hf b hb).2.2.2.2.1,(hf b hb).2.2.2.2.2⟩) (fun b o _ _ hc e _=>k b o hc e) (fun b o _ _ hc e _=>⟨o.slots,k b o hc e⟩) (fun _ _ _ _ n=>n)
  (fun b o hc e=>⟨o,k b o hc e⟩) (fun _ _ e=>e) (fun _ _ _ e=>e) (fun _ _ _ e=>e) (fun m hm=>?_) (fun b u e=>?_) I.bare
 ·obtain ⟨o,es,ep,ho,r⟩:=hm
  exact ⟨o,es,ep,k _ o (fun z=>(hf _ z).2.1 rfl) ho,r⟩
 ·refine (I.hok b u e).stay (fun c v hc q=>k c v ?_ q) (fun _ q=>q) (fun _ _ q=>q) fun _ _ _ q=>q
  rcases hc with z | z
  ·rw [z];exact nch b u e
  ·exact nch c _ z
end
noncomputable def Itz (K:Frag)(a b:Addr):It:=
  ⟨fun i H=>∃xs ys x y,SqL K H a xs∧SqL K H b ys∧xs[i]?=some x∧ys[i]?=some y,
   fun i H v H'=>∃p,v=.ref p∧H p=none∧∀xs ys,SqL K H a xs→SqL K H b ys→∃x y,xs[i]?=some x∧ys[i]?=some y∧H'=upd H p (.tup [x,y]),
   fun i H=>∃xs ys,SqL K H a xs∧SqL K H b ys∧(xs.length≤i∨ys.length≤i)⟩
noncomputable def Ite (K:Frag)(a:Addr):It:=
  ⟨fun i H=>∃xs x,SqL K H a xs∧xs[i]?=some x,
   fun i H v H'=>∃p,v=.ref p∧H p=none∧∀xs,SqL K H a xs→∃x,xs[i]?=some x∧H'=upd H p (.tup [.int i,x]),
   fun i H=>∃xs,SqL K H a xs∧xs.length≤i⟩
theorem Zpz {x y:V}{u v:Value}(h1:RelV x u)(h2:RelV y v):Jc [x,y] [u,v]:=.cons h1 (.cons h2 .nil)
theorem Xcf {P:Program}{w:World}{K:Frag}{elts:List Expr}{x1:Nat}{pos:Pos}{a b z TI TO i1 i2:Addr}(Dd:ZipApart z TI TO i1 i2 a b) :
    Turn P w K (.Tuple elts x1 pos) (Itz K a b) [z,TI,TO,i1,i2] z (fun i h=>IsZip h z TI TO .none∧IsPair h TI (.ref i1) (.ref i2)∧(∃u v,IsPair h TO u v)∧h.IsListIter i1 a i∧h.IsListIter i2 b i) where
  mem:=by simp
  obj:=fun i h st c hc=>by
    obtain ⟨h1,h2,⟨u,v,h3⟩,⟨o4,e4,_,d4⟩,⟨o5,e5,_,d5⟩⟩:=st
    simp only [mem_cons,not_mem_nil,or_false] at hc
    rcases hc with rfl | rfl | rfl | rfl | rfl
    · exact ⟨_,h1,fun v z=>by cases z⟩
    · exact ⟨_,h2,fun v z=>by cases z⟩
    · exact ⟨_,h3,fun v z=>by cases z⟩
    · exact ⟨_,e4,fun v z=>by rw [d4] at z;cases z⟩
    · exact ⟨_,e5,fun v z=>by rw [d5] at z;cases z⟩
  keep:=fun i h h' st k=>by
    obtain ⟨h1,h2,⟨u,v,h3⟩,h4,h5⟩:=st
    exact ⟨k z (by simp) _ h1,k TI (by simp) _ h2,⟨u,v,k TO (by simp) _ h3⟩,h4.at fun o e=>k i1 (by simp) o e,h5.at fun o e=>k i2 (by simp) o e⟩
  item:=by
    intro X hP hw hK hc i pins s σ H E I hf st hg
    subst hP hw hK
    obtain ⟨xs,ys,x,y,hq1,hq2,hx,hy⟩:=hg
    obtain ⟨h1,h2,⟨u0,v0,h3⟩,h4,h5⟩:=st
    obtain ⟨its1,rv1,p1,hz1⟩:=I.list hq1
    obtain ⟨its2,rv2,p2,hz2⟩:=I.list hq2
    obtain ⟨u,hu,ru⟩:=rv1.get hx
    obtain ⟨v,hv,rv⟩:=rv2.get hy
    refine wpAny_pyNext_zip_item Dd h1 h2 h3 h4 h5 p1.isList p2.isList (x:=u) (y:=v) (by simpa using hu) (by simpa using hv) fun h' a1 a2 a3 a4 a5 a6 a7=>?_
    refine ⟨_,rfl,wpAny_letOwnedTupleGo_zip a1 fun h'' b1 b2=>?_⟩
    have hne:s.heap.objs.size≠z:=fun e=>absurd (lt_size h1) (by rw [← e];exact lt_irrefl _)
    have ht:IsPair h'' s.heap.objs.size u v:=b2.extBut _ _ hne a5
    have I2:=I.turnTup (t':=s.toks) (h':=h'') (ch:=[z,TO,i1,i2]) (p:=s.heap.objs.size) (xs:=[x,y]) (its:=[u,v]) (fun c o hc e=>by
        simp only [mem_cons,not_mem_nil,or_false,not_or] at hc
        exact b2.extBut _ _ hc.1 (a7 c o hc.1 hc.2.1 hc.2.2.1 hc.2.2.2 e)) (fun c hc=>hf c (by
        simp only [mem_cons,not_mem_nil,or_false] at hc ⊢
        rcases hc with h | h | h | h<;>simp [h])) (le_refl _) (by show 2≤sizeLine;decide) (Zpz ru rv) ⟨_,ht,rfl,_,rfl⟩
    refine ⟨.ref s.heap.objs.size,_,I2,rfl,⟨_,rfl,I.hok.fresh (le_refl _),fun xs' ys' e1 e2=>⟨x,y,by rw [I.list_inj e1 hq1];exact hx,by rw [I.list_inj e2 hq2];exact hy,rfl⟩⟩,⟨b1,?_,⟨u,v,b2.extBut _ _ Dd.TOz a2⟩,a3.extBut b2.extBut Dd.i1z,a4.extBut b2.extBut Dd.i2z⟩,fun c hc=>?_⟩
    · exact b2.extBut _ _ Dd.TIz (a7 _ _ Dd.TIz Dd.TITO Dd.TIi1 Dd.TIi2 h2)
    · rw [Xq]
      · exact (hf c hc).1
      · rintro rfl
        have:∃o,s.heap.get? s.heap.objs.size=some o:=by
          simp only [mem_cons,not_mem_nil,or_false] at hc
          rcases hc with e | e | e | e | e
          · exact ⟨_,by rw [e];exact h1⟩
          · exact ⟨_,by rw [e];exact h2⟩
          · exact ⟨_,by rw [e];exact h3⟩
          · obtain ⟨o,q,_⟩:=h4;exact ⟨o,by rw [e];exact q⟩
          · obtain ⟨o,q,_⟩:=h5;exact ⟨o,by rw [e];exact q⟩
        obtain ⟨o,q⟩:=this
        exact absurd (lt_size q) (lt_irrefl _)
  done:=by
    intro X hP hw hK hc i pins s σ H E I hf st hg
    subst hP hw hK
    obtain ⟨xs,ys,hq1,hq2,hl⟩:=hg
    obtain ⟨h1,h2,⟨u0,v0,h3⟩,h4,h5⟩:=st
    obtain ⟨its1,rv1,p1,hz1⟩:=I.list hq1
    obtain ⟨its2,rv2,p2,hz2⟩:=I.list hq2
    have l1:=rv1.length
    have l2:=rv2.length
    refine wpAny_pyNext_zip_end (I.ok.hd hc) Dd h1 h2 h3 h4 h5 p1.isList p2.isList ?_ fun h' k=>⟨rfl,I.turneds (t':=s.toks) (ch:=[z,TO,i1,i2]) (fun c o hc e=>by
        simp only [mem_cons,not_mem_nil,or_false,not_or] at hc
        exact k c o hc.1 hc.2.1 hc.2.2.1 hc.2.2.2 e) (fun c hc=>hf c (by
        simp only [mem_cons,not_mem_nil,or_false] at hc ⊢
        rcases hc with h | h | h | h<;>simp [h]))⟩
    rcases hl with hl | hl
    · exact .inl (by simp;omega)
    · exact .inr (by simp;omega)
  self:=fun _ _ _ _ _ st h=>wpAny_pyIter_zip st.1 h
theorem Ztq {P:Program}{w:World}{K:Frag}{elts:List Expr}{x1:Nat}{pos:Pos}{a e it:Addr}(hne:e≠it) :
    Turn P w K (.Tuple elts x1 pos) (Ite K a) [e,it] e (fun i h=>(∃old,IsEnum h e it i old)∧h.IsListIter it a i) where
  mem:=by simp
  obj:=fun i h st c hc=>by
    obtain ⟨⟨old,h1⟩,⟨o5,e5,_,d5⟩⟩:=st
    simp only [mem_cons,not_mem_nil,or_false] at hc
    rcases hc with rfl | rfl
    · exact ⟨_,h1,fun v z=>by cases z⟩
    · exact ⟨_,e5,fun v z=>by rw [d5] at z;cases z⟩
  keep:=fun i h h' st k=>by
    obtain ⟨⟨old,h1⟩,h5⟩:=st
    exact ⟨⟨old,k e (by simp) _ h1⟩,h5.at fun o q=>k it (by simp) o q⟩
  item:=by
    intro X hP hw hK hc i pins s σ H E I hf st hg
    subst hP hw hK
    obtain ⟨xs,x,hq1,hx⟩:=hg
    obtain ⟨⟨old,h1⟩,h4⟩:=st
    obtain ⟨its1,rv1,p1,hz1⟩:=I.list hq1
    obtain ⟨u,hu,ru⟩:=rv1.get hx
    refine wpAny_pyNext_enum_item h1 h4 p1.isList (x:=u) (by simpa using hu) hne fun h' a1 a2 a3 a4 a5=>?_
    refine ⟨_,rfl,wpAny_letOwnedTupleGo_enum a1 fun h'' b1 b2=>?_⟩
    have hne1:s.heap.objs.size≠e:=fun q=>absurd (lt_size h1) (by rw [← q];exact lt_irrefl _)
    have ht:h''.get? s.heap.objs.size=some {cls:=.type "tuple",data:=.seq #[.int i s.toks,u]}:=b2.extBut _ _ hne1 a3
    have I2:=I.turnTup (t':=s.toks+1) (h':=h'') (ch:=[e,it]) (p:=s.heap.objs.size) (xs:=[.int i,x]) (its:=[.int i s.toks,u]) (fun c o hc q=>by
        simp only [mem_cons,not_mem_nil,or_false,not_or] at hc
        exact b2.extBut _ _ hc.1 (a5 c o hc.1 hc.2 q)) (fun c hc=>hf c hc) (le_refl _) (by show 2≤sizeLine;decide) (Zpz ⟨_,rfl⟩ ru) ⟨_,ht,rfl,_,rfl⟩
    refine ⟨.ref s.heap.objs.size,_,I2,rfl,⟨_,rfl,I.hok.fresh (le_refl _),fun xs' e1=>⟨x,by rw [I.list_inj e1 hq1];exact hx,rfl⟩⟩,⟨⟨_,b1⟩,a2.extBut b2.extBut hne.symm⟩,fun c hc=>?_⟩
    rw [Xq]
    · exact (hf c hc).1
    · rintro rfl
      have:∃o,s.heap.get? s.heap.objs.size=some o:=by
        simp only [mem_cons,not_mem_nil,or_false] at hc
        rcases hc with q | q
        · exact ⟨_,by rw [q];exact h1⟩
        · obtain ⟨o,q',_⟩:=h4;exact ⟨o,by rw [q];exact q'⟩
      obtain ⟨o,q⟩:=this
      exact absurd (lt_size q) (lt_irrefl _)
  done:=by
    intro X hP hw hK hc i pins s σ H E I hf st hg
    subst hP hw hK
    obtain ⟨xs,hq1,hl⟩:=hg
    obtain ⟨⟨old,h1⟩,h4⟩:=st
    obtain ⟨its1,rv1,p1,hz1⟩:=I.list hq1
    have l1:=rv1.length
    refine wpAny_pyNext_enum_end (I.ok.hd hc) h1 h4 p1.isList (by simp;omega) fun h' k=>⟨rfl,I.turneds (t':=s.toks) (ch:=[e,it]) (fun c o hc q=>by
        simp only [mem_cons,not_mem_nil,or_false,not_or] at hc
        exact k c o hc.2 q) (fun c hc=>hf c hc)⟩
  self:=fun _ _ _ _ _ st h=>by
    obtain ⟨⟨old,h1⟩,_⟩:=st
    exact wpAny_pyIter_enum h1 h
section
variable {X:Cx}{a b e:Expr}{ta tb te:TE}{elts:List Expr}{x1:Nat}{tpos p pos:Pos}{tg:Expr}
noncomputable def iZip (K:Frag)(ta tb:TE):TI:=fun σ H R=>Zcw ta (Zcw tb Zpm) σ H fun vs H1=>∃p q,vs=[.ref p,.ref q]∧(∃xs,SqL K H1 p xs)∧(∃ys,SqL K H1 q ys)∧R (Itz K p q) H1
noncomputable def Xez (K:Frag)(ta:TE):TI:=fun σ H R=>Zcw ta Zpm σ H fun vs H1=>∃p,vs=[.ref p]∧(∃xs,SqL K H1 p xs)∧R (Ite K p) H1
theorem SqL.lt {pins:List (Addr×Obj)}{σ:St}{H:Hp}{s:Shared}{p:Addr}{xs:List V}(I:Inv X pins σ H s)(h:SqL X.K H p xs):p<s.heap.objs.size:=by
 obtain ⟨its,_,⟨o,n,e,_⟩,_⟩:=I.list h
 exact lt_size e
theorem Xnw (hg:Gl X "zip")(hm:X.mg "zip"=none)(ha:PE X a ta)(hb:PE X b tb)(hs:starEach [a,b] X.env=(false,eval a X.env)::starEach [b] X.env)(hs2:starEach [b] X.env=(false,eval b X.env)::starEach [] X.env)(hs3:starEach ([]:List Expr) X.env=[]:=by rfl) :
  PI X (.Tuple elts x1 tpos) (.Call (.Name "zip" p) [a,b] [] pos) (iZip X.K ta tb):=by
 intro pins s σ H R I h
 refine Call_ (Zdw I hg hm boot_zip (PyProof.Rows.callWith_type1 (thn (Zdm ha (Zdm hb Zio hs2) hs pos pins s σ H _ I h) fun us s1 ⟨vs,H1,I1,r1,q1⟩=>?_) (by rw [hs,hs2]) (by rw [hs2,hs3];rfl)))
 obtain ⟨l1,l2,rfl,⟨xs,hq1⟩,⟨ys,hq2⟩,q⟩:=q1
 obtain ⟨u,v,rfl,rx,ry⟩:=vals2 r1
 cases rx
 cases ry
 obtain ⟨its1,rv1,p1,hz1⟩:=I1.list hq1
 obtain ⟨its2,rv2,p2,hz2⟩:=I1.list hq2
 have lt1:@LT.lt Nat _ l1 s1.heap.objs.size:=SqL.lt I1 hq1
 have lt2:@LT.lt Nat _ l2 s1.heap.objs.size:=SqL.lt I1 hq2
 refine call_zip_2 p1.isList p2.isList fun h' z1 z2 z3 z4 z5 z6 z7=>?_
 refine wpAny_pyIter_zip z1 ?_
 have I2:Inv X pins σ H1 {s1 with heap:=h'}:=I1.kept (t':=s1.toks) z7
 refine ⟨_,[s1.heap.objs.size+4,s1.heap.objs.size+2,s1.heap.objs.size+3,s1.heap.objs.size,s1.heap.objs.size+1],_,_,H1,rfl,I2,Xcf (a:=l1) (b:=l2) ?_,⟨z1,z2,⟨_,_,z3⟩,z4,z5⟩,fun c hc=>?_,q⟩
 ·constructor<;>first | exact ne_of_lt (by omega) | exact ne_of_gt (by omega)
 ·have hc':s1.heap.objs.size≤c:=by
   simp only [mem_cons,not_mem_nil,or_false] at hc
   rcases hc with rfl | rfl | rfl | rfl | rfl<;>first | exact le_refl _ | exact le_add_right _ _
  exact I1.fpOk hc' (I1.hok.fresh hc')
theorem Xho (hg:Gl X "enumerate")(hm:X.mg "enumerate"=none)(ha:PE X a ta)(hs:starEach [a] X.env=(false,eval a X.env)::starEach [] X.env)(hs3:starEach ([]:List Expr) X.env=[]:=by rfl) :
  PI X (.Tuple elts x1 tpos) (.Call (.Name "enumerate" p) [a] [] pos) (Xez X.K ta):=by
 intro pins s σ H R I h
 refine Call_ (Zdw I hg hm boot_enumerate (PyProof.Rows.callWith_type1 (thn (Zdm ha Zio hs pos pins s σ H _ I h) fun us s1 ⟨vs,H1,I1,r1,q1⟩=>?_) (by rw [hs]) (by rw [hs3];rfl)))
 obtain ⟨l1,rfl,⟨xs,hq1⟩,q⟩:=q1
 obtain ⟨u,rfl,rx⟩:=vals1 r1
 cases rx
 obtain ⟨its1,rv1,p1,hz1⟩:=I1.list hq1
 refine call_enumerate_list p1.isList fun h' z1 z4 z6 z7=>?_
 refine wpAny_pyIter_enum z1 ?_
 have I2:Inv X pins σ H1 {s1 with heap:=h'}:=I1.kept (t':=s1.toks) z7
 refine ⟨_,[s1.heap.objs.size+1,s1.heap.objs.size],_,_,H1,rfl,I2,Ztq (a:=l1) (ne_of_gt (lt_succ_self _)),⟨⟨_,z1⟩,z4⟩,fun c hc=>?_,q⟩
 have hc':s1.heap.objs.size≤c:=by
   simp only [mem_cons,not_mem_nil,or_false] at hc
   rcases hc with rfl | rfl<;>first | exact le_refl _ | exact le_add_right _ _
 exact I1.fpOk hc' (I1.hok.fresh hc')
end
section
variable {K:Frag}{C:String→Addr}{E:XK}{Γ Δ Γ' Δ':List Nat}{m m1 m2:Nat}{S S1 S2:List (Nat×Bool)}{H:Hp}
theorem RpA.two {d e:D}{v w:V}{A B:List Addr}(r:Rp K C H d v A)(q:Rp K C H e w B):RpA K C H [d,e] [v,w] (A++B):=(RpA.one r).app (RpA.one q)
theorem Zww {a:Addr}{ds:List D}{vs:List V}{B:List Addr}{Hc:Hp}(r:RpA K C Hc ds vs B)(h:∀H2,Xw Hc H2→SqL K H2 a vs):Goes K C (Ite K a) (Dl.Zgw ds) Hc:=fun H2 g=>by
 have q:=h H2 g
 have hl:=r.len
 have he:(Dl.Zgw ds).length=ds.length:=by simp [Dl.Zgw]
 refine ⟨fun i hi=>⟨vs,vs[i]'(by omega),q,getElem?_eq_getElem (by omega)⟩,fun i hi=>⟨vs,q,by omega⟩,fun i x H3 hi y=>?_⟩
 obtain ⟨p,rfl,hp,y⟩:=y
 obtain ⟨x,hx,rfl⟩:=y vs q
 obtain ⟨d,Bd,q1,q2,q3⟩:=r.get' hx
 have sm:=sameNew hp (.tup [.int i,x])
 refine ⟨sm,.tup [.int i,d],Bd,by simp [Dl.Zgw,List.getElem?_mapIdx,q1],⟨p,[.int i,x],rfl,Ya,?_⟩,fun a ha z=>?_⟩
 ·exact ⟨.int i,[x],[],Bd,rfl,⟨rfl,rfl⟩,RpA.one ((q2.same g).same sm),rfl⟩
 ·obtain ⟨xs,e,_⟩:=q2.isl a ha
  rw [e] at z
  cases z
theorem Xcq {a b:Addr}{ds es:List D}{vs ws:List V}{B1 B2:List Addr}{Hc:Hp}(r:RpA K C Hc ds vs B1)(r':RpA K C Hc es ws B2)(h:∀H2,Xw Hc H2→SqL K H2 a vs∧SqL K H2 b ws):Goes K C (Itz K a b) (Dl.Zqh ds es) Hc:=fun H2 g=>by
 obtain ⟨qa,qb⟩:=h H2 g
 have hl:=r.len
 have hl':=r'.len
 have he:(Dl.Zqh ds es).length=min ds.length es.length:=by simp [Dl.Zqh]
 refine ⟨fun i hi=>⟨vs,ws,vs[i]'(by omega),ws[i]'(by omega),qa,qb,getElem?_eq_getElem (by omega),getElem?_eq_getElem (by omega)⟩,fun i hi=>⟨vs,ws,qa,qb,by omega⟩,fun i x H3 hi y=>?_⟩
 obtain ⟨p,rfl,hp,yy⟩:=y
 obtain ⟨x,y,hx,hy,rfl⟩:=yy vs ws qa qb
 obtain ⟨d,Bd,q1,q2,q3⟩:=r.get' hx
 obtain ⟨e,Be,p1,p2,p3⟩:=r'.get' hy
 have sm:=sameNew hp (.tup [x,y])
 refine ⟨sm,.tup [d,e],Bd++Be,by simp [Dl.Zqh,List.getElem?_zipWith,q1,p1],⟨p,[x,y],rfl,Ya,RpA.two ((q2.same g).same sm) ((p2.same g).same sm)⟩,fun a ha z=>?_⟩
 rcases List.mem_append.mp ha with ha | ha
 ·obtain ⟨xs,e,_⟩:=q2.isl a ha
  rw [e] at z
  cases z
 ·obtain ⟨xs,e,_⟩:=p2.isl a ha
  rw [e] at z
  cases z
theorem Xal {t:TE}{f:FE}(h:EOk K C E Γ Δ m S t f):IOk K C E Γ Δ S (Xez K t) (Dl.Zrq f):=fun H0 Hb H σ ρ A Rr I p=>h H0 Hb H σ ρ A _ I (p.bind.imp (fun d q v H' g r=>by
  obtain ⟨B,r,r',_⟩:=r
  cases d with
  | lst ds =>
    obtain ⟨a,xs,B',rfl,e2,e3,e4⟩:=r
    subst e4
    simp only at q
    split at q
    · rename_i hl
      refine ⟨a,rfl,⟨xs,SqL.of e2⟩,q _ H' (a::B') g (fun b hb=>?_) (by simpa [Dl.Zgw] using hl) fun Hc h1=>Zww (e3.agree h1 fun b hb=>.tail _ hb) fun H2 g2=>SqL.of (g2 _ _ ((h1.1 a (.head _)).trans e2))⟩
      rcases List.mem_cons.mp hb with z | z
      · rw [z]
        exact ⟨⟨_,e2,.lst⟩,r' a (.head _)⟩
      · exact ⟨e3.isl b z,r' b (.tail _ z)⟩
    · exact q.elim
  | _=>exact q.elim) fun c x q H' g'=>q H' g')
theorem Xfa {t u:TE}{f f':FE}(h:EOk K C E Γ Δ m1 S1 t f)(h':EOk K C E Γ Δ m2 S2 u f'):IOk K C E Γ Δ (S1++S2) (iZip K t u) (Dl.Zsn f f'):=fun H0 Hb H σ ρ A Rr I p=>h H0 Hb H σ ρ A _ I (p.bind.imp (fun d q v H1 g1 r=>h' H0 Hb H1 σ ρ A _ (I.mono g1) (q.bind.imp (fun e q w H2 g2 r2=>by
  obtain ⟨B,r,r',_⟩:=r
  obtain ⟨B2,r2,r2',_⟩:=r2
  cases d with
  | lst ds =>
    cases e with
    | lst es =>
      obtain ⟨a,xs,B',rfl,e2,e3,e4⟩:=r
      obtain ⟨b,ys,B2',rfl,f2,f3,f4⟩:=r2
      subst e4 f4
      simp only at q
      split at q
      · rename_i hl
        refine ⟨a,b,rfl,⟨xs,SqL.of (g2 _ _ e2)⟩,⟨ys,SqL.of f2⟩,q _ H2 (a::B'++b::B2') (g1.trans g2) (fun c hc=>?_) (by simp only [Dl.Zqh,List.length_zipWith];omega) fun Hc h1=>Xcq ((e3.same g2).agree h1 fun b hb=>mem_append_left _ (.tail _ hb)) (f3.agree h1 fun b hb=>mem_append_right _ (.tail _ hb)) fun H2' g2' =>
          ⟨SqL.of (g2' _ _ ((h1.1 a (mem_append_left _ (.head _))).trans (g2 _ _ e2))),SqL.of (g2' _ _ ((h1.1 b (mem_append_right _ (.head _))).trans f2))⟩⟩
        rcases List.mem_append.mp hc with z | z
        · refine ⟨?_,(r' c z).imp id (·.left)⟩
          rcases List.mem_cons.mp z with z | z
          · rw [z];exact ⟨_,g2 _ _ e2,.lst⟩
          · obtain ⟨zs,q,hm⟩:=e3.isl c z;exact ⟨zs,g2 _ _ q,hm⟩
        · refine ⟨?_,(r2' c z).imp (fun q=>g1.free q) (·.right)⟩
          rcases List.mem_cons.mp z with z | z
          · rw [z];exact ⟨_,f2,.lst⟩
          · exact f3.isl c z
      · exact q.elim
    | _=>exact q.elim
  | _=>cases e<;>exact q.elim) fun c x q H' g'=>q H' (g1.trans g'))) fun c x q H' g'=>q H' g')
end
section
variable {X:Cx}{C:String→Addr}{E:XK}{Γ Δ Γ' Δ':List Nat}{m m1 m2:Nat}{S S1 S2:List (Nat×Bool)}{a b e:Expr}{ta tb te:TE}{fa fb fe:FE}{elts:List Expr}{x1:Nat}{tpos p pos:Pos}{tg:Expr}
theorem Zjn (hg:Gl X "zip")(hm:X.mg "zip"=none)(ha:JE X C E Γ Δ m1 S1 a ta fa)(hb:JE X C E Γ Δ m2 S2 b tb fb)(hs:starEach [a,b] X.env=(false,eval a X.env)::starEach [b] X.env)(hs2:starEach [b] X.env=(false,eval b X.env)::starEach [] X.env) :
  JI X C E Γ Δ (S1++S2) (.Tuple elts x1 tpos) (.Call (.Name "zip" p) [a,b] [] pos) (iZip X.K ta tb) (Dl.Zsn fa fb):=⟨⟨Xnw hg hm ha.q.out hb.q.out hs hs2⟩,Xfa ha.o hb.o⟩
theorem Zvi (hg:Gl X "enumerate")(hm:X.mg "enumerate"=none)(ha:JE X C E Γ Δ m1 S1 a ta fa)(hs:starEach [a] X.env=(false,eval a X.env)::starEach [] X.env) :
  JI X C E Γ Δ S1 (.Tuple elts x1 tpos) (.Call (.Name "enumerate" p) [a] [] pos) (Xez X.K ta) (Dl.Zrq fa):=⟨⟨Xho hg hm ha.q.out hs⟩,Xal ha.o⟩
end
section
variable {K:Frag}{C:String→Addr}{E:XK}{Γ Δ Γ' Δ' Γ1 Δ1 Γl Δl Γk Δk:List Nat}{m m1 m2 m3 mr:Nat}{S S1 S2 S3:List (Nat×Bool)}{H:Hp}{Q:VK}
theorem Zyj {ns ns':List Int}(h:ns'.Perm ns)(o:ns'.Pairwise (·≤·)):ns'=Dl.sortI ns:=by
 refine PySem.W.ksm_same (h.trans (List.mergeSort_perm ns _).symm) o ?_
 have:=List.pairwise_mergeSort (le:=fun a b:Int=>decide (a≤b)) (fun a b c h1 h2=>by simp at *;omega) (fun a b=>by simp;omega) ns
 exact this.imp fun h=>by simpa using h
variable {X:Cx}{kx e:Expr}{tk te:TE}{p p2 pos:Pos}{x:Str}{i:Nat}
end
section
variable {X:Cx}{C:String→Addr}{E:XK}{Γ Δ Γ' Δ' Γ1 Δ1 Γl Δl Γk Δk:List Nat}{m m1 m2 m3 mr:Nat}{S S1 S2 S3:List (Nat×Bool)}{a b c e st o tg iter:Expr}{es rest:List Expr}{ta tb tc te ts tk:TE}{fa fb fc fe fs fk:FE}{t:TA}{f:FA}{pos p p2 apos cpos pos' bpos:Pos}{n:Nat}
end
def Zxu (K:Frag):List V→Hp→VK→Prop:=fun vs H Q=>∃(a:Addr) (ns:List Int),vs=[.ref a]∧SqL K H a (ns.map V.int)∧ns.length<64∧∀(ns':List Int) (r:Addr),ns'.Perm ns→ns'.Pairwise (·≥·)→H r=none→Q (.ref r) (upd H r (.lst (ns'.map V.int)))
section
variable {X:Cx}{e:Expr}{te:TE}{p pos cp kp:Pos}{k:Nat}
theorem Xbr (hg:Gl X "sorted")(hm:X.mg "sorted"=none)(he:PE X e te)(hs:starEach [e] X.env=(false,eval e X.env)::starEach [] X.env)(hs3:starEach ([]:List Expr) X.env=[]:=by rfl) :
  PE X (.Call (.Name "sorted" p) [e] [⟨some "reverse",.Constant (.bool true) k cp,kp⟩] pos) (tCB (Zxu X.K) (Zcw te Zpm)):=by
 intro pins s σ H Q I h
 refine wpAny_Call_Name_kw (Zdw I hg hm boot_sorted ?_ (by decide) (by decide))
 refine callWith_kw (thn (Zdm he Zio hs pos pins s σ H _ I h) fun us s1 ⟨vs,H1,I1,r1,q1⟩=>?_) (by rw [hs,hs3];rfl) (by rw [hs,hs3];rfl) rfl rfl
 obtain ⟨a,ns,rfl,hq,hl,q⟩:=q1
 obtain ⟨u,rfl,rx⟩:=vals1 r1
 cases rx
 obtain ⟨its,rv,pl,hz⟩:=I1.list hq
 have hlen:=rv.length
 rw [length_map] at hlen
 refine kws_cons (thn (Xls pins s1 σ H1 (fun y H2=>y=.bl true∧H2=H1) I1 ⟨rfl,rfl⟩) fun u s2 ⟨y,H2,I2,ry,ey,eH⟩=>?_)
 subst ey eH
 cases ry
 refine kws_nil ?_
 obtain ⟨its2,rv2,pl2,hz2⟩:=I2.list hq
 have hlen2:=rv2.length
 rw [length_map] at hlen2
 refine sorted_ints_rev (b:=true) pl2.isList (intsAre_of rv2) (by omega) fun out ns' h1 h2 h3=>?_
 obtain ⟨e,he⟩:=sortedAll_at s2.heap its2 out
 have hn:H2 (s2.heap.objs.size+1)=none:=I2.hok.fresh (le_succ _)
 have hv:=Zes h1
 have I3:=I2.laid (t':=s2.toks) (o:=.lst (ns'.map V.int)) (h':=sortedAll s2.heap its2 out) (fun b o q=>sortedAll_old q) (le_succ _) ⟨by rw [length_map,h2.length_eq];exact le_of_lt (lt_of_lt_of_le hl (by decide)),out.toList,e,hv,by simpa [seqObj] using he⟩
 exact ⟨.ref (s2.heap.objs.size+1),_,I3,rfl,q ns' _ h2 (by simpa [Ordered] using h3) hn⟩
end
section
variable {K:Frag}{C:String→Addr}{E:XK}{Γ Δ Γ' Δ' Γ1 Δ1 Γl Δl Γk Δk:List Nat}{m m1 m2 m3 mr:Nat}{S S1 S2 S3:List (Nat×Bool)}{H:Hp}{Q:VK}
theorem Zuj:GAk K C (Zxu K) Dl.Zjf:=by
 intro H xs d vs Bx Q r e q
 unfold Dl.Zjf at e
 split at e
 ·rename_i ds
  obtain ⟨ns,h1,h2⟩:=Option.bind_eq_some_iff.mp e
  split at h2
  ·rename_i hl
   cases h2
   obtain ⟨v,rfl,r1⟩:=r.one'
   obtain ⟨a,ys,B,rfl,e2,e3,_⟩:=r1
   have z:=RpA.ofInts e3 h1
   subst z
   refine ⟨a,ns,rfl,SqL.of e2,hl,fun ns' r hp ho hr=>?_⟩
   have e':=Zyj (ns:=ns) (ns':=ns'.reverse) ((List.reverse_perm _).trans hp) (List.pairwise_reverse.mpr ho)
   rw [← List.reverse_reverse ns',e']
   exact Out.lst q RpA.ints hr
  ·cases h2
 ·cases e
end
section
variable {X:Cx}{C:String→Addr}{E:XK}{Γ Δ Γ' Δ' Γ1 Δ1 Γl Δl Γk Δk:List Nat}{m m1 m2 m3 mr:Nat}{S S1 S2 S3:List (Nat×Bool)}{a b c e st o tg iter:Expr}{es rest:List Expr}{ta tb tc te ts:TE}{fa fb fc fe fs:FE}{pos p p2 apos cpos pos' cp kp:Pos}{k:Nat}
theorem Xaq (K:Frag)(hg:Gl X "sorted")(hm:X.mg "sorted"=none)(he:JE X C E Γ Δ m S e te fe)(hs:starEach [e] X.env=(false,eval e X.env)::starEach [] X.env)(hK:X.K=K:=by rfl) :
  JE X C E Γ Δ 2 [] (.Call (.Name "sorted" p) [e] [⟨some "reverse",.Constant (.bool true) k cp,kp⟩] pos) (tCB (Zxu K) (Zcw te Zpm)) (Dl.fA Dl.Zjf (Dl.Zc fe Dl.Zt)):=by
 subst hK
 exact ⟨⟨Xbr hg hm he.q.out hs⟩,Zts Zuj (Zpn he.o Ztb)⟩
variable {pins:List (Addr×Obj)}{σ:St}{H:Hp}{s:Shared}
end
section
variable {X:Cx}{C:String→Addr}{E:XK}{Γ Δ Γ' Δ' Γk Δk:List Nat}{m mr:Nat}{S:List (Nat×Bool)}{c tg iter:Expr}{body:List Stmt}{u:TS}{g:FS}{pos:Pos}
end
section
variable {K:Frag}{C:String→Addr}{E:XK}{Γ Δ Γ' Δ' Γ1 Δ1 Γl Δl:List Nat}{m m1 m2 mr:Nat}{S S1 S2:List (Nat×Bool)}{H:Hp}
end
section
variable {X:Cx}{C:String→Addr}{E:XK}{Γ Δ Γ' Δ' Γl Δl:List Nat}{m mr:Nat}{a b:Expr}{t:TA}{f:FA}{p p1 p2 pos pt2:Pos}{x y:Str}{i j k k2:Nat}
end
section
variable {K:Frag}{C:String→Addr}{E:XK}{Γ Δ Γ' Δ' Γ1 Δ1 Γl Δl Γk Δk:List Nat}{m m1 m2 m3 mr:Nat}{S S1 S2 S3:List (Nat×Bool)}{H:Hp}{Q:VK}
noncomputable def AtP (K:Frag)(H:Hp):V→List Int→Addr→Prop
 | v,[],b=>v=.ref b
 | v,n::r,b=>∃p xs u,v=.ref p∧(H p=some (.lst xs)∨H p=some (.tup xs))∧atI xs n=some u∧AtP K H u r b
theorem Xb.dead {H0 Hb H:Hp}{σ:St}{ρ:Yp}{A:Nat→List Addr}{j:Nat}{σ':St}(I:Xb K C H0 Hb H Γ Δ σ ρ A)(hσ:σ'.length=σ.length)(hk:∀k,k≠j→σ'[k]?=σ[k]?)(h1:j∉Γ)(h2:j∉Δ):Xb K C H0 Hb H Γ Δ σ' (ρ.set j Option.none) (fun k=>if k=j then [] else A k):=by
 refine ⟨I.s0,I.same,by rw [length_set,hσ,I.len],fun k e h=>?_,fun k h=>?_,fun k hk a ha=>?_,fun k hk a l e=>?_,fun k hk=>?_⟩
 ·rcases get_set h with ⟨e1,_,e2⟩ | ⟨e1,e2⟩
  ·cases e2
  ·obtain ⟨w,q1,q2⟩:=I.rep k e e2
   exact ⟨w,(hk k e1).trans q1,by rw [if_neg e1];exact q2⟩
 ·by_cases e:k=j
  ·rw [if_pos e]
  ·rw [if_neg e]
   exact I.nil k fun x hx=>h x (by rw [getElem?_set_ne (fun z=>e z.symm)];exact hx)
 ·have e:k≠j:=fun z=>h1 (by rw [← z];exact hk)
  rw [if_neg e] at ha
  exact I.loc k hk a ha
 ·have e':k≠j:=fun z=>h1 (by rw [← z];exact hk)
  rw [if_neg e'] at e
  obtain ⟨t1,t2,t3⟩:=I.top k hk a l e
  refine ⟨t1,t2,fun i hi=>?_⟩
  by_cases ei:i=j
  ·rw [if_pos ei];exact fun z=>nomatch z
  ·rw [if_neg ei];exact t3 i hi
 ·have e':k≠j:=fun z=>h2 (by rw [← z];exact hk)
  simp only [if_neg e']
  obtain ⟨t1,t2,t3⟩:=I.deep k hk
  refine ⟨t1,fun i hi a ha=>?_,t3⟩
  by_cases ei:i=j
  ·rw [if_pos ei];exact fun z=>nomatch z
  ·rw [if_neg ei];exact t2 i hi a ha
end
section
variable {X:Cx}{C:String→Addr}{E:XK}{Γ Δ Γ' Δ' Γ1 Δ1 Γl Δl Γk Δk:List Nat}{m m1 m2 m3 mr:Nat}{S S1 S2 S3:List (Nat×Bool)}{a b c e st o tg iter kx lx:Expr}{es rest:List Expr}{ta tb tc te ts tk tl:TE}{fa fb fc fe fs fk fl:FE}{pos p p1 p2 apos cpos pos':Pos}{n:Nat}
end
section
variable {K:Frag}{C:String→Addr}{E:XK}{Γ Δ Γ' Δ' Γ1 Δ1 Γl Δl Γk Δk:List Nat}{m m1 m2 m3 mr:Nat}{H:Hp}{Q:VK}
end
section
variable {X:Cx}{C:String→Addr}{E:XK}{Γ Δ Γ' Δ' Γl Δl:List Nat}{mr:Nat}{pos p p2 apos cpos:Pos}
end
section
variable {prog:Program}{w:World}{A:Around}{E:Value→Shared→Prop}{s:Shared}{a₀:Array Keyed}
variable {X:Cx}
variable {K:Frag}{C:String→Addr}
end
section
variable {K:Frag}{C:String→Addr}{E:XK}{Γ Δ Γ' Δ' Γl Δl:List Nat}{m mr:Nat}{S:List (Nat×Bool)}
end
section
variable {X:Cx}{C:String→Addr}{E:XK}{Γ Δ Γ' Δ' Γl Δl:List Nat}{m mr:Nat}{S:List (Nat×Bool)}{e:Expr}{te:TE}{fe:FE}{p p1 p2 pos:Pos}{x y:Str}{i j k:Nat}
variable {tg:Expr}
end
section
variable {K:Frag}{C:String→Addr}{E:XK}{Γ Δ:List Nat}{m:Nat}{S:List (Nat×Bool)}{H:Hp}
end
section
variable {X:Cx}{C:String→Addr}{E:XK}{Γ Δ:List Nat}{m n:Nat}{S:List (Nat×Bool)}{tg a b c:Expr}{t:TA}{f:FA}{p pos:Pos}
end
section
variable {K:Frag}{C:String→Addr}
end
end L2
namespace L2
open PySem PySem.Spec PyProof.Rows
open Dl (D R FE FT FA FO FS FI FB Fl FM FMT)
section
variable {K:Frag}{C:String→Addr}{E:XK}{Γ Δ Γ' Δ' Γ1 Δ1 Γl Δl:List Nat}{m m1 m2 mr n:Nat}{S S1 S2:List (Nat×Bool)}{H:Hp}
def MOk (K:Frag)(C:String→Addr)(E:XK)(Γ Δ:List Nat)(t:TE)(f:FM):Prop:=∀(H0 Hb H:Hp) (σ:St) (ρ:Yp) (A:Nat→List Addr) (Q:VK),Xb K C H0 Hb H Γ Δ σ ρ A→
 Yd (f ρ) (fun p=>∀v H' A' B,Xb K C H0 Hb H' Γ Δ σ p.2 A'→Rp K C H' p.1 v B→B.Nodup→(∀a∈B,Hb a=none∧∀j,a∉A' j)→Q v H') (fun c x=>∀H',Xw H0 H'→EC C E c x H')→t σ H Q
def MTOk (K:Frag)(C:String→Addr)(E:XK)(Γ Δ:List Nat)(t:TT)(f:FMT):Prop:=∀(H0 Hb H:Hp) (σ:St) (ρ:Yp) (A:Nat→List Addr) (Q:Bool→Hp→Prop),Xb K C H0 Hb H Γ Δ σ ρ A→
 Yd (f ρ) (fun p=>∀H' A',Xb K C H0 Hb H' Γ Δ σ p.2 A'→Q p.1 H') (fun c x=>∀H',Xw H0 H'→EC C E c x H')→t σ H Q
def SOkP (K:Frag)(C:String→Addr)(E:XK)(Γ Δ Γ' Δ':List Nat)(t:TS)(f:FS):Prop:=∀(H0 Hb H:Hp) (σ:St) (ρ:Yp) (A:Nat→List Addr) (D:Ends),Xb K C H0 Hb H Γ Δ σ ρ A→
  Yd (f ρ) (fun fl=>match fl with
    | .nx ρ'=>∀σ' H' A',σ'[0]?=σ[0]?→Xb K C H0 Hb H' Γ' Δ' σ' ρ' A'→D.nx σ' H'
    | _=>False) (fun c x=>∀H',Xw H0 H'→EC C E c x H')→t D σ H
def MBOk (K:Frag)(C:String→Addr)(E:XK)(Γ Δ:List Nat)(t:TS)(G:FM):Prop:=∀(H0 Hb H:Hp) (σ:St) (ρ:Yp) (A:Nat→List Addr) (D:Ends) (Q:VK),Xb K C H0 Hb H Γ Δ σ ρ A→D.rt=Q→(D.nx=fun _ H'=>Q .non H')→
 Yd (G ρ) (fun p=>∀v H' σ' A' B,σ'[0]?=σ[0]?→Xb K C H0 Hb H' [0] [0] σ' p.2 A'→Rp K C H' p.1 v B→B.Nodup→(∀a∈B,Hb a=none∧∀j,a∉A' j)→Q v H') (fun c x=>∀H',Xw H0 H'→EC C E c x H')→t D σ H
end
structure JM (X:Cx)(C:String→Addr)(E:XK)(Γ Δ:List Nat)(e:Expr)(t:TE)(f:FM):Prop where
 q:QE X e t
 o:MOk X.K C E Γ Δ t f
structure JMT (X:Cx)(C:String→Addr)(E:XK)(Γ Δ:List Nat)(e:Expr)(t:TT)(f:FMT):Prop where
 q:QT X e t
 o:MTOk X.K C E Γ Δ t f
structure JMW (X:Cx)(C:String→Addr)(E:XK)(Γ Δ:List Nat)(e:Expr)(t:TT)(f:FMT):Prop where
 q:QW X e t
 o:MTOk X.K C E Γ Δ t f
structure JP (X:Cx)(C:String→Addr)(E:XK)(Γ Δ Γ' Δ':List Nat)(s:Stmt)(t:TS)(f:FS):Prop where
 q:QS X s t
 o:SOkP X.K C E Γ Δ Γ' Δ' t f
structure JMB (X:Cx)(C:String→Addr)(E:XK)(Γ Δ:List Nat)(s:List Stmt)(t:TS)(f:FM):Prop where
 q:QSs X s t
 o:MBOk X.K C E Γ Δ t f
structure MDef (P:Program)(w:World)(K:Frag)(mg:Str→Option Value)(base:Heap)(CX:CXT)(k:Nat)(C:Addr)(x:Str)(ps:List Str)(sp:Sp):Prop where
 ex:∃f fd,Meth K C x f∧Binds K fd ps []∧Zam P w K mg base CX k f fd ps sp
structure MkDef (P:Program)(w:World)(K:Frag)(mg:Str→Option Value)(base:Heap)(CX:CXT)(k:Nat)(C:Addr)(ps:List Str)(sp:Sp):Prop where
 ex:∃f fd,Mk K C f∧Binds K fd ps []∧Zam P w K mg base CX k f fd ps sp
section
variable {X:Cx}{C:String→Addr}{E:XK}{Γ Δ Γ' Δ' Γ1 Δ1 Γl Δl:List Nat}{m m1 m2 mr n:Nat}{S S1 S2:List (Nat×Bool)}{a b e o:Expr}{es rest:List Expr}{te:TE}{fe:FE}{t:TA}{fa:FA}{pos p p2 apos cpos:Pos}{c:String}{f md x:Str}{CX:CXT}{k:Nat}{ps:List Str}{s:Stmt}{ss:List Stmt}{tm:TE}{fm:FM}{u:TS}{g:FS}
end
section
variable {K:Frag}{C:String→Addr}{E:XK}{Γ Δ Γ' Δ' Γ1 Δ1 Γl Δl:List Nat}{m m1 m2 mr n:Nat}{S S1 S2:List (Nat×Bool)}{H:Hp}
end
section
variable {X:Cx}{C:String→Addr}{E:XK}{Γ Δ Γ' Δ' Γl Δl:List Nat}{m1 m2 n:Nat}{S2:List (Nat×Bool)}{a b e:Expr}{es:List Expr}{ta tb:TE}{fa fb:FE}{t:TA}{ff:FA}{pos p p2 cpos:Pos}{x y:Str}{CX:CXT}{k:Nat}{ps:List Str}
end
theorem allN0 {P:List Value→Prop}(h:P []):∀us:List Value,us.length=0→P us
 | [],_=>h
theorem Xkp {P:List Value→Prop}(h:∀a0,P [a0])(us:List Value)(hl:us.length=1):P us:=by
 cases us with
 | nil=>exact absurd hl (by decide)
 | cons a us=>exact allN0 (P:=fun z=>P (a::z)) (h a) us (Nat.succ.inj hl)
theorem Zfs {P:List Value→Prop}(h:∀a0 a1,P [a0,a1])(us:List Value)(hl:us.length=2):P us:=by
 cases us with
 | nil=>exact absurd hl (by decide)
 | cons a us=>exact Xkp (P:=fun z=>P (a::z)) (h a) us (Nat.succ.inj hl)
theorem Zgs {P:List Value→Prop}(h:∀a0 a1 a2,P [a0,a1,a2])(us:List Value)(hl:us.length=3):P us:=by
 cases us with
 | nil=>exact absurd hl (by decide)
 | cons a us=>exact Zfs (P:=fun z=>P (a::z)) (h a) us (Nat.succ.inj hl)
theorem Zld {P:List Value→Prop}(h:∀a0 a1 a2 a3,P [a0,a1,a2,a3])(us:List Value)(hl:us.length=4):P us:=by
 cases us with
 | nil=>exact absurd hl (by decide)
 | cons a us=>exact Zgs (P:=fun z=>P (a::z)) (h a) us (Nat.succ.inj hl)
theorem Xhu {P:List Value→Prop}(h:∀a0 a1 a2 a3 a4,P [a0,a1,a2,a3,a4])(us:List Value)(hl:us.length=5):P us:=by
 cases us with
 | nil=>exact absurd hl (by decide)
 | cons a us=>exact Zld (P:=fun z=>P (a::z)) (h a) us (Nat.succ.inj hl)
theorem Zyx {q:Program}{loose:List Str}{XP:(Str→Option Value)→Heap→Prop}{K:Params→Frag}{as:List Addr}{n t:Nat}{r:PySem.W.RowW}{d:DefRec}{kwd:List (Str×Expr)}{run:Value→List Value→Sem Value}
  (e:∀P,as=(K P).map (·.1)) (W:PySem.W.WalkO q loose XP (PySem.W.InK K) r d kwd run):PySem.W.WalkX q loose XP (PySem.W.X.obsZ as) (PySem.W.X.valZ K n t) r d kwd run:=
 fun w s₀ s₁ mg mb G y a o pm cd doc dV kV ho hd hcd hD hmg hg args vals as' L hpre hlay hrd hwl hlo =>
  W w s₀ s₁ mg mb G (PySem.W.InK.keeps w _ _ (PySem.W.X.z_facts e y).2.1 (PySem.W.Laid.keeps L)) a o pm cd doc dV kV ho hd hcd hD hmg hg args vals as' hpre hlay hrd hwl hlo
end L2
namespace L2
open PySem PySem.Spec PyProof.Rows
open Dl (D R FE FT FA FO FS FI FB Fl)
section
variable {K:Frag}{C:String→Addr}{E:XK}{Γ Δ Γ' Δ' Γl Δl:List Nat}{mr:Nat}
end
section
variable {X:Cx}{C:String→Addr}{E:XK}{Γ Δ Γl Δl:List Nat}{m2 mr n k:Nat}{S2:List (Nat×Bool)}{es:List Expr}{t:TA}{ff:FA}{pos p p2 p3 cpos:Pos}{x y:Str}{CX:CXT}{ps:List Str}
end
end L2
namespace L2
open PySem PySem.Spec PyProof.Rows
noncomputable def Xlf (K:Frag)(C:Addr)(bmB:List Value)(newId:String)(fI:Addr):Bool:=match K.lookup C with
  | some ⟨.type "type",_,.cls cd,sl⟩=>(match cd.mro,sl.toList with
    | .ref C'::bm,[_,_,_,_,some (.builtin n),_]=>C'==C&&n==newId&&!cd.hasDel&&cd.hasDict&&PySem.W.tailIn K bmB bm&&PySem.W.nsOkIn K cd.ns&&nsIn K cd.ns "__init__"==some (some (.ref fI))
    | _,_=>false)
  | _=>false
section
variable {prog:Program}{w:World}{A:Around}{E:Value→Shared→Prop}{h:Heap}{g:Array GenState}{d:Drawn}{t:Nat}{os:OsState}
variable {nm q:Str}{C N:Addr}{bs bm bmB:List Value}{hdct:Bool}{sn:List Str}{sub:List Value}{ab:Bool}{col:Option Bool}{dd:Option Addr}{k0 k1 k2 k3 k5:Option Value}{B newId initId:String}
end
section
variable {prog:Program}{w:World}{A:Around}{E:Value→Shared→Prop}{s:Shared}{env:Env}
variable {nm q:Str}{C N:Addr}{bs bm bmB:List Value}{hdct:Bool}{sn:List Str}{sub:List Value}{ab:Bool}{col:Option Bool}{dd:Option Addr}{k0 k1 k2 k3 k5:Option Value}{B newId initId:String}
end
end L2
namespace L2
open PySem PySem.Spec PyProof.Rows
open PySem.W (Looks)
open Builtin Builtin.ObjectAttr
section
variable {prog:Program}{w:World}{A:Around}{E:Value→Shared→Prop}{h:Heap}{g:Array GenState}{d:Drawn}{t:Nat}{os:OsState}
variable {nm q:Str}{C N x:Addr}{bs bm bmB:List Value}{sn:List Str}{sub:List Value}{ab:Bool}{col:Option Bool}{dd:Option Addr}{k0 k1 k2 k3 k5:Option Value}{B newId sa owner:String}
 {name:Str} {v:Value} {fs:Array Value} {sl:Array (Option Value)}
end
end L2
namespace L2
open PySem PySem.Spec PyProof.Rows
open PySem.W (Looks)
section
variable {prog:Program}{w:World}{A:Around}{E:Value→Shared→Prop}{h:Heap}{g:Array GenState}{d:Drawn}{t:Nat}{os:OsState}
variable {nm q:Str}{C N x:Addr}{bs bm bmB:List Value}{hdct:Bool}{sn:List Str}{sub:List Value}{ab:Bool}{col:Option Bool}{dd:Option Addr}{k0 k1 k2 k3 k5:Option Value}{B newId initId:String}
end
section
variable {prog:Program}{w:World}{A:Around}{E:Value→Shared→Prop}{h:Heap}{g:Array GenState}{d:Drawn}{t:Nat}{os:OsState}{a C dx:Addr}{o:Obj}{vs:Array Value}{mA:Str→Option Value}{v:Value}{name:Str}
end
end L2
namespace L2
open PySem PySem.Spec PyProof.Rows
open Dl (D R FE FT FA FO FS FI FB Fl)
structure ErrF (K:Frag)(C:Addr)(nm:Str)(fI:Addr):Prop where
 exc:Xlf K C bmV "ValueError.__new__" fI=true
 sa:findIn K (.ref C) "__setattr__"=some (some (.builtin "object.__setattr__"))
 nf:findIn K (.ref C) nm=some none
 hd:PySem.W.hasDictIn K C=true
noncomputable def exA (e C:Addr)(dx:Option Addr):HO:=.ext fun h=>∃t sl,h.get? e=some {cls:=.ref C,dict:=dx,data:=.fields #[.ref t,.none,.none,.none,.bool false,.none],slots:=sl}
section
variable {X:Cx}{pins:List (Addr×Obj)}{σ:St}{H:Hp}{s:Shared}
end
structure BaseI (K:Frag)(B:Addr):Prop where
 sp:specialIn K (.ref B) "__getattribute__"=some (some (.builtin "type.__getattribute__"))
 rd:PySem.W.readsIn K B (.type "type")=true
 fc:PySem.W.findCls K (.ref B) (.type "type") "__init__"=some (.val (.builtin "ValueError.__init__"))
section
variable {X:Cx}{e o value:Expr}{es:List Expr}{t:TA}{ta tv:TE}{pos pos' apos np:Pos}{b f:Str}{B:Addr}
end
noncomputable def Xmg (K:Frag)(nm:Str):Sp:=fun vs H Q _=>∃e C i fI,vs=[.ref e,.int i]∧H e=some (exA e C none)∧ErrF K C nm fI∧i.natAbs.log2<1920∧∀d,H d=none→Q .non (upd (upd H d (.xd [(nm,.int i)])) e (exA e C (some d)))
section
variable {P:Program}{w:World}{K:Frag}{mg:Str→Option Value}{base:Heap}
structure IDef (P:Program)(w:World)(K:Frag)(mg:Str→Option Value)(base:Heap)(C:Addr)(nm:Str):Prop where
 ex:∃fI fd ps,ErrF K C nm fI∧typeIn K (.ref fI)=some (.type "function")∧ps.length=2∧Binds K fd ps []∧Zam P w K mg base CX0 1 fI fd ps (Xmg K nm)
variable {C:String→Addr}{E:XK}{Γ Δ Γ' Δ' Γl Δl:List Nat}{m mr:Nat}{S:List (Nat×Bool)}
end
section
variable {X:Cx}{C:String→Addr}{E:XK}{Γ Δ Γ' Δ' Γl Δl:List Nat}{m mr:Nat}{S:List (Nat×Bool)}{e:Expr}{te:TE}{fe:FE}{np cpos pos:Pos}
end
section
variable {K:Frag}{C:String→Addr}{E:XK}{Γ Δ Γ' Δ' Γl Δl:List Nat}{m mr:Nat}{S:List (Nat×Bool)}
end
section
variable {X:Cx}{C:String→Addr}{E:XK}{Γ Δ Γ' Δ' Γl Δl:List Nat}{m m1 m2 mr:Nat}{S S1 S2:List (Nat×Bool)}{a b e:Expr}{ta tb te:TE}{fa fb fe:FE}{pos pos':Pos}
end
section
variable {K:Frag}{C:String→Addr}{E:XK}{Γ Δ Γ' Δ' Γk Δk:List Nat}{mr:Nat}{S:List (Nat×Bool)}
end
section
variable {X:Cx}{C:String→Addr}{E:XK}{Γ Δ Γk Δk:List Nat}{mr:Nat}{S:List (Nat×Bool)}{c iter:Expr}{ret:List Stmt}{u:TS}{g:FS}{pos p ip:Pos}{x:Str}{k:Nat}
end
structure Clz where
 c:Value
 i:Option Nat
 th:TS
noncomputable def tClz (K:Frag)(N:Nat)(D:Ends)(e:Addr)(cls:Value)(dx:Option Addr)(H':Hp):List Clz→Prop
  | []=>False
  | z::r=>∃b,exmOne K cls z.c=some b∧if b=true then (match z.i with
      | some i=>∀σ':St,σ'.length=N→z.th {nx:=fun _ H2=>D.nx (List.replicate N none) H2,rt:=D.rt,bk:=fun _ H2=>D.bk (List.replicate N none) H2,ct:=fun _ H2=>D.ct (List.replicate N none) H2} (σ'.set i (some (.ref e))) (upd H' e (exO e cls dx))
      | none=>∀σ':St,σ'.length=N→z.th D σ' H')
    else tClz K N D e cls dx H' r
inductive PClz (X:Cx):List ExceptHandler→List Clz→Prop
 | nil:PClz X [] []
 | named {c n:Str} {np hpos:Pos} {C:Addr} {b₀:Stmt} {suite:List Stmt} {i:Nat} {th:TS} {hs:List ExceptHandler} {zs:List Clz} (hm:X.mg c=some (.ref C)) (hg:Gl X c) (hdb:(c==("__debug__":Str))=false) (hi:X.N[i]?=some n) (hl:X.env.scope.names.lookup n=some .local)
   (hh:∀e:Addr,PSs (X.hand e) (b₀::suite) th) (hr:PClz X hs zs):PClz X (.ExceptHandler (some (.Name c np)) (some n) (b₀::suite) hpos::hs) (⟨.ref C,some i,th⟩::zs)
 | plain {c:Str} {np hpos:Pos} {C:Addr} {b₀:Stmt} {suite:List Stmt} {th:TS} {hs:List ExceptHandler} {zs:List Clz} (hm:X.mg c=some (.ref C)) (hg:Gl X c) (hdb:(c==("__debug__":Str))=false)
   (hh:∀e:Addr,PSs (X.hand e) (b₀::suite) th) (hr:PClz X hs zs):PClz X (.ExceptHandler (some (.Name c np)) none (b₀::suite) hpos::hs) (⟨.ref C,none,th⟩::zs)
section
variable {K:Frag}{C:String→Addr}{E:XK}{Γ Δ Γ1 Δ1 Γl Δl:List Nat}{mr:Nat}
inductive OClz (K:Frag)(C:String→Addr)(N mr:Nat)(Γl Δl Γ1 Δ1:List Nat):List Clz→List (List (String×Bool)×Option Nat×FS)→Prop
 | nil:OClz K C N mr Γl Δl Γ1 Δ1 [] []
 | named {c:Addr} {i:Nat} {th:TS} {fh:FS} {tb:List (String×Bool)} {Γ2 Δ2:List Nat} {Eh:XK} {zs:List Clz} {ds:List (List (String×Bool)×Option Nat×FS)} (ht:∀p∈tb,exmOne K (.ref (C p.1)) (.ref c)=some p.2) (hi:i<N) (hh:SOk K C Eh mr [] [] [] [] Γ2 Δ2 th fh)
   (hr:OClz K C N mr Γl Δl Γ1 Δ1 zs ds):OClz K C N mr Γl Δl Γ1 Δ1 (⟨.ref c,some i,th⟩::zs) ((tb,some i,fh)::ds)
 | plain {c:Addr} {th:TS} {fh:FS} {tb:List (String×Bool)} {Eh:XK} {zs:List Clz} {ds:List (List (String×Bool)×Option Nat×FS)} (ht:∀p∈tb,exmOne K (.ref (C p.1)) (.ref c)=some p.2) (hh:SOk K C Eh mr Γl Δl [] [] Γ1 Δ1 th fh)
   (hr:OClz K C N mr Γl Δl Γ1 Δ1 zs ds):OClz K C N mr Γl Δl Γ1 Δ1 (⟨.ref c,none,th⟩::zs) ((tb,none,fh)::ds)
end
inductive JClz (X:Cx)(C:String→Addr)(mr:Nat)(Γl Δl Γ1 Δ1:List Nat):List ExceptHandler→List Clz→List (List (String×Bool)×Option Nat×FS)→Prop
 | mk {hs:List ExceptHandler} {zs:List Clz} {ds:List (List (String×Bool)×Option Nat×FS)} (p:PClz X hs zs) (o:OClz X.K C X.N.length mr Γl Δl Γ1 Δ1 zs ds):JClz X C mr Γl Δl Γ1 Δ1 hs zs ds
section
variable {X:Cx}{C:String→Addr}{E:XK}{Γ Δ Γ1 Δ1 Γl Δl:List Nat}{mr:Nat}{np hpos pos:Pos}{hs:List ExceptHandler}{zs:List Clz}{ds:List (List (String×Bool)×Option Nat×FS)}{b₀:Stmt}{suite:List Stmt}{th:TS}{fh:FS}
end
section
variable {X:Cx}{C:String→Addr}{E:XK}{Γ Δ Γl Δl:List Nat}{mr:Nat}{e:Expr}{te:TE}{fe:FE}{pos p apos cpos:Pos}
end
section
variable {K:Frag}{C:String→Addr}{E:XK}{Γ Δ Γl Δl:List Nat}{m m1 m2 mr:Nat}{S S1 S2:List (Nat×Bool)}{H:Hp}
end
section
variable {X:Cx}{C:String→Addr}{E:XK}{Γ Δ Γ' Δ' Γl Δl:List Nat}{m m1 m2 mr:Nat}{S S1 S2:List (Nat×Bool)}{a b e tg:Expr}{ta tb te:TE}{fa fb fe:FE}{p p2 pos:Pos}
noncomputable abbrev TX:=Str→St→Hp→VK→Prop
def PX (X:Cx)(es:List Expr)(t:TX):Prop:=
 ∀(out:Str) (pins:List (Addr×Obj)) (s:Shared) (σ:St) (H:Hp) (Q:VK),Inv X pins σ H s→out.length+2000*es.length≤sizeLine→t out σ H Q→
  wpAny (model X.prog X.w) X.A (joinParts out (evalEach es X.env)) (EP X pins σ Q) X.xe s
end
section
variable {K:Frag}{C:String→Addr}{E:XK}{Γ Δ:List Nat}{m m1 m2:Nat}{S S1 S2:List (Nat×Bool)}{H:Hp}
noncomputable def joinL (c:Nat):List (List Nat)→List Nat
 | []=>[]
 | [w]=>w
 | w::v::r=>w++32::c::32::joinL c (v::r)
def XOk (K:Frag)(C:String→Addr)(E:XK)(Γ Δ:List Nat)(t:TX)(f:FA):Prop:=∀(H0 Hb H:Hp) (σ:St) (ρ:Dl.Env) (A:Nat→List Addr) (Q:VK) (out:Str),PyData.strOk out=true→Xb K C H0 Hb H Γ Δ σ ρ A→
 Yd ((f ρ).bind fun xs=>Dl.oR (Dl.catO out xs)) (fun d=>∀v H',Xw H H'→Res K C 2 [] H A d v H'→Q v H') (fun c x=>∀H',Xw H H'→EC C E c x H')→t out σ H Q
end
structure JX (X:Cx)(C:String→Addr)(E:XK)(Γ Δ:List Nat)(es:List Expr)(t:TX)(f:FA):Prop where
 q:PX X es t
 o:XOk X.K C E Γ Δ t f
section
variable {X:Cx}{C:String→Addr}{E:XK}{Γ Δ:List Nat}{m m1 m2:Nat}{S S1 S2:List (Nat×Bool)}{a b e o:Expr}{es:List Expr}{ta tb te:TE}{tx:TX}{fa fb fe:FE}{f:FA}{pos p apos cpos:Pos}
end
section
variable {K:Frag}{C:String→Addr}{E:XK}{Γ Δ Γl Δl:List Nat}{m m1 m2 m3 mr:Nat}{S S1 S2 S3:List (Nat×Bool)}{H:Hp}
end
section
variable {X:Cx}{C:String→Addr}{E:XK}{Γ Δ Γ' Δ' Γl Δl:List Nat}{m m1 m2 m3 mr:Nat}{S S1 S2 S3:List (Nat×Bool)}{a b c e o:Expr}{ta tb tc te:TE}{fa fb fc fe:FE}{p p2 pos apos cpos:Pos}
end
section
variable {K:Frag}{C:String→Addr}{E:XK}{Γ Δ:List Nat}
theorem Xhj {σ os:St}{n:Nat}{v w:V}(hσ:σ.length=n)(hos:os.length=2):((σ++os).set n (some v)).set (n+1) (some w)=σ++[some v,some w]:=by
 match os,hos with
 | [a,b],_ =>
  rw [← hσ,set_append_right _ _ (le_refl _),sub_self,set_append_right _ _ (by omega),show σ.length+1 - σ.length=1 by omega]
  rfl
theorem Zyc {ρ:Dl.Env}{n:Nat}{v w:D}(hσ:ρ.length=n):((ρ++List.replicate 2 none).set n (some v)).set (n+1) (some w)=ρ++[some v,some w]:=by
 rw [← hσ,set_append_right _ _ (le_refl _),sub_self,set_append_right _ _ (by omega),show ρ.length+1 - ρ.length=1 by omega]
 rfl
end
section
variable {X:Cx}{C:String→Addr}{E:XK}{mr:Nat}{Γ Δ Γ' Δ' Γl Δl:List Nat}{n:Nat}{pos:Pos}
end
end L2
namespace L2
open PySem PyProof.Rows
structure Ask (prog:Program)(w:World)(A:Around)(s:Shared)(κ:SortKind)(P:Keyed→Prop)(r:Keyed→Keyed→Bool):Prop where
 run:∀{x y:Keyed} {Q:Bool→Shared→Prop} {E:Value→Shared→Prop},P x→P y→Q (r x y) s→wpAny (model prog w) A (keyLt' κ x.1 y.1) Q E s
 tr:∀{x y z:Keyed},P x→P y→P z→r y x=false→r z y=false→r z x=false
 as:∀{x y:Keyed},P x→P y→r x y=true→r y x=false
section
variable {prog:Program}{w:World}{A:Around}{E:Value→Shared→Prop}{s:Shared}{κ:SortKind}{P:Keyed→Prop}{r:Keyed→Keyed→Bool}{st:SortSt}
end
section
variable {r:Keyed→Keyed→Bool}
def Up (r:Keyed→Keyed→Bool)(l:List Keyed):Prop:=l.Pairwise fun x y=>r y x=false
structure MI (r:Keyed→Keyed→Bool)(a b out:List Keyed)(ia ib:Nat):Prop where
 pm:out.Perm (a.take ia++b.take ib)
 so:Up r out
 le:∀x∈out,∀y,(y∈a.drop ia∨y∈b.drop ib)→r y x=false
variable {a b out:List Keyed}{ia ib:Nat}{x:Keyed}
structure MJ (r:Keyed→Keyed→Bool)(a b out:List Keyed)(na nb:Nat):Prop where
 pm:out.Perm (a.drop na++b.drop nb)
 so:Up r out
 le:∀x∈out,∀y,(y∈a.take na∨y∈b.take nb)→r x y=false
end
structure SG (st st':SortSt):Prop where
 k:kindOf st'=kindOf st
 a:arrOf st'=arrOf st
 p:pendingOf st'=pendingOf st
 f:failedOf st'=failedOf st
section
variable {prog:Program}{w:World}{A:Around}{E:Value→Shared→Prop}{s:Shared}{κ:SortKind}{P:Keyed→Prop}{r:Keyed→Keyed→Bool}{st:SortSt}
variable {α:Type}
end
section
variable {prog:Program}{w:World}{A:Around}{E:Value→Shared→Prop}{s:Shared}{κ:SortKind}{P:Keyed→Prop}{r:Keyed→Keyed→Bool}{st:SortSt}
structure SC (κ:SortKind)(lo:Nat)(st st':SortSt):Prop where
 k:kindOf st'=κ
 f:failedOf st'=none
 p:pendingOf st'=pendingOf st
 m:(arrOf st').Perm (arrOf st)
 o:∀i,i<lo→(arrOf st')[i]?=(arrOf st)[i]?
variable {d0:Keyed}{lo nrem:Nat}
variable {d0:Keyed}{lo nrem:Nat}
end
noncomputable abbrev Pn:=Nat×Nat×Nat
noncomputable def Pend:Nat→List (List Keyed)→List Pn→Prop
 | _,[],[]=>True
 | off,R::Rs,p::ps=>p.1=off∧p.2.1=R.length∧Pend (off+R.length) Rs ps
 | _,_,_=>False
structure RI (κ:SortKind)(r:Keyed→Keyed→Bool)(a0:List Keyed)(st:SortSt)(Rs:List (List Keyed))(Z:List Keyed):Prop where
 k:kindOf st=κ
 f:failedOf st=none
 m:(arrOf st).toList.Perm a0
 l:(arrOf st).toList=Rs.flatten++Z
 p:Pend 0 Rs (pendingOf st).toList
 u:∀R∈Rs,Up r R∧1≤R.length
section
variable {prog:Program}{w:World}{A:Around}{E:Value→Shared→Prop}{s:Shared}{κ:SortKind}{P:Keyed→Prop}{r:Keyed→Keyed→Bool}{st:SortSt}{d0:Keyed}{a0 Z:List Keyed}{Rs:List (List Keyed)}
end
end L2
namespace L2
open PySem PySem.SeqAt PySem.MeetsSeq PySem.MeetsSeq3
open AutoSeq1 (wpAny_loadPart')
noncomputable def lexI (e l:Nat→Bool)(m n:Nat):List Nat→Bool
 | []=>decide (m<n)
 | j::js=>if e j=true then lexI e l m n js else l j
end L2
namespace L2
open PySem PySem.SeqAt PyProof.Rows
open Dl (Pc sLt pcLt Xkk)
noncomputable def pP (p:Pc):PyData:=.tuple [.int p.1,.str p.2]
noncomputable def cP (c:List Pc):PyData:=.list (c.map pP)
section
variable {A:Around}{s:Shared}
end
noncomputable def cutOf (h:Heap)(v:Value):List Pc:=open Classical in if q:∃c as,Reads h v (cP c) as then q.choose else []
section
variable {prog:Program}{w:World}{A:Around}{E:Value→Shared→Prop}{s:Shared}
end
end L2
namespace L2
open PySem PySem.Spec PyProof.Rows
open Dl (D R FE FT FA FO FS FI FB Fl Pc Xkk)
section
variable {K:Frag}{C:String→Addr}{E:XK}{Γ Δ Γl Δl:List Nat}{m m1 m2 m3 mr:Nat}{S S1 S2 S3:List (Nat×Bool)}{H:Hp}
variable {X:Cx}
end
section
variable {X:Cx}{C:String→Addr}{E:XK}{Γ Δ Γ' Δ' Γl Δl:List Nat}{m m1 m2 m3 mr:Nat}{S S1 S2 S3:List (Nat×Bool)}{a b c e o kx:Expr}{ta tb tc te tk:TE}{fa fb fc fe fk:FE}{p p1 p2 pos apos cpos:Pos}
end
end L2
namespace L2
open PySem PySem.Spec PyProof.Rows
open Dl (D R FE FT FA FO FS FI FB Fl)
structure RoomH (k:Nat)(A:Around):Prop where
 dp:A.depth+3*k+5<recursionLimit
 un:A.units+16*k+200<cLine
structure FnOkH (P:Program)(w:World)(K:Frag)(mg:Str→Option Value)(base:Heap)(k:Nat)(f:Addr)(fd:FuncData)(ps:List Str)(sp:Sp):Prop where
 len:∀vs H Q E,sp vs H Q E→vs.length=ps.length
 run:∀(A:Around) (outer:List Env) (s:Shared) (H:Hp) (args:Args) (us:List Value) (vs:List V) (Q:VK) (E:XK),RoomH k A→Xkb P w K mg base A outer s H→BindsTo s fd args (ps.zip us)→Jc vs us→sp vs H Q E→
  codeAny (model P w) A (.call (.ref f) args) (CR CX0 outer P w H s Q E) s
structure DefH (P:Program)(w:World)(K:Frag)(mg:Str→Option Value)(base:Heap)(k:Nat)(x:Str)(ps:List Str)(sp:Sp):Prop where
 ex:∃f fd,mg x=some (.ref f)∧keepIn K (.ref f)=true∧Binds K fd ps []∧FnOkH P w K mg base k f fd ps sp
noncomputable abbrev Cx.wild (X:Cx):Cx:={X with calm:=false,xe:=fun _ _=>False}
section
variable {X:Cx}{C:String→Addr}{E:XK}{Γ Δ:List Nat}{m n mr k:Nat}{S:List (Nat×Bool)}{x:Str}{p pos:Pos}{e:Expr}{es:List Expr}{t:TA}
end
end L2
namespace L2
open PySem PySem.Spec PyProof.Rows
open Dl (D R FE FT FA FO FS FI FB Fl Pc Xkk)
section
variable {K:Frag}{C:String→Addr}{E:XK}{Γ Δ Γl Δl:List Nat}{m m1 m2 m3 mr:Nat}{S S1 S2 S3:List (Nat×Bool)}{H:Hp}
variable {X:Cx}
end
section
variable {X:Cx}{C:String→Addr}{E:XK}{Γ Δ Γ' Δ' Γl Δl:List Nat}{m m1 m2 m3 mr:Nat}{S S1 S2 S3:List (Nat×Bool)}{a b c e o kx:Expr}{ta tb tc te tk:TE}{fa fb fc fe fk:FE}{p p1 p2 pos apos cpos:Pos}
end
end L2
namespace L2
open PySem PySem.Spec PyProof.Rows
open Dl (D R FE FT FA FO FS FI FB Fl)
section
variable {prog:Program}{w:World}{K:Type}[DecidableEq K]{knd:HeapKind prog w K}{A:Around}{E:Value→Shared→Prop}{s:Shared}
end
section
variable {X:Cx}
variable {K:Frag}{C:String→Addr}{E:XK}{Γ Δ:List Nat}{m:Nat}{S:List (Nat×Bool)}{H:Hp}
variable {e:Expr}{te:TE}{fe:FE}{p pos:Pos}
variable {tg:Expr}
end
section
variable {X:Cx}{C:String→Addr}{E:XK}{Γ Δ:List Nat}{m n:Nat}{S:List (Nat×Bool)}{tg a b c:Expr}{t:TA}{f:FA}{p pos:Pos}
end
end L2
namespace L2
open PySem PySem.Spec PyProof.Rows
noncomputable def cxL (X:Cx)(A:Around)(N:List Str)(qual:Str)(sc:Scope)(f:Addr)(cd:Value)(cl:List (Str×Addr))(s:Shared)(H:Hp):Cx where
 prog:=X.prog
 w:=X.w
 K:=X.K
 mg:=X.mg
 base:=X.base
 A:=A.deeper (envX qual sc s.heap.objs.size f cd cl)
 N:=N
 s₀:=s
 H₀:=H
 env:=envX qual sc s.heap.objs.size f cd cl
 outer:=X.stack
 stack:=envX qual sc s.heap.objs.size f cd cl::X.stack
 ex:=[]
 calm:=true
 fn:=fun x=>(cl.lookup x).isNone
 pn:=[]
 xe:=fun _ _=>False
structure Xfz (X:Cx)(N:List Str)(p:Str)(sc:Scope)(cl:List (Str×Addr)):Prop where
 kind:sc.kind=.function
 co:sc.isCoroutine=false
 gen:sc.isGenerator=false
 nocell:∀x∈sc.names,x.2≠.cell
 par:sc.names.lookup p=some .local
 nd:N.Nodup
 hd:N.head?=some p
 tl:∀x∈N.tail,sc.names.lookup x=some .free
 fr:∀x,sc.names.lookup x=some .free→∃c,cl.lookup x=some c
 cls:∀x c,cl.lookup x=some c→X.env.cells.lookup x=some c
def Xgj (X:Cx)(σ:St)(N:List Str)(vs:List V):Prop:=∀(i:Nat) (x:Str) (v:V),N[i]?=some x→vs[i]?=some v→∃j:Nat,X.N[j]?=some x∧σ[j]?=some (some v)∧Vis X.env.scope x∧X.env.kindOf x≠some .local
section
variable {X:Cx}{pins:List (Addr×Obj)}{σ:St}{H:Hp}{s:Shared}
theorem Xjp {A:Around}{N:List Str}{p qual:Str}{sc:Scope}{f:Addr}{cd u:Value}{v:V}{vs:List V}{cl:List (Str×Addr)}{h₁:Heap}{tk:Nat}(I:Inv X pins σ H s)(S:Xfz X N p sc cl)(hA:A.frames=some X.stack)(hh:A.handled=none)
    (hl:vs.length+1=N.length) (hf:Xgj X σ N.tail vs) (rv:RelV v u)
    (hns:h₁.Ns s.heap.objs.size (fun x=>[(p,u)].reverse.lookup x)) (hk:∀b o,s.heap.get? b=some o→h₁.get? b=some o) :
    Inv (cxL X A N qual sc f cd cl s H) [] ((v::vs).map some) H {s with heap:=h₁,toks:=tk}:=by
  have e0:=I.env0
  have noA:∀b:Addr,b∉(cxL X A N qual sc f cd cl s H).ex:=fun b z=>absurd (show b∈([]:List Addr) from z) (by simp)
  refine ⟨⟨e0.mod,S.kind,rfl,rfl,le_refl _,fun y z c h1 h2=>I.ok.inj y z c (S.cls y c h1) (S.cls z c h2),fun y hy=>?_,fun y c h0 h=>?_,fun _=>hh,Around.frames_deeper hA,.inr ⟨rfl,rfl⟩,fun b z=>absurd z (noA b),e0.bs,e0.bsz,fun b _ _=>noA b,fun b z=>absurd z (noA b),e0.funs,e0.frf⟩,
    rfl,e0.bare,Un.kept hk,⟨_,hns,fun i y w h1 h2 h3=>?_⟩,fun y c h=>?_,e0.hok.fresh (le_refl _),fun y c h=>I.freeC y c (S.cls y c h),fun q hp=>absurd (show q∈([]:List (Addr×Obj)) from hp) (by simp),e0.hok.kept hk,?_⟩
  · have hy:sc.names.lookup y=some .cell∨sc.names.lookup y=some .free:=hy
    rcases hy with hy | hy
    · exact absurd rfl (S.nocell _ (PySem.mem_of_lookup hy))
    · exact S.fr y hy
  · have h0:(cl.lookup y).isNone=true:=h0
    have h:cl.lookup y=some c:=h
    rw [h] at h0
    cases h0
  · have h1:N[i]?=some y:=h1
    obtain ⟨a,r,rfl⟩:∃a r,N=a::r:=by
      cases N with
      | nil=>simp at hl
      | cons a r=>exact ⟨a,r,rfl⟩
    have ha:a=p:=Option.some.inj S.hd
    subst ha
    cases i with
    | zero =>
      cases h1
      cases h2
      refine ⟨u,rv,.inl ⟨S.par,?_⟩⟩
      show List.lookup y [(y,u)]=some u
      rw [List.lookup_cons_self]
    | succ i =>
      have h1:r[i]?=some y:=h1
      have h2:vs[i]?=some w:=by
        have:(vs.map some)[i]?=some (some w):=h2
        rw [getElem?_map] at this
        cases e:vs[i]? with
        | none=>rw [e] at this;cases this
        | some z=>rw [e] at this;cases this;rfl
      obtain ⟨j,j1,j2,j3,j4⟩:=hf i y w h1 h2
      obtain ⟨m,hm,lk⟩:=I.loc
      obtain ⟨u',ru,lo⟩:=lk j y w j1 j2 j3
      refine ⟨u',ru,?_⟩
      rcases lo with ⟨k1,_⟩ | ⟨_,c,e1,e2⟩
      · exact absurd k1 j4
      · have hy:=S.tl y (mem_of_getElem? h1)
        obtain ⟨c',e3⟩:=S.fr y hy
        have:=S.cls y c' e3
        rw [e1] at this
        cases this
        obtain ⟨o,ho,hd⟩:=e2
        exact .inr ⟨.inr hy,c,e3,o,hk _ _ ho,hd⟩
  · obtain ⟨w,o,ho,hd⟩:=I.cell y c (S.cls y c h)
    exact ⟨w,o,hk _ _ ho,hd⟩
  · show ((v::vs).map some).length=N.length
    rw [length_map,length_cons,hl]
theorem Xgq {A:Around}{N:List Str}{p name qual:Str}{sc:Scope}{params:Arguments}{body:Expr}{f c:Addr}{pm ctv u:Value}{v:V}{vs:List V}{cl:List (Str×Addr)}{te:TE}{Q:VK}(I:Inv X pins σ H s)(S:Xfz X N p sc cl)(hA:A.frames=some X.stack)(hh:A.handled=none)(hroom:A.depth<recursionLimit)
    (hl:vs.length+1=N.length) (hf:Xgj X σ N.tail vs) (rv:RelV v u)
    (ho:s.heap.get? f=some (kla_obj name qual params body sc cl pm c ctv)) (hcd:s.heap.CodeRec (.ref c) qual)
    (hb:bindArgs (kla_fn name qual params body sc cl pm (.ref c) ctv) ⟨[u],[]⟩=pure [(p,u)])
    (ht:PE (cxL X A N qual sc f (.ref c) cl s H) body te) (hq:te ((v::vs).map some) H Q) :
    codeAny (model X.prog X.w) A (.call (.ref f) ⟨[u],[]⟩) (fun r s'=>match r with
      | .ok (.ret u')=>CE X.stack X.prog X.w H s Q u' s'
      | _=>False) s:=by
  refine PySem.W.kla_callFunE hroom ho rfl S.co S.gen rfl hcd ?_
  rw [hb]
  refine wpAny_pure (wpAny_newFunctionEnv S.nocell (fun x hx=>by rw [List.mem_singleton.mp hx];exact S.par) (fun h₁ hns hsb=>⟨I.nolimit.fresh _ hsb,?_⟩) S.kind)
  have hk:∀b o,s.heap.get? b=some o→h₁.get? b=some o:=fun b o e=>hsb.extBut b o (ne_of_lt (lt_size e)) (get?_push_of_some _ e)
  have J:=Xjp (A:=A) (qual:=qual) (f:=f) (cd:=.ref c) (tk:=s.toks+1) I S hA hh hl hf rv hns hk
  show codeAny _ _ (.expr body (envX qual sc s.heap.objs.size f (.ref c) cl)) _ _
  refine PySem.W.kla_codeExpr (wpAny_mono (ht [] _ _ H _ J hq) (fun u' s' h=>?_) fun e s' h=>False.elim h)
  obtain ⟨w,H',J',r,q⟩:=h
  exact ⟨w,H',J'.os,J'.bare,J'.base,J'.hok,r,q⟩
end
def BMod (base:Heap)(mg:Str→Option Value):Prop:=∃bm ob,mg "__builtins__"=some (.ref bm)∧bm≠builtinsNs∧base.get? bm=some ob∧ob.cls=.type "module"∧ob.dict=some builtinsNs∧ob.data=.plain
def Zus (H:Hp)(f:Addr)(qual:Str)(params:Arguments)(body:Expr)(sc:Scope)(cl:List (Str×Addr)):Prop:=
 ∃c pm ctv oc vs t,H f=some (.frz (kla_obj "<lambda>" qual params body sc cl pm c ctv) (.own 0))∧H c=some (.frz oc (.own 0))∧oc.data=.fields vs∧vs[1]?=some (.str qual t)
section
variable {X:Cx}{pins:List (Addr×Obj)}{σ:St}{H:Hp}{s:Shared}{P c:Addr}{pos:Pos}{qual:Str}{params:Arguments}{body:Expr}{sc:Scope}{cl:List (Str×Addr)}{E:Value→Shared→Prop}
theorem Inv.bat (I:Inv X pins σ H s)(hB:BMod X.base X.mg)(hP:H P=some (.tbl pos qual)):s.heap.BuiltinsAt X.mg P∧mainGlobals≠P:=by
 obtain ⟨bm,ob,b1,b2,b3,b4,b5,b6⟩:=hB
 obtain ⟨e1,e2⟩:=I.bs bm ob b3
 obtain ⟨og,es,ep,g1,g2,g3⟩:=I.mod.glob
 have n1:bm≠mainGlobals:=fun z=>by
  rw [z,g1] at b3
  cases b3
  rw [g2] at b6
  cases b6
 have n2:bm≠P:=fun z=>by rw [z,hP] at e2;cases e2
 refine ⟨⟨bm,ob,b1,b2,n1,n2,e1,b4,b5,b6⟩,fun z=>?_⟩
 have:=(I.bs mainGlobals og g1).2
 rw [z,hP] at this
 cases this
theorem Inv.lay2 {h':Heap}{fo:Obj}{tk:Nat}(I:Inv X pins σ H s)(hk:∀b o,s.heap.get? b=some o→h'.get? b=some o)(hs:s.heap.objs.size≤h'.objs.size)(hfree:fo.isFreed=false):Inv X pins σ (upd H h'.objs.size (.frz fo (.own 0))) {s with heap:=h'.push fo,toks:=tk}:=by
 have e:=get?_push_size h' (o:=fo) hfree
 exact I.laid (fun b o q=>get?_push_of_some _ (hk b o q)) hs (show Zck X.prog X.w _ (h'.push fo) _ (.frz fo (.own 0)) from ⟨e,_,e⟩)
theorem Xev {v:Value}{ps:Array Value}{Q:Value→Shared→Prop}(I:Inv X pins σ H s)(hB:BMod X.base X.mg)(hP:H P=some (.tbl pos qual))(hcode:X.env.code=.ref c)(C:CodeHd X.base c P)(hcl:closureFor sc X.env=pure cl)
  (e:s.heap.get? P=some (tabObj ps)) (tr:TriplesOk ps.toList) (hv:codeAmong pos ps.toList=some v) (hc:∀v,codeAmong pos ps.toList=some v→∃c o vs t,v=.ref c∧H c=some (.frz o (.own 0))∧o.data=.fields vs∧vs[1]?=some (.str qual t))
  (h:∀f H' s',Inv X pins σ H' s'→(∀b o,H b=some o→H' b=some o)→Zus H' f qual params body sc cl→Q (.ref f) s') :
  wpAny (model X.prog X.w) X.A (makeFunction "<lambda>" qual params (.expr body) sc X.env [] [] [] pos pos.line) Q E s:=by
 obtain ⟨b1,b2⟩:=I.bat hB hP
 obtain ⟨c',o,vs,t,rfl,e2,e3,e4⟩:=hc v hv
 refine PySem.W.kla_makeFunctionHit (mg:=X.mg) hcl I.ok.glob (I.mod.glob.keeps I.bk) hcode (C.keeps I.bk) e tr hv b1 fun ctv h' tk hk hs=>?_
 have J:=I.lay2 (fo:=kla_obj "<lambda>" qual params body sc cl ((X.mg "__name__").getD .none) c' ctv) (tk:=tk) hk hs rfl
 have hn:H h'.objs.size=none:=I.hok.fresh hs
 refine h _ _ _ J (fun b o q=>by rw [Xq (Xj q hn)];exact q) ⟨c',_,ctv,o,vs,t,Ya,?_,e3,e4⟩
 rw [Xq (Xj e2 hn)]
 exact e2
theorem Xhp {ps:Array Value}{Q:Value→Shared→Prop}(I:Inv X pins σ H s)(hB:BMod X.base X.mg)(hP:H P=some (.tbl pos qual))(hcode:X.env.code=.ref c)(C:CodeHd X.base c P)(hcl:closureFor sc X.env=pure cl)
  (e:s.heap.get? P=some (tabObj ps)) (tr:TriplesOk ps.toList) (hv:codeAmong pos ps.toList=none)
  (h:∀f H' s',Inv X pins σ H' s'→(∀b o,H b=some o→H' b=some o)→Zus H' f qual params body sc cl→Q (.ref f) s') :
  wpAny (model X.prog X.w) X.A (makeFunction "<lambda>" qual params (.expr body) sc X.env [] [] [] pos pos.line) Q E s:=by
 obtain ⟨b1,b2⟩:=I.bat hB hP
 refine PySem.W.kla_makeFunction (mg:=X.mg) hcl I.ok.glob (I.mod.glob.keeps I.bk) hcode (C.keeps I.bk) e tr hv b2 b1 fun c' ctv h' tk hx hge hlt hrec htb=>?_
 obtain ⟨c2,oc,vs,t,e1,e2,e3,e4⟩:=hrec
 cases e1
 have hcn:H c'=none:=I.hok.fresh hge
 have ne:∀b u,H b=some u→b≠c':=fun b u q z=>by rw [z,hcn] at q;cases q
 have sub:∀b u,H b=some u→upd H c' (.frz oc (.own 0)) b=some u:=fun b u q=>by rw [Xq (ne b u q)];exact q
 have tab:codeAmong pos (ps++#[rawInt pos.line,rawInt pos.col,.ref c']).toList=some (.ref c'):=by
  rw [Array.toList_append]
  exact codeAmong_snoc ps.toList tr hv
 have tr2:TriplesOk (ps++#[rawInt pos.line,rawInt pos.col,.ref c']).toList:=by
  rw [Array.toList_append]
  exact TriplesOk_snoc pos.line pos.col (.ref c') ps.toList tr
 have J1:Inv X pins σ (upd H c' (.frz oc (.own 0))) {s with heap:=h',toks:=tk}:=by
  refine I.un ⟨fun b o q n _ _=>hx b o (fun z=>by rw [z,hP] at n;cases n) q,fun b o q n _ _=>⟨o.slots,hx b o (fun z=>by rw [z,hP] at n;cases n) q⟩,fun b o q n _=>by rw [Xq (ne_of_lt (lt_of_lt_of_le (lt_size q) hge))];exact n,fun b o q _=>?_,fun b xs q=>sub b _ q,fun b o u q=>sub b _ q,fun b p n q=>sub b _ q⟩ fun b u q=>?_
  ·by_cases hb:b=P
   ·exact ⟨_,by rw [hb];exact htb⟩
   ·exact ⟨o,hx b o hb q⟩
  ·by_cases hb:b=c'
   ·subst hb
    rw [Ya] at q
    cases q
    exact ⟨e2,_,e2⟩
   ·rw [Xq hb] at q
    by_cases hp:b=P
    ·subst hp
     rw [hP] at q
     cases q
     refine ⟨_,htb,tr2,fun v hv'=>?_⟩
     rw [tab] at hv'
     cases hv'
     exact ⟨c',oc,vs,t,rfl,Ya,e3,e4⟩
    ·refine (I.hok b u q).stay (fun d w hd q2=>hx d w (fun z=>?_) q2) (fun d q2=>sub d _ q2) (fun d xs q2=>sub d _ q2) fun d o u q2=>sub d _ q2
     rcases hd with z2 | z2
     ·exact hp (z2.symm.trans z)
     ·rw [z,hP] at z2
      cases z2
 have J:=J1.lay2 (h':=h') (fo:=kla_obj "<lambda>" qual params body sc cl ((X.mg "__name__").getD .none) c' ctv) (tk:=tk) (fun _ _ q=>q) (le_refl _) rfl
 have hn:upd H c' (.frz oc (.own 0)) h'.objs.size=none:=J1.hok.fresh (le_refl _)
 refine h _ _ _ J (fun b o q=>by rw [Xq (Xj (sub b o q) hn)];exact sub b o q) ⟨c',_,ctv,oc,vs,t,Ya,?_,e3,e4⟩
 rw [Xq (Xj Ya hn)]
 exact Ya
theorem Zqu {Q:Value→Shared→Prop}(I:Inv X pins σ H s)(hB:BMod X.base X.mg)(hP:H P=some (.tbl pos qual))(hcode:X.env.code=.ref c)(C:CodeHd X.base c P)(hcl:closureFor sc X.env=pure cl)(hq:X.env.qual++"<lambda>"=qual)(hdef:defaultsOf params X.env=([],[]))
  (h:∀f H' s',Inv X pins σ H' s'→(∀b o,H b=some o→H' b=some o)→Zus H' f qual params body sc cl→Q (.ref f) s') :
  wpAny (model X.prog X.w) X.A (eval (.Lambda params body sc pos) X.env) Q E s:=by
 refine PySem.W.kla_eval hdef ?_
 rw [hq]
 obtain ⟨ps,e,tr,hc⟩:=(show Zck X.prog X.w H s.heap P (.tbl pos qual) from I.hok P _ hP)
 cases hv:codeAmong pos ps.toList with
 | none=>exact Xhp I hB hP hcode C hcl e tr hv h
 | some v=>exact Xev I hB hP hcode C hcl e tr hv hc h
end
noncomputable def Zky (K:Frag)(a:Addr)(xs:List V)(tb:V→Hp→VK→Prop):List V→Hp→(List Int→Hp→Prop)→Prop
 | [],H,Q=>Q [] H
 | x::r,H,Q=>tb x H fun v H'=>∃k,v=.int k∧SqL K H' a xs∧Zky K a xs tb r H' fun ks H2=>Q (k::ks) H2
def Ji (lt:Int→Int→Bool)(ks:List Int)(i:Nat):Prop:=i<ks.length∧(∀j,j<ks.length→lt (ks.getD j 0) (ks.getD i 0)=false)∧∀j,j<i→lt (ks.getD i 0) (ks.getD j 0)=true
theorem Inv.pinIt {X:Cx}{pins:List (Addr×Obj)}{σ:St}{H:Hp}{s:Shared}{b:Addr}{o:Obj}(I:Inv X pins σ H s)(e:s.heap.get? b=some o)(f:Zin X pins H b)(hd:∀v,o.data≠.cell v):Inv X ((b,o)::pins) σ H s:=
  ⟨I.ok,I.os,I.bare,I.base,I.loc,I.cell,I.free,I.freeC,fun p hp=>by
    rcases List.mem_append.mp hp with z | z
    · exact I.pin p (mem_append_left _ z)
    · rcases List.mem_cons.mp z with z | z
      · subst z
        exact ⟨e,f.1,f.2.1,f.2.2.1,hd⟩
      · exact I.pin p (mem_append_right _ z),I.hok,I.len⟩
theorem Inv.unpin {X:Cx}{pins:List (Addr×Obj)}{σ:St}{H:Hp}{s:Shared}{q:Addr×Obj}(I:Inv X (q::pins) σ H s):Inv X pins σ H s:=
 ⟨I.ok,I.os,I.bare,I.base,I.loc,I.cell,I.free,I.freeC,fun p hp=>I.pin p ((List.mem_append.mp hp).elim (mem_append_left _) fun z=>mem_append_right _ (.tail _ z)),I.hok,I.len⟩
def FpX (X:Cx)(pins:List (Addr×Obj))(b:Addr):Prop:=b≠X.env.locals∧b∉X.fs∧(b∈X.ex∨X.s₀.heap.objs.size≤b)∧(∀x c,X.env.cells.lookup x=some c→c≠b)∧∀p∈X.pn++pins,p.1≠b
section
variable {X:Cx}{pins:List (Addr×Obj)}{σ:St}{H:Hp}{s:Shared}{a f I S:Addr}{xs:List V}{tb:V→Hp→VK→Prop}{R:Result→Shared→Prop}{Q:V→Hp→Prop}
def Znj (X:Cx)(pins:List (Addr×Obj))(σ:St)(f:Addr)(LP:Hp→Prop)(tb:V→Hp→VK→Prop)(A:Around):Prop:=∀(own:List (Addr×Obj)) (H:Hp) (s:Shared) (x:V) (u:Value) (Q:VK),Inv X (own++pins) σ H s→LP H→RelV x u→tb x H Q→
 wpAny (model X.prog X.w) A (call (.ref f) [u]) (fun u' s'=>∃v H',Inv X (own++pins) σ H' s'∧LP H'∧RelV v u'∧Q v H') (fun _ _=>False) s
theorem Xaz {LP:Hp→Prop}(hc:X.calm=true)(hK:Znj X pins σ f LP tb X.A.in1)(hI:FpX X pins I)(hS:FpX X pins S)(hIS:I≠S)
  (hR:∀(x:V) (u:Value) (H:Hp) (s:Shared),Inv X pins σ H s→RelV x u→Q x H→R (.ok (.ret u)) s) :
  ∀(r:List V) (j:Nat) (H:Hp) (s:Shared) (vb:Value) (kb:Int) (tk:Tok) (c:Nat) (oI:Obj) (i:Nat) (x:V) (dn:List Int),xs.drop (j+1)=r→j+1≤xs.length→dn.length=j+1→Ji (fun m n=>decide (m<n)) dn i→dn.getD i 0=kb→xs[i]?=some x→RelV x vb→
   Inv X ((S,seqObj "list" #[vb,.int kb tk] c)::(I,oI)::pins) σ H s→LP H→SqL X.K H a xs→a≠I→s.heap.IsListIter I a (j+1)→
   Zky X.K a xs tb r H (fun ks H'=>∀i x,xs[i]?=some x→Ji (fun m n=>decide (m<n)) (dn++ks) i→Q x H')→
   codeAny (model X.prog X.w) X.A (.builtin "min.loop" ⟨[.ref I,.ref f,.ref S],[]⟩) R s:=by
 intro r
 induction r with
 | nil =>
  intro j H s vb kb tk c oI i x dn hr hj hdn hfi hkb hx rx J hf hq haI hit q
  have hin:xs.length≤j+1:=by
   have:=congrArg List.length hr
   rw [length_drop,length_nil] at this
   omega
  obtain ⟨its,rv,pl,hz⟩:=J.list hq
  have hlen:=rv.length
  obtain ⟨pS,pS1,_⟩:=J.pin (S,seqObj "list" #[vb,.int kb tk] c) (mem_append_right _ (.head _))
  refine codeAny_builtin PySem.F.entry_min_loop ?_
  rw [Around.under_plainId PySem.F.plain_min_loop _]
  show wpAny _ X.A.in1 (seqItems? (.ref S) >>= _) _ _ _
  refine wpAny_bind (wpAny_seqItems pS rfl (show wpAny _ X.A.in1 (tryCatch (pyNext (.ref I)) _ >>= _) _ _ _ from wpAny_bind (wpAny_tryCatch ((Walks.list (prog:=X.prog) (w:=X.w) (A:=X.A.in1) (J.ok.hd hc) I a haI its.toArray).done s _ _ ⟨by rw [size_toArray,← hlen,show xs.length=j+1 by omega];exact hit,pl.isList⟩ fun h' tk' hk'=>?_))))
  have J1:Inv X ((S,seqObj "list" #[vb,.int kb tk] c)::pins) σ H {s with heap:=h',toks:=tk'}:=by
   have J0:Inv X ((S,seqObj "list" #[vb,.int kb tk] c)::pins) σ H s:=⟨J.ok,J.os,J.bare,J.base,J.loc,J.cell,J.free,J.freeC,fun p hp=>J.pin p ((List.mem_append.mp hp).elim (mem_append_left _) fun z=>mem_append_right _ ((List.mem_cons.mp z).elim (fun z=>by rw [z];exact .head _) fun z=>.tail _ (.tail _ z))),J.hok,J.len⟩
   obtain ⟨_,pI1,_⟩:=J.pin (I,oI) (mem_append_right _ (.tail _ (.head _)))
   exact J0.turned (fun b o hb e=>hk' b o (fun z=>hb (List.mem_singleton.mp z)) e) pI1 hI.1 hI.2.2.1 hI.2.2.2.1 fun p hp=>(List.mem_append.mp hp).elim (fun z=>hI.2.2.2.2 p (mem_append_left _ z)) fun z=>(List.mem_cons.mp z).elim (fun z=>by rw [z];exact fun z=>hIS z.symm) fun z=>hI.2.2.2.2 p (mem_append_right _ z)
  have pS2:=(J1.pin (S,seqObj "list" #[vb,.int kb tk] c) (mem_append_right _ (.head _))).1
  have s1:=Heap.SameBut.update h' S (Obj.mapSeq fun _=>(#[]:Array Value))
  show wpAny _ X.A.in1 (updateSeq S (fun _=>#[]) >>= _) _ _ _
  refine wpAny_bind (wpAny_updateSeq pS2 rfl (wpAny_bind (wpAny_letGo (wpAny_pure (hR x vb H _ (J1.unpin.turned (t':=tk') (fun b o hb e=>(s1.2 b hb).trans e) pS1 hS.1 hS.2.2.1 hS.2.2.2.1 hS.2.2.2.2) rx (q i x hx ?_))))))
  rw [append_nil]
  exact hfi
 | cons y r ih =>
  intro j H s vb kb tk c oI i x dn hr hj hdn hfi hkb hx rx J hf hq haI hit q
  have hy:xs[j+1]?=some y:=by
   have:=congrArg (fun l=>l[0]?) hr
   rw [List.getElem?_drop] at this
   exact this
  have hlt:j+1<xs.length:=(List.getElem?_eq_some_iff.mp hy).1
  have hr2:xs.drop (j+1+1)=r:=by
   have:=congrArg List.tail hr
   rw [List.tail_drop] at this
   exact this
  obtain ⟨its,rv,pl,hz⟩:=J.list hq
  have hlen:=rv.length
  obtain ⟨pS,pS1,_⟩:=J.pin (S,seqObj "list" #[vb,.int kb tk] c) (mem_append_right _ (.head _))
  refine codeAny_builtin PySem.F.entry_min_loop ?_
  rw [Around.under_plainId PySem.F.plain_min_loop _]
  show wpAny _ X.A.in1 (seqItems? (.ref S) >>= _) _ _ _
  refine wpAny_bind (wpAny_seqItems pS rfl (show wpAny _ X.A.in1 (tryCatch (pyNext (.ref I)) _ >>= _) _ _ _ from wpAny_bind (wpAny_tryCatch ((Walks.list (prog:=X.prog) (w:=X.w) (A:=X.A.in1) (J.ok.hd hc) I a haI its.toArray).item (j+1) s _ _ (by rw [size_toArray];omega) ⟨hit,pl.isList⟩ fun u h' tk' hP hst' hk'=>?_))))
  have hu:its[j+1]?=some u:=by simpa using hP
  obtain ⟨u2,hu2,ry⟩:=rv.get hy
  rw [hu] at hu2
  cases hu2
  obtain ⟨oI',hoI',hoc,hod⟩:=id hst'.1
  have J1:Inv X ((S,seqObj "list" #[vb,.int kb tk] c)::(I,oI')::pins) σ H {s with heap:=h',toks:=tk'}:=by
   have J0:Inv X ((S,seqObj "list" #[vb,.int kb tk] c)::pins) σ H s:=⟨J.ok,J.os,J.bare,J.base,J.loc,J.cell,J.free,J.freeC,fun p hp=>J.pin p ((List.mem_append.mp hp).elim (mem_append_left _) fun z=>mem_append_right _ ((List.mem_cons.mp z).elim (fun z=>by rw [z];exact .head _) fun z=>.tail _ (.tail _ z))),J.hok,J.len⟩
   obtain ⟨_,pI1,_⟩:=J.pin (I,oI) (mem_append_right _ (.tail _ (.head _)))
   have J2:=J0.turned (t':=tk') (fun b o hb e=>hk' b o (fun z=>hb (List.mem_singleton.mp z)) e) pI1 hI.1 hI.2.2.1 hI.2.2.2.1 fun p hp=>(List.mem_append.mp hp).elim (fun z=>hI.2.2.2.2 p (mem_append_left _ z)) fun z=>(List.mem_cons.mp z).elim (fun z=>by rw [z];exact fun z=>hIS z.symm) fun z=>hI.2.2.2.2 p (mem_append_right _ z)
   have pS2:=(J2.pin (S,seqObj "list" #[vb,.int kb tk] c) (mem_append_right _ (.head _))).1
   exact (J2.unpin.pinIt hoI' ⟨pI1,hI⟩ (fun v z=>by rw [hod] at z;cases z)).pinIt pS2 ⟨pS1,hS.1,hS.2.1,hS.2.2.1,hS.2.2.2.1,fun p hp=>(List.mem_append.mp hp).elim (fun z=>hS.2.2.2.2 p (mem_append_left _ z)) fun z=>(List.mem_cons.mp z).elim (fun z=>by rw [z];exact hIS) fun z=>hS.2.2.2.2 p (mem_append_right _ z)⟩ (fun v z=>by cases z)
  show wpAny _ X.A.in1 (tryCatch (holding [u] (call (.ref f) [u])) _ >>= _) _ _ _
  refine wpAny_bind (wpAny_tryCatch (wpAny_holding (wpAny_mono (hK [(S,seqObj "list" #[vb,.int kb tk] c),(I,oI')] H _ y u _ J1 hf ry q) (fun u' s2 he=>?_) fun _ _ z=>z.elim)))
  obtain ⟨v,H2,J3,hf2,ru,k,rfl,hq2,q2⟩:=he
  obtain ⟨t2,rfl⟩:=ru
  have J3:Inv X ((S,seqObj "list" #[vb,.int kb tk] c)::(I,oI')::pins) σ H2 s2:=J3
  obtain ⟨pS3,pS4,_⟩:=J3.pin (S,seqObj "list" #[vb,.int kb tk] c) (mem_append_right _ (.head _))
  have pI3:=(J3.pin (I,oI') (mem_append_right _ (.tail _ (.head _)))).1
  have hit2:s2.heap.IsListIter I a (j+1+1):=⟨oI',pI3,hoc,hod⟩
  show wpAny _ X.A.in1 (tryCatch (holding [u,.int k t2] (richCompare .Lt (.int k t2) (.int kb tk) >>= _)) _ >>= _) _ _ _
  refine wpAny_bind (wpAny_tryCatch (wpAny_holding (wpAny_bind (PySem.P.lt_int (show wpAny _ X.A.in1 (holding [Value.bool (decide (k<kb))] (truthy (.bool (decide (k<kb)))) >>= _) _ _ _ from wpAny_bind (wpAny_holding (wpAny_truthy_bool (wpAny_bind (wpAny_letGo (wpAny_pure ?_))))))))))
  have fi1:=hfi.1
  have at1:∀m,m<dn.length→(dn++[k]).getD m 0=dn.getD m 0:=fun m hm=>by rw [getD_eq_getElem?_getD,getElem?_append_left hm,← getD_eq_getElem?_getD]
  have at2:(dn++[k]).getD dn.length 0=k:=by rw [getD_eq_getElem?_getD,getElem?_append_right (le_refl _),sub_self];rfl
  have la:(dn++[k]).length=dn.length+1:=by rw [length_append];rfl
  have nxt:Zky X.K a xs tb r H2 (fun ks H'=>∀i x,xs[i]?=some x→Ji (fun m n=>decide (m<n)) ((dn++[k])++ks) i→Q x H'):=by
   have:(fun ks H'=>∀i x,xs[i]?=some x→Ji (fun m n=>decide (m<n)) ((dn++[k])++ks) i→Q x H')=fun ks H'=>(fun ks H'=>∀i x,xs[i]?=some x→Ji (fun m n=>decide (m<n)) (dn++ks) i→Q x H') (k::ks) H':=by
    funext ks H'
    rw [append_assoc]
    rfl
   rw [this]
   exact q2
  by_cases hb:k<kb
  ·have s1:=Heap.SameBut.update s2.heap S (Obj.mapSeq fun _=>#[u,.int k t2])
   obtain ⟨c2,hc2⟩:∃c2,(s2.heap.update S (Obj.mapSeq fun _=>#[u,.int k t2])).get? S=some (seqObj "list" #[u,.int k t2] c2):=⟨_,get?_update_seq pS3 fun _=>#[u,.int k t2]⟩
   have J4:Inv X ((S,seqObj "list" #[u,.int k t2] c2)::(I,oI')::pins) σ H2 {s2 with heap:=s2.heap.update S (Obj.mapSeq fun _=>#[u,.int k t2])}:=by
    have fp:∀p∈X.pn++((I,oI')::pins),p.1≠S:=fun p hp=>(List.mem_append.mp hp).elim (fun z=>hS.2.2.2.2 p (mem_append_left _ z)) fun z=>(List.mem_cons.mp z).elim (fun z=>by rw [z];exact hIS) fun z=>hS.2.2.2.2 p (mem_append_right _ z)
    exact (J3.unpin.turned (t':=s2.toks) (fun b o hb e=>(s1.2 b hb).trans e) pS4 hS.1 hS.2.2.1 hS.2.2.2.1 fp).pinIt hc2 ⟨pS4,hS.1,hS.2.1,hS.2.2.1,hS.2.2.2.1,fp⟩ (fun v z=>by cases z)
   simp only [hb,decide_true,if_true]
   refine wpAny_bind (wpAny_updateSeq pS3 rfl (wpAny_bind (wpAny_letGo ?_)))
   rw [show (toString "min"++toString ".loop":String)="min.loop" by decide]
   refine wpAny_pure ⟨plainId_quiet PySem.F.plain_min_loop _,ih (j+1) H2 _ u k t2 c2 oI' dn.length y (dn++[k]) hr2 hlt (by rw [la,hdn]) ⟨by omega,fun m hm=>?_,fun m hm=>?_⟩ at2 (by rw [hdn];exact hy) ry J4 hf2 hq2 haI ⟨oI',(s1.2 I hIS).trans pI3,hoc,hod⟩ nxt⟩
   ·rw [at2]
    by_cases e:m=dn.length
    ·rw [e,at2]
     exact decide_eq_false (by omega)
    ·rw [at1 m (by omega)]
     have:=of_decide_eq_false (hfi.2.1 m (by omega))
     exact decide_eq_false (by omega)
   ·rw [at2,at1 m hm]
    have:=of_decide_eq_false (hfi.2.1 m hm)
    exact decide_eq_true (by omega)
  ·simp only [hb,decide_false,Bool.false_eq_true,if_false]
   refine wpAny_bind (wpAny_letGo ?_)
   rw [show (toString "min"++toString ".loop":String)="min.loop" by decide]
   refine wpAny_pure ⟨plainId_quiet PySem.F.plain_min_loop _,ih (j+1) H2 _ vb kb tk c oI' i x (dn++[k]) hr2 hlt (by rw [la,hdn]) ⟨by omega,fun m hm=>?_,fun m hm=>?_⟩ (by rw [at1 i fi1];exact hkb) hx rx J3 hf2 hq2 haI hit2 nxt⟩
   ·rw [at1 i fi1]
    by_cases e:m=dn.length
    ·rw [e,at2,hkb]
     exact decide_eq_false hb
    ·rw [at1 m (by omega)]
     exact hfi.2.1 m (by omega)
   ·rw [at1 i fi1,at1 m (by omega)]
    exact hfi.2.2 m hm
theorem Zyr {LP:Hp→Prop}(hc:X.calm=true)(hK:Znj X pins σ f LP tb X.A.in1)(hI:FpX X pins I)(hS:FpX X pins S)(hIS:I≠S)
  (hR:∀(x:V) (u:Value) (H:Hp) (s:Shared),Inv X pins σ H s→RelV x u→Q x H→R (.ok (.ret u)) s) :
  ∀(r:List V) (j:Nat) (H:Hp) (s:Shared) (vb:Value) (kb:Int) (tk:Tok) (c:Nat) (oI:Obj) (i:Nat) (x:V) (dn:List Int),xs.drop (j+1)=r→j+1≤xs.length→dn.length=j+1→Ji (fun m n=>decide (m > n)) dn i→dn.getD i 0=kb→xs[i]?=some x→RelV x vb→
   Inv X ((S,seqObj "list" #[vb,.int kb tk] c)::(I,oI)::pins) σ H s→LP H→SqL X.K H a xs→a≠I→s.heap.IsListIter I a (j+1)→
   Zky X.K a xs tb r H (fun ks H'=>∀i x,xs[i]?=some x→Ji (fun m n=>decide (m > n)) (dn++ks) i→Q x H')→
   codeAny (model X.prog X.w) X.A (.builtin "max.loop" ⟨[.ref I,.ref f,.ref S],[]⟩) R s:=by
 intro r
 induction r with
 | nil =>
  intro j H s vb kb tk c oI i x dn hr hj hdn hfi hkb hx rx J hf hq haI hit q
  have hin:xs.length≤j+1:=by
   have:=congrArg List.length hr
   rw [length_drop,length_nil] at this
   omega
  obtain ⟨its,rv,pl,hz⟩:=J.list hq
  have hlen:=rv.length
  obtain ⟨pS,pS1,_⟩:=J.pin (S,seqObj "list" #[vb,.int kb tk] c) (mem_append_right _ (.head _))
  refine codeAny_builtin PySem.F.entry_max_loop ?_
  rw [Around.under_plainId PySem.F.plain_max_loop _]
  show wpAny _ X.A.in1 (seqItems? (.ref S) >>= _) _ _ _
  refine wpAny_bind (wpAny_seqItems pS rfl (show wpAny _ X.A.in1 (tryCatch (pyNext (.ref I)) _ >>= _) _ _ _ from wpAny_bind (wpAny_tryCatch ((Walks.list (prog:=X.prog) (w:=X.w) (A:=X.A.in1) (J.ok.hd hc) I a haI its.toArray).done s _ _ ⟨by rw [size_toArray,← hlen,show xs.length=j+1 by omega];exact hit,pl.isList⟩ fun h' tk' hk'=>?_))))
  have J1:Inv X ((S,seqObj "list" #[vb,.int kb tk] c)::pins) σ H {s with heap:=h',toks:=tk'}:=by
   have J0:Inv X ((S,seqObj "list" #[vb,.int kb tk] c)::pins) σ H s:=⟨J.ok,J.os,J.bare,J.base,J.loc,J.cell,J.free,J.freeC,fun p hp=>J.pin p ((List.mem_append.mp hp).elim (mem_append_left _) fun z=>mem_append_right _ ((List.mem_cons.mp z).elim (fun z=>by rw [z];exact .head _) fun z=>.tail _ (.tail _ z))),J.hok,J.len⟩
   obtain ⟨_,pI1,_⟩:=J.pin (I,oI) (mem_append_right _ (.tail _ (.head _)))
   exact J0.turned (fun b o hb e=>hk' b o (fun z=>hb (List.mem_singleton.mp z)) e) pI1 hI.1 hI.2.2.1 hI.2.2.2.1 fun p hp=>(List.mem_append.mp hp).elim (fun z=>hI.2.2.2.2 p (mem_append_left _ z)) fun z=>(List.mem_cons.mp z).elim (fun z=>by rw [z];exact fun z=>hIS z.symm) fun z=>hI.2.2.2.2 p (mem_append_right _ z)
  have pS2:=(J1.pin (S,seqObj "list" #[vb,.int kb tk] c) (mem_append_right _ (.head _))).1
  have s1:=Heap.SameBut.update h' S (Obj.mapSeq fun _=>(#[]:Array Value))
  show wpAny _ X.A.in1 (updateSeq S (fun _=>#[]) >>= _) _ _ _
  refine wpAny_bind (wpAny_updateSeq pS2 rfl (wpAny_bind (wpAny_letGo (wpAny_pure (hR x vb H _ (J1.unpin.turned (t':=tk') (fun b o hb e=>(s1.2 b hb).trans e) pS1 hS.1 hS.2.2.1 hS.2.2.2.1 hS.2.2.2.2) rx (q i x hx ?_))))))
  rw [append_nil]
  exact hfi
 | cons y r ih =>
  intro j H s vb kb tk c oI i x dn hr hj hdn hfi hkb hx rx J hf hq haI hit q
  have hy:xs[j+1]?=some y:=by
   have:=congrArg (fun l=>l[0]?) hr
   rw [List.getElem?_drop] at this
   exact this
  have hlt:j+1<xs.length:=(List.getElem?_eq_some_iff.mp hy).1
  have hr2:xs.drop (j+1+1)=r:=by
   have:=congrArg List.tail hr
   rw [List.tail_drop] at this
   exact this
  obtain ⟨its,rv,pl,hz⟩:=J.list hq
  have hlen:=rv.length
  obtain ⟨pS,pS1,_⟩:=J.pin (S,seqObj "list" #[vb,.int kb tk] c) (mem_append_right _ (.head _))
  refine codeAny_builtin PySem.F.entry_max_loop ?_
  rw [Around.under_plainId PySem.F.plain_max_loop _]
  show wpAny _ X.A.in1 (seqItems? (.ref S) >>= _) _ _ _
  refine wpAny_bind (wpAny_seqItems pS rfl (show wpAny _ X.A.in1 (tryCatch (pyNext (.ref I)) _ >>= _) _ _ _ from wpAny_bind (wpAny_tryCatch ((Walks.list (prog:=X.prog) (w:=X.w) (A:=X.A.in1) (J.ok.hd hc) I a haI its.toArray).item (j+1) s _ _ (by rw [size_toArray];omega) ⟨hit,pl.isList⟩ fun u h' tk' hP hst' hk'=>?_))))
  have hu:its[j+1]?=some u:=by simpa using hP
  obtain ⟨u2,hu2,ry⟩:=rv.get hy
  rw [hu] at hu2
  cases hu2
  obtain ⟨oI',hoI',hoc,hod⟩:=id hst'.1
  have J1:Inv X ((S,seqObj "list" #[vb,.int kb tk] c)::(I,oI')::pins) σ H {s with heap:=h',toks:=tk'}:=by
   have J0:Inv X ((S,seqObj "list" #[vb,.int kb tk] c)::pins) σ H s:=⟨J.ok,J.os,J.bare,J.base,J.loc,J.cell,J.free,J.freeC,fun p hp=>J.pin p ((List.mem_append.mp hp).elim (mem_append_left _) fun z=>mem_append_right _ ((List.mem_cons.mp z).elim (fun z=>by rw [z];exact .head _) fun z=>.tail _ (.tail _ z))),J.hok,J.len⟩
   obtain ⟨_,pI1,_⟩:=J.pin (I,oI) (mem_append_right _ (.tail _ (.head _)))
   have J2:=J0.turned (t':=tk') (fun b o hb e=>hk' b o (fun z=>hb (List.mem_singleton.mp z)) e) pI1 hI.1 hI.2.2.1 hI.2.2.2.1 fun p hp=>(List.mem_append.mp hp).elim (fun z=>hI.2.2.2.2 p (mem_append_left _ z)) fun z=>(List.mem_cons.mp z).elim (fun z=>by rw [z];exact fun z=>hIS z.symm) fun z=>hI.2.2.2.2 p (mem_append_right _ z)
   have pS2:=(J2.pin (S,seqObj "list" #[vb,.int kb tk] c) (mem_append_right _ (.head _))).1
   exact (J2.unpin.pinIt hoI' ⟨pI1,hI⟩ (fun v z=>by rw [hod] at z;cases z)).pinIt pS2 ⟨pS1,hS.1,hS.2.1,hS.2.2.1,hS.2.2.2.1,fun p hp=>(List.mem_append.mp hp).elim (fun z=>hS.2.2.2.2 p (mem_append_left _ z)) fun z=>(List.mem_cons.mp z).elim (fun z=>by rw [z];exact hIS) fun z=>hS.2.2.2.2 p (mem_append_right _ z)⟩ (fun v z=>by cases z)
  show wpAny _ X.A.in1 (tryCatch (holding [u] (call (.ref f) [u])) _ >>= _) _ _ _
  refine wpAny_bind (wpAny_tryCatch (wpAny_holding (wpAny_mono (hK [(S,seqObj "list" #[vb,.int kb tk] c),(I,oI')] H _ y u _ J1 hf ry q) (fun u' s2 he=>?_) fun _ _ z=>z.elim)))
  obtain ⟨v,H2,J3,hf2,ru,k,rfl,hq2,q2⟩:=he
  obtain ⟨t2,rfl⟩:=ru
  have J3:Inv X ((S,seqObj "list" #[vb,.int kb tk] c)::(I,oI')::pins) σ H2 s2:=J3
  obtain ⟨pS3,pS4,_⟩:=J3.pin (S,seqObj "list" #[vb,.int kb tk] c) (mem_append_right _ (.head _))
  have pI3:=(J3.pin (I,oI') (mem_append_right _ (.tail _ (.head _)))).1
  have hit2:s2.heap.IsListIter I a (j+1+1):=⟨oI',pI3,hoc,hod⟩
  show wpAny _ X.A.in1 (tryCatch (holding [u,.int k t2] (richCompare .Gt (.int k t2) (.int kb tk) >>= _)) _ >>= _) _ _ _
  refine wpAny_bind (wpAny_tryCatch (wpAny_holding (wpAny_bind (PySem.P.gt_int (show wpAny _ X.A.in1 (holding [Value.bool (decide (k > kb))] (truthy (.bool (decide (k > kb)))) >>= _) _ _ _ from wpAny_bind (wpAny_holding (wpAny_truthy_bool (wpAny_bind (wpAny_letGo (wpAny_pure ?_))))))))))
  have fi1:=hfi.1
  have at1:∀m,m<dn.length→(dn++[k]).getD m 0=dn.getD m 0:=fun m hm=>by rw [getD_eq_getElem?_getD,getElem?_append_left hm,← getD_eq_getElem?_getD]
  have at2:(dn++[k]).getD dn.length 0=k:=by rw [getD_eq_getElem?_getD,getElem?_append_right (le_refl _),sub_self];rfl
  have la:(dn++[k]).length=dn.length+1:=by rw [length_append];rfl
  have nxt:Zky X.K a xs tb r H2 (fun ks H'=>∀i x,xs[i]?=some x→Ji (fun m n=>decide (m > n)) ((dn++[k])++ks) i→Q x H'):=by
   have:(fun ks H'=>∀i x,xs[i]?=some x→Ji (fun m n=>decide (m > n)) ((dn++[k])++ks) i→Q x H')=fun ks H'=>(fun ks H'=>∀i x,xs[i]?=some x→Ji (fun m n=>decide (m > n)) (dn++ks) i→Q x H') (k::ks) H':=by
    funext ks H'
    rw [append_assoc]
    rfl
   rw [this]
   exact q2
  by_cases hb:k > kb
  ·have s1:=Heap.SameBut.update s2.heap S (Obj.mapSeq fun _=>#[u,.int k t2])
   obtain ⟨c2,hc2⟩:∃c2,(s2.heap.update S (Obj.mapSeq fun _=>#[u,.int k t2])).get? S=some (seqObj "list" #[u,.int k t2] c2):=⟨_,get?_update_seq pS3 fun _=>#[u,.int k t2]⟩
   have J4:Inv X ((S,seqObj "list" #[u,.int k t2] c2)::(I,oI')::pins) σ H2 {s2 with heap:=s2.heap.update S (Obj.mapSeq fun _=>#[u,.int k t2])}:=by
    have fp:∀p∈X.pn++((I,oI')::pins),p.1≠S:=fun p hp=>(List.mem_append.mp hp).elim (fun z=>hS.2.2.2.2 p (mem_append_left _ z)) fun z=>(List.mem_cons.mp z).elim (fun z=>by rw [z];exact hIS) fun z=>hS.2.2.2.2 p (mem_append_right _ z)
    exact (J3.unpin.turned (t':=s2.toks) (fun b o hb e=>(s1.2 b hb).trans e) pS4 hS.1 hS.2.2.1 hS.2.2.2.1 fp).pinIt hc2 ⟨pS4,hS.1,hS.2.1,hS.2.2.1,hS.2.2.2.1,fp⟩ (fun v z=>by cases z)
   simp only [hb,decide_true,if_true]
   refine wpAny_bind (wpAny_updateSeq pS3 rfl (wpAny_bind (wpAny_letGo ?_)))
   rw [show (toString "max"++toString ".loop":String)="max.loop" by decide]
   refine wpAny_pure ⟨plainId_quiet PySem.F.plain_max_loop _,ih (j+1) H2 _ u k t2 c2 oI' dn.length y (dn++[k]) hr2 hlt (by rw [la,hdn]) ⟨by omega,fun m hm=>?_,fun m hm=>?_⟩ at2 (by rw [hdn];exact hy) ry J4 hf2 hq2 haI ⟨oI',(s1.2 I hIS).trans pI3,hoc,hod⟩ nxt⟩
   ·rw [at2]
    by_cases e:m=dn.length
    ·rw [e,at2]
     exact decide_eq_false (by omega)
    ·rw [at1 m (by omega)]
     have:=of_decide_eq_false (hfi.2.1 m (by omega))
     exact decide_eq_false (by omega)
   ·rw [at2,at1 m hm]
    have:=of_decide_eq_false (hfi.2.1 m hm)
    exact decide_eq_true (by omega)
  ·simp only [hb,decide_false,Bool.false_eq_true,if_false]
   refine wpAny_bind (wpAny_letGo ?_)
   rw [show (toString "max"++toString ".loop":String)="max.loop" by decide]
   refine wpAny_pure ⟨plainId_quiet PySem.F.plain_max_loop _,ih (j+1) H2 _ vb kb tk c oI' i x (dn++[k]) hr2 hlt (by rw [la,hdn]) ⟨by omega,fun m hm=>?_,fun m hm=>?_⟩ (by rw [at1 i fi1];exact hkb) hx rx J3 hf2 hq2 haI hit2 nxt⟩
   ·rw [at1 i fi1]
    by_cases e:m=dn.length
    ·rw [e,at2,hkb]
     exact decide_eq_false hb
    ·rw [at1 m (by omega)]
     exact hfi.2.1 m (by omega)
   ·rw [at1 i fi1,at1 m (by omega)]
    exact hfi.2.2 m hm
end
section
variable {X:Cx}{pins:List (Addr×Obj)}{σ:St}{H:Hp}{s:Shared}{a f:Addr}{xs:List V}{tb:V→Hp→VK→Prop}{Q:VK}
theorem Xfq {LP:Hp→Prop}(hc:X.calm=true)(hK:Znj X pins σ f LP tb X.A.in1)(J:Inv X pins σ H s)(hf:LP H)(hq:SqL X.K H a xs)(hne:0<xs.length)
  (q:Zky X.K a xs tb xs H fun ks H'=>∀i x,xs[i]?=some x→Ji (fun m n=>decide (m<n)) ks i→Q x H') :
  wpAny (model X.prog X.w) X.A (call (.builtin "min") [.ref a] [(Str.ofString "key",.ref f)]) (EP X pins σ Q) X.xe s:=by
 obtain ⟨its,rv,pl,hz⟩:=J.list hq
 have hlen:=rv.length
 obtain ⟨ol,hol,_⟩:=id pl.isList
 have hll:a<s.heap.objs.size:=lt_size hol
 obtain ⟨I,eI⟩:∃I,I=s.heap.objs.size:=⟨_,rfl⟩
 obtain ⟨h1,e1⟩:∃h1,h1=s.heap.push {cls:=.type "list_iterator",data:=.fields #[.ref a,.int 0 0]}:=⟨_,rfl⟩
 obtain ⟨S,eS⟩:∃S,S=h1.objs.size:=⟨_,rfl⟩
 obtain ⟨h2,e2⟩:∃h2,h2=h1.push (seqObj "list" #[] 0):=⟨_,rfl⟩
 have z1:h1.objs.size=s.heap.objs.size+1:=by rw [e1];exact size_push' ..
 have k1:∀b o,s.heap.get? b=some o→h1.get? b=some o:=fun b o e=>by rw [e1];exact get?_push_of_some _ e
 have k2:∀b o,h1.get? b=some o→h2.get? b=some o:=fun b o e=>by rw [e2];exact get?_push_of_some _ e
 have gI:h2.get? I=some {cls:=.type "list_iterator",data:=.fields #[.ref a,.int 0 0]}:=k2 _ _ (by rw [e1,eI];exact get?_push_size _ rfl)
 have gS:h2.get? S=some (seqObj "list" #[] 0):=by rw [e2,eS];exact get?_push_size _ rfl
 have fI:Zin X pins H I:=J.fpOk (by rw [eI];exact le_refl _) (J.hok.fresh (by rw [eI];exact le_refl _))
 have fS:Zin X pins H S:=J.fpOk (by rw [eS,z1];exact le_succ _) (J.hok.fresh (by rw [eS,z1];exact le_succ _))
 have hIS:I≠S:=by rw [eS,z1,eI];exact ne_of_lt (lt_succ_self _)
 have haI:a≠I:=by rw [eI];exact ne_of_lt hll
 have J2:Inv X pins σ H {s with heap:=h2}:=J.kept (t':=s.toks) fun b o e=>k2 _ _ (k1 _ _ e)
 refine kmk_tree PySem.F.kind_min PySem.F.plain_min PySem.F.entry_min (kmk_min_key _ _) ?_
 show wpAny _ X.A.in1 (Builtin.Builtins.bindParams "min" ["key","default"] 0 ⟨[],[(Str.ofString "key",.ref f)]⟩ >>= _) _ _ s
 refine wpAny_bind (wpAny_of_eq (show Builtin.Builtins.bindParams "min" ["key","default"] 0 ⟨[],[(Str.ofString "key",.ref f)]⟩=pure [some (.ref f),none] from rfl) (wpAny_bind (wpAny_pure (wpAny_bind (wpAny_pyIter_list pl.isList (wpAny_bind (wpAny_newList ?_ (zero_le _))))))))
 rw [show (toString "min"++toString ".loop":String)="min.loop" by decide]
 rw [← e1,← eS,← eI]
 show wpAny _ X.A.in1 (again _) _ _ {s with heap:=h1.push (seqObj "list" #[] 0)}
 rw [← e2]
 refine wpAny_pure ⟨plainId_quiet PySem.F.plain_min_loop _,codeAny_builtin PySem.F.entry_min_loop ?_⟩
 rw [Around.under_plainId PySem.F.plain_min_loop _]
 show wpAny _ X.A.in1 (seqItems? (.ref S) >>= _) _ _ _
 obtain ⟨y,r,rfl⟩:∃y r,xs=y::r:=by
  cases xs with
  | nil=>simp at hne
  | cons y r=>exact ⟨y,r,rfl⟩
 obtain ⟨its2,rv2,pl2,hz2⟩:=J2.list hq
 have hlen2:=rv2.length
 refine wpAny_bind (wpAny_seqItems gS rfl (show wpAny _ X.A.in1 (tryCatch (pyNext (.ref I)) _ >>= _) _ _ _ from wpAny_bind (wpAny_tryCatch ((Walks.list (prog:=X.prog) (w:=X.w) (A:=X.A.in1) (J.ok.hd hc) I a haI its2.toArray).item 0 _ _ _ (by rw [size_toArray,← hlen2];exact hne) ⟨⟨_,gI,rfl,rfl⟩,pl2.isList⟩ fun u h' tk' hP hst' hk'=>?_))))
 have hu:its2[0]?=some u:=by simpa using hP
 obtain ⟨u2,hu2,ry⟩:=rv2.get (i:=0) (x:=y) rfl
 rw [hu] at hu2
 cases hu2
 obtain ⟨oI',hoI',hoc,hod⟩:=id hst'.1
 have gS':h'.get? S=some (seqObj "list" #[] 0):=hk' S _ (fun z=>hIS (List.mem_singleton.mp z).symm) gS
 have fp2:∀p∈X.pn++((I,oI')::pins),p.1≠S:=fun p hp=>(List.mem_append.mp hp).elim (fun z=>fS.2.2.2.2.2 p (mem_append_left _ z)) fun z=>(List.mem_cons.mp z).elim (fun z=>by rw [z];exact hIS) fun z=>fS.2.2.2.2.2 p (mem_append_right _ z)
 have J3:Inv X ((S,seqObj "list" #[] 0)::(I,oI')::pins) σ H {s with heap:=h',toks:=tk'}:=
  ((J2.turned (t':=tk') (fun b o hb e=>hk' b o (fun z=>hb (List.mem_singleton.mp z)) e) fI.1 fI.2.1 fI.2.2.2.1 fI.2.2.2.2.1 fI.2.2.2.2.2).pinIt hoI' fI (fun v z=>by rw [hod] at z;cases z)).pinIt gS' ⟨fS.1,fS.2.1,fS.2.2.1,fS.2.2.2.1,fS.2.2.2.2.1,fp2⟩ (fun v z=>by cases z)
 show wpAny _ X.A.in1 (tryCatch (holding [u] (call (.ref f) [u])) _ >>= _) _ _ _
 refine wpAny_bind (wpAny_tryCatch (wpAny_holding (wpAny_mono (hK [(S,seqObj "list" #[] 0),(I,oI')] H _ y u _ J3 hf ry q) (fun u' s2 he=>?_) fun _ _ z=>z.elim)))
 obtain ⟨v,H2,J4,hf2,ru,k,rfl,hq2,q2⟩:=he
 obtain ⟨t2,rfl⟩:=ru
 have J4:Inv X ((S,seqObj "list" #[] 0)::(I,oI')::pins) σ H2 s2:=J4
 obtain ⟨pS3,pS4,_⟩:=J4.pin (S,seqObj "list" #[] 0) (mem_append_right _ (.head _))
 have pI3:=(J4.pin (I,oI') (mem_append_right _ (.tail _ (.head _)))).1
 have s1:=Heap.SameBut.update s2.heap S (Obj.mapSeq fun _=>#[u,.int k t2])
 obtain ⟨c2,hc2⟩:∃c2,(s2.heap.update S (Obj.mapSeq fun _=>#[u,.int k t2])).get? S=some (seqObj "list" #[u,.int k t2] c2):=⟨_,get?_update_seq pS3 fun _=>#[u,.int k t2]⟩
 have J5:Inv X ((S,seqObj "list" #[u,.int k t2] c2)::(I,oI')::pins) σ H2 {s2 with heap:=s2.heap.update S (Obj.mapSeq fun _=>#[u,.int k t2])}:=
  (J4.unpin.turned (t':=s2.toks) (fun b o hb e=>(s1.2 b hb).trans e) pS4 fS.2.1 fS.2.2.2.1 fS.2.2.2.2.1 fp2).pinIt hc2 ⟨pS4,fS.2.1,fS.2.2.1,fS.2.2.2.1,fS.2.2.2.2.1,fp2⟩ (fun v z=>by cases z)
 show wpAny _ X.A.in1 (updateSeq S (fun _=>#[u,.int k t2]) >>= _) _ _ _
 refine wpAny_bind (wpAny_updateSeq pS3 rfl ?_)
 rw [show (toString "min"++toString ".loop":String)="min.loop" by decide]
 refine wpAny_pure ⟨plainId_quiet PySem.F.plain_min_loop _,Xaz (xs:=y::r) (Q:=Q) (R:=fun r s'=>match r with | .ok (.ret v)=>EP X pins σ Q v s' | .ok _=>False | .error e=>X.xe e s') hc hK fI.2 fS.2 hIS (fun x u H s J ru q=>⟨x,H,J,ru,q⟩) r 0 H2 _ u k t2 c2 oI' 0 y [k] rfl hne rfl ⟨Nat.zero_lt_one,fun m hm=>?_,fun m hm=>absurd hm (Nat.not_lt_zero _)⟩ rfl rfl ry J5 hf2 hq2 haI ⟨oI',(s1.2 I hIS).trans pI3,hoc,hod⟩ q2⟩
 have e:m=0:=by
  have:m<1:=hm
  omega
 rw [e]
 exact decide_eq_false (by omega)
theorem Xig {LP:Hp→Prop}(hc:X.calm=true)(hK:Znj X pins σ f LP tb X.A.in1)(J:Inv X pins σ H s)(hf:LP H)(hq:SqL X.K H a xs)(hne:0<xs.length)
  (q:Zky X.K a xs tb xs H fun ks H'=>∀i x,xs[i]?=some x→Ji (fun m n=>decide (m > n)) ks i→Q x H') :
  wpAny (model X.prog X.w) X.A (call (.builtin "max") [.ref a] [(Str.ofString "key",.ref f)]) (EP X pins σ Q) X.xe s:=by
 obtain ⟨its,rv,pl,hz⟩:=J.list hq
 have hlen:=rv.length
 obtain ⟨ol,hol,_⟩:=id pl.isList
 have hll:a<s.heap.objs.size:=lt_size hol
 obtain ⟨I,eI⟩:∃I,I=s.heap.objs.size:=⟨_,rfl⟩
 obtain ⟨h1,e1⟩:∃h1,h1=s.heap.push {cls:=.type "list_iterator",data:=.fields #[.ref a,.int 0 0]}:=⟨_,rfl⟩
 obtain ⟨S,eS⟩:∃S,S=h1.objs.size:=⟨_,rfl⟩
 obtain ⟨h2,e2⟩:∃h2,h2=h1.push (seqObj "list" #[] 0):=⟨_,rfl⟩
 have z1:h1.objs.size=s.heap.objs.size+1:=by rw [e1];exact size_push' ..
 have k1:∀b o,s.heap.get? b=some o→h1.get? b=some o:=fun b o e=>by rw [e1];exact get?_push_of_some _ e
 have k2:∀b o,h1.get? b=some o→h2.get? b=some o:=fun b o e=>by rw [e2];exact get?_push_of_some _ e
 have gI:h2.get? I=some {cls:=.type "list_iterator",data:=.fields #[.ref a,.int 0 0]}:=k2 _ _ (by rw [e1,eI];exact get?_push_size _ rfl)
 have gS:h2.get? S=some (seqObj "list" #[] 0):=by rw [e2,eS];exact get?_push_size _ rfl
 have fI:Zin X pins H I:=J.fpOk (by rw [eI];exact le_refl _) (J.hok.fresh (by rw [eI];exact le_refl _))
 have fS:Zin X pins H S:=J.fpOk (by rw [eS,z1];exact le_succ _) (J.hok.fresh (by rw [eS,z1];exact le_succ _))
 have hIS:I≠S:=by rw [eS,z1,eI];exact ne_of_lt (lt_succ_self _)
 have haI:a≠I:=by rw [eI];exact ne_of_lt hll
 have J2:Inv X pins σ H {s with heap:=h2}:=J.kept (t':=s.toks) fun b o e=>k2 _ _ (k1 _ _ e)
 refine kmk_tree PySem.F.kind_max PySem.F.plain_max PySem.F.entry_max (kmk_max_key _ _) ?_
 show wpAny _ X.A.in1 (Builtin.Builtins.bindParams "max" ["key","default"] 0 ⟨[],[(Str.ofString "key",.ref f)]⟩ >>= _) _ _ s
 refine wpAny_bind (wpAny_of_eq (show Builtin.Builtins.bindParams "max" ["key","default"] 0 ⟨[],[(Str.ofString "key",.ref f)]⟩=pure [some (.ref f),none] from rfl) (wpAny_bind (wpAny_pure (wpAny_bind (wpAny_pyIter_list pl.isList (wpAny_bind (wpAny_newList ?_ (zero_le _))))))))
 rw [show (toString "max"++toString ".loop":String)="max.loop" by decide]
 rw [← e1,← eS,← eI]
 show wpAny _ X.A.in1 (again _) _ _ {s with heap:=h1.push (seqObj "list" #[] 0)}
 rw [← e2]
 refine wpAny_pure ⟨plainId_quiet PySem.F.plain_max_loop _,codeAny_builtin PySem.F.entry_max_loop ?_⟩
 rw [Around.under_plainId PySem.F.plain_max_loop _]
 show wpAny _ X.A.in1 (seqItems? (.ref S) >>= _) _ _ _
 obtain ⟨y,r,rfl⟩:∃y r,xs=y::r:=by
  cases xs with
  | nil=>simp at hne
  | cons y r=>exact ⟨y,r,rfl⟩
 obtain ⟨its2,rv2,pl2,hz2⟩:=J2.list hq
 have hlen2:=rv2.length
 refine wpAny_bind (wpAny_seqItems gS rfl (show wpAny _ X.A.in1 (tryCatch (pyNext (.ref I)) _ >>= _) _ _ _ from wpAny_bind (wpAny_tryCatch ((Walks.list (prog:=X.prog) (w:=X.w) (A:=X.A.in1) (J.ok.hd hc) I a haI its2.toArray).item 0 _ _ _ (by rw [size_toArray,← hlen2];exact hne) ⟨⟨_,gI,rfl,rfl⟩,pl2.isList⟩ fun u h' tk' hP hst' hk'=>?_))))
 have hu:its2[0]?=some u:=by simpa using hP
 obtain ⟨u2,hu2,ry⟩:=rv2.get (i:=0) (x:=y) rfl
 rw [hu] at hu2
 cases hu2
 obtain ⟨oI',hoI',hoc,hod⟩:=id hst'.1
 have gS':h'.get? S=some (seqObj "list" #[] 0):=hk' S _ (fun z=>hIS (List.mem_singleton.mp z).symm) gS
 have fp2:∀p∈X.pn++((I,oI')::pins),p.1≠S:=fun p hp=>(List.mem_append.mp hp).elim (fun z=>fS.2.2.2.2.2 p (mem_append_left _ z)) fun z=>(List.mem_cons.mp z).elim (fun z=>by rw [z];exact hIS) fun z=>fS.2.2.2.2.2 p (mem_append_right _ z)
 have J3:Inv X ((S,seqObj "list" #[] 0)::(I,oI')::pins) σ H {s with heap:=h',toks:=tk'}:=
  ((J2.turned (t':=tk') (fun b o hb e=>hk' b o (fun z=>hb (List.mem_singleton.mp z)) e) fI.1 fI.2.1 fI.2.2.2.1 fI.2.2.2.2.1 fI.2.2.2.2.2).pinIt hoI' fI (fun v z=>by rw [hod] at z;cases z)).pinIt gS' ⟨fS.1,fS.2.1,fS.2.2.1,fS.2.2.2.1,fS.2.2.2.2.1,fp2⟩ (fun v z=>by cases z)
 show wpAny _ X.A.in1 (tryCatch (holding [u] (call (.ref f) [u])) _ >>= _) _ _ _
 refine wpAny_bind (wpAny_tryCatch (wpAny_holding (wpAny_mono (hK [(S,seqObj "list" #[] 0),(I,oI')] H _ y u _ J3 hf ry q) (fun u' s2 he=>?_) fun _ _ z=>z.elim)))
 obtain ⟨v,H2,J4,hf2,ru,k,rfl,hq2,q2⟩:=he
 obtain ⟨t2,rfl⟩:=ru
 have J4:Inv X ((S,seqObj "list" #[] 0)::(I,oI')::pins) σ H2 s2:=J4
 obtain ⟨pS3,pS4,_⟩:=J4.pin (S,seqObj "list" #[] 0) (mem_append_right _ (.head _))
 have pI3:=(J4.pin (I,oI') (mem_append_right _ (.tail _ (.head _)))).1
 have s1:=Heap.SameBut.update s2.heap S (Obj.mapSeq fun _=>#[u,.int k t2])
 obtain ⟨c2,hc2⟩:∃c2,(s2.heap.update S (Obj.mapSeq fun _=>#[u,.int k t2])).get? S=some (seqObj "list" #[u,.int k t2] c2):=⟨_,get?_update_seq pS3 fun _=>#[u,.int k t2]⟩
 have J5:Inv X ((S,seqObj "list" #[u,.int k t2] c2)::(I,oI')::pins) σ H2 {s2 with heap:=s2.heap.update S (Obj.mapSeq fun _=>#[u,.int k t2])}:=
  (J4.unpin.turned (t':=s2.toks) (fun b o hb e=>(s1.2 b hb).trans e) pS4 fS.2.1 fS.2.2.2.1 fS.2.2.2.2.1 fp2).pinIt hc2 ⟨pS4,fS.2.1,fS.2.2.1,fS.2.2.2.1,fS.2.2.2.2.1,fp2⟩ (fun v z=>by cases z)
 show wpAny _ X.A.in1 (updateSeq S (fun _=>#[u,.int k t2]) >>= _) _ _ _
 refine wpAny_bind (wpAny_updateSeq pS3 rfl ?_)
 rw [show (toString "max"++toString ".loop":String)="max.loop" by decide]
 refine wpAny_pure ⟨plainId_quiet PySem.F.plain_max_loop _,Zyr (xs:=y::r) (Q:=Q) (R:=fun r s'=>match r with | .ok (.ret v)=>EP X pins σ Q v s' | .ok _=>False | .error e=>X.xe e s') hc hK fI.2 fS.2 hIS (fun x u H s J ru q=>⟨x,H,J,ru,q⟩) r 0 H2 _ u k t2 c2 oI' 0 y [k] rfl hne rfl ⟨Nat.zero_lt_one,fun m hm=>?_,fun m hm=>absurd hm (Nat.not_lt_zero _)⟩ rfl rfl ry J5 hf2 hq2 haI ⟨oI',(s1.2 I hIS).trans pI3,hoc,hod⟩ q2⟩
 have e:m=0:=by
  have:m<1:=hm
  omega
 rw [e]
 exact decide_eq_false (by omega)
end
def Xov (K:Frag)(lt:Int→Int→Bool)(js:List Nat)(tb:TE)(σ:St)(vs:List V)(H1:Hp)(Q:VK):Prop:=∃a xs ws,vs=[.ref a]∧SqL K H1 a xs∧0<xs.length∧js.map (fun j=>σ[j]?)=ws.map (fun v=>some (some v))∧
 ∀H2,(∀b o,H1 b=some o→H2 b=some o)→Zky K a xs (fun x H Q=>tb ((x::ws).map some) H Q) xs H2 fun ks H3=>∀i x,xs[i]?=some x→Ji lt ks i→Q x H3
def Zlx (K:Frag)(lt:Int→Int→Bool)(te:TE)(js:List Nat)(tb:TE):TE:=fun σ H Q=>Zcw te Zpm σ H fun vs H1=>Xov K lt js tb σ vs H1 Q
structure Znr (X:Cx)(N:List Str)(p qual:Str)(params:Arguments)(body:Expr)(sc:Scope)(cl:List (Str×Addr))(js:List Nat)(P c:Addr)(lpos:Pos):Prop where
 bm:BMod X.base X.mg
 tab:X.H₀ P=some (.tbl lpos qual)
 code:X.env.code=.ref c
 hd:CodeHd X.base c P
 clo:closureFor sc X.env=pure cl
 qu:X.env.qual++"<lambda>"=qual
 df:defaultsOf params X.env=([],[])
 lsc:Xfz X N p sc cl
 jsx:∀(i:Nat) (x:Str),N.tail[i]?=some x→∃j:Nat,js[i]?=some j∧X.N[j]?=some x∧Vis X.env.scope x∧X.env.kindOf x≠some .local
 len:js.length+1=N.length
 bind:∀(u pm ctv:Value) (c:Addr),bindArgs (kla_fn "<lambda>" qual params body sc cl pm (.ref c) ctv) ⟨[u],[]⟩=pure [(p,u)]
 dep:X.A.in1.depth<recursionLimit
 calm:X.calm=true
theorem SqL.sub {K:Frag}{H H':Hp}{a:Addr}{xs:List V}(h:SqL K H a xs)(s:∀b o,H b=some o→H' b=some o):SqL K H' a xs:=by
 rcases h with (h | ⟨o,h⟩) | h
 ·exact .inl (.inl (s _ _ h))
 ·exact .inl (.inr ⟨o,s _ _ h⟩)
 ·exact .inr h
section
variable {X:Cx}{pins:List (Addr×Obj)}{σ:St}{H:Hp}{s:Shared}{N:List Str}{p qual:Str}{params:Arguments}{body:Expr}{sc:Scope}{cl:List (Str×Addr)}{js:List Nat}{P c:Addr}{lpos:Pos}
theorem Xfl {L:Znr X N p qual params body sc cl js P c lpos}{vs:List V}(e:js.map (fun j=>σ[j]?)=vs.map (fun v=>some (some v))):Xgj X σ N.tail vs:=fun i x v h1 h2=>by
 obtain ⟨j,j1,j2,j3,j4⟩:=L.jsx i x h1
 refine ⟨j,j2,?_,j3,j4⟩
 have:=congrArg (fun l=>l[i]?) e
 simp only [getElem?_map,j1,h2,Option.map_some] at this
 exact Option.some.inj this
theorem Zut {vs:List V}{f:Addr}{tb:TE}(L:Znr X N p qual params body sc cl js P c lpos)(e:js.map (fun j=>σ[j]?)=vs.map (fun v=>some (some v)))(hb:∀f c s H,PE (cxL X X.A.in1 N qual sc f (.ref c) cl s H) body tb) :
  Znj X pins σ f (fun H=>Zus H f qual params body sc cl) (fun x H Q=>tb ((x::vs).map some) H Q) X.A.in1:=fun own H s x u Q I lam rx q=>by
 obtain ⟨c',pm,ctv,oc,ws,t,e1,e2,e3,e4⟩:=lam
 obtain ⟨g1,_⟩:=(show Zck X.prog X.w H s.heap f (.frz _ (.own 0)) from I.hok f _ e1)
 obtain ⟨g2,_⟩:=(show Zck X.prog X.w H s.heap c' (.frz _ (.own 0)) from I.hok c' _ e2)
 have hl:vs.length+1=N.length:=by
  have:=congrArg List.length e
  rw [length_map,length_map] at this
  rw [← this]
  exact L.len
 refine wpAny_call (codeAny_mono (Xgq I L.lsc I.ok.frames (I.ok.hd L.calm) L.dep hl (Xfl (L:=L) e) rx g1 ⟨c',oc,ws,t,rfl,g2,e3,e4⟩ (L.bind u pm ctv c') (hb f c' s H) q) fun r s' hr=>?_)
 cases r with
 | error e=>exact hr.elim
 | ok fl =>
  cases fl with
  | ret u' =>
   obtain ⟨v,H',os,bare,un,hok,r,q⟩:=hr
   obtain ⟨v2,H2,J,r2,q2,l2⟩:=I.after (Q:=fun v H=>Q v H∧Zus H f qual params body sc cl) ⟨v,H',os,bare,un,hok,r,q,c',pm,ctv,oc,ws,t,un.frzs _ _ _ e1,un.frzs _ _ _ e2,e3,e4⟩
   exact ⟨v2,H2,J,l2,r2,q2⟩
  | next=>exact hr.elim
  | brk=>exact hr.elim
  | cont=>exact hr.elim
end
section
variable {X:Cx}{N:List Str}{p qual:Str}{params:Arguments}{body:Expr}{sc:Scope}{cl:List (Str×Addr)}{js:List Nat}{P c:Addr}{lpos np pos kp:Pos}{e:Expr}{te tb:TE}
theorem Xjr (hg:Gl X "min")(hm:X.mg "min"=none)(he:PE X e te)(L:Znr X N p qual params body sc cl js P c lpos)(hb:∀f c s H,PE (cxL X X.A.in1 N qual sc f (.ref c) cl s H) body tb)(hs:starEach [e] X.env=(false,eval e X.env)::starEach [] X.env)(hs3:starEach ([]:List Expr) X.env=[]:=by rfl) :
  PE X (.Call (.Name "min" np) [e] [⟨some "key",.Lambda params body sc lpos,kp⟩] pos) (Zlx X.K (fun m n=>decide (m<n)) te js tb):=by
 intro pins s σ H Q I h
 refine wpAny_Call_Name_kw (Zdw I hg hm boot_min ?_ (by decide) (by decide))
 refine callWith_kw (thn (Zdm he Zio hs pos pins s σ H _ I h) fun us s1 ⟨vs,H1,I1,r1,q1⟩=>?_) (by rw [hs,hs3];rfl) (by rw [hs,hs3];rfl) rfl rfl
 obtain ⟨a,xs,ws,rfl,hq,hne,ew,q⟩:=q1
 obtain ⟨u,rfl,rx⟩:=vals1 r1
 cases rx
 refine kws_cons (Zqu I1 L.bm (I1.base.tbls P lpos qual L.tab) L.code L.hd L.clo L.qu L.df fun f H' s' J sub lam=>kws_nil ?_)
 exact Xfq L.calm (Zut L ew hb) J lam (hq.sub sub) hne (q H' sub)
theorem Xfr (hg:Gl X "max")(hm:X.mg "max"=none)(he:PE X e te)(L:Znr X N p qual params body sc cl js P c lpos)(hb:∀f c s H,PE (cxL X X.A.in1 N qual sc f (.ref c) cl s H) body tb)(hs:starEach [e] X.env=(false,eval e X.env)::starEach [] X.env)(hs3:starEach ([]:List Expr) X.env=[]:=by rfl) :
  PE X (.Call (.Name "max" np) [e] [⟨some "key",.Lambda params body sc lpos,kp⟩] pos) (Zlx X.K (fun m n=>decide (m > n)) te js tb):=by
 intro pins s σ H Q I h
 refine wpAny_Call_Name_kw (Zdw I hg hm boot_max ?_ (by decide) (by decide))
 refine callWith_kw (thn (Zdm he Zio hs pos pins s σ H _ I h) fun us s1 ⟨vs,H1,I1,r1,q1⟩=>?_) (by rw [hs,hs3];rfl) (by rw [hs,hs3];rfl) rfl rfl
 obtain ⟨a,xs,ws,rfl,hq,hne,ew,q⟩:=q1
 obtain ⟨u,rfl,rx⟩:=vals1 r1
 cases rx
 refine kws_cons (Zqu I1 L.bm (I1.base.tbls P lpos qual L.tab) L.code L.hd L.clo L.qu L.df fun f H' s' J sub lam=>kws_nil ?_)
 exact Xig L.calm (Zut L ew hb) J lam (hq.sub sub) hne (q H' sub)
end
end L2
namespace L2
open PySem PySem.Spec PyProof.Rows
open Dl (D R FE FT FA FO FS FI FB Fl)
theorem Xce {lt:Int→Int→Bool}{ks:List Int}{i:Nat}(h:Dl.Zic lt ks i=true)(hi:i<ks.length):Ji lt ks i:=by
 unfold Dl.Zic at h
 rw [Bool.and_eq_true,all_eq_true,all_eq_true] at h
 refine ⟨hi,fun j hj=>?_,fun j hj=>h.2 j (List.mem_range.mpr hj)⟩
 have:=h.1 j (List.mem_range.mpr hj)
 rw [Bool.not_eq_true'] at this
 exact this
theorem Zwl {lt:Int→Int→Bool}{ks:List Int}{i j:Nat}(h:Ji lt ks i)(g:Ji lt ks j):i=j:=by
 rcases Nat.lt_trichotomy i j with z | z | z
 ·have:=g.2.2 i z
  rw [h.2.1 j g.1] at this
  cases this
 ·exact z
 ·have:=h.2.2 j z
  rw [g.2.1 i h.1] at this
  cases this
section
variable {K:Frag}{C:String→Addr}{E:XK}{Γ Δ Γ' Δ':List Nat}{m m1 m2 mb:Nat}{S Sb:List (Nat×Bool)}{H:Hp}
theorem Zwn {H0 Hb H:Hp}{σ:St}{ρ:Yp}{A:Nat→List Addr}(I:Xb K C H0 Hb H Γ Δ σ ρ A):∀{js:List Nat} {fs:List D},Dl.Zgv js ρ=.ok fs→∃ws B,js.map (fun j=>σ[j]?)=ws.map (fun v=>some (some v))∧RpA K C H fs ws B
 | [],fs,e=>by
  cases e
  exact ⟨[],[],rfl,rfl,rfl⟩
 | j::r,fs,e=>by
  have e:(Dl.fV j ρ).bind (fun x=>(Dl.Zgv r ρ).bind fun xs=>.ok (x::xs))=.ok fs:=e
  cases h1:Dl.fV j ρ with
  | bad=>rw [h1] at e;cases e
  | err c x=>rw [h1] at e;cases e
  | ok d =>
   rw [h1] at e
   cases h2:Dl.Zgv r ρ with
   | bad =>
    have e:(Dl.Zgv r ρ).bind (fun xs=>R.ok (d::xs))=.ok fs:=e
    rw [h2] at e
    cases e
   | err c x =>
    have e:(Dl.Zgv r ρ).bind (fun xs=>R.ok (d::xs))=.ok fs:=e
    rw [h2] at e
    cases e
   | ok xs =>
    have e:(Dl.Zgv r ρ).bind (fun xs=>R.ok (d::xs))=.ok fs:=e
    rw [h2] at e
    cases e
    obtain ⟨ws,B,e1,e2⟩:=Zwn I h2
    have hd:ρ[j]?=some (some d):=by
     unfold Dl.fV at h1
     split at h1
     ·rename_i d' hd
      cases h1
      exact hd
     ·cases h1
    obtain ⟨v,s1,s2⟩:=I.rep j d hd
    exact ⟨v::ws,A j++B,by rw [map_cons,map_cons,s1,e1],v,ws,A j,B,rfl,s2,e2,rfl⟩
theorem Zto {a:Addr}{XS:List V}{tb:TE}{fb:FE}{fs:List D}{ws:List V}{H1:Hp}(hb:EOk K C E0 [] [] mb Sb tb fb)(ha:SqL K H1 a XS):∀{ds:List D} {xs:List V} {B Bf:List Addr} {H2:Hp} {ks:List Int} {Q:List Int→Hp→Prop},Xw H1 H2→RpA K C H2 ds xs B→RpA K C H2 fs ws Bf→Dl.Zdt fb (fs.map some) ds=.ok ks→(∀H3,Xw H2 H3→Q ks H3)→
  Zky K a XS (fun x H Q=>tb ((x::ws).map some) H Q) xs H2 Q
 | [],xs,B,Bf,H2,ks,Q,g,r,rf,e,q=>by
  cases e
  rw [r.1]
  exact q H2 (Xw.refl _)
 | d::ds,xs,B,Bf,H2,ks,Q,g,r,rf,e,q=>by
  obtain ⟨x,l,B1,B2,rfl,r1,r2,_⟩:=r
  have e:(fb (some d::fs.map some)).calm.bind (fun k=>match k with | .int k=>(Dl.Zdt fb (fs.map some) ds).bind fun ks=>.ok (k::ks) | _=>.bad)=.ok ks:=e
  obtain ⟨A,I⟩:=Zlq (N:=0) (K:=K) (C:=C) (ds:=d::fs) (vs:=x::ws) (B:=B1++Bf) (H:=H2) ⟨x,ws,B1,Bf,rfl,r1,rf,rfl⟩
  have hl:(ws.length:Nat)=fs.length:=rf.len
  have I':Xb K C H2 H2 H2 [] [] ((x::ws).map some) ((d::fs).map some) A:=by
   simpa [hl] using I
  show tb ((x::ws).map some) H2 _
  refine hb H2 H2 H2 _ _ A _ I' ?_
  show Yd (fb (some d::fs.map some)) _ _
  cases h1:fb (some d::fs.map some) with
  | bad=>rw [h1] at e;cases e
  | err c x=>rw [h1] at e;cases e
  | ok k =>
   rw [h1] at e
   intro v H' g' rs
   obtain ⟨Bv,rv,_⟩:=rs
   cases k with
   | int k =>
    have e:(Dl.Zdt fb (fs.map some) ds).bind (fun ks=>R.ok (k::ks))=.ok ks:=e
    cases h2:Dl.Zdt fb (fs.map some) ds with
    | bad=>rw [h2] at e;cases e
    | err c x=>rw [h2] at e;cases e
    | ok ks2 =>
     rw [h2] at e
     cases e
     refine ⟨k,rv.1,ha.sub (fun b o z=>g' _ _ (g _ _ z)),Zto hb ha (g.trans g') (r2.same g') (rf.same g') h2 fun H3 g3=>q H3 (g'.trans g3)⟩
   | _=>cases e
theorem Zyl {lt:Int→Int→Bool}{fe fb:FE}{js:List Nat}{ρ:Yp}{ok:D→Prop}{er:String→Option Int→Prop}(p:Yd (Dl.Zge lt fe js fb ρ) ok er):Yd (fe ρ) (fun d=>∃ds fs ks i z,d=.lst ds∧0<ds.length∧Dl.Zgv js ρ=.ok fs∧Dl.Zdt fb (fs.map some) ds=.ok ks∧Ji lt ks i∧ds[i]?=some z∧ok z) er:=by
 refine Yd.imp (Yd.bind p) (fun d q=>?_) fun c x q=>q
 cases d with
 | lst ds =>
  have q:Yd (if ds.isEmpty then R.bad else (Dl.Zgv js ρ).calm.bind fun fs=>(Dl.Zdt fb (fs.map some) ds).bind (Dl.Zoc lt ds)) ok er:=q
  split at q
  ·exact q.elim
  ·rename_i hne
   cases h1:Dl.Zgv js ρ with
   | bad=>rw [h1] at q;exact q.elim
   | err c x=>rw [h1] at q;exact q.elim
   | ok fs =>
    rw [h1] at q
    have q:Yd ((Dl.Zdt fb (fs.map some) ds).bind (Dl.Zoc lt ds)) ok er:=q
    cases h2:Dl.Zdt fb (fs.map some) ds with
    | bad=>rw [h2] at q;exact q.elim
    | err c x =>
     exfalso
     have:∀(l:List D) c x,Dl.Zdt fb (fs.map some) l≠.err c x:=fun l=>by
      induction l with
      | nil=>intro c x z;cases z
      | cons y l ih =>
       intro c x z
       have z:(fb (some y::fs.map some)).calm.bind (fun k=>match k with | .int k=>(Dl.Zdt fb (fs.map some) l).bind fun ks=>.ok (k::ks) | _=>.bad)=.err c x:=z
       cases h3:fb (some y::fs.map some) with
       | bad=>rw [h3] at z;cases z
       | err c x=>rw [h3] at z;cases z
       | ok k =>
        rw [h3] at z
        cases k with
        | int k =>
         have z:(Dl.Zdt fb (fs.map some) l).bind (fun ks=>R.ok (k::ks))=.err c x:=z
         cases h4:Dl.Zdt fb (fs.map some) l with
         | bad=>rw [h4] at z;cases z
         | err c' x'=>exact ih c' x' h4
         | ok ks=>rw [h4] at z;cases z
        | _=>cases z
     exact this ds c x h2
    | ok ks =>
     rw [h2] at q
     have q:Yd (Dl.Zoc lt ds ks) ok er:=q
     unfold Dl.Zoc at q
     split at q
     ·rename_i i hi
      obtain ⟨z,e,q⟩:=Zet q
      have hm:=List.mem_of_find?_eq_some hi
      exact ⟨ds,fs,ks,i,z,rfl,by cases ds with | nil=>simp at hne | cons _ _=>exact Nat.succ_pos _,rfl,h2,Xce (List.find?_some hi) (List.mem_range.mp hm),e,q⟩
     ·exact q.elim
 | _=>exact q.elim
theorem Zlz {lt:Int→Int→Bool}{te tb:TE}{fe fb:FE}{js:List Nat}(he:EOk K C E Γ Δ m S te fe)(hb:EOk K C E0 [] [] mb Sb tb fb):EOk K C E Γ Δ 0 S (Zlx K lt te js tb) (Dl.Zge lt fe js fb):=fun H0 Hb H σ ρ A Q I p =>
  he H0 Hb H σ ρ A _ I (Yd.imp (Zyl p) (fun d q v H1 g1 r=>by
    obtain ⟨ds,fs,ks,i,z,rfl,hne,h1,h2,h3,h4,q⟩:=q
    obtain ⟨B,r,r',_⟩:=r
    obtain ⟨a,xs,B',rfl,e2,e3,e4⟩:=r
    obtain ⟨ws,Bf,w1,w2⟩:=Zwn (I.mono g1) h1
    show Xov K lt js tb σ [.ref a] H1 Q
    refine ⟨a,xs,ws,rfl,SqL.of e2,by rw [e3.len];exact hne,w1,fun H2 sub=>Zto hb (SqL.of e2) sub (e3.same sub) (w2.same sub) h2 fun H3 g3 j x hx hj=>?_⟩
    have:=Zwl h3 hj
    subst this
    obtain ⟨v,Bz,z1,z2,z3⟩:=e3.get h4
    rw [hx] at z1
    cases z1
    have gg:Xw H1 H3:=Xw.trans sub g3
    exact q x H3 (g1.trans gg) ⟨Bz,z2.same gg,fun b hb=>r' b (by rw [e4];exact .tail _ (z3 b hb)),(fun z=>nomatch z),(fun z=>nomatch z)⟩) fun c x q H' g'=>q H' g')
end
section
variable {X:Cx}{C:String→Addr}{E:XK}{Γ Δ Γ' Δ' Γl Δl:List Nat}{m mb mr:Nat}{S Sb:List (Nat×Bool)}{N:List Str}{p qual:Str}{params:Arguments}{body:Expr}{sc:Scope}{cl:List (Str×Addr)}{js:List Nat}{P c:Addr}{lpos np pos kp p2:Pos}{e:Expr}{te tb:TE}{fe fb:FE}{x y:Str}{i j:Nat}
theorem Xfw (hg:Gl X "min")(hm:X.mg "min"=none)(he:JE X C E Γ Δ m S e te fe)(L:Znr X N p qual params body sc cl js P c lpos)(hb:∀f c s H,JE (cxL X X.A.in1 N qual sc f (.ref c) cl s H) C E0 [] [] mb Sb body tb fb)(hs:starEach [e] X.env=(false,eval e X.env)::starEach [] X.env) :
  JE X C E Γ Δ 0 S (.Call (.Name "min" np) [e] [⟨some "key",.Lambda params body sc lpos,kp⟩] pos) (Zlx X.K (fun m n=>decide (m<n)) te js tb) (Dl.Zge (fun m n=>decide (m<n)) fe js fb):=
 ⟨⟨Xjr hg hm he.q.out L (fun f c s H=>(hb f c s H).q.out) hs⟩,Zlz he.o (hb 0 0 X.s₀ X.H₀).o⟩
theorem Xgd (hg:Gl X "max")(hm:X.mg "max"=none)(he:JE X C E Γ Δ m S e te fe)(L:Znr X N p qual params body sc cl js P c lpos)(hb:∀f c s H,JE (cxL X X.A.in1 N qual sc f (.ref c) cl s H) C E0 [] [] mb Sb body tb fb)(hs:starEach [e] X.env=(false,eval e X.env)::starEach [] X.env) :
  JE X C E Γ Δ 0 S (.Call (.Name "max" np) [e] [⟨some "key",.Lambda params body sc lpos,kp⟩] pos) (Zlx X.K (fun m n=>decide (m > n)) te js tb) (Dl.Zge (fun m n=>decide (m > n)) fe js fb):=
 ⟨⟨Xfr hg hm he.q.out L (fun f c s H=>(hb f c s H).q.out) hs⟩,Zlz he.o (hb 0 0 X.s₀ X.H₀).o⟩
end
section
variable {K:Frag}{C:String→Addr}{E:XK}{Γ Δ Γ' Δ' Γl Δl:List Nat}{m mr:Nat}{S:List (Nat×Bool)}{H:Hp}
end
section
variable {X:Cx}{C:String→Addr}{E:XK}{Γ Δ Γ' Δ' Γl Δl:List Nat}{m mr:Nat}{e:Expr}{te:TE}{fe:FE}{pos pos':Pos}{x:Str}{i j:Nat}
end
def Zea (ts:List (Addr×Pos×Str))(H:Hp):Prop:=∀t∈ts,H t.1=some (.tbl t.2.1 t.2.2)
noncomputable def spL (ts:List (Addr×Pos×Str))(sp:Sp):Sp:=fun vs H Q E=>Zea ts H∧sp vs H Q E
structure Zys (K:Frag)(x qual:Str)(st:Stmt)(f:Addr)(fd:FuncData)(c:Addr):Prop where
 ex:∃(oc:Value) (od:Option Addr) (kV doc pm:Value) (an:Option Addr) (ct:Value) (osl:Array (Option Value)),
  fd=fnOf x qual (Zgc st) (Zbl st) (Zj st) .none kV doc pm an (.ref c) ct∧K.lookup f=some ⟨oc,od,.func fd,osl⟩∧codeIn K (.ref c) qual=true
 kp:keepIn K (.ref f)=true
theorem Zys.one {K:Frag}{x qual:Str}{st:Stmt}{f:Addr}{fd:FuncData}{c:Addr}(F:Zys K x qual st f fd c):Fun K x qual st f fd:=by
 obtain ⟨oc,od,kV,doc,pm,an,ct,osl,h1,h2,h3⟩:=F.ex
 exact ⟨⟨oc,od,kV,doc,pm,an,.ref c,ct,osl,h1,h2,h3⟩,F.kp⟩
section
variable {P:Program}{w:World}{K:Frag}{C:String→Addr}{mg:Str→Option Value}{base:Heap}{x qual:Str}{st:Stmt}{f c:Addr}{fd:FuncData}{N ps:List Str}{k n mr:Nat}{Γ' Δ':List Nat}{g:FS}{ts:List (Addr×Pos×Str)}
theorem Fun.okL (F:Fun K x qual st f fd)(S:Xa N ps (Zj st))(hn:ps.length=n)
    (hbody:∀(cdv:Value) (A:Around) (outer:List Env) (s:Shared) (H:Hp) (E:XK),Zdr k (A.deeper (envOfC qual (Zj st) s.heap.objs.size f cdv))→Zea ts H→
      ∃t,JSs (Zxx CX0 P w K mg base N qual (Zj st) f cdv A outer s H E).nox C E0 mr [] [] [] [] Γ' Δ' (Zbl st) t g):Zam P w K mg base CX0 (k+1) f fd ps (spL ts (spD K C n mr fun ds=>(Dl.run N.length g ds).calm)):=
  F.okQ S (fun vs H Q E h=>by
    obtain ⟨_,ds,B,h1,h2,_⟩:=h
    rw [h2.len,h1,hn]) fun cdv A outer s H vs Q E hr h=>by
    obtain ⟨h0,ds,B,h1,h2,h3⟩:=h
    obtain ⟨t,ht⟩:=hbody cdv A outer s H E hr h0
    exact ⟨t,ht.q,Zkj (K:=K) ht.o h2 (Yd.imp (Zcl h3) (fun _ q=>q) fun _ _ z=>z.elim)⟩
theorem Zys.okL (F:Zys K x qual st f fd c)(S:Xa N ps (Zj st))(hn:ps.length=n)
    (hbody:∀(A:Around) (outer:List Env) (s:Shared) (H:Hp) (E:XK),Zdr k (A.deeper (envOfC qual (Zj st) s.heap.objs.size f (.ref c)))→Zea ts H→
      ∃t,JSs (Zxx CX0 P w K mg base N qual (Zj st) f (.ref c) A outer s H E).nox C E0 mr [] [] [] [] Γ' Δ' (Zbl st) t g):Zam P w K mg base CX0 (k+1) f fd ps (spL ts (spD K C n mr fun ds=>(Dl.run N.length g ds).calm)):=by
  obtain ⟨oc,od,kV,doc,pm,an,ct,osl,rfl,lk,hcd⟩:=F.ex
  refine Xko lk hcd S (fun vs H Q E h=>by
    obtain ⟨_,ds,B,h1,h2,_⟩:=h
    rw [h2.len,h1,hn]) fun A outer s H vs Q E hr h=>?_
  obtain ⟨h0,ds,B,h1,h2,h3⟩:=h
  obtain ⟨t,ht⟩:=hbody A outer s H E hr h0
  exact ⟨t,ht.q.out.nox,Zkj (K:=K) ht.o h2 (Yd.imp (Zcl h3) (fun _ q=>q) fun _ _ z=>z.elim)⟩
end
section
variable {X:Cx}{C:String→Addr}{E:XK}{Γ Δ:List Nat}{m n mr k:Nat}{S:List (Nat×Bool)}{x:Str}{p pos:Pos}{e:Expr}{es:List Expr}{t:TA}{ts:List (Addr×Pos×Str)}
theorem Yo {K:Frag}{ps:List Str}{F:List D→R D}{f:FA}(Df:Def X.prog X.w X.K X.mg X.base CX0 k x ps (spL ts (spD K C n mr F)))(hr:Zdr k X.A)(hg:Gl X x)(hx:Zho CX0 X E)(hL:Zea ts X.H₀)
  (ha:JA X C E Γ Δ m S (e::es) n t f) (hdb:(x==("__debug__":Str))=false:=by decide) (he:starEach (e::es) X.env=(false,eval e X.env)::starEach es X.env:=by rfl) (hpl:(backTo pos (starEach es X.env)).any (·.1)=false:=by rfl) (hK:X.K=K:=by rfl) :
  JE X C E Γ Δ mr [] (.Call (.Name x p) (e::es) [] pos) (Zop (spD K C n mr F) [] E t) (Dl.Zy F f):=by
 subst hK
 refine ⟨⟨fun pins s σ H Q I h=>?_⟩,Zra ha.o ha.n⟩
 have ha':PA X (e::es) fun σ H Q=>∃Q0:List V→Hp→Prop,t σ H Q0∧∀vs H1,Q0 vs H1→Zea ts H1→Q vs H1:=fun pos pins s σ H Q I ⟨Q0,h,hq⟩ =>
  thn (ha.q.out pos pins s σ H Q0 I h) fun us s1 ⟨vs,H1,I1,r,q⟩=>⟨vs,H1,I1,r,hq vs H1 q fun t ht=>I1.base.tbls _ _ _ (hL t ht)⟩
 exact Zqt Df hr hg hx ha' hdb he hpl pins s σ H Q I ⟨_,h,fun vs H1 q l=>⟨l,q⟩⟩
end
end L2
namespace L2
open PySem PySem.Spec PyProof.Rows
noncomputable def Zaw (T:List Addr)(K:Frag):Frag:=K.filter fun p=>!T.contains p.1
theorem Zeq {T:List Addr}{a:Addr}(h:T.contains a=true):∀K:Frag,(Zaw T K).lookup a=none
 | []=>rfl
 | (b,o)::K=>by
  unfold Zaw
  rw [filter_cons]
  split
  ·rename_i hb
   rw [lookup_cons]
   split
   ·rename_i e
    have e:=eq_of_beq e
    subst e
    have hb:(!T.contains a)=true:=hb
    rw [h] at hb
    cases hb
   ·exact Zeq h K
  ·exact Zeq h K
theorem Jl {T:List Addr}{a:Addr}(h:T.contains a=false):∀K:Frag,(Zaw T K).lookup a=K.lookup a
 | []=>rfl
 | (b,o)::K=>by
  unfold Zaw
  rw [filter_cons,lookup_cons]
  split
  ·rw [lookup_cons]
   split
   ·rfl
   ·exact Jl h K
  ·rename_i hb
   have hb:¬(!T.contains b)=true:=hb
   split
   ·rename_i e
    have e:=eq_of_beq e
    subst e
    rw [h] at hb
    exact absurd rfl hb
   ·exact Jl h K
theorem Zqy {T:List Addr}{K:Frag}{h:Heap}(x:K.In h):(Zaw T K).In h:=fun a o e=>by
 cases q:T.contains a with
 | true=>rw [Zeq q] at e;cases e
 | false=>rw [Jl q] at e;exact x a o e
section
variable {T:List Addr}{K:Frag}{a f c:Addr}{n x qual:Str}{v:Option Value}
theorem Zn (e:nsIn K a n=some v)(h:T.contains a=false:=by decide):nsIn (Zaw T K) a n=some v:=by
 unfold nsIn at e ⊢
 rw [Jl h]
 exact e
theorem Zry (e:codeIn K (.ref c) qual=true)(h:T.contains c=false:=by decide):codeIn (Zaw T K) (.ref c) qual=true:=by
 unfold codeIn at e ⊢
 simp only [Jl h]
 exact e
theorem Zqs {P:Addr}(e:codeHdIn K c P=true)(h:T.contains c=false:=by decide):codeHdIn (Zaw T K) c P=true:=by
 unfold codeHdIn at e ⊢
 rw [Jl h]
 exact e
theorem Zsm {oc:Value}{od:Option Addr}{fd:FuncData}{osl:Array (Option Value)}(l:K.lookup f=some ⟨oc,od,.func fd,osl⟩)(h:T.contains f=false:=by decide):keepIn (Zaw T K) (.ref f)=true:=by
 unfold keepIn
 simp only [Jl h,l]
theorem Xh {st:Stmt}{oc:Value}{od an:Option Addr}{osl:Array (Option Value)}{kV doc pm ct:Value}(l:K.lookup f=some ⟨oc,od,.func (fnOf x qual (Zgc st) (Zbl st) (Zj st) .none kV doc pm an (.ref c) ct),osl⟩)
  (cd:codeIn K (.ref c) qual=true) (hf:T.contains f=false:=by decide) (hc:T.contains c=false:=by decide):Zys (Zaw T K) x qual st f (fnOf x qual (Zgc st) (Zbl st) (Zj st) .none kV doc pm an (.ref c) ct) c:=
 ⟨⟨oc,od,kV,doc,pm,an,ct,osl,rfl,by rw [Jl hf];exact l,Zry cd hc⟩,Zsm l hf⟩
theorem Zsp {o:Obj}(l:K.lookup a=some o)(h:T.contains a=false:=by decide):(Zaw T K).lookup a=some o:=by
 rw [Jl h]
 exact l
theorem Xim {base:Heap}{mg:Str→Option Value}{bm:Addr}{ob:Obj}(KX:K.In base)(G:base.Ns mainGlobals mg)(e:nsIn K mainGlobals "__builtins__"=some (some (.ref bm)))(l:K.lookup bm=some ob)(h:bm≠builtinsNs∧ob.cls=.type "module"∧ob.dict=some builtinsNs∧ob.data=.plain):BMod base mg:=
 ⟨bm,_,mg_of KX G e,h.1,KX _ _ l,h.2.1,h.2.2.1,h.2.2.2⟩
end
def Zza (ts:List (Addr×Pos×Str))(H:Hp):Prop:=∀b,H b=none∨(∃o xs,H b=some (.frz o (.lst xs)))∨∃t∈ts,b=t.1∧H b=some (.tbl t.2.1 t.2.2)
theorem Zxl {P:Program}{w:World}{K0:Frag}{ts:List (Addr×Pos×Str)}{mg mb:Str→Option Value}{CX:CXT}{k:Nat}{fa a:Addr}{fd:FuncData}{x:Str}{sp:Sp}{s₁:Shared}{vs:List Value}{ns:List Int}
    (KX:K0.In s₁.heap) (hT:∀t∈ts,K0.lookup t.1=some (tabObj #[])) (hC:∀t∈ts,isCodeTable s₁.heap t.1) (hnd:(ts.map (·.1)).Nodup)
    (hns:s₁.heap.Ns mainGlobals mg) (hb:s₁.heap.Ns builtinsNs mb) (hbb:∀x:Str,x≠"__name__"→mb x=bootBuiltins x) (hlim:s₁.heap.NoLimit) (hg:s₁.gens=#[])
    (ha:s₁.heap.get? a=some {cls:=.type "list",data:=.seq vs.toArray}) (hi:IntsAre vs ns) (hl:ns.length≤sizeLine) (hr:Zdr k callerA)
    (F:∀base:Heap,(Zaw (ts.map (·.1)) K0).In base→base.Ns mainGlobals mg→Zam P w (Zaw (ts.map (·.1)) K0) mg base CX k fa fd [x] sp) (hbind:∀(s:Shared) (u:Value),BindsTo s fd ⟨[u],[]⟩ [(x,u)])
    (hsp:∀H:Hp,Zea ts H→Zza ts H→SqL (Zaw (ts.map (·.1)) K0) H a (ns.map V.int)→sp [.ref a] H (fun v _=>v=.bl true) fun _ _ _=>False)
    (hCX:∀H e s',CX [] H s₁ (fun _ _ _=>False) e s'→False) :
    codeAny (model P w) callerA (.call (.ref fa) ⟨[.ref a],[]⟩) (fun r s'=>r=.ok (.ret (.bool true))∧OldK s₁.heap s'.heap∧s'.os=s₁.os∧AllBare s'.gens) s₁:=by
  have rv:=Zes hi
  have lenV:=hi.length
  have tObj:∀t∈ts,s₁.heap.get? t.1=some (tabObj #[]):=fun t ht=>KX _ _ (hT t ht)
  have aT:∀t∈ts,t.1≠a:=fun t ht z=>by
    have:=tObj t ht
    rw [z,ha] at this
    cases this
  have find:∀b,(∃t∈ts,t.1=b)∨∀t∈ts,t.1≠b:=fun b=>by
    by_cases h:∃t∈ts,t.1=b
    · exact .inl h
    · exact .inr fun t ht e=>h ⟨t,ht,e⟩
  have one:∀{t u:Addr×Pos×Str},t∈ts→u∈ts→t.1=u.1→t=u:=fun {t u} ht hu e=>by
    have:∀(l:List (Addr×Pos×Str)),(l.map (·.1)).Nodup→t∈l→u∈l→t=u:=fun l=>by
      induction l with
      | nil=>intro _ h;cases h
      | cons y l ih =>
        intro nd h1 h2
        rw [map_cons,List.nodup_cons] at nd
        rcases List.mem_cons.mp h1 with z1 | z1<;>rcases List.mem_cons.mp h2 with z2 | z2
        · rw [z1,z2]
        · exact absurd (List.mem_map.mpr ⟨u,z2,by rw [← e,z1]⟩) nd.1
        · exact absurd (List.mem_map.mpr ⟨t,z1,by rw [e,z2]⟩) nd.1
        · exact ih nd.2 z1 z2
    exact this ts hnd ht hu
  have core:∀H:Hp,Zea ts H→Zza ts H→SqL (Zaw (ts.map (·.1)) K0) H a (ns.map V.int)→HOk P w H s₁.heap→(∀b,H b≠none→b=a∨∃t∈ts,t.1=b)→(H a≠none→K0.lookup a=none)→
      codeAny (model P w) callerA (.call (.ref fa) ⟨[.ref a],[]⟩) (fun r s'=>r=.ok (.ret (.bool true))∧OldK s₁.heap s'.heap∧s'.os=s₁.os∧AllBare s'.gens) s₁:=by
    intro H hLm hO hS hok hA hK
    have base_of:∀{b:Addr} {o:Obj},s₁.heap.get? b=some o→H b=none→(Zph s₁.heap H).get? b=some o:=fun e n=>Zpw e n
    have noA:∀{b:Addr} {o:Obj} {es:Array DictEntry} {ep:Nat},s₁.heap.get? b=some o→o.data=.dict es ep→H b=none:=fun {b o es ep} e d=>by
      cases q:H b with
      | none=>rfl
      | some u =>
        rcases hA b (by rw [q];simp) with e' | ⟨t,ht,e'⟩
        · subst e'
          rw [ha] at e;cases e
          have d':Data.seq vs.toArray _=Data.dict es ep:=d
          cases d'
        · subst e'
          rw [tObj t ht] at e;cases e
          have d':Data.fields #[]=Data.dict es ep:=d
          cases d'
    have nsK:∀{b:Addr} {m:Str→Option Value},s₁.heap.Ns b m→(Zph s₁.heap H).Ns b m:=fun {b m} ⟨o,es,ep,e,d,r⟩=>⟨o,es,ep,base_of e (noA e d),d,r⟩
    have hKb:(Zaw (ts.map (·.1)) K0).In (Zph s₁.heap H):=fun b o e=>base_of (Zqy KX b o e) (by
      cases q:H b with
      | none=>rfl
      | some u =>
        cases q2:(ts.map (·.1)).contains b with
        | true=>rw [Zeq q2] at e;cases e
        | false =>
          rcases hA b (by rw [q];simp) with e' | ⟨t,ht,e'⟩
          · subst e'
            rw [Jl q2,hK (by rw [q];simp)] at e;cases e
          · have:(ts.map (·.1)).contains b=true:=List.contains_iff_mem.mpr (List.mem_map.mpr ⟨t,ht,e'⟩)
            rw [this] at q2;cases q2)
    have hM:Mod (Zaw (ts.map (·.1)) K0) mg (Zph s₁.heap H):=⟨hKb,nsK hns,⟨mb,nsK hb,hbb⟩,let ⟨mc,h1,h2⟩:=hlim;⟨mc,nsK h1,h2⟩⟩
    have e0:Xkb P w (Zaw (ts.map (·.1)) K0) mg (Zph s₁.heap H) callerA [] s₁ H:=⟨rfl,hM,fun b o e=>Zvj e,Nat.le_of_eq (Zlf _ _),trivial,fun b hb=>absurd (show b∈([]:List Addr) from hb) (by simp),hok,.of_eq hg⟩
    refine codeAny_mono ((F _ hKb (nsK hns)).run callerA [] s₁ H ⟨[.ref a],[]⟩ [.ref a] [.ref a] _ _ hr e0 (hbind s₁ (.ref a)) (.cons rfl .nil) (hsp H hLm hO hS)) fun r s' h=>?_
    cases r with
    | error e=>exact (hCX H e s' h).elim
    | ok fl =>
      cases fl with
      | next=>exact False.elim h
      | brk=>exact False.elim h
      | cont=>exact False.elim h
      | ret u =>
        obtain ⟨v,H',os,bare,un,hok',r',q⟩:=h
        have q':v=.bl true:=q
        subst q'
        obtain rfl:u=Value.bool true:=r'
        refine ⟨rfl,⟨fun b o e=>?_,fun b o e=>un.there b o e (by simp)⟩,os,bare⟩
        cases q:H b with
        | none=>exact .inl (un.keep b o e q (by intro z;exact absurd (show b∈([]:List Addr) from z) (by simp)) (by simp))
        | some u =>
          rcases hO b with z | ⟨ob,xs,z⟩ | ⟨t,ht,hbt,z⟩
          · rw [q] at z;cases z
          · have z2:=un.frzs b ob _ z
            obtain ⟨e1,_⟩:=hok b _ z
            obtain ⟨e2,_⟩:=hok' b _ z2
            rw [e] at e1;cases e1
            exact .inl e2
          · subst hbt
            have z2:=un.tbls _ _ _ z
            obtain ⟨ps,e2,_⟩:=hok' t.1 _ z2
            rw [tObj t ht] at e
            cases e
            refine .inr (.inl ⟨hC t ht,rfl,#[],ps,rfl,?_⟩)
            rw [e2]
            simp
  have tabs:∃H:Hp,Zea ts H∧(∀b,(∀t∈ts,t.1≠b)→H b=none):=by
    refine ⟨fun b=>(ts.find? fun t=>t.1==b).map fun t=>.tbl t.2.1 t.2.2,fun t ht=>?_,fun b hb=>?_⟩
    · have:ts.find? (fun u=>u.1==t.1)=some t:=by
        cases q:ts.find? (fun u=>u.1==t.1) with
        | none=>exact absurd (List.find?_eq_none.mp q t ht) (by simp)
        | some u=>rw [one (List.mem_of_find?_eq_some q) ht (by simpa using List.find?_some q)]
      show (ts.find? fun u=>u.1==t.1).map _=_
      rw [this];rfl
    · have:ts.find? (fun u=>u.1==b)=none:=List.find?_eq_none.mpr fun t ht=>by simpa using hb t ht
      show (ts.find? fun u=>u.1==b).map _=_
      rw [this];rfl
  obtain ⟨H1,hL1,hN1⟩:=tabs
  have okT:∀(H:Hp) (t:Addr×Pos×Str),t∈ts→Zck P w H s₁.heap t.1 (.tbl t.2.1 t.2.2):=fun H t ht=>⟨#[],tObj t ht,by exact trivial,fun v hv=>by cases hv⟩
  cases hk:K0.lookup a with
  | some o =>
    have e:=KX a o hk
    rw [ha] at e
    cases e
    have na:(ts.map (·.1)).contains a=false:=by
      cases q:(ts.map (·.1)).contains a with
      | false=>rfl
      | true =>
        obtain ⟨t,ht,e⟩:=List.mem_map.mp (List.contains_iff_mem.mp q)
        exact absurd e (aT t ht)
    refine core H1 hL1 (fun b=>?_) (.inr ⟨_,vs.toArray,_,by rw [Jl na];exact hk,rfl,rfl,rfl,by rw [size_toArray,lenV];exact hl,by simpa using rv⟩) (fun b u z=>?_) (fun b z=>?_) fun z=>absurd (hN1 a aT) z
    · rcases find b with ⟨t,ht,e⟩ | h
      · exact .inr (.inr ⟨t,ht,e.symm,by rw [← e];exact hL1 t ht⟩)
      · exact .inl (hN1 b h)
    · rcases find b with ⟨t,ht,e⟩ | h
      · subst e
        rw [hL1 t ht] at z
        cases z
        exact okT H1 t ht
      · rw [hN1 b h] at z;cases z
    · rcases find b with h | h
      · exact .inr h
      · exact absurd (hN1 b h) z
  | none =>
    have hne:∀t∈ts,t.1≠a:=aT
    refine core (fun b=>if b=a then some (.frz {cls:=.type "list",data:=.seq vs.toArray} (.lst (ns.map V.int))) else H1 b) (fun t ht=>(if_neg (hne t ht)).trans (hL1 t ht)) (fun b=>?_) (.inl (.inr ⟨{cls:=.type "list",data:=.seq vs.toArray},if_pos rfl⟩)) (fun b u z=>?_) (fun b z=>?_) fun _=>hk
    · by_cases hb:b=a
      · exact .inr (.inl ⟨_,_,if_pos hb⟩)
      · rcases find b with ⟨t,ht,e⟩ | h
        · exact .inr (.inr ⟨t,ht,e.symm,(if_neg hb).trans (by rw [← e];exact hL1 t ht)⟩)
        · exact .inl ((if_neg hb).trans (hN1 b h))
    · by_cases hb:b=a
      · have z':=(if_pos hb).symm.trans z
        cases z'
        subst hb
        exact ⟨ha,by rw [length_map];exact hl,vs,_,rv,ha⟩
      · have z':=(if_neg hb).symm.trans z
        rcases find b with ⟨t,ht,e⟩ | h
        · subst e
          rw [hL1 t ht] at z'
          cases z'
          exact okT _ t ht
        · rw [hN1 b h] at z';cases z'
    · by_cases hb:b=a
      · exact .inl hb
      · rcases find b with h | h
        · exact .inr h
        · exact absurd ((if_neg hb).trans (hN1 b h)) z
theorem Xcb {l:PySem.W.OpenLaw}{n k:Nat}{q:Program}{loose:List Str}{XP:(Str→Option Value)→Heap→Prop}{YP:World→Heap→Prop}{d:DefRec}{K:Params→Frag}{ts:List (Addr×Pos×Str)}{CX:World→CXT}{sp:World→Sp}{x:Str}
    (hn:l.most=some n) (hn2:n≤sizeLine) (hdf:d.params.defaults=[]) (hr:Zdr k callerA)
    (hY:∀(w:World) (h:Heap),YP w h→(K w.params).In h)
    (hT:∀w:World,∀t∈ts,(K w.params).lookup t.1=some (tabObj #[])∧∃c,codeHdIn (K w.params) c t.1=true) (hnd:(ts.map (·.1)).Nodup)
    (F:∀(w:World) (mg:Str→Option Value) (fa:Addr) (h:Heap),(K w.params).In h→h.Ns mainGlobals mg→mg d.name=some (.ref fa)→
      ∃fd:FuncData,(∀(s:Shared) (u:Value),BindsTo s fd ⟨[u],[]⟩ [(x,u)])∧
        ∀base:Heap,(Zaw (ts.map (·.1)) (K w.params)).In base→base.Ns mainGlobals mg→Zam l.prog w (Zaw (ts.map (·.1)) (K w.params)) mg base (CX w) k fa fd [x] (sp w))
    (hsp:∀(w:World) (H:Hp) (a:Addr) (ns:List Int),ns.length≤n→Zea ts H→Zza ts H→SqL (Zaw (ts.map (·.1)) (K w.params)) H a (ns.map V.int)→sp w [.ref a] H (fun v _=>v=.bl true) fun _ _ _=>False)
    (hCX:∀(w:World) (H:Hp) (s:Shared) (e:Value) (s':Shared),CX w [] H s (fun _ _ _=>False) e s'→False) :
    PySem.W.WalkO q loose XP YP l.row.toRowW d [] (fun f vs=>PySem.call f vs):=by
  refine Att.attach_call hn hdf fun w s₀ s₁ mg mb fa o pm cd doc a vs ns G Y ho hd hcd hmg hobj hints hlen hg=>?_
  have KX:=hY w _ Y
  obtain ⟨fd,hb,hF⟩:=F w mg fa _ KX G.T.g hmg
  exact Zxl KX (fun t ht=>(hT w t ht).1) (fun t ht=>by
    obtain ⟨c,e⟩:=(hT w t ht).2
    obtain ⟨o,vs,_,_,_,_,_,_,_,h1,h2,h3,h4,_⟩:=codeHd_of_K KX e
    exact ⟨c,o,vs,h1,h2,h3,h4⟩) hnd G.T.g G.T.b G.T.builtins G.T.nolimit hg hobj hints (le_trans hlen hn2) hr hF hb (fun H hL hO hS=>hsp w H a ns hlen hL hO hS) fun H e s'=>hCX w H s₁ e s'
end L2
namespace L2
open PySem PySem.Spec PyProof.Rows
open Dl (D R FE FT FA FO FS FI FB Fl)
theorem Zft {k:Option NameKind}(h:k=some .cell):k≠some .local:=fun z=>by rw [h] at z;cases z
theorem Zpy {k:Nat}{A:Around}(r:Zdr (k+2) A)(env:Env):Zdr k (A.in1.deeper env):=r.in1.deeper env
theorem Xes {X:Cx}{N:List Str}{p qual:Str}{params:Arguments}{body:Expr}{sc:Scope}{cl:List (Str×Addr)}{js:List Nat}{P c:Addr}{lpos:Pos}{k:Nat}
    (bm:BMod X.base X.mg) (tab:X.H₀ P=some (.tbl lpos qual)) (hd:CodeHd X.base c P) (hr:Zdr (k+1) X.A) (calm:X.calm=true)
    (clo:closureFor sc X.env=pure cl) (c1:∀q∈cl,X.env.cells.lookup q.1=some q.2) (c2:∀x∈N.tail,∃c,cl.lookup x=some c)
    (j1:js.map (fun j=>X.N[j]?)=N.tail.map some) (j2:∀x∈N.tail,Vis X.env.scope x∧X.env.kindOf x≠some .local)
    (code:X.env.code=.ref c:=by rfl) (qu:X.env.qual++"<lambda>"=qual:=by rfl) (df:defaultsOf params X.env=([],[]):=by rfl)
    (k1:sc.kind=.function:=by rfl) (k2:sc.isCoroutine=false:=by rfl) (k3:sc.isGenerator=false:=by rfl) (k4:(sc.names.all fun x=>x.2 != .cell)=true:=by rfl) (k5:sc.names.lookup p=some .local:=by rfl) (k6:N.Nodup:=by decide +kernel) (k7:N.head?=some p:=by rfl)
    (k8:(N.tail.all fun x=>sc.names.lookup x==some .free)=true:=by rfl) (k9:(sc.names.all fun y=>y.2 != .free||N.tail.contains y.1)=true:=by rfl) (k10:js.length+1=N.length:=by rfl)
    (bind:∀(u pm ctv:Value) (c:Addr),bindArgs (kla_fn "<lambda>" qual params body sc cl pm (.ref c) ctv) ⟨[u],[]⟩=pure [(p,u)]:=by intros;rfl):Znr X N p qual params body sc cl js P c lpos where
  bm:=bm
  tab:=tab
  code:=code
  hd:=hd
  clo:=clo
  qu:=qu
  df:=df
  lsc:={
    kind:=k1,co:=k2,gen:=k3,par:=k5,nd:=k6,hd:=k7
    nocell:=fun x hx z=>by
      have:=List.all_eq_true.mp k4 x hx
      rw [z] at this
      cases this
    tl:=fun x hx=>eq_of_beq (List.all_eq_true.mp k8 x hx)
    fr:=fun x hx=>by
      obtain ⟨y,hy,e⟩:∃y∈sc.names,y=(x,NameKind.free):=by
        have:∀l:List (Str×NameKind),l.lookup x=some .free→(x,NameKind.free)∈l:=fun l=>by
          induction l with
          | nil=>intro h;cases h
          | cons a l ih =>
            obtain ⟨b,kd⟩:=a
            intro h
            rw [lookup_cons] at h
            split at h
            · rename_i e
              cases h
              rw [eq_of_beq e]
              exact .head _
            · exact .tail _ (ih h)
        exact ⟨_,this _ hx,rfl⟩
      subst e
      have:=List.all_eq_true.mp k9 _ hy
      have:N.tail.contains x=true:=by simpa using this
      exact c2 x (List.contains_iff_mem.mp this)
    cls:=fun x c hx=>by
      have:∀l:List (Str×Addr),l.lookup x=some c→(x,c)∈l:=fun l=>by
        induction l with
        | nil=>intro h;cases h
        | cons a l ih =>
          obtain ⟨b,kd⟩:=a
          intro h
          rw [lookup_cons] at h
          split at h
          · rename_i e
            cases h
            rw [eq_of_beq e]
            exact .head _
          · exact .tail _ (ih h)
      exact c1 (x,c) (this _ hx)}
  jsx:=fun i x hi=>by
    have:=congrArg (fun l=>l[i]?) j1
    simp only [getElem?_map,hi,Option.map_some] at this
    cases q:js[i]? with
    | none=>rw [q] at this;cases this
    | some j =>
      rw [q] at this
      have h2:X.N[j]?=some x:=Option.some.inj this
      obtain ⟨v1,v2⟩:=j2 x (mem_of_getElem? hi)
      exact ⟨j,rfl,h2,v1,v2⟩
  len:=k10
  bind:=bind
  dep:=hr.in1.depth
  calm:=calm
theorem Xli {K:Frag}{ts:List (Addr×Pos×Str)}{H:Hp}{a:Addr}{xs:List V}(hO:Zza ts H)(h:SqL K H a xs):FzL K H a xs:=by
 rcases h with (h | h) | h
 ·rcases hO a with z | ⟨o,ys,z⟩ | ⟨t,_,_,z⟩<;>· rw [h] at z;cases z
 ·exact .inl h
 ·exact .inr h
section
variable {K:Frag}{C:String→Addr}{E:XK}{Γ Δ Γ' Δ' Γk Δk:List Nat}{m mr:Nat}{H H2:Hp}
end
section
variable {X:Cx}{C:String→Addr}{E:XK}{Γ Δ Γ' Δ' Γk Δk:List Nat}{m mr:Nat}{e:Expr}{te:TE}{fe:FE}{pos p p1 p2 pa pb pc pd apos cpos:Pos}
end
end L2
namespace L2
open PySem PySem.Spec PyProof.Rows
section
variable {P:Program}{w:World}{H H':Hp}{h h':Heap}{a:Addr}{o:HO}
end
section
variable {X:Cx}{pins:List (Addr×Obj)}{σ:St}{H H':Hp}{s:Shared}{a:Addr}{u u':HO}{o:Obj}
variable {tg:Expr}
end
end L2
namespace L2
open PySem PySem.Spec PyProof.Rows
open Dl (D R FE FT FA FO FS FI FB Fl)
section
variable {K:Frag}{C:String→Addr}{E:XK}{Γ Δ Γl Δl:List Nat}{m m1 m2 m3 mr:Nat}{S S1 S2 S3:List (Nat×Bool)}{H:Hp}
end
section
variable {X:Cx}{C:String→Addr}{E:XK}{Γ Δ Γ' Δ' Γl Δl:List Nat}{m m1 m2 m3 mr:Nat}{S S1 S2 S3:List (Nat×Bool)}{a b c e o:Expr}{ta tb tc te:TE}{fa fb fc fe:FE}{p p2 pos apos cpos:Pos}{n:Nat}
end
section
variable {K:Frag}{C:String→Addr}{E:XK}{Γ Δ Γ' Δ' Γ1 Δ1 Γl Δl Γk Δk:List Nat}{m m1 m2 m3 mr:Nat}{H:Hp}{Q:VK}
end
section
variable {X:Cx}{C:String→Addr}{E:XK}{Γ Δ Γ' Δ' Γl Δl:List Nat}{mr:Nat}{pos p p2 apos cpos:Pos}{e:Expr}{te:TE}{fe:FE}
end
section
variable {K:Frag}{C:String→Addr}{E:XK}{Γ Δ Γ' Δ' Γ1 Δ1 Γl Δl Γk Δk:List Nat}{m m1 m2 m3 mr:Nat}{H:Hp}{Q:VK}
theorem Xb.putNew {H0 Hb H H1:Hp}{σ:St}{ρ:Yp}{A:Nat→List Addr}{y:Nat}{d:D}{v:V}{B:List Addr}(I:Xb K C H0 Hb H Γ Δ σ ρ A)(g:Xw H H1)(r:Rp K C H1 d v B)(hB:∀a∈B,H a=Option.none)(hl:y<ρ.length)(h1:∀j∈Γ1,j∈Γ∧j≠y)(h2:∀j∈Δ1,j∈Δ∧j≠y) :
  Xb K C H0 Hb H1 Γ1 Δ1 (σ.set y (some v)) (ρ.set y (some d)) (fun j=>if j=y then B else A j):=by
 have I1:=I.mono g
 have no:∀{j a},a∈A j→a∉B:=fun {j a} ha hb=>I.ne ha (hB a hb)
 refine ⟨I1.s0,I1.same,by rw [length_set,length_set,I1.len],fun j e h=>?_,fun j h=>?_,fun j hj a ha=>?_,fun j hj a l e=>?_,fun j hj=>?_⟩
 ·rcases get_set h with ⟨e1,_,e2⟩ | ⟨e1,e2⟩
  ·subst e1
   cases e2
   refine ⟨v,getElem?_set_self (by rw [I1.len];exact hl),?_⟩
   rw [if_pos rfl]
   exact r
  ·obtain ⟨w,q1,q2⟩:=I1.rep j e e2
   refine ⟨w,?_,?_⟩
   ·rw [getElem?_set_ne fun z=>e1 z.symm]
    exact q1
   ·rw [if_neg e1]
    exact q2
 ·by_cases e:j=y
  ·subst e
   exact absurd (getElem?_set_self hl) (h d)
  ·rw [if_neg e]
   exact I1.nil j fun x hx=>h x (by rw [getElem?_set_ne (fun z=>e z.symm)];exact hx)
 ·have:=h1 j hj
  rw [if_neg this.2] at ha
  exact I1.loc j this.1 a ha
 ·have hj':=h1 j hj
  rw [if_neg hj'.2] at e
  obtain ⟨t1,t2,t3⟩:=I1.top j hj'.1 a l e
  refine ⟨t1,t2,fun k hk=>?_⟩
  by_cases ek:k=y
  ·rw [if_pos ek]
   exact no (j:=j) (by rw [e];exact .head _)
  ·rw [if_neg ek]
   exact t3 k hk
 ·have hj':=h2 j hj
  obtain ⟨t1,t2,t3⟩:=I1.deep j hj'.1
  simp only [if_neg hj'.2]
  refine ⟨t1,fun k hk a ha=>?_,t3⟩
  by_cases ek:k=y
  ·rw [if_pos ek]
   exact no ha
  ·rw [if_neg ek]
   exact t2 k hk a ha
theorem Xbk {y x:Nat}{t1 t2:TE}{f1 f2:FE}{S2:List (Nat×Bool)}(Γ1 Δ1:List Nat)(he1:EOk K C E Γ Δ m1 [] t1 f1)(he2:EOk K C E Γ1 Δ1 m2 S2 t2 f2)(hS:∀p∈S2,p.1=y)(g1:∀j∈Γ1,j∈Γ∧j≠y)(g2:∀j∈Δ1,j∈Δ∧j≠y)(g3:∀j∈Γ',j=x∨j∈Γ1)(g4:∀j∈Δ',j=x∨j∈Δ1) :
  SOk K C E mr Γl Δl Γ Δ Γ' Δ' (Zvw (Zgg t1 (Jp y)) (Zgg t2 (Jp x))) (Dl.Zls y x f1 f2):=fun H0 Hb H σ ρ A D I p=>by
 unfold Dl.Zls at p
 by_cases hl:y<ρ.length
 ·rw [if_pos hl] at p
  refine he1 H0 Hb H σ ρ A _ I (Yd.imp (Yd.bind p) (fun d1 p v1 H1 s1 r1=>?_) fun c x q H' g'=>q H' (Xw.from0 I g'))
  obtain ⟨B1,r1,hB1,_⟩:=r1
  have hB1:∀a∈B1,H a=Option.none:=fun a ha=>(hB1 a ha).elim id fun z=>z.none.elim
  have I1:=I.putNew (Γ1:=Γ1) (Δ1:=Δ1) s1 r1 hB1 hl g1 g2
  refine he2 H0 Hb H1 _ _ _ _ I1 (Yd.imp (Yd.bind p) (fun d2 p v2 H2 s2 r2=>?_) fun c x q H' g'=>q H' (Xw.from0 I1 g'))
  obtain ⟨B2,r2,hB2,_⟩:=r2
  have hB2:∀a∈B2,H a=Option.none:=fun a ha=>by
   rcases hB2 a ha with z | z
   ·exact s1.free z
   ·obtain ⟨p,hp,z⟩:=z.mem
    rw [if_pos (hS p hp)] at z
    exact hB1 a z
  cases d2 with
  | lst ds =>
   have p:Yd (if Dl.Yi ds=true then R.ok (Fl.nx ((ρ.set y Option.none).set x (some (.lst ds)))) else .bad) _ _:=p
   by_cases hf:Dl.Yi ds=true
   ·rw [if_pos hf] at p
    have g:=s1.trans s2
    have nB2:B2.Nodup:=by
     obtain ⟨a,xs,B,_,_,r3,rfl⟩:=r2
     rw [r3.flat hf]
     exact List.nodup_cons.mpr ⟨(fun z=>nomatch z),nodup_nil⟩
    have I2:=((I.mono g).weak (Γ':=Γ1) (Δ':=Δ1) (fun j hj=>(g1 j hj).1) (fun j hj=>(g2 j hj).1)).dead (j:=y) (σ':=σ.set y (some v1)) (length_set ..) (fun k hk=>getElem?_set_ne fun z=>hk z.symm) (fun z=>(g1 y z).2 rfl) (fun z=>(g2 y z).2 rfl)
    have no:∀{j a},a∈(if j=y then [] else A j)→a∉B2:=fun {j a} ha hb=>by
     by_cases e:j=y
     ·rw [if_pos e] at ha;cases ha
     ·rw [if_neg e] at ha;exact I.ne ha (hB2 a hb)
    obtain ⟨A',I3,_⟩:=I2.put (Γ':=Γ') (Δ':=Δ') (i:=x) r2
     (fun j hj e=>⟨(g3 j hj).resolve_left e,fun a l e'=>no (j:=j) (by rw [e'];exact .head _)⟩)
     (fun _=>⟨fun a ha=>I.s0.free (I.same.free (hB2 a ha)),fun a l e=>⟨I.same.free (hB2 a (by rw [e];exact .head _)),by rw [e] at nB2;exact (List.nodup_cons.mp nB2).1,fun j _ z=>no z (by rw [e];exact .head _)⟩⟩)
     (fun j hj e=>⟨(g4 j hj).resolve_left e,fun a ha=>no ha⟩)
     (fun _=>⟨nB2,fun j _ a ha z=>no z ha,fun a ha=>I.same.free (hB2 a ha)⟩)
    exact p _ _ A' I3
   ·rw [if_neg hf] at p
    exact p.elim
  | _=>exact p.elim
 ·rw [if_neg hl] at p
  exact p.elim
theorem Zxc {y x:Nat}{t1 t2:TE}{v:TS}{f1 f2:FE}{h:FS}{S2:List (Nat×Bool)}(Γ1 Δ1 Γ2 Δ2:List Nat)(he1:EOk K C E Γ Δ m1 [] t1 f1)(he2:EOk K C E Γ1 Δ1 m2 S2 t2 f2)(hv:SOk K C E mr Γl Δl Γ2 Δ2 Γ' Δ' v h)(hS:∀p∈S2,p.1=y)(g1:∀j∈Γ1,j∈Γ∧j≠y)(g2:∀j∈Δ1,j∈Δ∧j≠y)(g3:∀j∈Γ2,j=x∨j∈Γ1)(g4:∀j∈Δ2,j=x∨j∈Δ1) :
  SOk K C E mr Γl Δl Γ Δ Γ' Δ' (Zvw (Zgg t1 (Jp y)) (Zvw (Zgg t2 (Jp x)) v)) (Dl.Xu (Dl.Zls y x f1 f2) h):=
 show SOk K C E mr Γl Δl Γ Δ Γ' Δ' (Zvw (Zvw (Zgg t1 (Jp y)) (Zgg t2 (Jp x))) v) _ from Zxf (Xbk Γ1 Δ1 he1 he2 hS g1 g2 g3 g4) hv
end
section
variable {X:Cx}{C:String→Addr}{E:XK}{Γ Δ Γ' Δ' Γl Δl:List Nat}{m1 m2 mr:Nat}{pos pos2 p1 p2:Pos}{e1 e2:Expr}{t1 t2:TE}{f1 f2:FE}{x y:Str}{ss:List Stmt}{v:TS}{h:FS}
theorem Zpk {i j:Nat}{S2:List (Nat×Bool)}(Γ1 Δ1 Γ2 Δ2:List Nat)(hN:X.N.Nodup)(hi:X.N[i]?=some y)(hy:Loc X.env.scope y)(hj:X.N[j]?=some x)(hx:Loc X.env.scope x)(he1:JE X C E Γ Δ m1 [] e1 t1 f1)(he2:JE X C E Γ1 Δ1 m2 S2 e2 t2 f2)(hv:JSs X C E mr Γl Δl Γ2 Δ2 Γ' Δ' ss v h)
  (hS:∀p∈S2,p.1=i:=by decide) (g1:∀k∈Γ1,k∈Γ∧k≠i:=by decide) (g2:∀k∈Δ1,k∈Δ∧k≠i:=by decide) (g3:∀k∈Γ2,k=j∨k∈Γ1:=by decide) (g4:∀k∈Δ2,k=j∨k∈Δ1:=by decide)
  (hs1:swapsWith e1 (some (.Name y p1)) pos.line X.env=pure false:=by rfl) (hs2:swapsWith e2 (some (.Name x p2)) pos2.line X.env=pure false:=by rfl)
  (hf1:autoParam (X.fn y=true∨X.env.scope.names.lookup y=some .local) aT0._auto_1) (hf2:autoParam (X.fn x=true∨X.env.scope.names.lookup x=some .local) aT0._auto_1) :
  JSs X C E mr Γl Δl Γ Δ Γ' Δ' (.Assign [.Name y p1] e1 pos::.Assign [.Name x p2] e2 pos2::ss) (Zvw (Zgg t1 (Jp i)) (Zvw (Zgg t2 (Jp j)) v)) (Dl.Xu (Dl.Zls i j f1 f2) h):=
 ⟨Zkb (Zmu hN hi hy he1.q hs1 hf1) (Zkb (Zmu hN hj hx he2.q hs2 hf2) hv.q),Zxc Γ1 Δ1 Γ2 Δ2 he1.o he2.o hv.o hS g1 g2 g3 g4⟩
end
end L2
namespace L2
open PySem PySem.Spec PyProof.Rows
open Dl (D R FE FT FA FO FS FI FB FM Fl)
section
variable {K:Frag}{C:String→Addr}{E:XK}{Γ Δ Γ' Δ' Γ1 Δ1 Γl Δl Γk Δk:List Nat}{m m1 m2 m3 mr n:Nat}{S:List (Nat×Bool)}{H:Hp}{Q:VK}
def MOkF (K:Frag)(C:String→Addr)(E:XK)(Γ Δ:List Nat)(i:Nat)(t:TE)(f:FM):Prop:=∀(H0 Hb H:Hp) (σ:St) (ρ:Yp) (A:Nat→List Addr) (Q:VK),Xb K C H0 Hb H Γ Δ σ ρ A→
 Yd (f ρ) (fun p=>∀v H' A' B,Xb K C H0 Hb H' Γ Δ σ p.2 A'→(∀b o,b∉A i→H b=some o→H' b=some o)→(∀j,j≠i→p.2[j]?=ρ[j]?∧A' j=A j)→Rp K C H' p.1 v B→B.Nodup→(∀a∈B,Hb a=none∧∀j,a∉A' j)→Q v H') (fun c x=>∀H',Xw H0 H'→EC C E c x H')→t σ H Q
end
section
variable {X:Cx}{C:String→Addr}{E:XK}{Γ Δ Γ' Δ' Γl Δl:List Nat}{m m2 mr n:Nat}{S2:List (Nat×Bool)}{e:Expr}{es:List Expr}{t:TA}{fa:FA}{pos p p1 p2 p3 p4 p5 apos cpos mpos mapos:Pos}{c:String}{md x y kx:Str}{CX:CXT}{k:Nat}{ps:List Str}{tm:TE}{fm:FM}
structure JMF (X:Cx)(C:String→Addr)(E:XK)(Γ Δ:List Nat)(j:Nat)(e:Expr)(t:TE)(f:FM):Prop where
 q:QE X e t
 o:MOkF X.K C E Γ Δ j t f
end
end L2
namespace L2
open PySem PySem.Spec PyProof.Rows
@[reducible] noncomputable def Cx.blkC (X:Cx)(N2:List Str)(y:Str)(sc:Scope)(cl:List (Str×Addr))(C:Addr)(s0:Shared)(H0:Hp)(fp:List Addr):Cx:=
 {X with N:=N2++[y],s₀:=s0,H₀:=H0,env:=compEnvC sc cl C X.env,outer:=X.stack,ex:=fp,fn:=fun z=>z==y,pn:=[],xe:=fun _ _=>False}
structure BlkC (sc esc:Scope)(y:Str)(N N2:List Str):Prop where
 kind:sc.kind=.function
 cell:∀n acc,cellsFrom n sc.names acc=(y,n)::acc
 one:∀z∈sc.names,z.2=.cell→z.1=y
 nfree:∀z∈sc.names,z.2=.free→z.1≠y
 loc:∀z∈sc.names,z.2=.local→sc.names.lookup z.1=some .local
 free:∀z∈sc.names,z.2=.free→esc.names.lookup z.1=some .cell∨esc.names.lookup z.1=some .free
 out:∀z∈N2,sc.names.lookup z≠some .local∧z≠y
 nd:N.Nodup
 len:N2.length=N.length
 ren:∀p∈N.zip N2,p.2=p.1∨sc.names.lookup p.2=none
theorem Zcn {env:Env}{w:Str}:∀{names:List (Str×NameKind)} {y:Str} {k:NameKind},(∀z∈names,z.2=.cell→z.1=w)→(k=.cell∨k=.free)→
  (names.map fun (n,k)=>if (k==NameKind.free&&env.scope.kind==.function&&env.kindOf n==some .cell) then (n,NameKind.cell) else (n,k)).lookup y=some k→y=w∨(y,NameKind.free)∈names
 | [],_,_,_,_,hz=>by simp at hz
 | (n,k0)::r,y,k,hc,hk,h=>by
  rw [map_cons] at h
  cases hy:y==n with
  | true =>
   have e:y=n:=by simpa using hy
   subst e
   by_cases hf:k0=.free
   ·subst hf;exact .inr mem_cons_self
   ·have hb:(k0==NameKind.free)=false:=by simpa using hf
    simp only [hb,Bool.false_and,Bool.false_eq_true,if_false,lookup_cons,beq_self_eq_true] at h
    have e1:k0=k:=by simpa using h
    subst e1
    rcases hk with z | z
    ·exact .inl (hc _ mem_cons_self z)
    ·exact absurd z hf
  | false =>
   refine (Zcn (env:=env) (k:=k) (w:=w) (names:=r) (y:=y) (fun z hz=>hc z (mem_cons_of_mem _ hz)) hk ?_).imp id (mem_cons_of_mem _)
   by_cases hc':(k0==NameKind.free&&env.scope.kind==.function&&env.kindOf n==some .cell)=true
   ·simp only [hc',if_true,lookup_cons,hy] at h
    exact h
   ·simp only [hc',Bool.false_eq_true,if_false,lookup_cons,hy] at h
    exact h
theorem Zyh {M:Model}{A:Around}{E:Value→Shared→Prop}{s:Shared}{sc:Scope}{g:Addr}{cl:List (Str×Addr)}{qual:Str}{env0:Env}{y:Str}{Q:Env→Shared→Prop}
    (hc:∀n acc,cellsFrom n sc.names acc=(y,n)::acc)
    (h:∀h',h'.Ns s.heap.objs.size (fun _=>none)→h'.IsCell (s.heap.objs.size+1) none→(∀b o,s.heap.get? b=some o→h'.get? b=some o)→
      Q {scope:=sc,locals:=s.heap.objs.size,globals:=g,cells:=(y,s.heap.objs.size+1)::cl,qual:=qual,func:=none,code:=env0.code,frame:=env0.frame,builtins:=env0.builtins} {s with heap:=h'}) :
    wpAny M A (newFunctionEnv sc g cl [] qual none .none (some env0)) Q E s:=by
  simp only [newFunctionEnv,Option.isSome_some,if_true]
  refine wpAny_bind (wpAny_alloc ?_)
  refine wpAny_bind (wpAny_layCells _ (fun name kind cells=>by cases hkc:kind==NameKind.cell<;>simp [hkc]) _ _ _ _ ?_)
  have ok:=cellsFrom_ok sc.names (s.heap.push {cls:=.type "dict",data:=.dict #[]}) (s.heap.objs.size+1) [] ⟨fun _ _ hm=>(nomatch hm),List.Pairwise.nil⟩ (by rw [size_push];exact le_refl _)
  rw [size_push,hc] at ok
  rw [show ({s with heap:=s.heap.push {cls:=.type "dict",data:=.dict #[]}}:Shared).heap.objs.size=s.heap.objs.size+1 from size_push ..,hc]
  refine wpAny_bind (wpAny_pure (wpAny_pure ?_))
  exact h _ ((Heap.Ns.new s.heap (.type "dict")).keeps (pushCells_keeps _ _)) (ok.empty _ _ mem_cons_self).1 fun b o e=>pushCells_keeps _ _ b o (get?_push_of_some _ e)
section
variable {X:Cx}{elt iter tg:Expr}{y:Str}{pos:Pos}{g:TG}{ifs:List Expr}{sc:Scope}{N2:List Str}{wi:TI}{tc:TT}{te:TE}
theorem Zrk {pins:List (Addr×Obj)}{σ:St}{H:Hp}{s s1:Shared}{fp:List Addr}{h':Heap}{m:Str→Option Value}{tk:Nat}{c:Addr}(B:BlkC sc X.env.scope y X.N N2)(I:Inv X pins σ H s)(hf:∀b∈fp,Zin X pins H b)
    (hfl:∀b∈fp,b<s.heap.objs.size) (hn:h'.Ns s.heap.objs.size m) (hcc:h'.IsCell c none) (hcs:s.heap.objs.size<c) (hk:∀b o,s.heap.get? b=some o→h'.get? b=some o) (e1:s1={s with heap:=h',toks:=tk}) :
    Inv (X.blkC N2 y sc ((y,c)::Xz X.env.cells sc.names []) s.heap.objs.size s H fp) [] (σ++[none]) H s1:=by
  subst e1
  have hcl:∀y∈sc.names,y.2=.free→∃c,X.env.cells.lookup y.1=some c:=fun y hy hf=>I.ok.has y.1 (B.free y hy hf)
  have look:∀y c,(Xz X.env.cells sc.names []).lookup y=some c→X.env.cells.lookup y=some c:=fun y c h=>Zhv hcl (fun _ z=>by simp at z) h
  have old:∀z d,X.env.cells.lookup z=some d→d<s.heap.objs.size:=fun z d h=>by
    obtain ⟨v,o,ho,_⟩:=I.cell z d h
    exact lt_size ho
  have look2:∀z d,((y,c)::Xz X.env.cells sc.names []).lookup z=some d→(z=y∧d=c)∨(z≠y∧X.env.cells.lookup z=some d):=fun z d h=>by
    rw [lookup_cons] at h
    cases hz:z==y with
    | true =>
      rw [hz] at h
      exact .inl ⟨by simpa using hz,(Option.some.inj h).symm⟩
    | false =>
      rw [hz] at h
      exact .inr ⟨by simpa using hz,look z d h⟩
  have isfree:∀z,(relabel sc X.env).names.lookup z=some .cell∨(relabel sc X.env).names.lookup z=some .free→z=y∨(z,NameKind.free)∈sc.names:=fun z hz=>by
    rcases hz with hz | hz
    · exact Zcn (env:=X.env) B.one (.inl rfl) hz
    · exact Zcn (env:=X.env) B.one (.inr rfl) hz
  have has2:∀z,(z,NameKind.free)∈sc.names→((y,c)::Xz X.env.cells sc.names []).lookup z=(Xz X.env.cells sc.names []).lookup z:=fun z hz=>by
    have e:(z==y)=false:=by simpa using B.nfree (z,.free) hz rfl
    rw [lookup_cons,e]
  refine ⟨⟨I.ok.mod,B.kind,I.ok.glob,I.ok.blt,le_refl _,fun z w d h1 h2=>?_,fun z hz=>?_,fun z d hz h=>?_,I.ok.hd,I.ok.frames,.inl rfl,fun b hb=>?_,fun b o e=>?_,le_trans I.ok.bsz I.sz,fun b o e hb=>?_,fun b hb hs=>?_,I.stack,I.stkFree⟩,
    rfl,I.bare,Un.kept hk,⟨_,hn,fun i w v h1 h2 h3=>?_⟩,fun z d h=>?_,I.hok.fresh (le_refl _),fun z d h=>?_,fun p hp=>absurd (show p∈([]:List (Addr×Obj)) from hp) (by simp),I.hok.kept hk,?_⟩
  · rcases look2 z d h1 with ⟨a1,a2⟩ | ⟨a1,a2⟩<;>rcases look2 w d h2 with ⟨b1,b2⟩ | ⟨b1,b2⟩
    · rw [a1,b1]
    · exact absurd (lt_trans hcs (a2▸old _ _ b2)) (lt_irrefl _)
    · exact absurd (lt_trans hcs (b2▸old _ _ a2)) (lt_irrefl _)
    · exact I.ok.inj z w d a2 b2
  · rcases isfree z hz with e | e
    · exact ⟨c,by subst e;show List.lookup _ (_::_)=_;rw [lookup_cons,beq_self_eq_true]⟩
    · obtain ⟨d,hd⟩:=Zfl (cells:=X.env.cells) (cs:=[]) e
      exact ⟨d,(has2 z e).trans hd⟩
  · have hz:(z==y)=true:=hz
    rcases look2 z d h with ⟨_,a2⟩ | ⟨a1,_⟩
    · show s.heap.objs.size≤d
      rw [a2]
      exact le_of_lt hcs
    · exact absurd (by simpa using hz) a1
  · refine ⟨ne_of_lt (hfl b hb),fun z d h=>?_⟩
    rcases look2 z d h with ⟨_,a2⟩ | ⟨_,a2⟩
    · rw [a2]
      exact (ne_of_lt (lt_trans (hfl b hb) hcs)).symm
    · exact (hf b hb).2.2.2.2.1 z d a2
  · exact I.bs b o e
  · rcases (hf b hb).2.2.2.1 with z | z
    · exact I.ok.noex b o e z
    · exact absurd (lt_of_lt_of_le (lt_size e) (le_trans I.ok.bsz z)) (lt_irrefl _)
  · rcases List.mem_cons.mp (I.stkSub b hs) with z | z
    · exact (hf b hb).2.1 z
    · exact (hf b hb).2.2.1 z
  · have hlen:=I.len
    have hl2:=B.len
    have h1:(N2++[y])[i]?=some w:=h1
    have h2:(σ++[none])[i]?=some (some v):=h2
    have hi:i<X.N.length:=by
      by_cases hi:i<X.N.length
      · exact hi
      · rw [getElem?_append_right (by omega)] at h2
        have hm:=mem_of_getElem? h2
        rw [List.mem_singleton] at hm
        cases hm
    rw [getElem?_append_left (by omega)] at h1
    rw [getElem?_append_left (by omega)] at h2
    have hw:=B.out w (mem_of_getElem? h1)
    have h3':(relabel sc X.env).names.lookup w=some .cell∨(relabel sc X.env).names.lookup w=some .free:=by
      rcases h3 with z | z
      · exact absurd (Zee (env:=X.env) z) hw.1
      · exact z
    have hfr:(w,NameKind.free)∈sc.names:=(isfree w h3').resolve_left hw.2
    have h1:X.N[i]?=some w:=by
      obtain ⟨z,hz⟩:∃z,X.N[i]?=some z:=⟨X.N[i],getElem?_eq_getElem hi⟩
      rcases B.ren (z,w) (mem_of_getElem? (List.getElem?_zip_eq_some.mpr ⟨hz,h1⟩)) with e | e
      · rw [hz,show w=z from e]
      · exact absurd e (lookup_mem hfr)
    obtain ⟨m3,hn3,hl3⟩:=I.loc
    have hv:X.env.scope.names.lookup w=some .cell∨X.env.scope.names.lookup w=some .free:=B.free (w,.free) hfr rfl
    obtain ⟨u,ru,lk⟩:=hl3 i w v h1 h2 (.inr hv)
    refine ⟨u,ru,.inr ⟨h3',?_⟩⟩
    rcases lk with ⟨k1,_⟩ | ⟨k1,d,ec,zc⟩
    · rcases hv with q | q
      · rw [show X.env.kindOf w=X.env.scope.names.lookup w from rfl,q] at k1
        cases k1
      · rw [show X.env.kindOf w=X.env.scope.names.lookup w from rfl,q] at k1
        cases k1
    · obtain ⟨c',e'⟩:=Zfl (cells:=X.env.cells) (cs:=[]) hfr
      have e2:=look w c' e'
      rw [ec] at e2
      cases e2
      obtain ⟨o,ho,hd⟩:=zc
      exact ⟨d,(has2 w hfr).trans e',o,hk _ _ ho,hd⟩
  · rcases look2 z d h with ⟨_,a2⟩ | ⟨_,a2⟩
    · subst a2
      exact ⟨none,hcc⟩
    · obtain ⟨v,o,ho,hd⟩:=I.cell z d a2
      exact ⟨v,o,hk _ _ ho,hd⟩
  · rcases look2 z d h with ⟨_,a2⟩ | ⟨_,a2⟩
    · subst a2
      exact I.hok.fresh (le_of_lt hcs)
    · exact I.freeC z d a2
  · show (σ++[none]).length=(N2++[y]).length
    rw [length_append,length_append,I.len,B.len]
    rfl
theorem Xao {pins:List (Addr×Obj)}{σ:St}{H2:Hp}{s2:Shared}{it:Addr}{fp:List Addr}{tn:Nat→Heap→Prop}{J:It}{Q:VK}{E:Value→Shared→Prop}{RR:Value→Addr→Result→Shared→Prop}(hc:X.calm=true)(B:BlkC sc X.env.scope y X.N N2)
    (hg:∀cl C s0 H0 fp,PG (X.blkC N2 y sc cl C s0 H0 fp) tg g) (ht:∀cl C s0 H0 fp,PIf (X.blkC N2 y sc cl C s0 H0 fp) ifs tc) (he:∀cl C s0 H0 fp,PE (X.blkC N2 y sc cl C s0 H0 fp) elt te)
    (I2:Inv X pins σ H2 s2) (T:Turn X.prog X.w X.K tg J fp it tn) (st2:tn 0 s2.heap) (f2:∀b∈fp,Zin X pins H2 b)
    (hw:∀D,H2 D=none→∃W:Nat→Nat→Hp→Prop,(∃m,W 0 m (upd H2 D (.lst [])))∧∀i m H,W i m H→
      (J.stop i H∧Q (.ref D) H)∨(J.go i H∧∃N:Hp→Prop,(∀H',N H'→∃m',m'<m∧W (i+1) m' H')∧∀x H',J.yld i H x H'→∀os:St,os.length=1→g x (σ++os) H' fun σ' Hg=>(∃os',os'.length=1∧σ'=σ++os')∧tc σ' Hg fun b H2 =>
        if b=true then te σ' H2 fun v H3=>∃ys,H3 D=some (.lst ys)∧ys.length<sizeLine∧N (upd H3 D (.lst (ys++[v])))
        else N H2))
    (fin:∀(D C:Addr) (H':Hp) (s':Shared) (m:Str→Option Value),Inv X pins σ H' s'→s'.heap.Ns C m→Zin X pins H' C→Q (.ref D) H'→RR (.ref D) C (.ok .next) s') :
    wpAny (model X.prog X.w) X.A (newList []) (fun acc s₃=>wpAny (model X.prog X.w) X.A (newFunctionEnv sc X.env.globals (Xz X.env.cells sc.names []) [] X.env.qual none .none (some X.env)) (fun cenv s₄ =>
      codeAny (model X.prog X.w) X.A (.compStart (.ListComp elt [⟨tg,iter,ifs,0⟩] sc pos) 0 (.ref it) acc {cenv with scope:=relabel sc X.env}) (RR acc cenv.locals) s₄) E s₃) E s2:=by
  refine wpAny_newObj_type (Zyh B.cell fun h₁ hns₁ hcc₁ hk₁=>?_)
  have hD:H2 s2.heap.objs.size=none:=I2.fresh
  obtain ⟨W,⟨m0,w0⟩,turn⟩:=hw _ hD
  have I3:Inv X pins σ (upd H2 s2.heap.objs.size (.lst [])) {s2 with heap:=s2.heap.push {cls:=.type "list",data:=.seq ([]:List Value).toArray}}:=I2.lnew (its:=[]) (t':=s2.toks) .nil (zero_le _)
  have fne:∀b∈fp,b<s2.heap.objs.size:=fun b hb=>by
    obtain ⟨o,ho,_⟩:=T.obj _ _ st2 b hb
    exact lt_size ho
  generalize hs3:({s2 with heap:=s2.heap.push {cls:=.type "list",data:=.seq ([]:List Value).toArray}}:Shared)=s3 at I3
  have hs3h:s3.heap=s2.heap.push {cls:=.type "list",data:=.seq ([]:List Value).toArray}:=by rw [← hs3]
  have f3:∀b∈fp,Zin X pins (upd H2 s2.heap.objs.size (.lst [])) b:=fun b hb=>⟨by rw [Xq (ne_of_lt (fne b hb))];exact (f2 b hb).1,(f2 b hb).2⟩
  have fl3:∀b∈fp,b<s3.heap.objs.size:=fun b hb=>by
    rw [hs3h,size_push]
    exact Nat.lt_succ_of_lt (fne b hb)
  have keep3:∀b o,s3.heap.get? b=some o→h₁.get? b=some o:=fun b o e=>by
    rw [hs3h] at e
    exact hk₁ b o e
  have hns3:h₁.Ns s3.heap.objs.size (fun _=>none):=by
    rw [hs3h]
    exact hns₁
  have hcc3:h₁.IsCell (s3.heap.objs.size+1) none:=by
    rw [hs3h]
    exact hcc₁
  have I4:=Zrk (sc:=sc) (s1:={s3 with heap:=h₁}) (tk:=s3.toks) B I3 f3 fl3 hns3 hcc3 (lt_succ_self _) keep3 rfl
  have st4:tn 0 h₁:=T.keep _ _ _ st2 fun b hb o e=>keep3 b o (by rw [hs3h];exact get?_push_of_some _ e)
  have stat:∀{H':Hp},(∀b∈fp,H' b=none)→∀b∈fp,Zin (X.blkC N2 y sc ((y,s3.heap.objs.size+1)::Xz X.env.cells sc.names []) s3.heap.objs.size s3 (upd H2 s2.heap.objs.size (.lst [])) fp) [] H' b:=fun hn b hb =>
    ⟨hn b hb,(I4.ok.exf b hb).1,I4.ok.exfs b hb,.inl hb,(I4.ok.exf b hb).2,fun p hp=>absurd (show p∈([]:List (Addr×Obj)) from hp) (by simp)⟩
  have loop:∀s4:Shared,s4={s3 with heap:=h₁}→
      codeAny (model X.prog X.w) X.A (.compLoop (.ListComp elt [⟨tg,iter,ifs,0⟩] sc pos) 0 (.ref it) (.ref s2.heap.objs.size) (compEnvC sc ((y,s3.heap.objs.size+1)::Xz X.env.cells sc.names []) s3.heap.objs.size X.env)) (RR (.ref s2.heap.objs.size) s3.heap.objs.size) s4:=by
    rintro s4 rfl
    refine Zjg (fun n s'=>∃(i:Nat) (o:St) (H':Hp),o.length=1∧Inv (X.blkC N2 y sc ((y,s3.heap.objs.size+1)::Xz X.env.cells sc.names []) s3.heap.objs.size s3 (upd H2 s2.heap.objs.size (.lst [])) fp) [] (σ++o) H' s'∧tn i s'.heap∧(∀b∈fp,H' b=none)∧W i n H') ?_ m0
      ⟨0,[none],_,by simp,I4,st4,fun b hb=>(f3 b hb).1,w0⟩
    rintro n s5 ⟨i,o,H5,ol5,I5,st5,fr5,w5⟩
    rcases turn i n H5 w5 with ⟨stop,qn⟩ | ⟨go,N,hN,step⟩
    · refine thn (T.done (X.blkC N2 y sc ((y,s3.heap.objs.size+1)::Xz X.env.cells sc.names []) s3.heap.objs.size s3 (upd H2 s2.heap.objs.size (.lst [])) fp) rfl rfl rfl hc i [] s5 (σ++o) H5 _ I5 (stat fr5) st5 stop) fun r s6 ⟨hr,I6⟩=>?_
      subst hr
      obtain ⟨m6,hn6,_⟩:=I6.loc
      refine fin _ _ H5 s6 m6 ?_ hn6 (I3.fpOk (le_refl _) I6.free) qn
      exact I3.call' (ch:=fp) I6.os I6.base I6.hok I6.bare fun b hb=>⟨(f3 b hb).2.2.2.1,(f3 b hb).2.1,(f3 b hb).2.2.2.2.1,(f3 b hb).2.2.2.2.2⟩
    · refine thn (T.item (X.blkC N2 y sc ((y,s3.heap.objs.size+1)::Xz X.env.cells sc.names []) s3.heap.objs.size s3 (upd H2 s2.heap.objs.size (.lst [])) fp) rfl rfl rfl hc i [] s5 (σ++o) H5 _ I5 (stat fr5) st5 go) fun r s6 ⟨u,hr,h6⟩=>?_
      subst hr
      refine thn h6 fun _ s7 hz9=>?_
      obtain ⟨v,H7,I7,r7,y7,st7,fr7⟩:=hz9
      have I7':=I7.pinned (stat fr7) (T.obj _ _ st7)
      refine thn (hg _ _ _ _ _ _ s7 _ H7 v u _ I7' r7 (step v H7 y7 o ol5)) fun _ s8 ⟨σ8,H8,I8,⟨os',ol8,e8⟩,q8⟩=>?_
      subst e8
      have again:∀{H9:Hp} {s9:Shared},Inv (X.blkC N2 y sc ((y,s3.heap.objs.size+1)::Xz X.env.cells sc.names []) s3.heap.objs.size s3 (upd H2 s2.heap.objs.size (.lst [])) fp) ([]++Zix fp s7.heap) (σ++os') H9 s9→N H9→
          ∃m,m<n∧∃(i:Nat) (o:St) (H':Hp),o.length=1∧Inv (X.blkC N2 y sc ((y,s3.heap.objs.size+1)::Xz X.env.cells sc.names []) s3.heap.objs.size s3 (upd H2 s2.heap.objs.size (.lst [])) fp) [] (σ++o) H' s9∧tn i s9.heap∧(∀b∈fp,H' b=none)∧W i m H':=fun {H9 s9} I9 n9=>by
        obtain ⟨m',hm,w9⟩:=hN H9 n9
        refine ⟨m',hm,i+1,os',H9,ol8,I9.unpinned,T.keep _ _ _ st7 fun b hb o e=>(I9.pin (b,o) (mem_append_right _ (mem_append_right _ (Zbf hb e)))).1,fun b hb=>?_,w9⟩
        obtain ⟨o,e,d⟩:=T.obj _ _ st7 b hb
        exact (I9.pin (b,o) (mem_append_right _ (mem_append_right _ (Zbf hb e)))).2.1
      refine thn (ht _ _ _ _ _ _ s8 _ H8 _ I8 q8) fun ok s9 ⟨H9,I9,q9⟩=>?_
      cases ok with
      | false =>
        rw [if_neg Bool.false_ne_true] at q9 ⊢
        exact again I9 q9
      | true =>
        rw [if_pos rfl] at q9 ⊢
        refine thn (he _ _ _ _ _ _ s9 _ H9 _ I9 q9) fun ue s10 hz9=>?_
        obtain ⟨ve,H10,I10,r10,ys,hy,hz,q10⟩:=hz9
        refine thn (Zfh _ s10 _ H10 (.ref s2.heap.objs.size) [ve] (.ref s2.heap.objs.size) [ue] (fun _ H'=>N H') I10 rfl (.cons r10 .nil) ⟨_,ys,ve,rfl,rfl,hy,hz,q10⟩) fun _ s11 hz9=>?_
        obtain ⟨_,H11,I11,_,q11⟩:=hz9
        exact again I11 q11
  have fin':codeAny (model X.prog X.w) X.A (.compStart (.ListComp elt [⟨tg,iter,ifs,0⟩] sc pos) 0 (.ref it) (.ref s2.heap.objs.size) (compEnvC sc ((y,s3.heap.objs.size+1)::Xz X.env.cells sc.names []) s3.heap.objs.size X.env)) (RR (.ref s2.heap.objs.size) s3.heap.objs.size) {s3 with heap:=h₁}:=
    codeAny_compStart_list (loop _ rfl) (T.self _ 0 _ _ _ st4 (loop _ rfl))
  exact fin'
theorem Zyb (hc:X.calm=true)(B:BlkC sc X.env.scope y X.N N2)(hi:PI X tg iter wi)(hg:∀cl C s0 H0 fp,PG (X.blkC N2 y sc cl C s0 H0 fp) tg g)(ht:∀cl C s0 H0 fp,PIf (X.blkC N2 y sc cl C s0 H0 fp) ifs tc)(he:∀cl C s0 H0 fp,PE (X.blkC N2 y sc cl C s0 H0 fp) elt te)
  (hs:∀v,foldedSetIterable iter X.env v=pure v:=by intro _;rfl):PE X (.ListComp elt [⟨tg,iter,ifs,0⟩] sc pos) (Zcr 1 g wi tc te):=by
 intro pins s σ H Q I h
 rw [eval_ListComp]
 have hcl:∀y∈sc.names,y.2=.free→∃c,X.env.cells.lookup y.1=some c:=fun y hy hf=>I.ok.has y.1 (B.free y hy hf)
 refine wpAny_comprehension_free (use:=none) rfl hs (Zcb hcl) B.kind B.loc (thn (hi pins s σ H _ I h) fun v s1 h1=>thn h1 fun itv s2 h2=>?_)
 obtain ⟨it,fp,tn,J,H2,e,I2,T,st2,f2,hw⟩:=h2
 subst e
 refine Xao (RR:=fun acc C=>compPost (model X.prog X.w) X.A X.xe none (EP X pins σ Q) acc C) hc B hg ht he I2 T st2 f2 hw ?_
 intro D C H' s' m I' hn hC q
 obtain ⟨c0,c1,c2,c3,c4,c5⟩:=hC
 refine ⟨m,hn,fun h'' hs''=>⟨.ref D,H',?_,rfl,q⟩⟩
 exact I'.turned (t':=s'.toks) (fun b o hb e=>hs''.extBut b o hb e) c0 c1 c3 c4 c5
end
end L2
namespace L2
open PySem PySem.Spec PyProof.Rows
open Dl (D R FE FT FA FO FS FI FB FM Fl)
noncomputable def scIn (sc esc:Scope):Scope:={sc with names:=sc.names.map fun (n,k)=>if (k==.free&&esc.kind==.function&&esc.names.lookup n==some .cell) then (n,.cell) else (n,k)}
section
variable {K:Frag}{C:String→Addr}{E:XK}{Γ Δ:List Nat}{S:List (Nat×Bool)}
theorem Xjj {H:Hp}{σ:St}{ρ:Yp}{A:Nat→List Addr}{H0 Hb:Hp}{n:Nat}{d1 d2:D}{v1 v2:V}{B1 B2:List Addr}(I:Xb K C H0 Hb H Γ Δ σ ρ A)(hn:ρ.length=n)(r1:Rp K C H d1 v1 B1)(r2:Rp K C H d2 v2 B2) :
  Xb K C H H H [] [] (σ++[some v1,some v2]) (ρ++[some d1,some d2]) (fun k=>if k=n then B1 else if k=n+1 then B2 else A k):=by
 have hσ:σ.length=n:=by rw [I.len,hn]
 have far:∀i,n≤i→(ρ++[some d1,some d2])[i]?=[some d1,some d2][i - n]?:=fun i hi=>by rw [getElem?_append_right (by omega),hn]
 have farσ:∀i,n≤i→(σ++[some v1,some v2])[i]?=[some v1,some v2][i - n]?:=fun i hi=>by rw [getElem?_append_right (by omega),hσ]
 refine ⟨fun _ _ h=>h,fun _ _ h=>h,by rw [length_append,length_append,I.len];rfl,fun i d h=>?_,fun i h=>?_,fun _ h=>(nomatch h),fun _ h=>(nomatch h),fun _ h=>(nomatch h)⟩
 ·by_cases hi:i<n
  ·rw [getElem?_append_left (by omega)] at h
   obtain ⟨v,e,r⟩:=I.rep i d h
   refine ⟨v,by rw [getElem?_append_left (by omega)];exact e,?_⟩
   show Rp K C H d v (if i=n then B1 else if i=n+1 then B2 else A i)
   rw [if_neg (by omega),if_neg (by omega)]
   exact r
  ·rw [far i (by omega)] at h
   rw [farσ i (by omega)]
   by_cases h0:i=n
   ·subst h0
    rw [sub_self] at h ⊢
    have e:d1=d:=by simpa using h
    subst e
    refine ⟨v1,rfl,?_⟩
    show Rp K C H d1 v1 (if i=i then B1 else _)
    rw [if_pos rfl]
    exact r1
   ·by_cases h1:i=n+1
    ·subst h1
     rw [show n+1 - n=1 by omega] at h ⊢
     have e:d2=d:=by simpa using h
     subst e
     refine ⟨v2,rfl,?_⟩
     show Rp K C H d2 v2 (if n+1=n then B1 else if n+1=n+1 then B2 else _)
     rw [if_neg (by omega),if_pos rfl]
     exact r2
    ·rw [getElem?_eq_none (by simp only [length_cons,length_nil];omega)] at h
     cases h
 ·show (if i=n then B1 else if i=n+1 then B2 else A i)=[]
  by_cases hi:i<n
  ·rw [if_neg (by omega),if_neg (by omega)]
   exact I.nil i fun d z=>h d (by rw [getElem?_append_left (by omega)];exact z)
  ·by_cases h0:i=n
   ·subst h0
    exact absurd (by rw [far i (le_refl _),sub_self];rfl) (h d1)
   ·by_cases h1:i=n+1
    ·subst h1
     exact absurd (by rw [far _ (le_succ _),show n+1 - n=1 by omega];rfl) (h d2)
    ·rw [if_neg h0,if_neg h1]
     exact I.nil i fun d z=>by
      rw [getElem?_eq_none (by omega)] at z
      cases z
theorem Xcx {H0 Hb H:Hp}{σ:St}{ρ:Yp}{A:Nat→List Addr}(I:Xb K C H0 Hb H Γ Δ σ ρ A)(j:Nat):∀a∈A j,H a≠Option.none:=fun a ha z=>by
 by_cases h:∃d,ρ[j]?=some (some d)
 ·obtain ⟨d,hd⟩:=h
  obtain ⟨v,_,r⟩:=I.rep j d hd
  obtain ⟨o,e,_⟩:=r.isl a ha
  rw [z] at e
  cases e
 ·rw [I.nil j fun d hd=>h ⟨d,hd⟩] at ha
  cases ha
theorem Zwk {n j:Nat}{wi:TI}{tc:TT}{te:TE}{fi:FI}{fc:FT}{fe:FE}(hj:j<n)(hi:IOk K C E Γ Δ S wi fi)(hc:TOk K C E0 [] [] tc fc)(he:EOk K C E0 [] [] 0 [(j,false)] te fe) :
    EOk K C E Γ Δ 1 [(j,false)] (Zcr 2 (Zfm K 2 (Zfa (Jp n) (Zfa (Jp (n+1)) Zwb))) wi tc te) (Dl.Yy n 2 fi (Dl.Zcx (Dl.Xn (Dl.Zp n) (Dl.Xn (Dl.Zp (n+1)) Dl.Zcv))) fc fe):=fun H0 Hb H σ ρ A Q I p=>by
  unfold Dl.Yy at p
  split at p
  · rename_i hn
    refine hi H0 Hb H σ ρ A _ I (p.bind.imp (fun ds q J H1 W g1 hW hlen hJ Dd hD=>?_) fun c x q H' g'=>q H' g')
    have I1:=I.mono g1
    have hσ:σ.length=n:=by rw [I.len];exact hn
    have go:Goes K C J ds H1:=hJ H1 ⟨fun _ _=>rfl,fun b o h _=>h⟩
    have q':=Zcl q.bind
    have hAj:∀a∈A j,H1 a≠none:=Xcx I1 j
    refine Zqx go (fun i H2=>Xw H1 H2∧∃(us:List D) (ys:List V) (B':List Addr),H2 Dd=some (.lst ys)∧us.length≤i∧RpA K C H2 us ys B'∧Dd∉B'∧(∀a∈B',H1 a=none∨a∈A j)∧
      Yd (Dl.Yv 2 (Dl.Zcx (Dl.Xn (Dl.Zp n) (Dl.Xn (Dl.Zp (n+1)) Dl.Zcv))) fc fe ρ (ds.drop i)) (fun zs=>∀v H',Xw H H'→Res K C 1 [(j,false)] H A (.lst (us++zs)) v H'→Q v H') (fun _ _=>False)) ⟨sameNew hD _,[],[],[],Ya,le_refl _,RpA.nil,(fun h=>nomatch h),(fun _ h=>nomatch h),q'⟩ (fun _ _ h=>h.1) ?_ ?_
    · rintro i x v Bx H2a H2 hx ⟨g2a,us,ys,B',hD2,hul,ru,hDB,hnew,pq⟩ g2b rx _ os hos
      have g2:=g2a.trans g2b
      have hil:=(List.getElem?_eq_some_iff.mp hx).1
      rw [Ziz _ _ _ _ _ _ hx] at pq
      have pq1:=Zcl pq.bind
      cases x with
      | tup es =>
        match es,pq1 with
        | [],z=>exact z.elim
        | [_],z=>exact z.elim
        | [d1,d2],pq2 =>
          obtain ⟨b,vs,rfl,hb,r2⟩:=rx
          obtain ⟨v1,l1,B1,B2,e1,r1,r3,e4⟩:=r2
          obtain ⟨v2,l2,B3,B4,e5,r4,r5,e6⟩:=r3
          obtain ⟨e7,e8⟩:=r5
          subst e1 e5 e7
          have pq3:Yd ((R.ok (((ρ++List.replicate 2 none).set n (some d1)).set (n+1) (some d2)):R Dl.Env)) _ _:=pq2
          have pq4:=pq3
          rw [Zyc hn] at pq4
          have I2:=Xjj (I1.mono g2) hn r1 r4
          refine ⟨b,[v1,v2],rfl,SqT.of hb,rfl,v1,[v2],rfl,v2,[],rfl,rfl,?_⟩
          show (∃os',os'.length=2∧((σ++os).set n (some v1)).set (n+1) (some v2)=σ++os')∧_
          rw [Xhj hσ hos]
          refine ⟨⟨_,rfl,rfl⟩,?_⟩
          have pq5:Yd ((fc (ρ++[some d1,some d2])).bind fun t=>if t then (fe (ρ++[some d1,some d2])).bind fun y=>(Dl.Yv 2 (Dl.Zcx (Dl.Xn (Dl.Zp n) (Dl.Xn (Dl.Zp (n+1)) Dl.Zcv))) fc fe ρ (ds.drop (i+1))).bind fun ys=>.ok (y::ys) else Dl.Yv 2 (Dl.Zcx (Dl.Xn (Dl.Zp n) (Dl.Xn (Dl.Zp (n+1)) Dl.Zcv))) fc fe ρ (ds.drop (i+1))) _ _:=pq4
          have hD2':=g2b _ _ hD2
          have ru':=ru.same g2b
          refine hc _ _ _ _ _ _ _ I2 (pq5.bind.imp (fun t pq H3 g3=>?_) fun _ _ z=>z.elim)
          cases t with
          | false =>
            simp only [Bool.false_eq_true,if_false] at pq ⊢
            exact ⟨g2.trans g3,us,ys,B',g3 _ _ hD2',by omega,ru'.same g3,hDB,hnew,pq⟩
          | true =>
            simp only [if_true] at pq ⊢
            refine he _ _ H3 _ _ _ _ (I2.mono g3) (pq.bind.imp (fun y pq w H4 g4 r=>?_) fun _ _ z=>z.elim)
            obtain ⟨By,ry,hy1,_,_⟩:=r
            have g24:=g3.trans g4
            have hD3:=g3 _ _ hD2'
            have hD4:=g24 _ _ hD2'
            have hnewy:∀a∈By,H3 a=none∨a∈A j:=fun a ha=>(hy1 a ha).imp id fun z=>by
              obtain ⟨p,hp,z⟩:=z
              rw [List.mem_singleton.mp hp,if_neg Bool.false_ne_true] at z
              have z:a∈(if j=n then B1 else if j=n+1 then B3 else A j):=z
              rwa [if_neg (by omega),if_neg (by omega)] at z
            have hDy:Dd∉By:=fun h=>by
              rcases hnewy Dd h with z | z
              · rw [hD3] at z
                cases z
              · exact hAj _ z hD
            have ext:Ext (fun a=>a=Dd) H4 (upd H4 Dd (.lst (ys++[w]))):=fun b o h=>by
              by_cases e:b=Dd
              · subst e
                rw [hD4] at h
                cases h
                exact .inr ⟨rfl,.lst⟩
              · rw [Xq e]
                exact .inl h
            have hDB':Dd∉B'++By:=fun h=>(List.mem_append.mp h).elim hDB hDy
            refine ⟨ys,hD4,?_,?_,us++[y],ys++[w],B'++By,Ya,by rw [length_append];simp only [length_cons,length_nil];omega,?_,hDB',?_,?_⟩
            · rw [ru.len]
              exact Zhl (by omega)
            · intro b o h
              have hb:b≠Dd:=Xj h hD
              rw [Xq hb]
              exact (g2.trans g24) b o h
            · exact ((ru'.same g24).app (RpA.one ry)).ext ext fun a ha h=>hDB' (by rw [h] at ha;exact ha)
            · intro a ha
              rcases List.mem_append.mp ha with h | h
              · exact hnew a h
              · exact (hnewy a h).imp (fun z=>(g2.trans g3).free z) id
            · exact pq.bind.imp (fun zs pq v H' g' r=>by
                rw [append_assoc] at r
                exact pq v H' g' r) fun _ _ z=>z
        | _::_::_::_,z=>exact z.elim
      | _=>exact pq1.elim
    · rintro H2 ⟨g2,us,ys,B',hD2,hul,ru,hDB,hnew,pq⟩
      rw [List.drop_length] at pq
      have pq:∀v H',Xw H H'→Res K C 1 [(j,false)] H A (.lst (us++[])) v H'→Q v H':=pq
      rw [append_nil] at pq
      refine pq _ H2 (g1.trans g2) ⟨Dd::B',⟨Dd,ys,B',rfl,hD2,ru,rfl⟩,fun a ha=>?_,fun _ a r e=>?_,fun z=>by omega⟩
      · rcases List.mem_cons.mp ha with h | h
        · exact .inl (by rw [h];exact g1.free hD)
        · exact (hnew a h).imp (fun z=>g1.free z) fun z=>⟨(j,false),.head _,by rw [if_neg Bool.false_ne_true];exact z⟩
      · cases e
        exact ⟨g1.free hD,hDB⟩
  · exact p.elim
end
section
variable {X:Cx}{C:String→Addr}{E:XK}{mr:Nat}{Γ Δ Γ' Δ' Γl Δl:List Nat}{S:List (Nat×Bool)}{n:Nat}{pos:Pos}{elt iter:Expr}{ifs:List Expr}{sc:Scope}{wi:TI}{tc:TT}{te:TE}{gg:TG}{fi:FI}{fc:FT}{fg:FB}{fe:FE}
theorem Xbb {yp:Pos}(esc:Scope)(N N2:List Str)(y:Str)(B:BlkC sc esc y N N2)(hi:JI X C E Γ Δ S (.Name y yp) iter wi fi)(hg:∀cl C' s0 H0 fp,JB (X.blkC N2 y sc cl C' s0 H0 fp) C n 1 (.Name y yp) gg fg)(ht:∀cl C' s0 H0 fp,JIf (X.blkC N2 y sc cl C' s0 H0 fp) C E0 [] [] ifs tc fc)(he:∀cl C' s0 H0 fp,JE (X.blkC N2 y sc cl C' s0 H0 fp) C E0 [] [] 2 [] elt te fe)
  (hesc:X.env.scope=esc:=by rfl) (hN:X.N=N:=by rfl) (hc:X.calm=true:=by rfl) (hs:∀v,foldedSetIterable iter X.env v=pure v:=by intro _;rfl):JE X C E Γ Δ 2 [] (.ListComp elt [⟨.Name y yp,iter,ifs,0⟩] sc pos) (Zcr 1 gg wi tc te) (Dl.Yy n 1 fi fg fc fe):=by
 subst hesc hN
 exact ⟨⟨Zyb hc B hi.q.out (fun cl C' s0 H0 fp=>(hg cl C' s0 H0 fp).q.out) (fun cl C' s0 H0 fp=>(ht cl C' s0 H0 fp).q.out) (fun cl C' s0 H0 fp=>(he cl C' s0 H0 fp).q.out) hs⟩,Zkq hi.o (hg [] 0 X.s₀ X.H₀ []).o (ht [] 0 X.s₀ X.H₀ []).o (he [] 0 X.s₀ X.H₀ []).o⟩
theorem Ztu {y0:Str}{N0:List Str}{sc0:Scope}{cl0:List (Str×Addr)}{C0:Addr}{s00:Shared}{H00:Hp}{fp0:List Addr}{tg:Expr}(esc0:Scope)(N N2 xs:List Str)(B:Zxy sc (scIn sc0 esc0) xs N N2)
  (hi:JI (X.blkC N0 y0 sc0 cl0 C0 s00 H00 fp0) C E Γ Δ S tg iter wi fi) (hg:∀cl C' s0 H0 fp,JB ((X.blkC N0 y0 sc0 cl0 C0 s00 H00 fp0).blkN N2 xs sc cl C' s0 H0 fp) C n xs.length tg gg fg) (ht:∀cl C' s0 H0 fp,JIf ((X.blkC N0 y0 sc0 cl0 C0 s00 H00 fp0).blkN N2 xs sc cl C' s0 H0 fp) C E0 [] [] ifs tc fc) (he:∀cl C' s0 H0 fp,JE ((X.blkC N0 y0 sc0 cl0 C0 s00 H00 fp0).blkN N2 xs sc cl C' s0 H0 fp) C E0 [] [] 2 [] elt te fe)
  (hesc:X.env.scope=esc0:=by rfl) (hN:N0++[y0]=N:=by rfl) (hc:X.calm=true:=by rfl) (hs:∀v,foldedSetIterable iter (X.blkC N0 y0 sc0 cl0 C0 s00 H00 fp0).env v=pure v:=by intro _;rfl):JE (X.blkC N0 y0 sc0 cl0 C0 s00 H00 fp0) C E Γ Δ 2 [] (.ListComp elt [⟨tg,iter,ifs,0⟩] sc pos) (Zcr xs.length gg wi tc te) (Dl.Yy n xs.length fi fg fc fe):=by
 subst hesc hN
 exact Jd (X:=X.blkC N0 y0 sc0 cl0 C0 s00 H00 fp0) (scIn sc0 X.env.scope) (N0++[y0]) N2 xs B hi hg ht he rfl rfl hc hs
theorem Zzo {x:Str}{y z:Str}{tp1 tp2 tp3 py spos:Pos}{tk i:Nat}(j:Nat)(esc:Scope)(N N2:List Str)(B:Zxy sc esc [y,z] N N2)(hy:N[i]?=some x)(hl:esc.names.lookup x=some .local)(hj:j<n)(hi:JI X C E Γ Δ S (.Tuple [.Name y tp1,.Name z tp2] tk tp3) iter wi fi)
  (hg:∀cl C' s0 H0 fp,JB (X.blkN N2 [y,z] sc cl C' s0 H0 fp) C n 2 (.Tuple [.Name y tp1,.Name z tp2] tk tp3) (Zfm X.K 2 (Zfa (Jp n) (Zfa (Jp (n+1)) Zwb))) (Dl.Zcx (Dl.Xn (Dl.Zp n) (Dl.Xn (Dl.Zp (n+1)) Dl.Zcv))))
  (ht:∀cl C' s0 H0 fp,JIf (X.blkN N2 [y,z] sc cl C' s0 H0 fp) C E0 [] [] ifs tc fc) (he:∀cl C' s0 H0 fp,JE (X.blkN N2 [y,z] sc cl C' s0 H0 fp) C E0 [] [] 0 [(j,false)] elt te fe)
  (hesc:X.env.scope=esc:=by rfl) (hN:X.N=N:=by rfl) (hc:X.calm=true:=by rfl) (hsw:swapsWith (.ListComp elt [⟨.Tuple [.Name y tp1,.Name z tp2] tk tp3,iter,ifs,0⟩] sc pos) (some (.Name x py)) spos.line X.env=pure true:=by rfl) (hs:∀v,foldedSetIterable iter X.env v=pure v:=by intro _;rfl)
  (h0:∀p∈[(j,false)],p.1∈Γ:=by decide) (h1:∀k∈Γ',k=i∨(k∈Γ∧(k,false)∉[(j,false)]):=by decide) (h2:∀k∈Δ',k≠i∧k∈Δ∧∀p∈[(j,false)],p.1≠k:=by decide) :
  JS X C E mr Γl Δl Γ Δ Γ' Δ' (.Assign [.Name x py] (.ListComp elt [⟨.Tuple [.Name y tp1,.Name z tp2] tk tp3,iter,ifs,0⟩] sc pos) spos) (Zgg (Zcr 2 (Zfm X.K 2 (Zfa (Jp n) (Zfa (Jp (n+1)) Zwb))) wi tc te) (Jp i)) (Dl.Yr i (Dl.Yy n 2 fi (Dl.Zcx (Dl.Xn (Dl.Zp n) (Dl.Xn (Dl.Zp (n+1)) Dl.Zcv))) fc fe)):=by
 subst hesc hN
 exact ⟨Zps _ _ N2 [y,z] B hy hl hi.q (fun cl C' s0 H0 fp=>(hg cl C' s0 H0 fp).q) (fun cl C' s0 H0 fp=>(ht cl C' s0 H0 fp).q) (fun cl C' s0 H0 fp=>(he cl C' s0 H0 fp).q) rfl rfl hc hsw hs,Zpq (Zwk hj hi.o (ht [] 0 X.s₀ X.H₀ []).o (he [] 0 X.s₀ X.H₀ []).o) h0 h1 h2⟩
end
end L2
namespace Dl
open PySem
noncomputable def Zre:FS:=
  (Xu (sIf (cOr (cE (f2 gLt (fV 1) (fC (.int 0)))) (cOr (cE (f2 gGt (fV 2) (fA Zap (Zc (fV 0) Zt)))) (cE (f2 gGt (fV 1) (fV 2))))) Zrb sNx)
    (Zad (fA Zid (Zc (fSl gSl (fV 0) (Zfr (fV 1)) (Zfr (fV 2))) Zt))))
noncomputable def Zdp (ds:List D):R D:=(run 3 Zre ds).calm
noncomputable def Zyv:FS:=
 (Zad (f1 Zwa (fV 0)))
noncomputable def Zeo (ds:List D):R D:=(run 1 Zyv ds).calm
noncomputable def Zev:FS:=
 (Yr 2 (f2 Zhe (f2 Jn (f2 Jn (f2 Zbo (fV 2) (fC (.int 48271))) (f2 Zhe (fV 3) (fC (.int 1000003)))) (fC (.int 1))) (fC (.int 2147483647))))
noncomputable def Zoj:FS:=
  (Xu (sIf (cE (f2 gLt (fV 1) (fA Zap (Zc (fV 0) Zt)))) (Zad (f1 Xt (f2 gIx (fV 0) (fV 1)))) sNx)
    (Xu (Yr 2 (fC (.int 5)))
    (Xu (Znv (Zbk (fSl gSl (fV 0) Zmz (Zfr (fC (.int 63))))) (Zp 3) Zev)
    (Zad (f2 Zhe (f2 Jn (fV 2) (f2 Zbo (fC (.int 7919)) (fV 1))) (fC (.int 1000003)))))))
noncomputable def Zan (ds:List D):R D:=(run 4 Zoj ds).calm
noncomputable def Zsj:FS:=
  (Xu (Yr 2 (f2 Zhe (f2 Zir (f2 Jn (f2 Jn (f2 Zhe (fV 0) (fC (.int 2147483629))) (f2 Zbo (fC (.int 1013)) (fV 1))) (fC (.int 7919))) (fC (.int 3))) (fC (.int 2147483647))))
    (Xu (Yr 3 (f2 Zhe (f2 Jn (f2 Jn (f2 Zbo (fV 2) (fC (.int 40699))) (f2 Zbo (f2 Zbo (fC (.int 3793)) (fV 1)) (fV 1))) (fC (.int 11))) (fC (.int 2147483399))))
    (Zad (f2 Xjy (fV 3) (fC (.int 101))))))
noncomputable def Zbe (ds:List D):R D:=(run 4 Zsj ds).calm
noncomputable def Zji:FS:=
 (Zad (fA Zid (Zc (Yy 2 2 (Zsn (fV 0) (fV 1)) (Zcx (Xn (Zp 2) (Xn (Zp 3) Zcv))) Zbg (f2 Zbo (fV 2) (fV 3))) Zt)))
noncomputable def Yl (ds:List D):R D:=(run 2 Zji ds).calm
noncomputable def Znf:FS:=
 (Zad (Yy 2 2 (Zsn (fV 0) (fV 1)) (Zcx (Xn (Zp 2) (Xn (Zp 3) Zcv))) (cE (f2 gGt (fV 3) (fC (.int 0)))) (fA Zfm (Zc (f1 Xt (f2 gIx (fV 2) (fC (.int 0)))) (Zc (f1 Xt (f2 gIx (fV 2) (fC (.int 1)))) (Zc (f1 Xt (fV 3)) (Zc (f1 Xt (f2 gIx (fV 2) (fC (.int 3)))) Zt)))))))
noncomputable def Yw (ds:List D):R D:=(run 2 Znf ds).calm
noncomputable def Zdo:FS:=
 (sIf (cE (f2 gGe (fA Zid (Zc (fSl gSl (fV 2) Zmz (Zfr (fV 3))) Zt)) (fV 1))) (Zad (f1 Xt (fV 3))) sNx)
noncomputable def Zjy:FS:=
  (Xu (Yr 2 (fA Zjf (Zc (fV 0) Zt)))
    (Xu (Znv (Zds (Zc (f2 Jn (fA Zap (Zc (fV 0) Zt)) (fC (.int 1))) Zt)) (Zp 3) Zdo)
    (Zad (f2 Jn (fA Zap (Zc (fV 0) Zt)) (fC (.int 1))))))
noncomputable def Zbc (ds:List D):R D:=(run 4 Zjy ds).calm
noncomputable def Zkg:FS:=
 (Zad (Yy 2 2 (Zsn (fV 0) (fV 1)) (Zcx (Xn (Zp 2) (Xn (Zp 3) Zcv))) Zbg (fIf (cE (f2 gGt (fV 2) (fC (.int 0)))) (f1 Xt (fV 3)) (fC (.int 0)))))
noncomputable def Yu (ds:List D):R D:=(run 2 Zkg ds).calm
noncomputable def Zlm:FS:=
 (Zad (Xfu (f2 gEq (fA Zap (Zc (fV 1) Zt)) (fA Zap (Zc (fV 0) Zt))) (fA Xed (Zc (Yy 2 1 (Zbk (fV 1)) (Zp 2) Zbg (Ziy gLe gLe (fC (.int 0)) (fV 2) (fC (.int 1000000000000000000)))) Zt))))
noncomputable def Zas (ds:List D):R D:=(run 2 Zlm ds).calm
noncomputable def Zah:FS:=
 (sIf (cE (f2 gGt (fV 6) (fC (.int 0)))) (Zis 4 (f2 Jn (f2 Jn (fSl gSl (fV 3) Zmz (Zfr (fV 5))) (fA Zau (Zc (f2 gIx (fV 2) (fV 5)) Zt))) (fSl gSl (fV 3) (Zfr (f2 Jn (fV 5) (fC (.int 1)))) Zmz))) sNx)
noncomputable def Zgy:FS:=
  (Xu (Yr 2 (Yy 7 1 (Zbk (fV 0)) (Zp 7) Zbg (f1 Xt (f2 gIx (fV 7) (fC (.int 2))))))
    (Xu (Yr 3 (Yy 7 2 (Zsn (fV 1) (fV 2)) (Zcx (Xn (Zp 7) (Xn (Zp 8) Zcv))) Zbg (fIf (cE (f2 gGt (fV 7) (fC (.int 0)))) (fC (.int 0)) (f1 Xt (fV 8)))))
    (Xu (Yr 4 (fA Zau (Zc (fV 3) Zt)))
    (Xu (Znv (Zrq (fV 1)) (Zcx (Xn (Zp 5) (Xn (Zp 6) Zcv))) Zah)
    (Xu (Zis 4 (fV 2))
    (Zad (fV 4)))))))
noncomputable def Yx (ds:List D):R D:=(run 7 Zgy ds).calm
noncomputable def Xos:FS:=
  (Xu (Yr 3 (f2 Jn (fV 2) (f2 gIx (fV 1) (fC (.int 1)))))
    (Xu (sIf (cOr (cE (f2 gLt (fV 2) (fC (.int 0)))) (cE (f2 gGt (fV 3) (fA Zap (Zc (fV 0) Zt))))) (Zad (fC (.bl false))) sNx)
    (Zad (f2 gLe (Zy Zdp (Zc (fV 0) (Zc (fV 2) (Zc (fV 3) Zt)))) (f2 gIx (fV 1) (fC (.int 3)))))))
noncomputable def Zgi (ds:List D):R D:=(run 4 Xos ds).calm
noncomputable def Zgp:FS:=
  (sIf (cE (f2 gLt (fV 3) (f2 Zir (fC (.int 10)) (fC (.int 18))))) (Zis 5 (f2 Zhe (Zy Zbe (Zc (fV 3) (Zc (fV 6) Zt))) (f2 gIx (fV 2) (fV 6)))) (sIf (cE (f2 gGt (fV 4) (fC (.int 0)))) (Xu (Zis 5 (f2 Zhe (fV 4) (f2 gIx (fV 2) (fV 6))))
    (Yr 4 (f2 Xjy (fV 4) (f2 gIx (fV 2) (fV 6))))) (Xu (Yr 7 (Zy Zan (Zc (fV 0) (Zc (f2 Zhe (f2 Jn (f2 Jn (fV 1) (fC (.int 1))) (fV 6)) (fC (.int 63))) Zt))))
    (Zis 5 (f2 Zhe (Zy Zbe (Zc (fV 7) (Zc (fV 6) Zt))) (f2 gIx (fV 2) (fV 6)))))))
noncomputable def Zrw:FS:=
  (Xu (Yr 3 (Zy Zan (Zc (fV 0) (Zc (fV 1) Zt))))
    (Xu (Yr 4 (f1 Xt (fV 3)))
    (Xu (Yr 5 (fA Zau Zt))
    (Xu (Znv (Zds (Zc (fA Zap (Zc (fV 2) Zt)) Zt)) (Zp 6) Zgp)
    (Zad (fV 5))))))
noncomputable def Yc (ds:List D):R D:=(run 8 Zrw ds).calm
noncomputable def Zxj:FS:=
 (Zad (Zy Yw (Zc (fV 0) (Zc (Yy 2 2 (Zsn (fV 0) (fV 1)) (Zcx (Xn (Zp 2) (Xn (Zp 3) Zcv))) Zbg (f2 Zkz (f2 gIx (fV 2) (fC (.int 2))) (fV 3))) Zt))))
noncomputable def Zak (ds:List D):R D:=(run 2 Zxj ds).calm
noncomputable def Zqq:FS:=
 (Zad (Yy 3 1 (Zbk (fV 1)) (Zp 3) (cE (Zy Zgi (Zc (fV 0) (Zc (fV 3) (Zc (f2 Zkz (fV 2) (f2 gIx (fV 3) (fC (.int 1)))) Zt))))) (f1 Xt (fV 3))))
noncomputable def Zco (ds:List D):R D:=(run 3 Zqq ds).calm
noncomputable def Zcc:FS:=
  (Xu (Yr 9 (f2 Jn (f2 Zbo (fC (.int 3)) (fV 8)) (fC (.int 6))))
    (Xu (Yr 10 (f1 Xt (f2 gIx (fA Zau (Zc (fC (.int 1)) (Zc (fC (.int 2)) (Zc (fC (.int 3)) (Zc (fC (.int 4)) (Zc (fC (.int 5)) (Zc (fC (.int 6)) (Zc (fC (.int 2)) (Zc (fC (.int 3)) (Zc (fC (.int 11)) (Zc (fC (.int 40)) (Zc (f2 gIx (fA Zau (Zc (fC (.int 150)) (Zc (fC (.int 200)) Zt))) (f2 Zhe (fV 8) (fC (.int 2)))) Zt)))))))))))) (f2 gIx (fV 4) (fV 9)))))
    (Xu (Yr 11 (f2 Jn (fC (.int 1)) (f2 gIx (fV 4) (f2 Jn (fV 9) (fC (.int 1))))))
    (Xu (sIf (cE (f2 gEq (f2 gIx (fV 4) (fC (.int 3))) (fC (.int 1)))) (Yr 11 (f2 Jn (f2 Zbo (fC (.int 3)) (fV 10)) (f2 Zhe (f2 gIx (fV 4) (f2 Jn (fV 9) (fC (.int 1)))) (fC (.int 4))))) sNx)
    (Xu (sIf (cE (f2 gEq (f2 gIx (fV 4) (fC (.int 3))) (fC (.int 2)))) (Yr 11 (f2 Jn (fC (.int 1)) (f2 Zhe (f2 gIx (fV 4) (f2 Jn (fV 9) (fC (.int 1)))) (fC (.int 3))))) sNx)
    (Xu (sIf (cE (f2 gEq (f2 gIx (fV 4) (fC (.int 3))) (fC (.int 3)))) (Yr 11 (f1 Xt (fV 10))) sNx)
    (Xu (Yr 12 (fA Xka (Zc (f2 Zbo (f2 gIx (fA Zau (Zc (fC (.int 0)) (Zc (fC (.int 0)) (Zc (fC (.int 1)) (Zc (fC (.int 2)) (Zc (fC (.int 3)) (Zc (fC (.int 12)) Zt))))))) (f2 gIx (fV 4) (f2 Jn (fV 9) (fC (.int 2))))) (fV 5)) (Zc (f2 Zkz (f2 Zir (fC (.int 10)) (fC (.int 18))) (fC (.int 1))) Zt))))
    (Xu (Yr 13 (f1 Xt (f2 gIx (fV 3) (f2 Zhe (f2 Jn (f2 gIx (fV 4) (fC (.int 4))) (f2 Zbo (f2 Jn (f2 Zbo (fC (.int 2)) (f2 gIx (fV 4) (fC (.int 5)))) (fC (.int 1))) (fV 8))) (fC (.int 16))))))
    (Zis 7 (fA Zfm (Zc (f1 Xt (fV 13)) (Zc (f1 Xt (fV 10)) (Zc (fA Xka (Zc (f2 Zbo (fV 11) (fV 6)) (Zc (f2 Zir (fC (.int 10)) (fC (.int 18))) Zt))) (Zc (f1 Xt (fV 12)) Zt))))))))))))))
noncomputable def Zlj:FS:=
  (Xu (Yr 3 (fA Zau (Zc (fC (.str ("a":Str))) (Zc (fC (.str ("ab":Str))) (Zc (fC (.str ("abc":Str))) (Zc (fC (.str ("b":Str))) (Zc (fC (.str ("ba":Str))) (Zc (fC (.str ("z":Str))) (Zc (fC (.str ("zzzzzzzz":Str))) (Zc (fC (.str ("roll":Str))) (Zc (fC (.str ("cut":Str))) (Zc (fC (.str ("by":Str))) Zt))))))))))))
    (Xu (Yr 3 (f2 Jn (fV 3) (fA Zau (Zc (fC (.str ("aab":Str))) (Zc (fC (.str ("zz":Str))) (Zc (fC (.str ("kind":Str))) (Zc (fC (.str ("qsvw":Str))) (Zc (fC (.str ("fghjmp":Str))) (Zc (fC (.str ("x":Str))) Zt)))))))))
    (Xu (Yr 4 (Zy Yc (Zc (fV 0) (Zc (fV 1) (Zc (f2 Jn (fA Zau (Zc (f2 Jn (fV 2) (fC (.int 1))) (Zc (fC (.int 4)) (Zc (fC (.int 4)) (Zc (fC (.int 4)) (Zc (fC (.int 16)) (Zc (fC (.int 4)) Zt))))))) (f2 Zbo (fA Zau (Zc (fC (.int 11)) (Zc (fC (.int 40)) (Zc (fC (.int 6)) Zt)))) (fV 2))) Zt)))))
    (Xu (Yr 5 (f1 Xt (f2 gIx (fA Zau (Zc (fC (.int 1)) (Zc (fC (.int 1)) (Zc (fC (.int 7)) (Zc (f2 Zir (fC (.int 10)) (fC (.int 17))) Zt))))) (f2 gIx (fV 4) (fC (.int 1))))))
    (Xu (Yr 6 (f1 Xt (f2 gIx (fA Zau (Zc (fC (.int 1)) (Zc (fC (.int 1)) (Zc (f2 Zir (fC (.int 10)) (fC (.int 6))) (Zc (f2 Zbo (fC (.int 25)) (f2 Zir (fC (.int 10)) (fC (.int 15)))) Zt))))) (f2 gIx (fV 4) (fC (.int 2))))))
    (Xu (Yr 7 (fA Zau Zt))
    (Xu (Znv (Zds (Zc (f2 gIx (fV 4) (fC (.int 0))) Zt)) (Zp 8) Zcc)
    (Zad (fV 7)))))))))
noncomputable def Zat (ds:List D):R D:=(run 14 Zlj ds).calm
noncomputable def Zow:FS:=
 (Zad (f1 Xt (f2 gIx (fA Zau (Zc (fC (.int 1)) (Zc (fC (.int 1)) (Zc (fC (.int 7)) (Zc (f2 Zir (fC (.int 10)) (fC (.int 17))) Zt))))) (f2 gIx (Zy Yc (Zc (fV 0) (Zc (fV 1) (Zc (fA Zau (Zc (f2 Jn (fV 2) (fC (.int 1))) (Zc (fC (.int 4)) Zt))) Zt)))) (fC (.int 1))))))
noncomputable def Zbj (ds:List D):R D:=(run 3 Zow ds).calm
noncomputable def Zel:FS:=
  (Xu (Yr 8 (f2 Jn (f2 Zbo (fC (.int 2)) (fV 7)) (fC (.int 3))))
    (Xu (Yr 9 (fC (.int 0)))
    (Xu (sIf (cE (f2 gLt (f2 gIx (fV 4) (fV 8)) (f2 gIx (fA Zau (Zc (fC (.int 0)) (Zc (fC (.int 1)) (Zc (fC (.int 3)) (Zc (fC (.int 6)) Zt))))) (f2 gIx (fV 4) (fC (.int 1)))))) (Yr 9 (f1 Xt (f2 gIx (fA Zau (Zc (fV 3) (Zc (fV 3) (Zc (f2 Zbo (fC (.int 2)) (fV 3)) (Zc (f2 Zbo (fC (.int 3)) (fV 3)) (Zc (fV 5) Zt)))))) (f2 gIx (fV 4) (f2 Jn (fV 8) (fC (.int 1))))))) sNx)
    (Zis 6 (f1 Xt (fV 9))))))
noncomputable def Znz:FS:=
  (Xu (Yr 4 (Zy Yc (Zc (fV 0) (Zc (fV 1) (Zc (f2 Jn (fA Zau (Zc (f2 Jn (fV 2) (fC (.int 1))) (Zc (fC (.int 4)) (Zc (fC (.int 3)) Zt)))) (f2 Zbo (fA Zau (Zc (fC (.int 8)) (Zc (fC (.int 5)) Zt))) (fV 2))) Zt)))))
    (Xu (Yr 5 (f2 Zbo (fC (.int 9)) (fV 3)))
    (Xu (sIf (cE (f2 gEq (f2 gIx (fV 4) (fC (.int 2))) (fC (.int 0)))) (Yr 5 (f2 Zir (fC (.int 10)) (fC (.int 18)))) sNx)
    (Xu (Yr 6 (fA Zau Zt))
    (Xu (Znv (Zds (Zc (f2 gIx (fV 4) (fC (.int 0))) Zt)) (Zp 7) Zel)
    (Zad (fV 6)))))))
noncomputable def Zab (ds:List D):R D:=(run 10 Znz ds).calm
noncomputable def Zpc:FS:=
 (Zad (Xfu (Zy Zgi (Zc (fV 0) (Zc (fV 1) (Zc (fV 3) Zt)))) (f2 gLt (fA Zid (Zc (fSl gSl (fV 2) (Zfr (fV 3)) (Zfr (f2 Jn (fV 3) (f2 gIx (fV 1) (fC (.int 1)))))) Zt)) (f2 gIx (fV 1) (fC (.int 2))))))
noncomputable def Zaq (ds:List D):R D:=(run 4 Zpc ds).calm
noncomputable def Jb:FS:=
  (Xu (Yr 7 (f1 Xt (f2 gIx (fV 4) (f2 Jn (f2 Zbo (fC (.int 2)) (fV 6)) (fC (.int 1))))))
    (Xu (sIf (cOr (cE (f2 gEq (f2 gIx (fV 4) (f2 Jn (f2 Zbo (fC (.int 2)) (fV 6)) (fC (.int 2)))) (fC (.int 0)))) (Zxz (cE (f2 gEq (f2 gIx (fV 4) (fC (.int 0))) (fC (.int 0)))) (cE (f2 gGt (fV 6) (fC (.int 1)))))) (Yr 7 (fC (.int 0))) sNx)
    (Zis 5 (f1 Xt (fV 7)))))
noncomputable def Zgj:FS:=
  (Xu (Yr 4 (Zy Yc (Zc (fV 0) (Zc (fV 1) (Zc (f2 Jn (fA Zau (Zc (fC (.int 3)) Zt)) (f2 Zbo (fA Zau (Zc (fV 3) (Zc (fC (.int 4)) Zt))) (fC (.int 8)))) Zt)))))
    (Xu (Yr 5 (fA Zau Zt))
    (Xu (Znv (Zds (Zc (fV 2) Zt)) (Zp 6) Jb)
    (Zad (fV 5)))))
noncomputable def Zaf (ds:List D):R D:=(run 8 Zgj ds).calm
noncomputable def Zsd:FS:=
  (Xu (Yr 3 (fA Zap (Zc (fV 2) Zt)))
    (Xu (Yr 4 (Yy 5 1 (Zbk (Zy Zco (Zc (fV 0) (Zc (fV 1) (Zc (fV 3) Zt))))) (Zp 5) Zbg (f2 Jn (f2 gIx (fV 2) (f2 Zkz (fV 3) (f2 gIx (fV 5) (fC (.int 1))))) (f2 gIx (fV 5) (fC (.int 2))))))
    (Zad (fA Xoy (Zc (f2 Jn (fA Zau (Zc (f2 gIx (fV 2) (f1 Zxw (fC (.int 1)))) Zt)) (fV 4)) Zt)))))
noncomputable def Zcf (ds:List D):R D:=(run 5 Zsd ds).calm
noncomputable def Zmk:FS:=
 (sIf (cE (fA Zyu (Zc (Yy 5 1 (Zds (Zc (fA Zap (Zc (fV 0) Zt)) Zt)) (Zp 5) Zbg (Zy Zaq (Zc (fV 0) (Zc (fV 4) (Zc (fV 3) (Zc (fV 5) Zt)))))) Zt))) (Zad (fC (.bl false))) sNx)
noncomputable def Xfh:FS:=
  (Xu (sIf (cOr (cE (f2 gNe (fA Zap (Zc (fV 3) Zt)) (fA Zap (Zc (fV 0) Zt)))) (cE (f2 gGt (fA Zid (Zc (fV 3) Zt)) (fV 2)))) (Zad (fC (.bl false))) sNx)
    (Xu (sIf (cE (fA Zyu (Zc (Yy 5 1 (Zbk (fV 3)) (Zp 5) Zbg (f2 gLt (fV 5) (fC (.int 0)))) Zt))) (Zad (fC (.bl false))) sNx)
    (Xu (Znv (Zbk (fV 1)) (Zp 4) Zmk)
    (Zad (fC (.bl true))))))
noncomputable def Zfv (ds:List D):R D:=(run 5 Xfh ds).calm
noncomputable def Zbx:FS:=
 (Zis 5 (Zy Zab (Zc (fV 0) (Zc (f2 Jn (fV 1) (fV 6)) (Zc (fV 3) (Zc (fV 4) Zt))))))
noncomputable def Zgn:FS:=
  (Xu (Yr 5 (fA Zau Zt))
    (Xu (Znv (Zds (Zc (fV 2) Zt)) (Zp 6) Zbx)
    (Zad (fV 5))))
noncomputable def Yh (ds:List D):R D:=(run 7 Zgn ds).calm
noncomputable def Zib:FS:=
 (Zis 2 (Zy Zcf (Zc (fV 0) (Zc (fV 1) (Zc (fV 2) Zt)))))
noncomputable def Zmn:FS:=
  (Xu (Yr 2 (fA Zau (Zc (fC (.int 0)) Zt)))
    (Xu (Zri 100000 (cE (f2 gLe (fA Zap (Zc (fV 2) Zt)) (fA Zap (Zc (fV 0) Zt)))) Zib)
    (Zad (fV 2))))
noncomputable def Ja (ds:List D):R D:=(run 3 Zmn ds).calm
noncomputable def Zrx:FS:=
  (Xu (sIf (cE (f2 gNe (fA Zap (Zc (fV 2) Zt)) (fA Zap (Zc (fV 0) Zt)))) (Zad (fC (.bl false))) sNx)
    (Zad (fA Xed (Zc (Yy 3 2 (Zsn (fV 0) (fV 2)) (Zcx (Xn (Zp 3) (Xn (Zp 4) Zcv))) Zbg (Zy Zfv (Zc (fV 3) (Zc (fV 1) (Zc (fA Zid (Zc (fV 4) Zt)) (Zc (fV 4) Zt)))))) Zt))))
noncomputable def Zag (ds:List D):R D:=(run 3 Zrx ds).calm
noncomputable def Xdd:FS:=
  (Xu (Yr 2 (Zy Ja (Zc (fV 0) (Zc (fV 1) Zt))))
    (Zad (Yy 3 1 (Zds (Zc (fA Zap (Zc (fV 0) Zt)) Zt)) (Zp 3) Zbg (f2 Zkz (f2 gIx (fV 2) (f2 Jn (fV 3) (fC (.int 1)))) (f2 gIx (fV 2) (fV 3))))))
noncomputable def Zba (ds:List D):R D:=(run 3 Xdd ds).calm
noncomputable def Ziw:FS:=
  (Xu (Yr 4 (Zy Yw (Zc (fV 1) (Zc (fV 3) Zt))))
    (Zad (Zy Zbc (Zc (Yy 5 1 (Zbk (fV 0)) (Zp 5) Zbg (f1 Xt (f2 gIx (Zy Ja (Zc (fV 5) (Zc (fV 4) Zt))) (f1 Zxw (fC (.int 1)))))) (Zc (Zy Yl (Zc (fV 2) (Zc (fV 3) Zt))) Zt)))))
noncomputable def Zae (ds:List D):R D:=(run 5 Ziw ds).calm
noncomputable def Zlb:FS:=
  (Xu (Yr 5 (f2 gIx (fV 4) (fC (.int 0))))
    (Xu (sIf (cOr (Xbi (cE (Zy Zas (Zc (fV 1) (Zc (fV 5) Zt))))) (Xbi (cE (Zy Zag (Zc (fV 0) (Zc (Zy Yw (Zc (fV 1) (Zc (fV 5) Zt))) (Zc (f2 gIx (fV 4) (fC (.int 1))) Zt))))))) (Zad (fC (.bl false))) sNx)
    (Xu (Yr 6 (Yy 7 1 (Zbk (f2 gIx (fV 4) (fC (.int 1)))) (Zp 7) Zbg (fA Zid (Zc (fV 7) Zt))))
    (Zad (f2 gLe (fV 3) (Zy Zbc (Zc (fV 6) (Zc (Zy Yl (Zc (fV 2) (Zc (fV 5) Zt))) Zt))))))))
noncomputable def Zal (ds:List D):R D:=(run 7 Zlb ds).calm
noncomputable def Zll:FS:=
  (Xu (Yr 4 (Zy Zak (Zc (fV 1) (Zc (fV 3) Zt))))
    (Zad (f2 Jn (fA Zid (Zc (Yy 5 1 (Zbk (fV 0)) (Zp 5) Zbg (f1 Xt (f2 gIx (Zy Ja (Zc (fV 5) (Zc (fV 4) Zt))) (f1 Zxw (fC (.int 1)))))) Zt)) (Zy Yl (Zc (fV 2) (Zc (fV 3) Zt))))))
noncomputable def Jg (ds:List D):R D:=(run 5 Zll ds).calm
noncomputable def Zhn:FS:=
  (Xu (Yr 5 (f2 gIx (fV 4) (fC (.int 0))))
    (Xu (sIf (cOr (cE (f2 gNe (fA Zap (Zc (fV 5) Zt)) (fA Zap (Zc (fV 1) Zt)))) (cE (fA Zyu (Zc (Yy 6 1 (Zbk (fV 5)) (Zp 6) Zbg (f2 gLt (fV 6) (fC (.int 0)))) Zt)))) (Zad (fC (.bl false))) sNx)
    (Xu (sIf (Xbi (cE (Zy Zag (Zc (fV 0) (Zc (Zy Zak (Zc (fV 1) (Zc (fV 5) Zt))) (Zc (f2 gIx (fV 4) (fC (.int 1))) Zt)))))) (Zad (fC (.bl false))) sNx)
    (Zad (f2 gLe (f2 Jn (fA Zid (Zc (Yy 6 1 (Zbk (f2 gIx (fV 4) (fC (.int 1)))) (Zp 6) Zbg (fA Zid (Zc (fV 6) Zt))) Zt)) (Zy Yl (Zc (fV 2) (Zc (fV 5) Zt)))) (fV 3))))))
noncomputable def Jk (ds:List D):R D:=(run 6 Zhn ds).calm
noncomputable def Zwv:FS:=
  (Xu (Zls 3 4 (Zy Yx (Zc (fV 1) (Zc (fV 2) Zt))) (Zge (fun m n=>decide (m<n)) (fV 3) [0,1,2] (Zy Jg (Zc (fV 1) (Zc (fV 2) (Zc (fV 3) (Zc (fV 0) Zt)))))))
    (Xu (Yr 5 (Zy Zak (Zc (fV 1) (Zc (fV 4) Zt))))
    (Xu (Yr 6 (Yy 7 1 (Zbk (fV 0)) (Zp 7) Zbg (Zy Zba (Zc (fV 7) (Zc (fV 5) Zt)))))
    (Zad (fA Zfm (Zc (Zy Jg (Zc (fV 0) (Zc (fV 1) (Zc (fV 2) (Zc (fV 4) Zt))))) (Zc (fA Zfm (Zc (fV 4) (Zc (fV 6) Zt))) Zt)))))))
noncomputable def Xr (ds:List D):R D:=(run 7 Zwv ds).calm
@[simp] theorem ev_fC (d:D)(ρ:Env):fC d ρ=.ok d:=(rfl)
@[simp] theorem ev_f1 (g:D→Option D)(a:FE)(ρ:Env):f1 g a ρ=(a ρ).bind fun x=>oR (g x):=(rfl)
@[simp] theorem ev_f2 (g:D→D→Option D)(a b:FE)(ρ:Env):f2 g a b ρ=(a ρ).bind fun x=>(b ρ).bind fun y=>oR (g x y):=(rfl)
@[simp] theorem ev_aNil (ρ:Env):Zt ρ=.ok []:=(rfl)
@[simp] theorem Zzb (a:FE)(r:FA)(ρ:Env):Zc a r ρ=(a ρ).bind fun x=>(r ρ).bind fun xs=>.ok (x::xs):=(rfl)
@[simp] theorem ev_fA (g:List D→Option D)(a:FA)(ρ:Env):fA g a ρ=(a ρ).bind fun xs=>oR (g xs):=(rfl)
@[simp] theorem Xcv (F:List D→R D)(a:FA)(ρ:Env):Zy F a ρ=(a ρ).bind F:=(rfl)
@[simp] theorem ev_fV0 (d:D)(ρ:Env):fV 0 (some d::ρ)=.ok d:=(rfl)
@[simp] theorem ev_fVs (i:Nat)(o:Option D)(ρ:Env):fV (i+1) (o::ρ)=fV i ρ:=by simp [fV]
@[simp] theorem ev_cE (a:FE)(ρ:Env):cE a ρ=(a ρ).bind fun d=>match d with | .bl b=>.ok b | _=>.bad:=(rfl)
@[simp] theorem Xgw (a:FT)(ρ:Env):Xbi a ρ=(a ρ).bind fun b=>.ok (!b):=(rfl)
@[simp] theorem Zti (a b:FT)(ρ:Env):Zxz a b ρ=(a ρ).bind fun x=>if x then b ρ else .ok false:=(rfl)
@[simp] theorem Xen (a b:FT)(ρ:Env):cOr a b ρ=(a ρ).bind fun x=>if x then .ok true else b ρ:=(rfl)
@[simp] theorem ev_cYes (ρ:Env):Zbg ρ=.ok true:=(rfl)
@[simp] theorem Zxr (a b:FE)(ρ:Env):Xfu a b ρ=(a ρ).bind fun x=>match x with | .bl true=>b ρ | .bl false=>.ok (.bl false) | _=>.bad:=(rfl)
@[simp] theorem Xdv (a b:FE)(ρ:Env):fOr a b ρ=(a ρ).bind fun x=>match x with | .bl true=>.ok (.bl true) | .bl false=>b ρ | _=>.bad:=(rfl)
@[simp] theorem Xdw (c:FT)(a b:FE)(ρ:Env):fIf c a b ρ=(c ρ).bind fun x=>if x then a ρ else b ρ:=(rfl)
@[simp] theorem Zvf (g g':D→D→Option D)(a b c:FE)(ρ:Env):Ziy g g' a b c ρ=(a ρ).bind fun x=>(b ρ).bind fun y=>(oR (g x y)).bind fun z=>match z with | .bl true=>(c ρ).bind fun w=>oR (g' y w) | .bl false=>.ok (.bl false) | _=>.bad:=(rfl)
@[simp] theorem Xmk (g:D→Option Int→Option Int→Option D)(a:FE)(l h:FO)(ρ:Env):fSl g a l h ρ=(a ρ).bind fun x=>(l ρ).bind fun lo=>(h ρ).bind fun hi=>oR (g x lo hi):=(rfl)
@[simp] theorem ev_oNone (ρ:Env):Zmz ρ=.ok none:=(rfl)
@[simp] theorem Xcp (a:FE)(ρ:Env):Zfr a ρ=(a ρ).bind fun d=>match d with | .int i=>.ok (some i) | _=>.bad:=(rfl)
@[simp] theorem Xbf (a:FE)(ρ:Env):Zbk a ρ=(a ρ).bind fun d=>match d with | .lst xs=>if xs.length≤lim then .ok xs else .bad | .scr ns=>if ns.length≤lim then .ok (ns.map D.int) else .bad | _=>.bad:=(rfl)
@[simp] theorem Xge (a:FE)(ρ:Env):Xkf a ρ=(a ρ).bind fun d=>match d with | .tup xs=>if xs.length≤lim then .ok xs else .bad | _=>.bad:=(rfl)
@[simp] theorem Zzm (a:FA)(ρ:Env):Zds a ρ=(a ρ).bind fun ds=>match ds with | [.int j]=>if -1000000000≤j∧j≤1000000 then .ok (Zek 0 j.toNat) else .bad | _=>.bad:=(rfl)
noncomputable def Xmt (ds:List D):R (List D):=match ds with
 | [.int i,.int j]=>if -1000000000≤i∧i≤1000000000∧-1000000000≤j∧j≤1000000000∧(j - i).toNat≤lim then .ok (Zek i (j - i).toNat) else .bad
 | _=>.bad
@[simp] theorem ev_jRng2 (a:FA)(ρ:Env):jRng2 a ρ=(a ρ).bind Xmt:=(rfl)
@[simp] theorem Zyz (n k:Nat)(it:FI)(b:FB)(c:FT)(e:FE)(ρ:Env):Yy n k it b c e ρ=if ρ.length=n then (it ρ).bind fun xs=>(Yv k b c e ρ xs).calm.bind fun ys=>.ok (.lst ys) else .bad:=(rfl)
@[simp] theorem ev_sNx (ρ:Env):sNx ρ=.ok (.nx ρ):=(rfl)
@[simp] theorem Xna (ρ:Env):Zrb ρ=.bad:=(rfl)
@[simp] theorem Zwp (a b:FS)(ρ:Env):Xu a b ρ=(a ρ).bind fun fl=>match fl with | .nx ρ'=>b ρ' | fl=>.ok fl:=(rfl)
@[simp] theorem Xhd (i:Nat)(e:FE)(ρ:Env):Yr i e ρ=(e ρ).bind fun d=>.ok (.nx (ρ.set i (some d))):=(rfl)
@[simp] theorem Xfc (e:FE)(ρ:Env):Zad e ρ=(e ρ).bind fun d=>.ok (.ret d):=(rfl)
@[simp] theorem Xdo (c:FT)(a b:FS)(ρ:Env):sIf c a b ρ=(c ρ).bind fun x=>if x then a ρ else b ρ:=(rfl)
@[simp] theorem Xgo (i:Nat)(e:FE)(ρ:Env):Zis i e ρ=(fV i ρ).bind fun v=>match v with | .lst xs=>(e ρ).bind fun d=>if xs.length<lim then .ok (.nx (ρ.set i (some (.lst (xs++[d]))))) else .bad | _=>.bad:=by
 unfold Zis fV
 split
 ·rename_i xs e;simp [e]
 ·rename_i h
  split
  ·rename_i d e
   cases d<;>simp
   rename_i xs
   exact absurd e (h xs)
  ·rfl
@[simp] theorem Xkl (c:String)(f:FA)(ρ:Env):Xld c f ρ=(f ρ).bind fun _=>.err c none:=(rfl)
@[simp] theorem Xfj (it:FI)(b:FB)(s:FS)(ρ:Env):Znv it b s ρ=(it ρ).bind fun xs=>Zdy b s xs ρ:=(rfl)
@[simp] theorem Xnh (n:Nat)(c:FT)(s:FS)(ρ:Env):Zri n c s ρ=Zdx c s n ρ:=(rfl)
@[simp] theorem ev_sAsg (e:FE)(b:FB)(ρ:Env):Xih e b ρ=(e ρ).bind fun d=>(b d ρ).calm.bind fun ρ'=>.ok (.nx ρ'):=(rfl)
@[simp] theorem ev_bName (i:Nat)(d:D)(ρ:Env):Zp i d ρ=.ok (ρ.set i (some d)):=(rfl)
@[simp] theorem ev_bNil (ρ:Env):Zcv [] ρ=.ok ρ:=(rfl)
@[simp] theorem ev_bCons (b:FB)(r:List D→Env→R Env)(d:D)(ds:List D)(ρ:Env):Xn b r (d::ds) ρ=(b d ρ).bind fun ρ'=>r ds ρ':=(rfl)
@[simp] theorem ev_bTup (r:List D→Env→R Env)(ds:List D)(ρ:Env):Zcx r (.tup ds) ρ=r ds ρ:=(rfl)
@[simp] theorem ev_run (N:Nat)(b:FS)(ds:List D):run N b ds=(b (ds.map some++List.replicate (N - ds.length) none)).bind fun fl=>match fl with | .nx _=>.ok .non | .ret d=>.ok d | _=>.bad:=(rfl)
@[simp] theorem forD_nil (b:FB)(s:FS)(ρ:Env):Zdy b s [] ρ=.ok (.nx ρ):=(rfl)
theorem Zlt (b:FB)(s:FS)(x:D)(xs:List D)(ρ:Env):Zdy b s (x::xs) ρ=(b x ρ).calm.bind fun ρ1=>(s ρ1).bind fun fl=>match fl with | .nx ρ2=>Zdy b s xs ρ2 | .cnt ρ2=>Zdy b s xs ρ2 | .brk ρ2=>.ok (.nx ρ2) | .ret d=>.ok (.ret d):=rfl
@[simp] theorem add_ii (i j:Int):Jn (.int i) (.int j)=some (.int (i+j)):=rfl
@[simp] theorem addI_ii (i j:Int):gAddI (.int i) (.int j)=some (.int (i+j)):=rfl
@[simp] theorem sub_ii (i j:Int):Zkz (.int i) (.int j)=some (.int (i - j)):=rfl
@[simp] theorem lt_ii (i j:Int):gLt (.int i) (.int j)=some (.bl (decide (i<j))):=rfl
@[simp] theorem le_ii (i j:Int):gLe (.int i) (.int j)=some (.bl (decide (i≤j))):=rfl
@[simp] theorem gt_ii (i j:Int):gGt (.int i) (.int j)=some (.bl (decide (j<i))):=rfl
@[simp] theorem ge_ii (i j:Int):gGe (.int i) (.int j)=some (.bl (decide (j≤i))):=rfl
@[simp] theorem neg_i (i:Int):Zxw (.int i)=some (.int (-i)):=rfl
@[simp] theorem not_b (b:Bool):gNot (.bl b)=some (.bl (!b)):=rfl
@[simp] theorem Zod (i j:Int):gEq (.int i) (.int j)=some (.bl (decide (i=j))):=show some (D.bl (i==j))=_ from congrArg (fun b=>some (D.bl b)) (by by_cases h:i=j<;>simp [h])
@[simp] theorem Xoe (i j:Int):gNe (.int i) (.int j)=some (.bl (!decide (i=j))):=show some (D.bl (!(i==j)))=_ from congrArg (fun b=>some (D.bl (!b))) (by by_cases h:i=j<;>simp [h])
@[simp] theorem eq_bb (i j:Bool):gEq (.bl i) (.bl j)=some (.bl (i==j)):=rfl
@[simp] theorem ne_bb (i j:Bool):gNe (.bl i) (.bl j)=some (.bl (!(i==j))):=rfl
@[simp] theorem is_n (x:D):gIs x .non=some (.bl (Ziu x)):=rfl
@[simp] theorem isNot_n (x:D):Ziv x .non=some (.bl (!Ziu x)):=rfl
@[simp] theorem is_b (b c:Bool):gIs (.bl b) (.bl c)=some (.bl (b==c)):=rfl
@[simp] theorem isNot_b (b c:Bool):Ziv (.bl b) (.bl c)=some (.bl (!(b==c))):=rfl
@[simp] theorem Xmc:Ziu .non=true:=rfl
@[simp] theorem isNon_i (i:Int):Ziu (.int i)=false:=rfl
@[simp] theorem isNon_b (i:Bool):Ziu (.bl i)=false:=rfl
@[simp] theorem isNon_l (i:List D):Ziu (.lst i)=false:=rfl
@[simp] theorem isNon_t (i:List D):Ziu (.tup i)=false:=rfl
theorem Zpg {i j:Int}(h:(-(2 ^ 64)<i∧i<2 ^ 64)∨(-(2 ^ 64)<j∧j<2 ^ 64)):Zbo (.int i) (.int j)=some (.int (i*j)):=by
 have:(short i||short j)=true:=by simp [short];exact h
 simp [Zbo,this]
theorem Zcs {i j:Int}(h:0<j):Zhe (.int i) (.int j)=some (.int (i % j)):=by simp [Zhe,h]
theorem div_ii {i j:Int}(h:0<j)(h2:j<2 ^ 200):Xjy (.int i) (.int j)=some (.int (i / j)):=by simp only [Xjy];rw [if_pos ⟨h,h2⟩]
theorem Zjj {i j:Int}(h:0≤j)(h2:j≤1000000)(h3:i.natAbs<2 ^ 64):Zir (.int i) (.int j)=some (.int (i ^ j.toNat)):=by simp only [Zir];rw [if_pos ⟨h,h2,h3⟩]
@[simp] theorem pow10_6:Zir (.int 10) (.int 6)=some (.int 1000000):=by
 rw [Zjj (by omega) (by omega) (by decide)]
 rfl
@[simp] theorem Xam:Zir (.int 10) (.int 15)=some (.int 1000000000000000):=by
 rw [Zjj (by omega) (by omega) (by decide)]
 rfl
@[simp] theorem Zpj:Zir (.int 10) (.int 17)=some (.int 100000000000000000):=by
 rw [Zjj (by omega) (by omega) (by decide)]
 rfl
@[simp] theorem Zhf:Zir (.int 10) (.int 18)=some (.int 1000000000000000000):=by
 rw [Zjj (by omega) (by omega) (by decide)]
 rfl
@[simp] theorem flat_i (i:Int):flat (.int i)=true:=rfl
@[simp] theorem flat_b (i:Bool):flat (.bl i)=true:=rfl
@[simp] theorem flat_s (i:Str):flat (.str i)=true:=rfl
@[simp] theorem flat_n:flat .non=true:=rfl
@[simp] theorem flat_t (xs:List D):flat (.tup xs)=Yi xs:=rfl
@[simp] theorem flatA_n:Yi []=true:=rfl
@[simp] theorem flatA_c (x:D)(xs:List D):Yi (x::xs)=(flat x&&Yi xs):=rfl
theorem Ziq {α:Type}{f:α→D}(h:∀a,flat (f a)=true):∀xs:List α,Yi (xs.map f)=true
 | []=>rfl
 | x::xs=>by simp [h x,Ziq h xs]
@[simp] theorem Zbd (ns:List Int):Yi (ns.map D.int)=true:=Ziq (fun _=>rfl) ns
@[simp] theorem gFlat_i (i:Int):Xt (.int i)=some (.int i):=rfl
@[simp] theorem gFlat_b (i:Bool):Xt (.bl i)=some (.bl i):=rfl
@[simp] theorem gFlat_s (i:Str):Xt (.str i)=some (.str i):=rfl
@[simp] theorem gFlat_n:Xt .non=some .non:=rfl
@[simp] theorem ints_map (ns:List Int):intsOf (ns.map D.int)=some ns:=by
 induction ns with
 | nil=>rfl
 | cons n ns ih=>simp [intsOf,ih]
@[simp] theorem Xmy (ns:List Bool):bools (ns.map D.bl)=some ns:=by
 induction ns with
 | nil=>rfl
 | cons n ns ih=>simp [bools,ih]
@[simp] theorem len_l (xs:List D):Zap [.lst xs]=some (.int xs.length):=(rfl)
@[simp] theorem len_t (xs:List D):Zap [.tup xs]=some (.int xs.length):=(rfl)
@[simp] theorem len_scr (xs:List Int):Zap [.scr xs]=some (.int xs.length):=(rfl)
@[simp] theorem sum_ints (ns:List Int):Zid [.lst (ns.map D.int)]=some (.int ns.sum):=by simp [Zid]
@[simp] theorem Xdt (i j:Int):Xka [.int i,.int j]=some (.int (min i j)):=by
 simp only [Xka]
 congr 2
 by_cases h:j<i
 ·rw [if_pos h];omega
 ·rw [if_neg h];omega
theorem Xbc {ns:List Int}(h:ns≠[]):Xoy [.lst (ns.map D.int)]=some (.int (Xcn ns)):=by simp [Xoy,h]
@[simp] theorem any_bools (ns:List Bool):Zyu [.lst (ns.map D.bl)]=some (.bl (ns.any id)):=by simp [Zyu]
@[simp] theorem all_bools (ns:List Bool):Xed [.lst (ns.map D.bl)]=some (.bl (ns.all id)):=by simp [Xed]
@[simp] theorem isI_i (c:String)(i:Int):Xke c (.int i)=some (.bl (c=="int")):=rfl
@[simp] theorem isI_b (c:String)(i:Bool):Xke c (.bl i)=some (.bl (c=="bool"||c=="int")):=rfl
@[simp] theorem isI_l (c:String)(i:List D):Xke c (.lst i)=some (.bl (c=="list")):=rfl
@[simp] theorem isI_t (c:String)(i:List D):Xke c (.tup i)=some (.bl (c=="tuple")):=rfl
@[simp] theorem isI_s (c:String)(i:Str):Xke c (.str i)=some (.bl (c=="str")):=rfl
@[simp] theorem isI_n (c:String):Xke c .non=some (.bl false):=rfl
theorem Zob {α:Type}{xs:List α}{i:Int}{k:Nat}{x:α}(e:i=(k:Int))(h:xs[k]?=some x):atD xs i=some x:=by
 subst e
 have hk:=(List.getElem?_eq_some_iff.mp h).1
 unfold atD ixD
 rw [if_pos (by omega),if_pos (by omega)]
 simpa using h
theorem Xbu {α:Type}(xs:List α)(x:α):atD (xs++[x]) (-1)=some x:=by
 unfold atD ixD
 rw [if_neg (by omega),if_pos (by simp;omega)]
 simp only [Option.bind_some]
 have:(-1+(((xs++[x]).length:Nat):Int)).toNat=xs.length:=by simp;omega
 rw [this]
 simp
theorem ix_l {xs:List D}{i:Int}{k:Nat}{x:D}(e:i=(k:Int))(h:xs[k]?=some x):gIx (.lst xs) (.int i)=some x:=Zob e h
theorem Xkc {xs:List D}{i:Int}{k:Nat}{x:D}(e:i=(k:Int))(h:xs[k]?=some x):gIx (.tup xs) (.int i)=some x:=Zob e h
@[simp] theorem ixL_l (xs:List D)(y:D):gIxL (.lst xs) y=gIx (.lst xs) y:=(rfl)
@[simp] theorem listV_l (xs:List D):Xlu [.lst xs]=some (.lst xs):=(rfl)
@[simp] theorem Xfk (xs:List D)(x:D):gIx (.lst (xs++[x])) (.int (-1))=some x:=Xbu xs x
theorem Zbi {ns:List Int}{i:Int}{k:Nat}(e:i=(k:Int))(h:k<ns.length):gIx (.lst (ns.map D.int)) (.int i)=some (.int (ns.getD k 0)):=ix_l e (by simp [h,List.getD])
theorem Zqg {ns:List Int}(h:ns≠[]):gIx (.lst (ns.map D.int)) (.int (-1))=some (.int (ns.getD (ns.length - 1) 0)):=by
 have e:=List.dropLast_concat_getLast h
 have e2:ns.getD (ns.length - 1) 0=ns.getLast h:=by
  have hl:ns.length - 1<ns.length:=by have:=List.length_pos_iff.mpr h;omega
  rw [List.getLast_eq_getElem]
  simp [List.getD,hl]
 rw [e2]
 conv=>lhs;rw [← e,map_append,List.map_singleton]
 exact Xfk _ _
@[simp] theorem ix_t0 (a:D)(r:List D):gIx (.tup (a::r)) (.int 0)=some a:=Xkc (k:=0) rfl rfl
@[simp] theorem ix_t1 (a b:D)(r:List D):gIx (.tup (a::b::r)) (.int 1)=some b:=Xkc (k:=1) rfl rfl
@[simp] theorem ix_t3 (a b c d:D)(r:List D):gIx (.tup (a::b::c::d::r)) (.int 3)=some d:=Xkc (k:=3) rfl rfl
theorem Xga {α β:Type}(f:α→β)(xs:List α)(lo hi:Option Int):cut (xs.map f) lo hi=(cut xs lo hi).map f:=by
 unfold cut
 rw [length_map,map_take,map_drop]
theorem Xek {α:Type}{xs:List α}{a b:Int}(h0:0≤a)(h1:a≤b)(h2:b≤xs.length):cut xs (some a) (some b)=(xs.drop a.toNat).take (b.toNat - a.toNat):=by
 unfold cut Xhb
 simp only []
 rw [if_neg (by omega),if_neg (by omega),Nat.min_eq_left (by omega),Nat.min_eq_left (by omega)]
theorem Zth {α:Type}{xs:List α}{b:Int}(h0:0≤b):cut xs none (some b)=xs.take b.toNat:=by
 unfold cut Xhb
 simp only []
 rw [if_neg (by omega),List.drop_zero,Nat.sub_zero]
 by_cases h:b.toNat≤xs.length
 ·rw [Nat.min_eq_left h]
 ·rw [Nat.min_eq_right (by omega),take_of_length_le (le_refl _),take_of_length_le (by omega)]
theorem Xbh {α:Type}{xs:List α}{a:Int}(h0:0≤a):cut xs (some a) none=xs.drop a.toNat:=by
 unfold cut Xhb
 simp only []
 rw [if_neg (by omega)]
 by_cases h:a.toNat≤xs.length
 ·rw [Nat.min_eq_left h,take_of_length_le (by simp)]
 ·rw [Nat.min_eq_right (by omega),drop_of_length_le (le_refl _),drop_of_length_le (by omega)]
  simp
@[simp] theorem Xgu (ns:List Int)(lo hi:Option Int):gSl (.lst (ns.map D.int)) lo hi=some (.lst ((cut ns lo hi).map D.int)):=by
 simp [gSl,Xga]
@[simp] theorem sl_scr (ns:List Int)(lo hi:Option Int):gSl (.scr ns) lo hi=some (.lst ((cut ns lo hi).map D.int)):=(rfl)
@[simp] theorem lst_lim (xs:List D)(h:xs.length≤lim):Zau xs=some (.lst xs):=by unfold Zau;rw [if_pos h]
@[simp] theorem gLst_0:Zau []=some (.lst []):=rfl
@[simp] theorem gLst_1 (a:D):Zau [a]=some (.lst [a]):=rfl
@[simp] theorem gLst_2 (a b:D):Zau [a,b]=some (.lst [a,b]):=rfl
@[simp] theorem gLst_3 (a b c:D):Zau [a,b,c]=some (.lst [a,b,c]):=rfl
@[simp] theorem gLst_4 (a0 a1 a2 a3:D):Zau [a0,a1,a2,a3]=some (.lst [a0,a1,a2,a3]):=rfl
@[simp] theorem gLst_5 (a0 a1 a2 a3 a4:D):Zau [a0,a1,a2,a3,a4]=some (.lst [a0,a1,a2,a3,a4]):=rfl
@[simp] theorem gLst_6 (a0 a1 a2 a3 a4 a5:D):Zau [a0,a1,a2,a3,a4,a5]=some (.lst [a0,a1,a2,a3,a4,a5]):=rfl
@[simp] theorem gLst_10 (a0 a1 a2 a3 a4 a5 a6 a7 a8 a9:D):Zau [a0,a1,a2,a3,a4,a5,a6,a7,a8,a9]=some (.lst [a0,a1,a2,a3,a4,a5,a6,a7,a8,a9]):=rfl
@[simp] theorem gLst_11 (a0 a1 a2 a3 a4 a5 a6 a7 a8 a9 a10:D):Zau [a0,a1,a2,a3,a4,a5,a6,a7,a8,a9,a10]=some (.lst [a0,a1,a2,a3,a4,a5,a6,a7,a8,a9,a10]):=rfl
@[simp] theorem gTup_2 (a b:D):Zfm [a,b]=some (.tup [a,b]):=rfl
@[simp] theorem gTup_3 (a b c:D):Zfm [a,b,c]=some (.tup [a,b,c]):=rfl
@[simp] theorem gTup_4 (a b c d:D):Zfm [a,b,c,d]=some (.tup [a,b,c,d]):=rfl
@[simp] theorem Zgo {α β:Type}(a:α)(f:α→R β):((R.ok a).calm).bind f=f a:=(rfl)
theorem Zhb {b:FB}{s:FS}{xs:List D}{P:Nat→Env→Prop}{Rr:R Fl→Prop}{ρ:Env}(h0:P 0 ρ)
  (hs:∀i x ρ,xs[i]?=some x→P i ρ→∃ρ1,b x ρ=.ok ρ1∧((∃ρ2,(s ρ1=.ok (.nx ρ2)∨s ρ1=.ok (.cnt ρ2))∧P (i+1) ρ2)∨(∃d,s ρ1=.ok (.ret d)∧Rr (.ok (.ret d)))∨∃ρ2,s ρ1=.ok (.brk ρ2)∧Rr (.ok (.nx ρ2))))
  (hd:∀ρ,P xs.length ρ→Rr (.ok (.nx ρ))):Rr (Zdy b s xs ρ):=by
 have key:∀n i ρ,n+i=xs.length→P i ρ→Rr (Zdy b s (xs.drop i) ρ):=by
  intro n
  induction n with
  | zero =>
   intro i ρ hn p
   rw [drop_of_length_le (by omega)]
   have e:i=xs.length:=by omega
   subst e
   exact hd ρ p
  | succ n ih =>
   intro i ρ hn p
   have hi:i<xs.length:=by omega
   rw [List.drop_eq_getElem_cons hi,Zlt]
   obtain ⟨ρ1,e1,h⟩:=hs i xs[i] ρ (getElem?_eq_getElem hi) p
   rw [e1,Zgo]
   rcases h with ⟨ρ2,e2 | e2,p2⟩ | ⟨d,e2,p2⟩ | ⟨ρ2,e2,p2⟩
   ·rw [e2];exact ih (i+1) ρ2 (by omega) p2
   ·rw [e2];exact ih (i+1) ρ2 (by omega) p2
   ·rw [e2];exact p2
   ·rw [e2];exact p2
 have:=key xs.length 0 ρ (by omega) h0
 simpa using this
theorem Xab {lo:Int}{n i:Nat}(h:i<n):(Zek lo n)[i]?=some (.int (lo+i)):=by simp [Zek,h]
theorem Zkl {lo:Int}{n i:Nat}{x:D}(h:(Zek lo n)[i]?=some x):i<n∧x=.int (lo+i):=by
 have hi:=(List.getElem?_eq_some_iff.mp h).1
 have hn:i<n:=by simpa [Zek] using hi
 rw [Xab hn] at h
 exact ⟨hn,(Option.some.inj h).symm⟩
@[simp] theorem Zbm (lo:Int)(n:Nat):(Zek lo n).length=n:=by simp [Zek]
theorem Ztt {k:Nat}{b:FB}{c:FT}{e:FE}{ρ:Env}{α:Type}{enc:α→D}{ρ1:α→Env}{p:α→Bool}{v:α→D}{xs:List α}(h:∀x∈xs,b (enc x) (ρ++List.replicate k none)=.ok (ρ1 x)∧c (ρ1 x)=.ok (p x)∧(p x=true→e (ρ1 x)=.ok (v x))):Yv k b c e ρ (xs.map enc)=.ok ((xs.filter p).map v):=by
 induction xs with
 | nil=>rfl
 | cons x xs ih =>
  obtain ⟨h0,h1,h2⟩:=h x (.head _)
  have ih:=ih fun y hy=>h y (.tail _ hy)
  rw [map_cons]
  unfold Yv
  rw [h0,Zgo,h1]
  cases hp:p x with
  | false=>simp [ih,hp]
  | true=>simp [ih,hp,h2 hp]
theorem Xlo {n:Nat}{c:FT}{e:FE}{ρ:Env}{α:Type}{enc:α→D}{p:α→Bool}{v:α→D}{xs:List α}(hn:ρ.length=n)(h:∀x∈xs,c (ρ++[some (enc x)])=.ok (p x)∧(p x=true→e (ρ++[some (enc x)])=.ok (v x))):Yv 1 (Zp n) c e ρ (xs.map enc)=.ok ((xs.filter p).map v):=
  Ztt (ρ1:=fun x=>ρ++[some (enc x)]) fun x hx=>⟨by
    show R.ok ((ρ++[none]).set n (some (enc x)))=_
    rw [← hn,set_append_right _ _ (le_refl _),sub_self]
    rfl,h x hx⟩
theorem Zaz {n:Nat}{e:FE}{ρ:Env}{α:Type}{enc:α→D}{v:α→D}{xs:List α}(hn:ρ.length=n)(h:∀x∈xs,e (ρ++[some (enc x)])=.ok (v x)):Yv 1 (Zp n) Zbg e ρ (xs.map enc)=.ok (xs.map v):=by
 have:=Xlo (p:=fun _=>true) (c:=Zbg) hn (xs:=xs) (enc:=enc) (e:=e) (v:=v) fun x hx=>⟨rfl,fun _=>h x hx⟩
 rw [this,List.filter_eq_self.mpr fun _ _=>rfl]
theorem Xpc {n:Nat}{c:FT}{e:FE}{ρ:Env}{α:Type}{f g:α→D}{p:α→Bool}{v:α→D}{xs:List α}(hn:ρ.length=n)(h:∀x∈xs,c (ρ++[some (f x),some (g x)])=.ok (p x)∧(p x=true→e (ρ++[some (f x),some (g x)])=.ok (v x))) :
    Yv 2 (Zcx (Xn (Zp n) (Xn (Zp (n+1)) Zcv))) c e ρ (xs.map fun x=>.tup [f x,g x])=.ok ((xs.filter p).map v):=
  Ztt (enc:=fun x=>D.tup [f x,g x]) (ρ1:=fun x=>ρ++[some (f x),some (g x)]) fun x hx=>⟨by
    show R.ok (((ρ++[none,none]).set n (some (f x))).set (n+1) (some (g x)))=_
    rw [← hn,set_append_right _ _ (le_refl _),sub_self,set_append_right _ _ (by omega)]
    simp,h x hx⟩
theorem Zug {n:Nat}{e:FE}{ρ:Env}{α:Type}{f g:α→D}{v:α→D}{xs:List α}(hn:ρ.length=n)(h:∀x∈xs,e (ρ++[some (f x),some (g x)])=.ok (v x)) :
  Yv 2 (Zcx (Xn (Zp n) (Xn (Zp (n+1)) Zcv))) Zbg e ρ (xs.map fun x=>.tup [f x,g x])=.ok (xs.map v):=by
 have:=Xpc (p:=fun _=>true) (c:=Zbg) hn (xs:=xs) (f:=f) (g:=g) (e:=e) (v:=v) fun x hx=>⟨rfl,fun _=>h x hx⟩
 rw [this,List.filter_eq_self.mpr fun _ _=>rfl]
theorem Zyd {c:FT}{s:FS}{ρ:Env}{n:Nat}(m:Nat)(st:Nat→Env)(h0:st 0=ρ)(hn:m<n)(hs:∀i,i<m→c (st i)=.ok true∧s (st i)=.ok (.nx (st (i+1))))(hd:c (st m)=.ok false):Zdx c s n ρ=.ok (.nx (st m)):=by
 have key:∀k i n,k+i=m→k<n→Zdx c s n (st i)=.ok (.nx (st m)):=by
  intro k
  induction k with
  | zero =>
   intro i n hi hn
   have e:i=m:=by omega
   subst e
   obtain ⟨n,rfl⟩:∃k,n=k+1:=⟨n - 1,by omega⟩
   simp [Zdx,hd]
  | succ k ih =>
   intro i n hi hn
   obtain ⟨n,rfl⟩:∃k,n=k+1:=⟨n - 1,by omega⟩
   obtain ⟨h1,h2⟩:=hs i (by omega)
   simp only [Zdx,h1,Jw,if_true,h2]
   exact ih (i+1) n (by omega) (by omega)
 rw [← h0]
 exact key m 0 n (by omega) hn
theorem Xp {i:Nat}{e:FE}{ρ:Env}{d:D}(h:e ρ=.ok d):Yr i e ρ=.ok (.nx (ρ.set i (some d))):=by rw [Xhd,h];rfl
theorem Zs {a b:FS}{ρ ρ':Env}{r:R Fl}(h:a ρ=.ok (.nx ρ'))(h2:b ρ'=r):Xu a b ρ=r:=by rw [Zwp,h];exact h2
theorem Zgu {g:D→Option D}{a:FE}{ρ:Env}{x z:D}(ha:a ρ=.ok x)(h:g x=some z):f1 g a ρ=.ok z:=by rw [ev_f1,ha];show oR (g x)=_;rw [h];rfl
theorem Zo {g:D→D→Option D}{a b:FE}{ρ:Env}{x y z:D}(ha:a ρ=.ok x)(hb:b ρ=.ok y)(h:g x y=some z):f2 g a b ρ=.ok z:=by rw [ev_f2,ha,hb];show oR (g x y)=_;rw [h];rfl
theorem Js {g:List D→Option D}{a:FA}{ρ:Env}{xs:List D}{z:D}(ha:a ρ=.ok xs)(h:g xs=some z):fA g a ρ=.ok z:=by rw [ev_fA,ha];show oR (g xs)=_;rw [h];rfl
theorem Zd {a:FE}{r:FA}{ρ:Env}{x:D}{xs:List D}(ha:a ρ=.ok x)(hr:r ρ=.ok xs):Zc a r ρ=.ok (x::xs):=by rw [Zzb,ha,hr];rfl
theorem Zv {F:List D→R D}{a:FA}{ρ:Env}{xs:List D}{d:D}(ha:a ρ=.ok xs)(h:F xs=.ok d):Zy F a ρ=.ok d:=by rw [Xcv,ha];exact h
theorem Jz {a:FE}{ρ:Env}{b:Bool}(h:a ρ=.ok (.bl b)):cE a ρ=.ok b:=by rw [ev_cE,h];rfl
theorem Zdu {c:FT}{a b:FS}{ρ:Env}{r:R Fl}(hc:c ρ=.ok true)(h:a ρ=r):sIf c a b ρ=r:=by rw [Xdo,hc];exact h
theorem Jf {c:FT}{a b:FS}{ρ:Env}{r:R Fl}(hc:c ρ=.ok false)(h:b ρ=r):sIf c a b ρ=r:=by rw [Xdo,hc];exact h
theorem Zgz {i:Nat}{e:FE}{ρ:Env}{xs:List D}{d:D}(hv:fV i ρ=.ok (.lst xs))(h:e ρ=.ok d)(hl:xs.length<lim):Zis i e ρ=.ok (.nx (ρ.set i (some (.lst (xs++[d]))))):=by rw [Xgo,hv,h];exact if_pos hl
theorem Jm {e:FE}{ρ:Env}{d:D}(h:e ρ=.ok d):Zad e ρ=.ok (.ret d):=by rw [Xfc,h];rfl
theorem Zoq {a:FA}{ρ:Env}{j:Int}(h:a ρ=.ok [.int j])(h1:-1000000000≤j∧j≤1000000):Zds a ρ=.ok (Zek 0 j.toNat):=by rw [Zzm,h];exact if_pos h1
theorem Zjt {it:FI}{b:FB}{s:FS}{ρ:Env}{xs:List D}{r:R Fl}(h:it ρ=.ok xs)(h2:Zdy b s xs ρ=r):Znv it b s ρ=r:=by rw [Xfj,h];exact h2
theorem Jq {N:Nat}{q:FS}{ds:List D}{d:D}(h:q (ds.map some++List.replicate (N - ds.length) none)=.ok (.ret d)):(run N q ds).calm=.ok d:=by unfold run;rw [h];rfl
theorem Zrj {a b:Int}(h0:0≤a)(h1:a≤1000000):Zbo (.int a) (.int b)=some (.int (a*b)):=Zpg (.inl ⟨by omega,by omega⟩)
theorem Zhq {a b:FS}{ρ:Env}{d:D}(h:a ρ=.ok (.ret d)):Xu a b ρ=.ok (.ret d):=by rw [Zwp,h];rfl
theorem mulR {a b:Int}(h0:0≤b)(h1:b≤1000000):Zbo (.int a) (.int b)=some (.int (a*b)):=Zpg (.inr ⟨by omega,by omega⟩)
theorem Jv {a:FE}{ρ:Env}{xs:List D}(h:a ρ=.ok (.lst xs))(hl:xs.length≤lim):Zbk a ρ=.ok xs:=by rw [Xbf,h];exact if_pos hl
theorem Zvn {c:FT}{a b:FE}{ρ:Env}{r:R D}(hc:c ρ=.ok true)(h:a ρ=r):fIf c a b ρ=r:=by rw [Xdw,hc];exact h
theorem Zwm {c:FT}{a b:FE}{ρ:Env}{r:R D}(hc:c ρ=.ok false)(h:b ρ=r):fIf c a b ρ=r:=by rw [Xdw,hc];exact h
theorem Zxm {a b:FT}{ρ:Env}{r:R Bool}(h:a ρ=.ok true)(h2:b ρ=r):Zxz a b ρ=r:=by rw [Zti,h];exact h2
theorem Zui {a b:FT}{ρ:Env}(h:a ρ=.ok false):Zxz a b ρ=.ok false:=by rw [Zti,h];rfl
theorem Zta {a b:FE}{ρ:Env}{r:R D}(h:a ρ=.ok (.bl true))(h2:b ρ=r):Xfu a b ρ=r:=by rw [Zxr,h];exact h2
theorem Xie {a b:FE}{ρ:Env}(h:a ρ=.ok (.bl false)):Xfu a b ρ=.ok (.bl false):=by rw [Zxr,h];rfl
theorem Zkc {p:Prop}[Decidable p](h:p):some (D.bl (decide p))=some (D.bl true):=congrArg (fun b=>some (D.bl b)) (decide_eq_true h)
theorem Zot {p:Prop}[Decidable p](h:¬p):some (D.bl (decide p))=some (D.bl false):=congrArg (fun b=>some (D.bl b)) (decide_eq_false h)
theorem Zlh {a:FT}{ρ:Env}{b:Bool}(h:a ρ=.ok b):Xbi a ρ=.ok (!b):=by rw [Xgw,h];rfl
theorem Zjc {a b:FT}{ρ:Env}{r:R Bool}(h:a ρ=.ok false)(h2:b ρ=r):cOr a b ρ=r:=by rw [Xen,h];exact h2
theorem Xhc {g g':D→D→Option D}{a b c:FE}{ρ:Env}{x y w z:D}(ha:a ρ=.ok x)(hb:b ρ=.ok y)(h1:g x y=some (.bl true))(hc:c ρ=.ok w)(h2:g' y w=some z):Ziy g g' a b c ρ=.ok z:=by
 rw [Zvf,ha]
 show (b ρ).bind _=_
 rw [hb]
 show (oR (g x y)).bind _=_
 rw [h1]
 show (c ρ).bind _=_
 rw [hc]
 show oR (g' y w)=_
 rw [h2]
 rfl
theorem Xpe {e:FE}{b:FB}{ρ ρ':Env}{d:D}(h:e ρ=.ok d)(hb:b d ρ=.ok ρ'):Xih e b ρ=.ok (.nx ρ'):=by
 unfold Xih
 rw [h]
 show (b d ρ).calm.bind _=_
 rw [hb]
 rfl
theorem r_sl {g:D→Option Int→Option Int→Option D}{a:FE}{l h:FO}{ρ:Env}{x z:D}{lo hi:Option Int}(ha:a ρ=.ok x)(hl:l ρ=.ok lo)(hh:h ρ=.ok hi)(hg:g x lo hi=some z):fSl g a l h ρ=.ok z:=by
 rw [Xmk,ha]
 show (l ρ).bind _=_
 rw [hl]
 show (h ρ).bind _=_
 rw [hh]
 show oR (g x lo hi)=_
 rw [hg]
 rfl
theorem Xdp {a:FE}{ρ:Env}{xs:List D}(h:a ρ=.ok (.tup xs))(hl:xs.length≤lim):Xkf a ρ=.ok xs:=by rw [Xge,h];exact if_pos hl
theorem Yz {n k:Nat}{it:FI}{b:FB}{c:FT}{e:FE}{ρ:Env}{xs ys:List D}(hn:ρ.length=n)(h:it ρ=.ok xs)(h1:Yv k b c e ρ xs=.ok ys):Yy n k it b c e ρ=.ok (.lst ys):=by
 rw [Zyz,if_pos hn,h]
 show (Yv k b c e ρ xs).calm.bind _=_
 rw [h1]
 rfl
theorem Xdg {a b:FT}{ρ:Env}(h:a ρ=.ok true):cOr a b ρ=.ok true:=by rw [Xen,h];rfl
theorem Zle {a:FE}{ρ:Env}{i:Int}(h:a ρ=.ok (.int i)):Zfr a ρ=.ok (some i):=by rw [Xcp,h];rfl
set_option genInjectivity true in
structure Kd where
 name:Str
 w:Int
 wo:Int
 al:Int
noncomputable def kD (k:Kd):D:=.tup [.str k.name,.int k.w,.int k.wo,.int k.al]
noncomputable def iD (ns:List Int):D:=.lst (ns.map D.int)
noncomputable def tD (ks:List Kd):D:=.lst (ks.map kD)
noncomputable def pD (p:Int×Str):D:=.tup [.int p.1,.str p.2]
@[simp] theorem flat_kD (k:Kd):flat (kD k)=true:=rfl
@[simp] theorem flat_pD (k:Int×Str):flat (pD k)=true:=rfl
@[simp] theorem gFlat_kD (k:Kd):Xt (kD k)=some (kD k):=rfl
@[simp] theorem gFlat_pD (k:Int×Str):Xt (pD k)=some (pD k):=rfl
@[simp] theorem Xjv (k:Kd):gIx (kD k) (.int 1)=some (.int k.w):=Xkc (k:=1) rfl rfl
@[simp] theorem Xpf (k:Kd):gIx (kD k) (.int 2)=some (.int k.wo):=Xkc (k:=2) rfl rfl
@[simp] theorem kD_3 (k:Kd):gIx (kD k) (.int 3)=some (.int k.al):=Xkc (k:=3) rfl rfl
noncomputable def pre (ns:List Int)(i:Nat):Int:=(ns.take i).sum
theorem Zua (ns:List Int)(a b:Nat)(h:a≤b):((ns.drop a).take (b - a)).sum=pre ns b - pre ns a:=by
 unfold pre
 have e:ns.take b=ns.take a++(ns.drop a).take (b - a):=by
  have:=List.take_add (l:=ns) (i:=a) (j:=b - a)
  rw [show a+(b - a)=b by omega] at this
  exact this
 rw [e,sum_append]
 omega
theorem Xau {ns:List Int}{i:Nat}{x:Int}(h:ns[i]?=some x):pre ns (i+1)=pre ns i+x:=by
 unfold pre
 rw [List.take_add_one,h,sum_append]
 simp
noncomputable def good (ns:List Int)(k:Kd)(p:Int):Bool:=decide (0≤p∧p+k.w≤ns.length∧pre ns (p+k.w).toNat - pre ns p.toNat≤k.al)
theorem Ztw {ns:List Int}{b e:Int}(h0:0≤b)(h1:b≤e)(h2:e≤ns.length):Zdp [iD ns,.int b,.int e]=.ok (.int (pre ns e.toNat - pre ns b.toNat)):=by
 have a1:¬b<0:=by omega
 have a2:¬(ns.length:Int)<e:=by omega
 have a3:¬e<b:=by omega
 simp [-map_take,-map_drop,Zdp,Zre,iD,a1,a2,a3,Xek h0 h1 h2,Zua _ _ _ (show b.toNat≤e.toNat by omega)]
theorem Zxi (ns:List Int)(k:Kd)(p:Int)(hw:1≤k.w):Zgi [iD ns,kD k,.int p]=.ok (.bl (good ns k p)):=by
 have l1:Zap [iD ns]=some (.int ns.length):=by simp [iD]
 by_cases h0:p<0
 ·have e:good ns k p=false:=decide_eq_false (by omega)
  rw [e]
  exact Jq (Zs (Xp (Zo rfl (Zo rfl rfl (Xjv k)) rfl)) (Zhq (Zdu (Xdg (Jz (Zo rfl rfl (Zkc h0)))) (Jm rfl))))
 ·by_cases h1:(ns.length:Int)<p+k.w
  ·have e:good ns k p=false:=decide_eq_false (by omega)
   rw [e]
   exact Jq (Zs (Xp (Zo rfl (Zo rfl rfl (Xjv k)) rfl)) (Zhq (Zdu (Zjc (Jz (Zo rfl rfl (Zot h0))) (Jz (Zo rfl (Js (Zd rfl rfl) l1) (Zkc h1)))) (Jm rfl))))
  ·have hs:=Ztw (ns:=ns) (b:=p) (e:=p+k.w) (by omega) (by omega) (by omega)
   have e:good ns k p=decide (pre ns (p+k.w).toNat - pre ns p.toNat≤k.al):=by
    unfold good
    apply decide_eq_decide.mpr
    constructor
    ·exact fun z=>z.2.2
    ·exact fun z=>⟨by omega,by omega,z⟩
   rw [e]
   exact Jq (Zs (Xp (Zo rfl (Zo rfl rfl (Xjv k)) rfl)) (Zs (Jf (Zjc (Jz (Zo rfl rfl (Zot h0))) (Jz (Zo rfl (Js (Zd rfl rfl) l1) (Zot h1)))) rfl) (Jm (Zo (Zv (Zd rfl (Zd rfl (Zd rfl rfl))) hs) (Zo rfl rfl (kD_3 k)) rfl))))
theorem Zvg (ns:List Int)(hn:ns.length≤63){i:Int}(h0:0≤i)(h1:i<1000000):∃n:Int,Zan [.scr ns,.int i]=.ok (.int n):=by
 have c:(cE (f2 gLt (fV 1) (fA Zap (Zc (fV 0) Zt)))) [some (.scr ns),some (.int i),none,none]=.ok (decide (i<ns.length)):=Jz (Zo rfl (Js (Zd rfl rfl) rfl) rfl)
 by_cases h:i<ns.length
 ·have hi:i.toNat<ns.length:=(toNat_lt h0).mpr h
  have e:gIx (.scr ns) (.int i)=some (.int (ns.getD i.toNat 0)):=congrArg (Option.map D.int) (Zob (k:=i.toNat) (Int.toNat_of_nonneg h0).symm (by simp [List.getD,hi]))
  exact ⟨_,Jq (Zhq (Zdu (c.trans (congrArg Dl.R.ok (decide_eq_true h))) (Jm (Zgu (Zo rfl rfl e) rfl))))⟩
 ·have key:∃seed:Int,∃o,Zdy (Zp 3) Zev ((ns.take 63).map D.int) [some (.scr ns),some (.int i),some (.int 5),none]=.ok (.nx [some (.scr ns),some (.int i),some (.int seed),o]):=by
   refine Zhb (P:=fun _ ρ=>∃seed:Int,∃o,ρ=[some (.scr ns),some (.int i),some (.int seed),o]) (Rr:=fun r=>∃seed:Int,∃o,r=.ok (.nx [some (.scr ns),some (.int i),some (.int seed),o])) ⟨5,none,rfl⟩ ?_ ?_
   ·rintro j x ρ hx ⟨seed,o,rfl⟩
    rw [getElem?_map] at hx
    obtain ⟨y,hy,rfl⟩:=Option.map_eq_some_iff.mp hx
    exact ⟨_,rfl,.inl ⟨_,.inl (Xp (Zo (Zo (Zo (Zo rfl rfl (mulR (by decide) (by decide))) (Zo rfl rfl (Zcs (by decide))) rfl) rfl rfl) rfl (Zcs (by decide)))),_,_,rfl⟩⟩
   ·rintro ρ ⟨seed,o,rfl⟩
    exact ⟨seed,o,rfl⟩
  obtain ⟨seed,o,e⟩:=key
  have hc:cut ns none (some 63)=ns.take 63:=Zth (by decide)
  have hl:(Zbk (fSl gSl (fV 0) Zmz (Zfr (fC (.int 63))))) [some (.scr ns),some (.int i),some (.int 5),none]=.ok ((ns.take 63).map D.int):=by
   have hm:min 63 ns.length≤lim:=by show _≤1000000;omega
   simp [-map_take,hc,hm]
  exact ⟨_,Jq (Zs (Jf (c.trans (congrArg Dl.R.ok (decide_eq_false h))) rfl) (Zs (Xp rfl) (Zs (Zjt hl e) (Jm (Zo (Zo rfl (Zo rfl rfl (Zrj (by decide) (by decide))) rfl) rfl (Zcs (by decide)))))))⟩
theorem Xdy (c:Int){k:Int}(h0:0≤k)(h1:k<1000000):∃n:Int,Zbe [.int c,.int k]=.ok (.int n):=by
 have n0:0≤c % 2147483629+1013*k+7919:=Int.add_nonneg (Int.add_nonneg (emod_nonneg _ (by decide)) (mul_nonneg (by decide) h0)) (by decide)
 have n1:c % 2147483629+1013*k+7919<2147483629+1013*1000000+7919:=Int.add_lt_add_right (Int.add_lt_add_of_lt_of_le (emod_lt_of_pos _ (by decide)) (Int.mul_le_mul_of_nonneg_left (Int.le_of_lt h1) (by decide))) _
 have b:(c % 2147483629+1013*k+7919).natAbs<2 ^ 64:=Int.ofNat_lt.mp (by rw [Int.natAbs_of_nonneg n0];exact Int.lt_trans n1 (by decide))
 have e1:=Zjj (i:=c % 2147483629+1013*k+7919) (j:=3) (by decide) (by decide) b
 exact ⟨_,Jq (Zs (Xp (Zo (Zo (Zo (Zo (Zo rfl rfl (Zcs (by decide))) (Zo rfl rfl (Zrj (by decide) (by decide))) rfl) rfl rfl) rfl e1) rfl (Zcs (by decide)))) (Zs (Xp (Zo (Zo (Zo (Zo rfl rfl (mulR (by decide) (by decide))) (Zo (Zo rfl rfl (Zrj (by decide) (by decide))) rfl (mulR h0 (Int.le_of_lt h1))) rfl) rfl rfl) rfl (Zcs (by decide)))) (Jm (Zo rfl rfl (div_ii (by decide) (by decide))))))⟩
structure Row (ms os:List Int):Prop where
 len:os.length=ms.length
 at_:∀k,k<ms.length→0≤os.getD k 0∧os.getD k 0<ms.getD k 0
theorem Row.nil (ms:List Int):Row (ms.take 0) []:=⟨by simp,fun k hk=>by simp at hk⟩
theorem Row.all {ms os:List Int}(h:Row (ms.take ms.length) os):Row ms os:=by
 rw [List.take_length] at h
 exact h
theorem Row.push {ms os:List Int}{k:Nat}{v:Int}(h:Row (ms.take k) os)(hk:k<ms.length)(h0:0≤v)(h1:v<ms.getD k 0):Row (ms.take (k+1)) (os++[v]):=by
 have hl:=h.len
 rw [length_take] at hl
 have hm:min k ms.length=k:=by omega
 have hm':min (k+1) ms.length=k+1:=by omega
 refine ⟨by rw [length_append,length_take,hm',List.length_singleton];omega,fun j hj=>?_⟩
 rw [length_take,hm'] at hj
 by_cases e:j=k
 ·subst e
  have e1:(os++[v]).getD j 0=v:=by
   have:os.length=j:=by omega
   simp [List.getD,← this]
  have e2:(ms.take (j+1)).getD j 0=ms.getD j 0:=by simp [List.getD,List.getElem?_take]
  rw [e1,e2]
  exact ⟨h0,h1⟩
 ·have hj':j<k:=by omega
  have q:=h.at_ j (by rw [length_take];omega)
  have e1:(os++[v]).getD j 0=os.getD j 0:=by
   have:j<os.length:=by omega
   simp [List.getD,getElem?_append_left this]
  have e2:(ms.take (k+1)).getD j 0=(ms.take k).getD j 0:=by
   have h1:j<k+1:=by omega
   simp [List.getD,List.getElem?_take,hj',h1]
  rw [e1,e2]
  exact q
theorem Zbv {P:Int→Prop}{ws:List Int}{i:Nat}(h:∀w∈ws,P w)(hi:i<ws.length):P (ws.getD i 0):=by
 have e:ws.getD i 0=ws[i]:=by simp [List.getD,hi]
 rw [e]
 exact h _ (getElem_mem hi)
theorem Xib (ns:List Int)(hn:ns.length≤63){i:Int}(h0:0≤i)(h1:i<1000)(ms:List Int)(hm:ms.length≤2000)(hms:∀m∈ms,0<m∧m<2 ^ 200):∃os,Yc [.scr ns,.int i,iD ms]=.ok (iD os)∧Row ms os:=by
 obtain ⟨c,hc⟩:=Zvg ns hn h0 (show i<1000000 by omega)
 have key:=Zhb (b:=Zp 6) (s:=Zgp) (xs:=Zek 0 ms.length) (ρ:=[some (.scr ns),some (.int i),some (iD ms),some (.int c),some (.int c),some (.lst []),none,none])
  (P:=fun k ρ=>∃(l:Int) (os:List Int) (o6 o7:Option D),Row (ms.take k) os∧ρ=[some (.scr ns),some (.int i),some (iD ms),some (.int c),some (.int l),some (iD os),o6,o7])
  (Rr:=fun r=>∃(l:Int) (os:List Int) (o6 o7:Option D),Row ms os∧r=.ok (.nx [some (.scr ns),some (.int i),some (iD ms),some (.int c),some (.int l),some (iD os),o6,o7]))
  ⟨c,[],none,none,Row.nil ms,rfl⟩ ?_ ?_
 ·obtain ⟨l,os,o6,o7,hr,e⟩:=key
  refine ⟨os,?_,hr⟩
  have b1:-1000000000≤(ms.length:Int)∧(ms.length:Int)≤1000000:=by omega
  have gl:Zap [iD ms]=some (.int ms.length):=by simp [iD]
  exact Jq (Zs (Xp (Zv (Zd rfl (Zd rfl rfl)) hc)) (Zs (Xp (Zgu rfl rfl)) (Zs (Xp rfl) (Zs (Zjt (Zoq (Zd (Js (Zd rfl rfl) gl) rfl) b1) e) (Jm rfl)))))
 ·rintro k x ρ hx ⟨l,os,o6,o7,hr,rfl⟩
  obtain ⟨hk,rfl⟩:=Zkl hx
  rw [zero_add]
  have hol:os.length=k:=by have:=hr.len;rw [length_take] at this;omega
  have hlim:(os.map D.int).length<lim:=by rw [length_map];show _<1000000;omega
  have c1:∀o5:Option D,(cE (f2 gLt (fV 3) (f2 Zir (fC (.int 10)) (fC (.int 18))))) [some (.scr ns),some (.int i),some (iD ms),some (.int c),some (.int l),o5,some (.int k),o7]=.ok (decide (c<1000000000000000000)):=fun _=>Jz (Zo rfl (Zo rfl rfl Zhf) rfl)
  have ap:∀v:Int,iD (os++[v])=.lst (os.map D.int++[.int v]):=fun v=>congrArg D.lst map_append
  have hmk:=Zbv hms hk
  have ix:=Zbi (ns:=ms) (i:=(k:Int)) (k:=k) rfl hk
  have md:∀z:Int,Zhe (.int z) (.int (ms.getD k 0))=some (.int (z % ms.getD k 0)):=fun z=>Zcs hmk.1
  have nn:∀z:Int,0≤z % ms.getD k 0∧z % ms.getD k 0<ms.getD k 0:=fun z=>⟨emod_nonneg _ (Int.ne_of_gt hmk.1),emod_lt_of_pos _ hmk.1⟩
  have k0:0≤(k:Int)∧(k:Int)<1000000:=by omega
  obtain ⟨x1,hx1⟩:=Xdy c k0.1 k0.2
  obtain ⟨c2,hc2⟩:=Zvg ns hn (i:=(i+1+k) % 63) (emod_nonneg _ (by decide)) (Int.lt_trans (emod_lt_of_pos _ (by decide)) (by decide))
  obtain ⟨x2,hx2⟩:=Xdy c2 k0.1 k0.2
  refine ⟨_,rfl,.inl ?_⟩
  by_cases a1:c<1000000000000000000
  ·refine ⟨[some (.scr ns),some (.int i),some (iD ms),some (.int c),some (.int l),some (iD (os++[x1 % ms.getD k 0])),some (.int k),o7],.inl ?_,l,_,_,o7,hr.push hk (nn x1).1 (nn x1).2,rfl⟩
   rw [ap]
   exact Zdu ((c1 _).trans (congrArg Dl.R.ok (decide_eq_true a1))) (Zgz rfl (Zo (Zv (Zd rfl (Zd rfl rfl)) hx1) (Zo rfl rfl ix) (md x1)) hlim)
  ·by_cases a2:0<l
   ·refine ⟨[some (.scr ns),some (.int i),some (iD ms),some (.int c),some (.int (l / ms.getD k 0)),some (iD (os++[l % ms.getD k 0])),some (.int k),o7],.inl ?_,_,_,_,o7,hr.push hk (nn l).1 (nn l).2,rfl⟩
    rw [ap]
    exact Jf ((c1 _).trans (congrArg Dl.R.ok (decide_eq_false a1))) (Zdu (Jz (Zo rfl rfl (congrArg (fun b=>some (D.bl b)) (decide_eq_true a2)))) (Zs (Zgz rfl (Zo rfl (Zo rfl rfl ix) (md l)) hlim) (Xp (Zo rfl (Zo rfl rfl ix) (div_ii hmk.1 hmk.2)))))
   ·refine ⟨[some (.scr ns),some (.int i),some (iD ms),some (.int c),some (.int l),some (iD (os++[x2 % ms.getD k 0])),some (.int k),some (.int c2)],.inl ?_,l,_,_,_,hr.push hk (nn x2).1 (nn x2).2,rfl⟩
    rw [ap]
    exact Jf ((c1 _).trans (congrArg Dl.R.ok (decide_eq_false a1))) (Jf (Jz (Zo rfl rfl (congrArg (fun b=>some (D.bl b)) (decide_eq_false a2)))) (Zs (Xp (Zv (Zd rfl (Zd (Zo (Zo (Zo rfl rfl rfl) rfl rfl) rfl (Zcs (by decide))) rfl)) hc2)) (Zgz rfl (Zo (Zv (Zd rfl (Zd rfl rfl)) hx2) (Zo rfl rfl ix) (md x2)) hlim)))
 ·rintro ρ ⟨l,os,o6,o7,hr,rfl⟩
  rw [Zbm] at hr
  exact ⟨l,os,o6,o7,hr.all,rfl⟩
theorem Zma (ns:List Int)(hn:ns.length≤63){i:Int}(h0:0≤i)(h1:i<1000)(ms:List Int)(hm:ms.length≤1000)(hms:∀m∈ms,0<m∧m<2 ^ 200):∃os,Yc [.scr ns,.int i,iD ms]=.ok (iD os)∧Row ms os:=Xib ns hn h0 h1 ms (le_trans hm (by decide)) hms
theorem Zgm (ws:List Int){i:Int}(h0:0≤i)(h1:i<ws.length):gIx (.lst (ws.map D.int)) (.int i)=some (.int (ws.getD i.toNat 0)):=Zbi (by omega) (by omega)
theorem Zci (l:List Int):∀n:Nat,(List.replicate n l).flatten.length=n*l.length
 | 0=>by simp
 | n+1=>by rw [replicate_succ,flatten_cons,length_append,Zci l n,Nat.succ_mul,Nat.add_comm]
theorem Xff (l:List Int)(n:Nat):(List.replicate n (l.map D.int)).flatten=(List.replicate n l).flatten.map D.int:=by
 rw [List.map_flatten,List.map_replicate]
theorem Zny {ws:List Int}{m:Int}(h0:0≤m)(h1:m≤200)(hl:ws.length≤1000):Zbo (.lst (ws.map D.int)) (.int m)=some (iD (List.replicate m.toNat ws).flatten):=by
  simp only [Zbo]
  rw [if_pos ⟨by omega,by
    rw [length_map]
    show ws.length*m.toNat≤1000000
    have:ws.length*m.toNat≤1000*200:=Nat.mul_le_mul hl (by omega)
    omega,by omega,Zbd ws⟩,Xff]
  rfl
theorem Zhh {xs ys:List Int}(h:xs.length+ys.length≤1000000):Jn (iD xs) (iD ys)=some (iD (xs++ys)):=by
 show (if (xs.map D.int).length+(ys.map D.int).length≤lim∧Yi (xs.map D.int)∧Yi (ys.map D.int) then some (D.lst (xs.map D.int++ys.map D.int)) else none)=_
 rw [if_pos ⟨by rw [length_map,length_map];exact h,Zbd _,Zbd _⟩,← map_append]
 rfl
theorem Zkt (x y:Int):∀(n k:Nat),k<n→(List.replicate n [x,y]).flatten.getD (2*k) 0=x∧(List.replicate n [x,y]).flatten.getD (2*k+1) 0=y
 | 0,k,h=>by omega
 | n+1,0,_=>by simp [replicate_succ,flatten_cons,List.getD]
 | n+1,k+1,h=>by
  have q:=Zkt x y n k (by omega)
  have e1:2*(k+1)=2*k+2:=by omega
  rw [replicate_succ,flatten_cons,e1]
  exact q
theorem Zpu (x y z:Int):∀(n k:Nat),k<n→(List.replicate n [x,y,z]).flatten.getD (3*k) 0=x∧(List.replicate n [x,y,z]).flatten.getD (3*k+1) 0=y∧(List.replicate n [x,y,z]).flatten.getD (3*k+2) 0=z
 | 0,k,h=>by omega
 | n+1,0,_=>by simp [replicate_succ,flatten_cons,List.getD]
 | n+1,k+1,h=>by
  have q:=Zpu x y z n k (by omega)
  have e1:3*(k+1)=3*k+3:=by omega
  rw [replicate_succ,flatten_cons,e1]
  exact q
theorem Zoz {l:List Int}{n:Nat}{z:Int}(h:z∈(List.replicate n l).flatten):z∈l:=by
 obtain ⟨l',hl,hz⟩:=List.mem_flatten.mp h
 rwa [(List.mem_replicate.mp hl).2] at hz
noncomputable def Zby:List Str:=["a","ab","abc","b","ba","z","zzzzzzzz","roll","cut","by","aab","zz","kind","qsvw","fghjmp","x"]
theorem Xca:∀j:Nat,j<16→∀k:Nat,k<16→Zby.getD j ""=Zby.getD k ""→j=k:=by decide +kernel
noncomputable def nameAt (s4 s5:Int)(k:Nat):Str:=Zby.getD ((s4+(2*s5+1)*(k:Int)) % 16).toNat ""
theorem Xai:∀t:Nat,t<4→∀j:Nat,j<8→∀k:Nat,k<8→((2*(t:Int)+1)*j - (2*(t:Int)+1)*k) % 16=0→j=k:=by decide +kernel
theorem Zsc {s4 s5:Int}(h0:0≤s5)(h1:s5<4){j k:Nat}(hj:j<8)(hk:k<8)(e:nameAt s4 s5 j=nameAt s4 s5 k):j=k:=by
 have lt:∀x:Int,(x % 16).toNat<16:=fun x=>(toNat_lt (emod_nonneg x (by decide))).mpr (emod_lt_of_pos x (by decide))
 have q:=congrArg Int.ofNat (Xca _ (lt _) _ (lt _) e)
 have q1:(s4+(2*s5+1)*(j:Int)) % 16=(s4+(2*s5+1)*(k:Int)) % 16:=(Int.toNat_of_nonneg (emod_nonneg _ (by decide))).symm.trans (q.trans (Int.toNat_of_nonneg (emod_nonneg _ (by decide))))
 have q2:=Int.emod_eq_emod_iff_emod_sub_eq_zero.mp q1
 rw [Int.add_sub_add_left] at q2
 obtain ⟨t,rfl⟩:=Int.eq_ofNat_of_zero_le h0
 exact Xai t (Int.ofNat_lt.mp h1) j hj k hk q2
theorem Zsi (s4 s5:Int)(k:Nat):nameAt s4 s5 k∈Zby:=by
 unfold nameAt
 have h:((s4+(2*s5+1)*(k:Int)) % 16).toNat<Zby.length:=by show _<16;omega
 have e:Zby.getD ((s4+(2*s5+1)*(k:Int)) % 16).toNat ""=Zby[((s4+(2*s5+1)*(k:Int)) % 16).toNat]:=by simp [List.getD,h]
 rw [e]
 exact getElem_mem h
structure Zpx (k:Kd):Prop where
 nm:k.name∈Zby
 w1:1≤k.w
 w2:k.w≤200
 o1:1≤k.wo
 o2:k.wo≤1000000000000000000
 a1:0≤k.al
 a2:k.al<1000000000000000000
structure TabOk (ks:List Kd):Prop where
 ok:∀k∈ks,Zpx k
 nd:(ks.map (·.name)).Nodup
theorem Xha {i:Int}(h0:0≤i)(h1:i<16):gIx (.lst (Zby.map D.str)) (.int i)=some (.str (Zby.getD i.toNat "")):=ix_l (k:=i.toNat) (by omega) (by
  have h:i.toNat<Zby.length:=by show _<16;omega
  simp [List.getD,h])
theorem Zkr {ms:List Int}(h:∀m∈ms,0<m∧m≤1000000):∀m∈ms,0<m∧m<2 ^ 200:=fun m hm=>⟨(h m hm).1,Int.lt_of_le_of_lt (h m hm).2 (by decide)⟩
theorem four {x:Int}(h:0≤x∧x<4):x=0∨x=1∨x=2∨x=3:=by
 obtain ⟨n,rfl⟩:=Int.eq_ofNat_of_zero_le h.1
 match n,Int.ofNat_lt.mp h.2 with
 | 0,_=>exact .inl rfl
 | 1,_=>exact .inr (.inl rfl)
 | 2,_=>exact .inr (.inr (.inl rfl))
 | 3,_=>exact .inr (.inr (.inr rfl))
theorem Zpv {x m:Int}(hm:0<m):0≤x % m∧x % m<m:=⟨emod_nonneg _ (Int.ne_of_gt hm),emod_lt_of_pos _ hm⟩
theorem Zyw {d0 d1 d2 o9 o10 o11 o12 o13:Option D}{O:D}{T:List D}{fl gn bw wd am x3 x4 x5 x6 x7 x8:Int}{k:Nat}{nm:Str}
    (j0:gIx O (.int (3*(k:Int)+6))=some (.int x6)) (j1:gIx O (.int (3*(k:Int)+6+1))=some (.int x7)) (j2:gIx O (.int (3*(k:Int)+6+2))=some (.int x8))
    (j3:gIx O (.int 3)=some (.int x3)) (j4:gIx O (.int 4)=some (.int x4)) (j5:gIx O (.int 5)=some (.int x5))
    (ib:gIx (.lst [.int 150,.int 200]) (.int ((k:Int) % 2))=some (.int bw))
    (iw:gIx (.lst [.int 1,.int 2,.int 3,.int 4,.int 5,.int 6,.int 2,.int 3,.int 11,.int 40,.int bw]) (.int x6)=some (.int wd))
    (ia:gIx (.lst [.int 0,.int 0,.int 1,.int 2,.int 3,.int 12]) (.int x8)=some (.int am))
    (iN:gIx (.lst (Zby.map D.str)) (.int ((x4+(2*x5+1)*(k:Int)) % 16))=some (.str nm))
    (w1:1≤wd∧wd≤200) (c7:0≤x7∧x7<40) (c3:0≤x3∧x3<4) (c5:0≤x5∧x5<4) (m1:0≤am∧am≤12) (sl:T.length<lim) :
    ∃wo:Int,(1≤wo∧wo≤1000)∧Zcc [d0,d1,d2,some (.lst (Zby.map D.str)),some O,some (.int fl),some (.int gn),some (.lst T),some (.int k),o9,o10,o11,o12,o13] =
      .ok (.nx [d0,d1,d2,some (.lst (Zby.map D.str)),some O,some (.int fl),some (.int gn),some (.lst (T++[.tup [.str nm,.int wd,.int (min (wo*gn) 1000000000000000000),.int (min (am*fl) 999999999999999999)]])),some (.int k),some (.int (3*(k:Int)+6)),some (.int wd),some (.int wo),some (.int (min (am*fl) 999999999999999999)),some (.str nm)]):=by
  obtain ⟨wo,hb,mid⟩:∃wo:Int,(1≤wo∧wo≤1000)∧∀Q:FS,(Xu (sIf (cE (f2 gEq (f2 gIx (fV 4) (fC (.int 3))) (fC (.int 1)))) (Yr 11 (f2 Jn (f2 Zbo (fC (.int 3)) (fV 10)) (f2 Zhe (f2 gIx (fV 4) (f2 Jn (fV 9) (fC (.int 1)))) (fC (.int 4))))) sNx)
    (Xu (sIf (cE (f2 gEq (f2 gIx (fV 4) (fC (.int 3))) (fC (.int 2)))) (Yr 11 (f2 Jn (fC (.int 1)) (f2 Zhe (f2 gIx (fV 4) (f2 Jn (fV 9) (fC (.int 1)))) (fC (.int 3))))) sNx)
    (Xu (sIf (cE (f2 gEq (f2 gIx (fV 4) (fC (.int 3))) (fC (.int 3)))) (Yr 11 (f1 Xt (fV 10))) sNx) Q))) [d0,d1,d2,some (.lst (Zby.map D.str)),some O,some (.int fl),some (.int gn),some (.lst T),some (.int k),some (.int (3*(k:Int)+6)),some (.int wd),some (.int (1+x7)),o12,o13] =
      Q [d0,d1,d2,some (.lst (Zby.map D.str)),some O,some (.int fl),some (.int gn),some (.lst T),some (.int k),some (.int (3*(k:Int)+6)),some (.int wd),some (.int wo),o12,o13]:=by
    rcases four c3 with rfl | rfl | rfl | rfl
    · exact ⟨1+x7,⟨Int.le_add_of_nonneg_right c7.1,Int.le_trans (Int.add_le_add_left (Int.le_of_lt c7.2) 1) (by decide)⟩,fun Q=>Zs (Jf (Jz (Zo (Zo rfl rfl j3) rfl rfl)) rfl) (Zs (Jf (Jz (Zo (Zo rfl rfl j3) rfl rfl)) rfl) (Zs (Jf (Jz (Zo (Zo rfl rfl j3) rfl rfl)) rfl) rfl))⟩
    · exact ⟨3*wd+x7 % 4,⟨Int.le_trans (show (1:Int)≤3*1+0 by decide) (Int.add_le_add (Int.mul_le_mul_of_nonneg_left w1.1 (by decide)) (Zpv (by decide)).1),Int.le_trans (Int.add_le_add (Int.mul_le_mul_of_nonneg_left w1.2 (by decide)) (Int.le_of_lt (Zpv (by decide)).2)) (by decide)⟩,fun Q=>Zs (Zdu (Jz (Zo (Zo rfl rfl j3) rfl rfl)) (Xp (Zo (Zo rfl rfl (Zrj (by decide) (by decide))) (Zo (Zo rfl (Zo rfl rfl rfl) j1) rfl (Zcs (by decide))) rfl))) (Zs (Jf (Jz (Zo (Zo rfl rfl j3) rfl rfl)) rfl) (Zs (Jf (Jz (Zo (Zo rfl rfl j3) rfl rfl)) rfl) rfl))⟩
    · exact ⟨1+x7 % 3,⟨Int.le_add_of_nonneg_right (Zpv (by decide)).1,Int.le_trans (Int.add_le_add_left (Int.le_of_lt (Zpv (by decide)).2) 1) (by decide)⟩,fun Q=>Zs (Jf (Jz (Zo (Zo rfl rfl j3) rfl rfl)) rfl) (Zs (Zdu (Jz (Zo (Zo rfl rfl j3) rfl rfl)) (Xp (Zo rfl (Zo (Zo rfl (Zo rfl rfl rfl) j1) rfl (Zcs (by decide))) rfl))) (Zs (Jf (Jz (Zo (Zo rfl rfl j3) rfl rfl)) rfl) rfl))⟩
    · exact ⟨wd,⟨w1.1,Int.le_trans w1.2 (by decide)⟩,fun Q=>Zs (Jf (Jz (Zo (Zo rfl rfl j3) rfl rfl)) rfl) (Zs (Jf (Jz (Zo (Zo rfl rfl j3) rfl rfl)) rfl) (Zs (Zdu (Jz (Zo (Zo rfl rfl j3) rfl rfl)) (Xp (Zgu rfl rfl))) rfl))⟩
  exact ⟨wo,hb,Zs (Xp (Zo (Zo rfl rfl (Zrj (by decide) (by decide))) rfl rfl)) (Zs (Xp (Zgu (Zo (Js (Zd rfl (Zd rfl (Zd rfl (Zd rfl (Zd rfl (Zd rfl (Zd rfl (Zd rfl (Zd rfl (Zd rfl (Zd (Zo rfl (Zo rfl rfl (Zcs (by decide))) ib) rfl))))))))))) rfl) (Zo rfl rfl j0) iw) rfl)) (Zs (Xp (Zo rfl (Zo rfl (Zo rfl rfl rfl) j1) rfl)) ((mid _).trans
    (Zs (Xp (Js (Zd (Zo (Zo rfl (Zo rfl (Zo rfl rfl rfl) j2) ia) rfl (Zrj m1.1 (Int.le_trans m1.2 (by decide)))) (Zd (Zo (Zo rfl rfl Zhf) rfl (show Zkz (.int 1000000000000000000) (.int 1)=some (.int 999999999999999999) from rfl)) rfl)) (Xdt _ _)))
    (Zs (Xp (Zgu (Zo rfl (Zo (Zo (Zo rfl rfl j4) (Zo (Zo (Zo rfl (Zo rfl rfl j5) (Zrj (by decide) (by decide))) rfl rfl) rfl (Zrj (Int.add_nonneg (mul_nonneg (by decide) c5.1) (by decide)) (Int.le_trans (Int.add_le_add_right (Int.mul_le_mul_of_nonneg_left (Int.le_of_lt c5.2) (by decide)) 1) (by decide)))) rfl) rfl (Zcs (by decide))) iN) rfl))
    (Zgz rfl (Js (Zd (Zgu rfl rfl) (Zd (Zgu rfl rfl) (Zd (Js (Zd (Zo rfl rfl (Zrj (Int.le_trans (by decide) hb.1) (Int.le_trans hb.2 (by decide)))) (Zd (Zo rfl rfl Zhf) rfl)) (Xdt _ _)) (Zd (Zgu rfl rfl) rfl)))) rfl) sl))))))⟩
theorem under {x m:Int}{k:Nat}(h:k<x.toNat)(hx:x<m+1):k<m.toNat:=by omega
theorem Zzp {P:Int→Prop}{l:List Int}{b:Int}(h:∀z∈l,P z)(hb:P b):∀z∈l++[b],P z:=List.forall_mem_append.mpr ⟨h,fun _ hz=>List.mem_singleton.mp hz▸hb⟩
theorem Xno {k j m:Nat}(h:k<m)(hj:j<3):3*k+(j+6)<6+m*3:=by omega
theorem Xcz (ns:List Int)(hn:ns.length≤63){i m:Int}(h0:0≤i)(h1:i<1000)(m0:0≤m)(m1:m≤8):∃ks,Zat [.scr ns,.int i,.int m]=.ok (tD ks)∧(ks.length:Int)≤m∧TabOk ks:=by
  have m8:m.toNat≤8:=Int.toNat_le.mpr m1
  have m24:6+m.toNat*3≤30:=Nat.add_le_add_left (Nat.mul_le_mul_right 3 m8) 6
  have ms_eq:Jn (iD [m+1,4,4,4,16,4]) (iD (List.replicate m.toNat [11,40,6]).flatten)=some (iD ([m+1,4,4,4,16,4]++(List.replicate m.toNat [11,40,6]).flatten)):=Zhh (by
    rw [Zci]
    exact le_trans m24 (by decide))
  have mr:=Zny (ws:=[11,40,6]) m0 (Int.le_trans m1 (by decide)) (by decide)
  have hml:([m+1,4,4,4,16,4]++(List.replicate m.toNat [(11:Int),40,6]).flatten).length=6+m.toNat*3:=by rw [length_append,Zci];rfl
  obtain ⟨os,hos,R⟩:=Zma ns hn h0 h1 ([m+1,4,4,4,16,4]++(List.replicate m.toNat [11,40,6]).flatten) (by rw [hml];exact le_trans m24 (by decide)) (Zkr (List.forall_mem_append.mpr ⟨List.forall_mem_cons.mpr ⟨⟨Int.lt_add_one_of_le m0,Int.le_trans (Int.add_le_add_right m1 1) (by decide)⟩,by decide⟩,fun z hz=>(by decide:∀z∈[(11:Int),40,6],0<z∧z≤1000000) z (Zoz hz)⟩))
  have hol:os.length=6+m.toNat*3:=by rw [R.len,hml]
  have hlt:∀{j:Nat},j<6→j<([m+1,4,4,4,16,4]++(List.replicate m.toNat [(11:Int),40,6]).flatten).length:=fun h=>by rw [hml];exact lt_of_lt_of_le h (le_add_right _ _)
  have hlo:∀{j:Nat},j<6→j<os.length:=fun h=>by rw [hol];exact lt_of_lt_of_le h (le_add_right _ _)
  have tri:∀k j:Nat,k<m.toNat→j<3→3*k+(j+6)<6+m.toNat*3:=fun _ _ h hj=>Xno h hj
  have a0:0≤os.getD 0 0∧os.getD 0 0<m+1:=R.at_ 0 (hlt (by decide))
  have a1:0≤os.getD 1 0∧os.getD 1 0<4:=R.at_ 1 (hlt (by decide))
  have a2:0≤os.getD 2 0∧os.getD 2 0<4:=R.at_ 2 (hlt (by decide))
  have a3:0≤os.getD 3 0∧os.getD 3 0<4:=R.at_ 3 (hlt (by decide))
  have a4:0≤os.getD 4 0∧os.getD 4 0<16:=R.at_ 4 (hlt (by decide))
  have a5:0≤os.getD 5 0∧os.getD 5 0<4:=R.at_ 5 (hlt (by decide))
  have b3:∀k:Nat,k<m.toNat→(0≤os.getD (3*k+6) 0∧os.getD (3*k+6) 0<11)∧(0≤os.getD (3*k+7) 0∧os.getD (3*k+7) 0<40)∧(0≤os.getD (3*k+8) 0∧os.getD (3*k+8) 0<6):=fun k hk=>by
    obtain ⟨g1,g2,g3⟩:=Zpu 11 40 6 m.toNat k hk
    have e:∀j:Nat,([m+1,4,4,4,16,4]++(List.replicate m.toNat [(11:Int),40,6]).flatten).getD (j+6) 0=(List.replicate m.toNat [(11:Int),40,6]).flatten.getD j 0:=fun j=>rfl
    have r1:=R.at_ (3*k+6) (by rw [hml];exact tri k 0 hk (by decide))
    have r2:=R.at_ (3*k+7) (by rw [hml];exact tri k 1 hk (by decide))
    have r3:=R.at_ (3*k+8) (by rw [hml];exact tri k 2 hk (by decide))
    rw [e (3*k),g1] at r1
    rw [show 3*k+7=(3*k+1)+6 from rfl,e (3*k+1),g2] at r2
    rw [show 3*k+8=(3*k+2)+6 from rfl,e (3*k+2),g3] at r3
    exact ⟨r1,r2,r3⟩
  have ix:∀k:Nat,k<os.length→∀j:Int,j=(k:Int)→gIx (.lst (os.map D.int)) (.int j)=some (.int (os.getD k 0)):=fun k hk j e=>Zbi e hk
  obtain ⟨fl,hfl⟩:∃fl,fl=([1,1,7,100000000000000000]:List Int).getD (os.getD 1 0).toNat 0:=⟨_,rfl⟩
  obtain ⟨gn,hgn⟩:∃gn,gn=([1,1,1000000,25000000000000000]:List Int).getD (os.getD 2 0).toNat 0:=⟨_,rfl⟩
  have fl1:1≤fl∧fl≤100000000000000000:=by
    rw [hfl]
    exact Zbv (P:=fun z=>1≤z∧z≤100000000000000000) (by decide) (show _<4 from (toNat_lt a1.1).mpr a1.2)
  have gn1:1≤gn∧gn≤25000000000000000:=by
    rw [hgn]
    exact Zbv (P:=fun z=>1≤z∧z≤25000000000000000) (by decide) (show _<4 from (toNat_lt a2.1).mpr a2.2)
  have i1:gIx (.lst [.int 1,.int 1,.int 7,.int 100000000000000000]) (.int (os.getD 1 0))=some (.int fl):=by rw [hfl];exact Zgm [1,1,7,100000000000000000] a1.1 a1.2
  have i2:gIx (.lst [.int 1,.int 1,.int 1000000,.int 25000000000000000]) (.int (os.getD 2 0))=some (.int gn):=by rw [hgn];exact Zgm [1,1,1000000,25000000000000000] a2.1 a2.2
  have key:=Zhb (b:=Zp 8) (s:=Zcc) (xs:=Zek 0 (os.getD 0 0).toNat) (ρ:=[some (.scr ns),some (.int i),some (.int m),some (.lst (Zby.map D.str)),some (iD os),some (.int fl),some (.int gn),some (.lst []),none,none,none,none,none,none])
    (P:=fun k ρ=>∃(ks:List Kd) (o8 o9 o10 o11 o12 o13:Option D),ks.length=k∧(∀x∈ks,Zpx x)∧ks.map (·.name)=(List.range k).map (nameAt (os.getD 4 0) (os.getD 5 0))∧ρ=[some (.scr ns),some (.int i),some (.int m),some (.lst (Zby.map D.str)),some (iD os),some (.int fl),some (.int gn),some (tD ks),o8,o9,o10,o11,o12,o13])
    (Rr:=fun r=>∃(ks:List Kd) (o8 o9 o10 o11 o12 o13:Option D),ks.length=(os.getD 0 0).toNat∧(∀x∈ks,Zpx x)∧ks.map (·.name)=(List.range ks.length).map (nameAt (os.getD 4 0) (os.getD 5 0))∧r=.ok (.nx [some (.scr ns),some (.int i),some (.int m),some (.lst (Zby.map D.str)),some (iD os),some (.int fl),some (.int gn),some (tD ks),o8,o9,o10,o11,o12,o13]))
    ⟨[],none,none,none,none,none,none,rfl,(fun _ h=>nomatch h),rfl,rfl⟩ ?_ ?_
  · obtain ⟨ks,o8,o9,o10,o11,o12,o13,kl,kok,knm,e⟩:=key
    have k8:ks.length≤8:=by rw [kl];exact Int.toNat_le.mpr (Int.le_trans (Int.lt_add_one_iff.mp a0.2) m1)
    refine ⟨ks,?_,by rw [kl,Int.toNat_of_nonneg a0.1];exact Int.lt_add_one_iff.mp a0.2,kok,?_⟩
    · have b1:-1000000000≤os.getD 0 0∧os.getD 0 0≤1000000:=⟨Int.le_trans (by decide) a0.1,Int.le_trans (Int.lt_add_one_iff.mp a0.2) (Int.le_trans m1 (by decide))⟩
      have hp:Jn (.lst [.str ("a":Str),.str ("ab":Str),.str ("abc":Str),.str ("b":Str),.str ("ba":Str),.str ("z":Str),.str ("zzzzzzzz":Str),.str ("roll":Str),.str ("cut":Str),.str ("by":Str)]) (.lst [.str ("aab":Str),.str ("zz":Str),.str ("kind":Str),.str ("qsvw":Str),.str ("fghjmp":Str),.str ("x":Str)])=some (.lst (Zby.map D.str)):=rfl
      have mr':Zbo (.lst [.int 11,.int 40,.int 6]) (.int m)=_:=mr
      have ms':Jn (.lst [.int (m+1),.int 4,.int 4,.int 4,.int 16,.int 4]) (iD (List.replicate m.toNat [11,40,6]).flatten)=_:=ms_eq
      generalize iD ([m+1,4,4,4,16,4]++(List.replicate m.toNat [11,40,6]).flatten)=Mv at hos ms'
      generalize iD (List.replicate m.toNat [11,40,6]).flatten=Mw at mr' ms'
      exact Jq (Zs (Xp rfl) (Zs (Xp (Zo rfl rfl hp)) (Zs (Xp (Zv (Zd rfl (Zd rfl (Zd (Zo (Js (Zd (Zo rfl rfl rfl) rfl) rfl) (Zo rfl rfl mr') ms') rfl))) hos))
        (Zs (Xp (Zgu (Zo (Js (Zd rfl (Zd rfl (Zd rfl (Zd (Zo rfl rfl Zpj) rfl)))) rfl) (Zo rfl rfl (ix 1 (hlo (by decide)) 1 rfl)) i1) rfl))
        (Zs (Xp (Zgu (Zo (Js (Zd rfl (Zd rfl (Zd (Zo rfl rfl (show Zir (.int 10) (.int 6)=some (.int 1000000) by simp)) (Zd (Zo rfl (Zo rfl rfl Xam) (show Zbo (.int 25) (.int 1000000000000000)=some (.int 25000000000000000) from Zrj (by decide) (by decide))) rfl)))) rfl) (Zo rfl rfl (ix 2 (hlo (by decide)) 2 rfl)) i2) rfl))
        (Zs (Xp rfl) (Zs (Zjt (Zoq (Zd (Zo rfl rfl (ix 0 (hlo (by decide)) 0 rfl)) rfl) b1) e) (Jm rfl))))))))
    · rw [knm,List.nodup_iff_pairwise_ne,List.pairwise_map]
      refine List.Pairwise.imp_of_mem ?_ (List.nodup_iff_pairwise_ne.mp List.nodup_range)
      intro i j hi hj hij e
      have hi:=List.mem_range.mp hi
      have hj:=List.mem_range.mp hj
      exact hij (Zsc a5.1 a5.2 (lt_of_lt_of_le hi (le_trans k8 (by decide))) (lt_of_lt_of_le hj (le_trans k8 (by decide))) e)
  · rintro k x ρ hx ⟨ks,o8,o9,o10,o11,o12,o13,kl,kok,knm,rfl⟩
    obtain ⟨hk,rfl⟩:=Zkl hx
    rw [zero_add]
    have hkm:k<m.toNat:=under hk a0.2
    obtain ⟨c1,c2,c3⟩:=b3 k hkm
    have j0:=ix (3*k+6) (by rw [hol];exact tri k 0 hkm (by decide)) (3*k+6) rfl
    have j1:=ix (3*k+7) (by rw [hol];exact tri k 1 hkm (by decide)) (3*k+6+1) (add_assoc _ 6 1)
    have j2:=ix (3*k+8) (by rw [hol];exact tri k 2 hkm (by decide)) (3*k+6+2) (add_assoc _ 6 2)
    have j3:=ix 3 (hlo (by decide)) 3 rfl
    have j4:=ix 4 (hlo (by decide)) 4 rfl
    have j5:=ix 5 (hlo (by decide)) 5 rfl
    obtain ⟨bw,hbw⟩:∃bw,bw=([150,200]:List Int).getD ((k:Int) % 2).toNat 0:=⟨_,rfl⟩
    have k2:0≤(k:Int) % 2∧(k:Int) % 2<2:=⟨emod_nonneg _ (by decide),emod_lt_of_pos _ (by decide)⟩
    have bw1:1≤bw∧bw≤200:=by
      rw [hbw]
      exact Zbv (P:=fun z=>1≤z∧z≤200) (by decide) (show _<2 from (toNat_lt k2.1).mpr k2.2)
    have ib:gIx (.lst [.int 150,.int 200]) (.int ((k:Int) % 2))=some (.int bw):=by rw [hbw];exact Zgm [150,200] k2.1 k2.2
    obtain ⟨wd,hwd⟩:∃wd,wd=([1,2,3,4,5,6,2,3,11,40,bw]:List Int).getD (os.getD (3*k+6) 0).toNat 0:=⟨_,rfl⟩
    have wd1:1≤wd∧wd≤200:=by
      rw [hwd]
      exact Zbv (P:=fun z=>1≤z∧z≤200) (Zzp (l:=[1,2,3,4,5,6,2,3,11,40]) (by decide) bw1) (show _<11 from (toNat_lt c1.1).mpr c1.2)
    have iw:gIx (.lst [.int 1,.int 2,.int 3,.int 4,.int 5,.int 6,.int 2,.int 3,.int 11,.int 40,.int bw]) (.int (os.getD (3*k+6) 0))=some (.int wd):=by rw [hwd];exact Zgm [1,2,3,4,5,6,2,3,11,40,bw] c1.1 c1.2
    obtain ⟨am,ham⟩:∃am,am=([0,0,1,2,3,12]:List Int).getD (os.getD (3*k+8) 0).toNat 0:=⟨_,rfl⟩
    have am1:0≤am∧am≤12:=by
      rw [ham]
      exact Zbv (P:=fun z=>0≤z∧z≤12) (by decide) (show _<6 from (toNat_lt c3.1).mpr c3.2)
    have ia:gIx (.lst [.int 0,.int 0,.int 1,.int 2,.int 3,.int 12]) (.int (os.getD (3*k+8) 0))=some (.int am):=by rw [ham];exact Zgm [0,0,1,2,3,12] c3.1 c3.2
    have iN:=Xha (i:=(os.getD 4 0+(2*os.getD 5 0+1)*(k:Int)) % 16) (emod_nonneg _ (by decide)) (emod_lt_of_pos _ (by decide))
    have sl:(ks.map kD).length<lim:=by rw [length_map,kl];exact lt_of_lt_of_le hkm (le_trans m8 (by decide))
    obtain ⟨wo,wo1,turn⟩:=Zyw (d0:=some (.scr ns)) (d1:=some (.int i)) (d2:=some (.int m)) (o9:=o9) (o10:=o10) (o11:=o11) (o12:=o12) (o13:=o13) (fl:=fl) (gn:=gn) j0 j1 j2 j3 j4 j5 ib iw ia iN wd1 c2 a3 a5 am1 sl
    have pr:0≤am*fl:=mul_nonneg am1.1 (Int.le_trans (by decide) fl1.1)
    have wg:1≤wo*gn:=Int.mul_le_mul wo1.1 gn1.1 (by decide) (Int.le_trans (by decide) wo1.1)
    have kd:Zpx ⟨nameAt (os.getD 4 0) (os.getD 5 0) k,wd,min (wo*gn) 1000000000000000000,min (am*fl) 999999999999999999⟩:=⟨Zsi _ _ _,wd1.1,wd1.2,Int.le_min.mpr ⟨wg,by decide⟩,Int.min_le_right _ _,Int.le_min.mpr ⟨pr,by decide⟩,Int.lt_of_le_of_lt (Int.min_le_right _ _) (by decide)⟩
    refine ⟨_,rfl,.inl ⟨[some (.scr ns),some (.int i),some (.int m),some (.lst (Zby.map D.str)),some (iD os),some (.int fl),some (.int gn),some (tD (ks++[⟨nameAt (os.getD 4 0) (os.getD 5 0) k,wd,min (wo*gn) 1000000000000000000,min (am*fl) 999999999999999999⟩])),some (.int k),some (.int (3*k+6)),some (.int wd),some (.int wo),some (.int (min (am*fl) 999999999999999999)),some (.str (nameAt (os.getD 4 0) (os.getD 5 0) k))],.inl ?_,_,_,_,_,_,_,_,?_,?_,?_,rfl⟩⟩
    · rw [show tD (ks++[⟨nameAt (os.getD 4 0) (os.getD 5 0) k,wd,min (wo*gn) 1000000000000000000,min (am*fl) 999999999999999999⟩])=.lst (ks.map kD++[.tup [.str (nameAt (os.getD 4 0) (os.getD 5 0) k),.int wd,.int (min (wo*gn) 1000000000000000000),.int (min (am*fl) 999999999999999999)]]) from congrArg D.lst map_append]
      exact turn
    · rw [length_append,kl];rfl
    · intro x hx
      rcases List.mem_append.mp hx with h | h
      · exact kok x h
      · rw [List.mem_singleton.mp h];exact kd
    · rw [map_append,knm,List.range_succ,map_append]
      rfl
  · rintro ρ ⟨ks,o8,o9,o10,o11,o12,o13,kl,kok,knm,rfl⟩
    rw [Zbm] at kl
    exact ⟨ks,o8,o9,o10,o11,o12,o13,kl,kok,by rw [kl];rw [Zbm] at knm;exact knm,rfl⟩
theorem Xif (ns:List Int)(hn:ns.length≤63){i m:Int}(h0:0≤i)(h1:i<1000)(m0:0≤m)(m1:m≤1000):∃fl:Int,Zbj [.scr ns,.int i,.int m]=.ok (.int fl)∧1≤fl∧fl≤100000000000000000:=by
 obtain ⟨os,hos,R⟩:=Zma ns hn h0 h1 [m+1,4] (by decide:2≤1000) (Zkr (List.forall_mem_cons.mpr ⟨⟨by omega,by omega⟩,by decide⟩))
 have hol:os.length=2:=R.len
 have a1:0≤os.getD 1 0∧os.getD 1 0<4:=R.at_ 1 (by decide:1<2)
 obtain ⟨fl,hfl⟩:∃fl,fl=([1,1,7,100000000000000000]:List Int).getD (os.getD 1 0).toNat 0:=⟨_,rfl⟩
 have fl1:1≤fl∧fl≤100000000000000000:=by
  rw [hfl]
  exact Zbv (P:=fun z=>1≤z∧z≤100000000000000000) (by decide) (show _<4 from (toNat_lt a1.1).mpr a1.2)
 have i1:gIx (.lst [.int 1,.int 1,.int 7,.int 100000000000000000]) (.int (os.getD 1 0))=some (.int fl):=by rw [hfl];exact Zgm [1,1,7,100000000000000000] a1.1 a1.2
 have i0:=Zbi (ns:=os) (i:=1) (k:=1) rfl (by rw [hol];decide)
 exact ⟨fl,Jq (Jm (Zgu (Zo (Js (Zd rfl (Zd rfl (Zd rfl (Zd (Zo rfl rfl Zpj) rfl)))) rfl) (Zo (Zv (Zd rfl (Zd rfl (Zd (Js (Zd (Zo rfl rfl rfl) rfl) rfl) rfl))) hos) rfl i0) i1) rfl)),fl1⟩
theorem Zwd (ns:List Int)(hn:ns.length≤63){i m fl:Int}(h0:0≤i)(h1:i<1000)(m0:0≤m)(m1:m≤200)(f0:1≤fl)(f1:fl≤100000000000000000):∃ws,Zab [.scr ns,.int i,.int m,.int fl]=.ok (iD ws)∧(ws.length:Int)≤m∧∀w∈ws,0≤w∧w≤1000000000000000000:=by
  have ms_eq:Jn (iD [m+1,4,3]) (iD (List.replicate m.toNat [8,5]).flatten)=some (iD ([m+1,4,3]++(List.replicate m.toNat [8,5]).flatten)):=Zhh (by
    rw [Zci]
    show 3+m.toNat*2≤1000000
    omega)
  have mr:=Zny (ws:=[8,5]) m0 (show m≤200 by omega) (by decide)
  have hml:([m+1,4,3]++(List.replicate m.toNat [(8:Int),5]).flatten).length=3+m.toNat*2:=by rw [length_append,Zci];rfl
  obtain ⟨os,hos,R⟩:=Zma ns hn h0 h1 ([m+1,4,3]++(List.replicate m.toNat [8,5]).flatten) (by omega) (Zkr (List.forall_mem_append.mpr ⟨List.forall_mem_cons.mpr ⟨⟨by omega,by omega⟩,by decide⟩,fun z hz=>(by decide:∀z∈[(8:Int),5],0<z∧z≤1000000) z (Zoz hz)⟩))
  have hol:os.length=3+m.toNat*2:=by rw [R.len,hml]
  have hlt:∀{j:Nat},j<3→j<([m+1,4,3]++(List.replicate m.toNat [(8:Int),5]).flatten).length:=fun h=>by rw [hml];exact lt_of_lt_of_le h (le_add_right _ _)
  have hlo:∀{j:Nat},j<3→j<os.length:=fun h=>by rw [hol];exact lt_of_lt_of_le h (le_add_right _ _)
  have tri:∀k j:Nat,k<m.toNat→j<2→2*k+(j+3)<3+m.toNat*2:=fun k j h hj=>by omega
  have a0:0≤os.getD 0 0∧os.getD 0 0<m+1:=R.at_ 0 (hlt (by decide))
  have a1:0≤os.getD 1 0∧os.getD 1 0<4:=R.at_ 1 (hlt (by decide))
  have a2:0≤os.getD 2 0∧os.getD 2 0<3:=R.at_ 2 (hlt (by decide))
  have b2:∀k:Nat,k<m.toNat→(0≤os.getD (2*k+3) 0∧os.getD (2*k+3) 0<8)∧(0≤os.getD (2*k+4) 0∧os.getD (2*k+4) 0<5):=fun k hk=>by
    obtain ⟨g1,g2⟩:=Zkt 8 5 m.toNat k hk
    have e:∀j:Nat,([m+1,4,3]++(List.replicate m.toNat [(8:Int),5]).flatten).getD (j+3) 0=(List.replicate m.toNat [(8:Int),5]).flatten.getD j 0:=fun j=>rfl
    have r1:=R.at_ (2*k+3) (by rw [hml];exact tri k 0 hk (by decide))
    have r2:=R.at_ (2*k+4) (by rw [hml];exact tri k 1 hk (by decide))
    rw [e (2*k),g1] at r1
    rw [show 2*k+4=(2*k+1)+3 from rfl,e (2*k+1),g2] at r2
    exact ⟨r1,r2⟩
  have ix:∀k:Nat,k<os.length→∀j:Int,j=(k:Int)→gIx (.lst (os.map D.int)) (.int j)=some (.int (os.getD k 0)):=fun k hk j e=>Zbi e hk
  obtain ⟨gr,hgr,gr1⟩:∃gr:Int,gr=(if os.getD 2 0=0 then 1000000000000000000 else 9*fl)∧0≤gr∧gr≤1000000000000000000:=by
    refine ⟨_,rfl,?_⟩
    split
    · exact ⟨by decide,by decide⟩
    · exact ⟨mul_nonneg (by decide) (Int.le_trans (by decide) f0),Int.le_trans (Int.mul_le_mul_of_nonneg_left f1 (by decide)) (by decide)⟩
  obtain ⟨th,hth⟩:∃th,th=([0,1,3,6]:List Int).getD (os.getD 1 0).toNat 0:=⟨_,rfl⟩
  have ith:gIx (.lst [.int 0,.int 1,.int 3,.int 6]) (.int (os.getD 1 0))=some (.int th):=by rw [hth];exact Zgm [0,1,3,6] a1.1 a1.2
  have key:=Zhb (b:=Zp 7) (s:=Zel) (xs:=Zek 0 (os.getD 0 0).toNat) (ρ:=[some (.scr ns),some (.int i),some (.int m),some (.int fl),some (iD os),some (.int gr),some (.lst []),none,none,none])
    (P:=fun k ρ=>∃(ws:List Int) (o7 o8 o9:Option D),ws.length=k∧(∀x∈ws,0≤x∧x≤1000000000000000000)∧ρ=[some (.scr ns),some (.int i),some (.int m),some (.int fl),some (iD os),some (.int gr),some (iD ws),o7,o8,o9])
    (Rr:=fun r=>∃(ws:List Int) (o7 o8 o9:Option D),ws.length=(os.getD 0 0).toNat∧(∀x∈ws,0≤x∧x≤1000000000000000000)∧r=.ok (.nx [some (.scr ns),some (.int i),some (.int m),some (.int fl),some (iD os),some (.int gr),some (iD ws),o7,o8,o9]))
    ⟨[],none,none,none,rfl,(fun _ h=>nomatch h),rfl⟩ ?_ ?_
  · obtain ⟨ws,o7,o8,o9,wl,wok,e⟩:=key
    refine ⟨ws,?_,by omega,wok⟩
    have b1:-1000000000≤os.getD 0 0∧os.getD 0 0≤1000000:=by omega
    have mr':Zbo (.lst [.int 8,.int 5]) (.int m)=_:=mr
    have ms':Jn (.lst [.int (m+1),.int 4,.int 3]) (iD (List.replicate m.toNat [8,5]).flatten)=_:=ms_eq
    generalize iD ([m+1,4,3]++(List.replicate m.toNat [8,5]).flatten)=Mv at hos ms'
    generalize iD (List.replicate m.toNat [8,5]).flatten=Mw at mr' ms'
    have t1:Zbo (.int 9) (.int fl)=some (.int (9*fl)):=Zrj (by decide) (by decide)
    have body:∀Q r,Q [some (.scr ns),some (.int i),some (.int m),some (.int fl),some (iD os),some (.int gr),none,none,none,none]=r→(Xu (Yr 5 (f2 Zbo (fC (.int 9)) (fV 3))) (Xu (sIf (cE (f2 gEq (f2 gIx (fV 4) (fC (.int 2))) (fC (.int 0)))) (Yr 5 (f2 Zir (fC (.int 10)) (fC (.int 18)))) sNx) Q)) [some (.scr ns),some (.int i),some (.int m),some (.int fl),some (iD os),none,none,none,none,none]=r:=fun Q r h=>by
      have c:∀z:Option D,(cE (f2 gEq (f2 gIx (fV 4) (fC (.int 2))) (fC (.int 0)))) [some (.scr ns),some (.int i),some (.int m),some (.int fl),some (iD os),z,none,none,none,none]=.ok (os.getD 2 0==0):=fun z=>Jz (Zo (Zo rfl rfl (ix 2 (hlo (by decide)) 2 rfl)) rfl rfl)
      by_cases d:os.getD 2 0=0
      · rw [if_pos d] at hgr
        exact Zs (Xp (Zo rfl rfl t1)) (Zs (Zdu ((c _).trans (by rw [d];rfl)) (Xp (Zo rfl rfl Zhf))) (by rw [hgr] at h;exact h))
      · rw [if_neg d] at hgr
        exact Zs (Xp (Zo rfl rfl t1)) (Zs (Jf ((c _).trans (congrArg Dl.R.ok (beq_false_of_ne d))) rfl) (by rw [hgr] at h;exact h))
    exact Jq (Zs (Xp (Zv (Zd rfl (Zd rfl (Zd (Zo (Js (Zd (Zo rfl rfl rfl) rfl) rfl) (Zo rfl rfl mr') ms') rfl))) hos)) (body _ _ (Zs (Xp rfl) (Zs (Zjt (Zoq (Zd (Zo rfl rfl (ix 0 (hlo (by decide)) 0 rfl)) rfl) b1) e) (Jm rfl)))))
  · rintro k x ρ hx ⟨ws,o7,o8,o9,wl,wok,rfl⟩
    obtain ⟨hk,rfl⟩:=Zkl hx
    rw [zero_add]
    have hkm:k<m.toNat:=under hk a0.2
    obtain ⟨c1,c2⟩:=b2 k hkm
    have j0:=ix (2*k+3) (by rw [hol];exact tri k 0 hkm (by decide)) (2*k+3) rfl
    have j1:=ix (2*k+4) (by rw [hol];exact tri k 1 hkm (by decide)) (2*k+3+1) (add_assoc _ 3 1)
    have jj:=ix 1 (hlo (by decide)) 1 rfl
    have sl:ws.length<lim:=by show _<1000000;omega
    obtain ⟨wt,hwt⟩:∃wt,wt=([fl,fl,2*fl,3*fl,gr]:List Int).getD (os.getD (2*k+4) 0).toNat 0:=⟨_,rfl⟩
    have wt1:0≤wt∧wt≤1000000000000000000:=by
      rw [hwt]
      have g:∀n:Int,1≤n→n≤3→0≤n*fl∧n*fl≤1000000000000000000:=fun n n0 n1=>⟨mul_nonneg (Int.le_trans (by decide) n0) (Int.le_trans (by decide) f0),Int.le_trans (Int.mul_le_mul n1 f1 (Int.le_trans (by decide) f0) (by decide)) (by decide)⟩
      have g1:0≤fl∧fl≤1000000000000000000:=⟨Int.le_trans (by decide) f0,Int.le_trans f1 (by decide)⟩
      exact Zbv (P:=fun z=>0≤z∧z≤1000000000000000000) (List.forall_mem_cons.mpr ⟨g1,List.forall_mem_cons.mpr ⟨g1,List.forall_mem_cons.mpr ⟨g 2 (by decide) (by decide),List.forall_mem_cons.mpr ⟨g 3 (by decide) (by decide),List.forall_mem_cons.mpr ⟨gr1,fun _ h=>nomatch h⟩⟩⟩⟩⟩) (show _<5 from (toNat_lt c2.1).mpr c2.2)
    have iw:gIx (.lst [.int fl,.int fl,.int (2*fl),.int (3*fl),.int gr]) (.int (os.getD (2*k+4) 0))=some (.int wt):=by rw [hwt];exact Zgm [fl,fl,2*fl,3*fl,gr] c2.1 c2.2
    have t1:Zbo (.int 2) (.int fl)=some (.int (2*fl)):=Zrj (by decide) (by decide)
    have t2:Zbo (.int 3) (.int fl)=some (.int (3*fl)):=Zrj (by decide) (by decide)
    have t3:Zbo (.int 2) (.int (k:Int))=some (.int (2*k)):=Zrj (by decide) (by decide)
    have c:(cE (f2 gLt (f2 gIx (fV 4) (fV 8)) (f2 gIx (fA Zau (Zc (fC (.int 0)) (Zc (fC (.int 1)) (Zc (fC (.int 3)) (Zc (fC (.int 6)) Zt))))) (f2 gIx (fV 4) (fC (.int 1)))))) [some (.scr ns),some (.int i),some (.int m),some (.int fl),some (iD os),some (.int gr),some (iD ws),some (.int k),some (.int (2*k+3)),some (.int 0)]=.ok (decide (os.getD (2*k+3) 0<th)):=Jz (Zo (Zo rfl rfl j0) (Zo rfl (Zo rfl rfl jj) ith) (by simp))
    have sl':(ws.map D.int).length<lim:=by rw [length_map];exact sl
    have all:∀z:Int,0≤z∧z≤1000000000000000000→∀x∈ws++[z],0≤x∧x≤1000000000000000000:=fun z hz x hx=>by
      rcases List.mem_append.mp hx with h | h
      · exact wok x h
      · rw [List.mem_singleton.mp h];exact hz
    refine ⟨_,rfl,.inl ?_⟩
    by_cases d:os.getD (2*k+3) 0<th
    · refine ⟨[some (.scr ns),some (.int i),some (.int m),some (.int fl),some (iD os),some (.int gr),some (iD (ws++[wt])),some (.int k),some (.int (2*k+3)),some (.int wt)],.inl ?_,_,_,_,_,by rw [length_append,wl];rfl,all wt wt1,rfl⟩
      rw [show iD (ws++[wt])=.lst (ws.map D.int++[.int wt]) from congrArg D.lst map_append]
      exact Zs (Xp (Zo (Zo rfl rfl t3) rfl rfl)) (Zs (Xp rfl) (Zs (Zdu (c.trans (congrArg Dl.R.ok (decide_eq_true d))) (Xp (Zgu (Zo (Js (Zd rfl (Zd rfl (Zd (Zo rfl rfl t1) (Zd (Zo rfl rfl t2) rfl)))) rfl) (Zo rfl (Zo rfl rfl rfl) j1) iw) rfl))) (Zgz rfl (Zgu rfl rfl) sl')))
    · refine ⟨[some (.scr ns),some (.int i),some (.int m),some (.int fl),some (iD os),some (.int gr),some (iD (ws++[0])),some (.int k),some (.int (2*k+3)),some (.int 0)],.inl ?_,_,_,_,_,by rw [length_append,wl];rfl,all 0 ⟨by decide,by decide⟩,rfl⟩
      rw [show iD (ws++[0])=.lst (ws.map D.int++[.int 0]) from congrArg D.lst map_append]
      exact Zs (Xp (Zo (Zo rfl rfl t3) rfl rfl)) (Zs (Xp rfl) (Zs (Jf (c.trans (congrArg Dl.R.ok (decide_eq_false d))) rfl) (Zgz rfl (Zgu rfl rfl) sl')))
  · rintro ρ ⟨ws,o7,o8,o9,wl,wok,rfl⟩
    rw [Zbm] at wl
    exact ⟨ws,o7,o8,o9,wl,wok,rfl⟩
end Dl
namespace Dl
noncomputable def S:Nat→(Nat→Int)→Int
 | 0,_=>0
 | n+1,f=>S n f+f n
noncomputable def pth (e:Nat→Nat→Int)(a:Nat):Nat→List Int
 | 0=>[1]
 | d+1=>pth e a d++[S (d+1) fun i=>e (a+i) (a+d+1)*(pth e a d).getD i 0]
noncomputable def W (e:Nat→Nat→Int)(a d:Nat):Int:=(pth e a d).getD d 0
end Dl
namespace Dl
open PySem
theorem Zvb (ns:List Int)(ks:List Kd)(e:Int)(hk:ks.length≤1000)(hw:∀k∈ks,1≤k.w):Zco [iD ns,tD ks,.int e]=.ok (tD (ks.filter fun k=>good ns k (e - k.w))):=by
 have hl:ks.length≤lim:=by show _≤1000000;omega
 have hc:=Xlo (n:=3) (ρ:=[some (iD ns),some (tD ks),some (.int e)]) (enc:=kD) (p:=fun k=>good ns k (e - k.w)) (v:=kD) (xs:=ks)
  (c:=cE (Zy Zgi (Zc (fV 0) (Zc (fV 3) (Zc (f2 Zkz (fV 2) (f2 gIx (fV 3) (fC (.int 1)))) Zt))))) (e:=f1 Xt (fV 3)) rfl fun k hk=>by
   constructor
   ·simp [Zxi ns k (e - k.w) (hw k hk)]
   ·intro _;simp
 simp [Zco,Zqq,tD,hl] at hc ⊢
 simp [hc]
noncomputable def Xgp (ns:List Int)(ks:List Kd)(cs:List Int):Int:=cs.getD (cs.length - 1) 0+((ks.filter fun k=>good ns k ((cs.length:Int) - k.w)).map fun k=>cs.getD ((cs.length:Int) - k.w).toNat 0).sum
noncomputable def cnts (ns:List Int)(ks:List Kd):Nat→List Int
 | 0=>[1]
 | j+1=>cnts ns ks j++[Xgp ns ks (cnts ns ks j)]
noncomputable def cnt (ns:List Int)(ks:List Kd)(j:Nat):Int:=(cnts ns ks j).getD j 0
theorem Zei {ns:List Int}{k:Kd}{p:Int}(h:good ns k p=true):0≤p∧p+k.w≤ns.length:=by
 have:=of_decide_eq_true h
 exact ⟨this.1,this.2.1⟩
theorem Xae {ns:List Int}{j:Nat}(h:ns.length=j+1):gIx (.lst (ns.map D.int)) (.int (-1))=some (.int (ns.getD j 0)):=by
 rw [Zqg (by intro z;rw [z] at h;simp at h),h,Nat.add_sub_cancel]
theorem Zlc (ns:List Int){i:Nat}(h:i≤ns.length):pre ns.reverse i=pre ns ns.length - pre ns (ns.length - i):=by
 unfold pre
 rw [List.take_reverse,List.sum_reverse,List.take_length]
 have e:=List.take_append_drop (ns.length - i) ns
 have:ns.sum=(ns.take (ns.length - i)).sum+(ns.drop (ns.length - i)).sum:=by rw [← sum_append,e]
 omega
theorem Zzs {ns:List Int}{k:Kd}{p:Int}(hw:1≤k.w):good ns.reverse k p=good ns k (ns.length - p - k.w):=by
 unfold good
 apply decide_eq_decide.mpr
 rw [length_reverse]
 constructor
 ·rintro ⟨h1,h2,h3⟩
  refine ⟨by omega,by omega,?_⟩
  rw [Zlc ns (by omega),Zlc ns (by omega)] at h3
  rw [show ns.length - (p+k.w).toNat=((ns.length:Int) - p - k.w).toNat by omega,show ns.length - p.toNat=((ns.length:Int) - p - k.w+k.w).toNat by omega] at h3
  omega
 ·rintro ⟨h1,h2,h3⟩
  refine ⟨by omega,by omega,?_⟩
  rw [Zlc ns (by omega),Zlc ns (by omega)]
  rw [show ns.length - (p+k.w).toNat=((ns.length:Int) - p - k.w).toNat by omega,show ns.length - p.toNat=((ns.length:Int) - p - k.w+k.w).toNat by omega]
  omega
noncomputable abbrev Cut:=List (Int×Str)×Int
noncomputable def addK (ns:List Int)(rows:List (List Cut))(e:Nat)(k:Kd):List Cut:=if good ns k ((e:Int) - k.w)=true then (rows.getD ((e:Int) - k.w).toNat []).map fun c=>(c.1++[((e:Int) - k.w,k.name)],c.2+k.wo) else []
noncomputable def rowOf (ns:List Int)(ks:List Kd)(rows:List (List Cut)):List Cut:=rows.getD (rows.length - 1) []++(ks.map (addK ns rows rows.length)).flatten
noncomputable def Xnu (ns:List Int)(ks:List Kd):Nat→List (List Cut)
 | 0=>[[([],0)]]
 | j+1=>Xnu ns ks j++[rowOf ns ks (Xnu ns ks j)]
theorem Zgk:∀(r:List Int) (x:Int),x≤r.foldl max x∧∀y∈r,y≤r.foldl max x
 | [],x=>⟨Int.le_refl _,fun _ h=>nomatch h⟩
 | z::r,x=>by
  obtain ⟨h1,h2⟩:=Zgk r (max x z)
  rw [foldl_cons]
  refine ⟨by omega,fun y hy=>?_⟩
  rcases List.mem_cons.mp hy with e | e
  ·subst e;omega
  ·exact h2 y e
theorem Zex:∀(r:List Int) (x:Int),r.foldl max x=x∨r.foldl max x∈r
 | [],x=>.inl rfl
 | z::r,x=>by
  rw [foldl_cons]
  rcases Zex r (max x z) with h | h
  ·rw [h]
   by_cases hz:z≤x
   ·exact .inl (by omega)
   ·refine .inr ?_
    rw [show max x z=z by omega]
    exact .head _
  ·exact .inr (.tail _ h)
theorem Ztp {xs:List Int}{y:Int}(h:y∈xs):y≤Xcn xs:=by
 cases xs with
 | nil=>cases h
 | cons x r =>
  obtain ⟨h1,h2⟩:=Zgk r x
  show y≤r.foldl max x
  rcases List.mem_cons.mp h with e | e
  ·subst e;exact h1
  ·exact h2 y e
theorem Xbv {xs:List Int}(h:xs≠[]):Xcn xs∈xs:=by
 cases xs with
 | nil=>exact absurd rfl h
 | cons x r =>
  show r.foldl max x∈_
  rcases Zex r x with e | e
  ·rw [e];exact .head _
  ·exact .tail _ e
noncomputable def Zrm (ns:List Int)(ks:List Kd)(ts:List Int):Int:=Xcn (ts.getD (ts.length - 1) 0::(ks.filter fun k=>good ns k ((ts.length:Int) - k.w)).map fun k=>ts.getD ((ts.length:Int) - k.w).toNat 0+k.wo)
noncomputable def hts (ns:List Int)(ks:List Kd):Nat→List Int
 | 0=>[0]
 | j+1=>hts ns ks j++[Zrm ns ks (hts ns ks j)]
theorem Zdf (ns:List Int)(ks:List Kd):∀j,(hts ns ks j).length=j+1
 | 0=>rfl
 | j+1=>by rw [hts,length_append,Zdf ns ks j];rfl
noncomputable def ht (ns:List Int)(ks:List Kd)(j:Nat):Int:=(hts ns ks j).getD j 0
theorem Znd (ns:List Int)(ks:List Kd):∀(j i:Nat),i≤j→(hts ns ks j).getD i 0=ht ns ks i
 | 0,i,h=>by
  have:i=0:=by omega
  subst this
  rfl
 | j+1,i,h=>by
  by_cases e:i=j+1
  ·subst e;rfl
  ·have:=Zdf ns ks j
   rw [← Znd ns ks j i (by omega),hts]
   simp only [List.getD]
   rw [getElem?_append_left (by omega)]
theorem Zkn (ns:List Int)(ks:List Kd):ht ns ks 0=0:=rfl
theorem Zns (ns:List Int)(ks:List Kd)(hw:∀k∈ks,1≤k.w)(j:Nat):ht ns ks (j+1)=Xcn (ht ns ks j::(ks.filter fun k=>good ns k ((j+1:Nat) - k.w)).map fun k=>ht ns ks (((j+1:Nat):Int) - k.w).toNat+k.wo):=by
 have hl:=Zdf ns ks j
 have e:ht ns ks (j+1)=Zrm ns ks (hts ns ks j):=by
  unfold ht
  rw [hts]
  simp only [List.getD]
  rw [getElem?_append_right (by omega),hl]
  simp
 rw [e,Zrm,hl,show j+1 - 1=j by omega,Znd ns ks j j (le_refl _)]
 congr 2
 refine map_congr_left fun k hk=>?_
 obtain ⟨k1,k2⟩:=List.mem_filter.mp hk
 have:=Zei k2
 have:=hw k k1
 rw [Znd ns ks j _ (by omega)]
theorem Zjx (ns:List Int)(ks:List Kd)(hw:∀k∈ks,1≤k.w)(j:Nat):ht ns ks j≤ht ns ks (j+1):=by
 rw [Zns ns ks hw j]
 exact Ztp (.head _)
theorem Zpe (ns:List Int)(ks:List Kd)(hw:∀k∈ks,1≤k.w){k:Kd}(hk:k∈ks){p:Int}(hg:good ns k p=true):ht ns ks p.toNat+k.wo≤ht ns ks (p+k.w).toNat:=by
 have bd:=Zei hg
 have hw1:=hw k hk
 obtain ⟨j,hj⟩:∃j:Nat,p+k.w=((j+1:Nat):Int):=⟨(p+k.w - 1).toNat,by omega⟩
 have hp:p=((j+1:Nat):Int) - k.w:=by omega
 rw [hj,toNat_natCast,Zns ns ks hw j,hp]
 refine Ztp (.tail _ (List.mem_map.mpr ⟨k,List.mem_filter.mpr ⟨hk,?_⟩,rfl⟩))
 rw [← hp]
 exact hg
theorem Xoh (ns:List Int)(ks:List Kd)(hw:∀k∈ks,1≤k.w)(j:Nat):ht ns ks (j+1)=ht ns ks j∨∃k∈ks,good ns k ((j+1:Nat) - k.w)=true∧ht ns ks (((j+1:Nat):Int) - k.w).toNat+k.wo=ht ns ks (j+1):=by
 have h:=Xbv (xs:=ht ns ks j::(ks.filter fun k=>good ns k ((j+1:Nat) - k.w)).map fun k=>ht ns ks (((j+1:Nat):Int) - k.w).toNat+k.wo) (fun e=>nomatch e)
 rw [← Zns ns ks hw j] at h
 rcases List.mem_cons.mp h with e | e
 ·exact .inl e
 ·obtain ⟨k,k1,k2⟩:=List.mem_map.mp e
  obtain ⟨k3,k4⟩:=List.mem_filter.mp k1
  exact .inr ⟨k,k3,k4,k2⟩
theorem Znq (ns:List Int)(ks:List Kd)(ts:List Int){j:Nat}(hl:ts.length=j+1)(hj:j<1000)(hk:ks.length≤1000)(hw:∀k∈ks,1≤k.w):Zcf [iD ns,tD ks,iD ts]=.ok (.int (Zrm ns ks ts)):=by
 have he:=Zvb ns ks (ts.length:Int) hk hw
 have hc:=Zaz (n:=5) (ρ:=[some (iD ns),some (tD ks),some (iD ts),some (.int ts.length),none]) (enc:=kD) (v:=fun k:Kd=>.int (ts.getD ((ts.length:Int) - k.w).toNat 0+k.wo)) (xs:=ks.filter fun k=>good ns k ((ts.length:Int) - k.w))
  (e:=f2 Jn (f2 gIx (fV 2) (f2 Zkz (fV 3) (f2 gIx (fV 5) (fC (.int 1))))) (f2 gIx (fV 5) (fC (.int 2)))) rfl fun k hk=>by
   obtain ⟨k1,k2⟩:=List.mem_filter.mp hk
   have bd:=Zei k2
   have hw1:=hw k k1
   have ix:=Zbi (ns:=ts) (i:=(ts.length:Int) - k.w) (k:=((ts.length:Int) - k.w).toNat) (by omega) (by omega)
   have ix':gIx (iD ts) (.int ((ts.length:Int) - k.w))=_:=ix
   exact Zo (Zo rfl (Zo rfl (Zo rfl rfl (Xjv k)) rfl) ix') (Zo rfl rfl (Xpf k)) rfl
 have hlast:=Xae (ns:=ts) hl
 have hlast':gIx (iD ts) (.int (-1))=_:=hlast
 have hlen:Zap [iD ts]=some (.int ts.length):=by simp [iD]
 have hf:(ks.filter fun k=>good ns k ((ts.length:Int) - k.w)).length≤ks.length:=length_filter_le _ _
 unfold Zrm
 rw [show ts.length - 1=j by omega]
 have hmm:((ks.filter fun k=>good ns k ((ts.length:Int) - k.w)).map fun k:Kd=>D.int (ts.getD ((ts.length:Int) - k.w).toNat 0+k.wo))=((ks.filter fun k=>good ns k ((ts.length:Int) - k.w)).map fun k:Kd=>ts.getD ((ts.length:Int) - k.w).toNat 0+k.wo).map D.int:=by rw [map_map];rfl
 rw [hmm] at hc
 have hML:((ks.filter fun k=>good ns k ((ts.length:Int) - k.w)).map fun k:Kd=>ts.getD ((ts.length:Int) - k.w).toNat 0+k.wo).length≤1000:=by rw [length_map];omega
 have he':Zco [iD ns,tD ks,.int ts.length]=.ok (.lst ((ks.filter fun k=>good ns k ((ts.length:Int) - k.w)).map kD)):=he
 have hEL':((ks.filter fun k=>good ns k ((ts.length:Int) - k.w)).map kD).length≤lim:=by rw [length_map];show _≤1000000;omega
 have ha:=Zhh (xs:=[ts.getD j 0]) (ys:=(ks.filter fun k=>good ns k ((ts.length:Int) - k.w)).map fun k:Kd=>ts.getD ((ts.length:Int) - k.w).toNat 0+k.wo) (by rw [List.length_singleton];omega)
 have hmx:=Xbc (ns:=ts.getD j 0::(ks.filter fun k=>good ns k ((ts.length:Int) - k.w)).map fun k:Kd=>ts.getD ((ts.length:Int) - k.w).toNat 0+k.wo) (by simp)
 exact Jq (Zs (Xp (Js (Zd rfl rfl) hlen)) (Zs (Xp (Yz rfl (Jv (Zv (Zd rfl (Zd rfl (Zd rfl rfl))) he') hEL') hc)) (Jm (Js (Zd (Zo (Js (Zd (Zo rfl (Zgu rfl rfl) hlast') rfl) rfl) rfl ha) rfl) hmx))))
theorem Zfy (ns:List Int)(ks:List Kd)(hn:ns.length≤900)(hk:ks.length≤1000)(hw:∀k∈ks,1≤k.w):Ja [iD ns,tD ks]=.ok (iD (hts ns ks ns.length)):=by
  have h:=Zyd (c:=cE (f2 gLe (fA Zap (Zc (fV 2) Zt)) (fA Zap (Zc (fV 0) Zt)))) (s:=Zib) (n:=100000) (ρ:=[some (iD ns),some (tD ks),some (.lst [.int 0])]) ns.length (fun i=>[some (iD ns),some (tD ks),some (iD (hts ns ks i))]) rfl (by omega) (fun i hi=>by
      have hl:=Zdf ns ks i
      have nt:=Znq ns ks (hts ns ks i) (j:=i) hl (by omega) hk hw
      have l1:Zap [iD (hts ns ks i)]=some (.int ((i+1:Nat):Int)):=by simp [iD,hl]
      have l2:Zap [iD ns]=some (.int ns.length):=by simp [iD]
      have e1:iD (hts ns ks (i+1))=.lst ((hts ns ks i).map D.int++[.int (Zrm ns ks (hts ns ks i))]):=by
        rw [hts,iD,map_append]
        rfl
      refine ⟨?_,?_⟩
      · exact Jz (Zo (Js (Zd rfl rfl) l1) (Js (Zd rfl rfl) l2) (Zkc (Int.ofNat_le.mpr hi)))
      · have hlim':((hts ns ks i).map D.int).length<lim:=by rw [length_map,hl];show _<1000000;omega
        rw [e1]
        exact Zgz rfl (Zv (Zd rfl (Zd rfl (Zd rfl rfl))) nt) hlim') (by
      have hl:=Zdf ns ks ns.length
      have l1:Zap [iD (hts ns ks ns.length)]=some (.int ((ns.length+1:Nat):Int)):=by simp [iD,hl]
      have l2:Zap [iD ns]=some (.int ns.length):=by simp [iD]
      generalize iD ns=A at *
      generalize iD (hts ns ks ns.length)=T at *
      simp [l1,l2]
      omega)
  generalize iD ns=A at *
  generalize tD ks=B at *
  generalize iD (hts ns ks ns.length)=T at *
  simp [Ja,Zmn,h]
theorem eq_str (a b:Str):gEq (.str a) (.str b)=some (.bl (a==b)):=rfl
theorem eq_int (a b:Int):gEq (.int a) (.int b)=some (.bl (a==b)):=rfl
theorem ne_int (a b:Int):gNe (.int a) (.int b)=some (.bl (!(a==b))):=rfl
noncomputable def prL (ns:List Int)(ks:List Kd):List Int:=(List.range ns.length).map fun c=>ht ns ks (c+1) - ht ns ks c
theorem Zon (ns:List Int)(ks:List Kd):(prL ns ks).length=ns.length:=by simp [prL]
theorem Zko (ns:List Int)(ks:List Kd):∀i,i≤ns.length→pre (prL ns ks) i=ht ns ks i
 | 0,_=>by simp [pre,Zkn]
 | i+1,h=>by
  have hi:i<ns.length:=by omega
  rw [Xau (x:=ht ns ks (i+1) - ht ns ks i) (by simp [prL,hi]),Zko ns ks i (by omega)]
  omega
theorem Xiq (ns:List Int)(ks:List Kd):(prL ns ks).sum=ht ns ks ns.length:=by
 rw [← Zko ns ks ns.length (le_refl _),pre,take_of_length_le (by rw [Zon];exact le_refl _)]
theorem Zly (ns:List Int)(ks:List Kd)(hn:ns.length≤900)(hk:ks.length≤1000)(hw:∀k∈ks,1≤k.w):Zba [iD ns,tD ks]=.ok (iD (prL ns ks)):=by
 have hh:=Zfy ns ks hn hk hw
 have hl:=Zdf ns ks ns.length
 have at_:∀(q:Nat) (i:Int),i=q→q≤ns.length→gIx (iD (hts ns ks ns.length)) (.int i)=some (.int (ht ns ks q)):=fun q i h1 h2=>by
  have:=Zbi (ns:=hts ns ks ns.length) (i:=i) (k:=q) h1 (by rw [hl];exact Nat.lt_succ_of_le h2)
  rw [Znd ns ks _ _ h2] at this
  exact this
 have hc:=Zaz (n:=3) (ρ:=[some (iD ns),some (tD ks),some (iD (hts ns ks ns.length))]) (enc:=fun (c:Nat)=>D.int (0+(c:Int))) (v:=fun c:Nat=>.int (ht ns ks (c+1) - ht ns ks c)) (xs:=List.range ns.length)
  (e:=f2 Zkz (f2 gIx (fV 2) (f2 Jn (fV 3) (fC (.int 1)))) (f2 gIx (fV 2) (fV 3))) rfl fun c hc=>by
   have hc':=List.mem_range.mp hc
   exact Zo (Zo rfl (Zo rfl rfl rfl) (at_ (c+1) ((0+(c:Int))+1) (by rw [zero_add];rfl) hc')) (Zo rfl rfl (at_ c (0+(c:Int)) (zero_add _) (le_of_lt hc'))) rfl
 have b1:-1000000000≤(ns.length:Int)∧(ns.length:Int)≤1000000:=⟨Int.le_trans (by decide) (natCast_nonneg _),Int.ofNat_le.mpr (le_trans hn (by decide))⟩
 have l2:Zap [iD ns]=some (.int ns.length):=congrArg (fun n:Nat=>some (D.int n)) (length_map D.int)
 have e:iD (prL ns ks)=.lst ((List.range ns.length).map fun c:Nat=>.int (ht ns ks (c+1) - ht ns ks c)):=by rw [iD,prL,map_map];rfl
 rw [e]
 exact Jq (Zs (Xp (Zv (Zd rfl (Zd rfl rfl)) hh)) (Jm (Yz rfl (Zoq (Zd (Js (Zd rfl rfl) l2) rfl) b1) hc)))
theorem Zlu (ns:List Int)(k:Kd)(qs:List Int)(hq:qs.length=ns.length)(hw:1≤k.w)(p:Int):Zaq [iD ns,kD k,iD qs,.int p]=.ok (.bl (good ns k p&&decide (pre qs (p+k.w).toNat - pre qs p.toNat<k.wo))):=by
 have hf:=Zxi ns k p hw
 cases hg:good ns k p with
 | false =>
  rw [hg] at hf
  exact Jq (Jm (Xie (Zv (Zd rfl (Zd rfl (Zd rfl rfl))) hf)))
 | true =>
  rw [hg] at hf
  have bd:=Zei hg
  have hc:=Xek (xs:=qs.map D.int) (a:=p) (b:=p+k.w) bd.1 (Int.le_add_of_nonneg_right (Int.le_trans (by decide) hw)) (by rw [length_map,hq];exact bd.2)
  have hp:=Zua qs p.toNat (p+k.w).toNat (by omega)
  have sl:gSl (iD qs) (some p) (some (p+k.w))=some (iD ((qs.drop p.toNat).take ((p+k.w).toNat - p.toNat))):=by
   rw [iD,iD,map_take,map_drop,← hc]
   exact if_pos (Zbd _)
  have sm:Zid [iD ((qs.drop p.toNat).take ((p+k.w).toNat - p.toNat))]=some (.int (pre qs (p+k.w).toNat - pre qs p.toNat)):=by
   rw [← hp]
   exact sum_ints _
  exact Jq (Jm (Zta (Zv (Zd rfl (Zd rfl (Zd rfl rfl))) hf) (Zo (Js (Zd (r_sl rfl (Zle rfl) (Zle (Zo rfl (Zo rfl rfl (Xjv k)) rfl)) sl) rfl) sm) (Zo rfl rfl (Xpf k)) rfl)))
inductive Way (ns:List Int)(ks:List Kd):Nat→Nat→Int→Prop where
 | nil (a:Nat):Way ns ks a a 0
 | skip {a b:Nat} {w:Int}:Way ns ks a b w→b+1≤ns.length→Way ns ks a (b+1) w
 | piece {a b:Nat} {w:Int} {k:Kd}:Way ns ks a b w→k∈ks→good ns k (b:Int)=true→Way ns ks a (b+k.w.toNat) (w+k.wo)
section
variable {ns:List Int}{ks:List Kd}
theorem Way.trans {a b c:Nat}{w v:Int}(h:Way ns ks a b w)(g:Way ns ks b c v):Way ns ks a c (w+v):=by
 induction g with
 | nil=>rw [Int.add_zero];exact h
 | skip _ hb ih=>exact ih.skip hb
 | piece _ hk hg ih =>
  rw [← add_assoc]
  exact ih.piece hk hg
theorem Way.one {a:Nat}(h:a+1≤ns.length):Way ns ks a (a+1) 0:=(Way.nil a).skip h
theorem Way.pc {a:Nat}{k:Kd}(hk:k∈ks)(hg:good ns k (a:Int)=true):Way ns ks a (a+k.w.toNat) k.wo:=by
 have:=(Way.nil (ns:=ns) (ks:=ks) a).piece hk hg
 rwa [zero_add] at this
theorem Way.rev (hw:∀k∈ks,1≤k.w){a b:Nat}{w:Int}(h:Way ns ks a b w):a≤ns.length→Way ns.reverse ks (ns.length - b) (ns.length - a) w:=by
 induction h with
 | nil=>exact fun _=>.nil _
 | @skip b w h hb ih =>
  intro ha
  have i:=ih ha
  have o:=Way.one (ns:=ns.reverse) (ks:=ks) (a:=ns.length - (b+1)) (by rw [length_reverse];omega)
  rw [show ns.length - (b+1)+1=ns.length - b by omega] at o
  have:=o.trans i
  rwa [zero_add] at this
 | @piece b w k h hk hg ih =>
  intro ha
  have i:=ih ha
  have bd:=Zei hg
  have h1:=hw k hk
  have hg':good ns.reverse k ((ns.length - (b+k.w.toNat):Nat):Int)=true:=by
   rw [Zzs h1,show (ns.length:Int) - ((ns.length - (b+k.w.toNat):Nat):Int) - k.w=(b:Int) by omega]
   exact hg
  have o:=Way.pc (ns:=ns.reverse) hk hg'
  rw [show ns.length - (b+k.w.toNat)+k.w.toNat=ns.length - b by omega] at o
  have:=o.trans i
  rwa [Int.add_comm] at this
theorem Xdm (hw:∀k∈ks,1≤k.w):∀j,j≤ns.length→Way ns ks 0 j (ht ns ks j):=by
 intro j
 induction j using Nat.strongRecOn with
 | _ j ih =>
  intro hj
  cases j with
  | zero=>exact .nil 0
  | succ j =>
   rcases Xoh ns ks hw j with h | ⟨k,k1,hg,h⟩
   ·rw [h]
    exact (ih j (by omega) (by omega)).skip hj
   ·have bd:=Zei hg
    have h1:=hw k k1
    obtain ⟨q,hq⟩:∃q:Nat,((j+1:Nat):Int) - k.w=(q:Int):=⟨(((j+1:Nat):Int) - k.w).toNat,by omega⟩
    rw [hq] at hg h
    rw [toNat_natCast] at h
    have:=(ih q (by omega) (by omega)).piece k1 hg
    rw [h,show q+k.w.toNat=j+1 by omega] at this
    exact this
theorem Zzd {w:Int}(h:1≤w)(b:Nat):((b:Int)+w).toNat=b+w.toNat:=by
 obtain ⟨n,rfl⟩:=Int.eq_ofNat_of_zero_le (Int.le_trans (by decide) h)
 rfl
theorem Xdu (hw:∀k∈ks,1≤k.w){j:Nat}{w:Int}(h:Way ns ks 0 j w):w≤ht ns ks j:=by
 generalize ha:(0:Nat)=a at h
 induction h with
 | nil=>subst ha;exact Int.le_refl _
 | @skip b w h hb ih =>
  exact Int.le_trans ih (Zjx ns ks hw b)
 | @piece b w k h hk hg ih =>
  have:=Zpe ns ks hw hk hg
  rw [toNat_natCast,Zzd (hw k hk)] at this
  exact Int.le_trans (Int.add_le_add_right ih _) this
theorem Xmi (hw:∀k∈ks,1≤k.w):ht ns.reverse ks ns.length=ht ns ks ns.length:=by
  have h1:=Xdu hw ((Xdm hw ns.length (le_refl _)).rev hw (zero_le _) |> fun (z:Way ns.reverse ks (ns.length - ns.length) (ns.length - 0) _)=>by
    rw [sub_self,Nat.sub_zero] at z
    exact z)
  have g:=(Xdm (ns:=ns.reverse) hw ns.length (by simp)).rev hw (zero_le _)
  rw [length_reverse,sub_self,Nat.sub_zero,List.reverse_reverse] at g
  have h2:=Xdu hw g
  omega
end
noncomputable def V {α:Type}:R α→(α→Prop)→Prop
 | .ok a,Q=>Q a
 | .err _ _,_=>False
 | .bad,_=>False
@[simp] theorem V_ok {α:Type}(a:α)(Q:α→Prop):V (.ok a) Q=Q a:=(rfl)
theorem Zwo {α β:Type}(r:R α)(f:α→R β)(Q:β→Prop):V (r.bind f) Q=V r fun a=>V (f a) Q:=by cases r<;>rfl
theorem V.imp {α:Type}{r:R α}{Q Q':α→Prop}(h:V r Q)(g:∀a,Q a→Q' a):V r Q':=by
 cases r with
 | ok a=>exact g a h
 | err _ _=>exact h
 | bad=>exact h
theorem V.ex {α:Type}{r:R α}{Q:α→Prop}(h:V r Q):∃a,r=.ok a∧Q a:=by
 cases r with
 | ok a=>exact ⟨a,rfl,h⟩
 | err _ _=>exact h.elim
 | bad=>exact h.elim
theorem V.of {α:Type}{r:R α}{a:α}{Q:α→Prop}(e:r=.ok a)(h:Q a):V r Q:=by rw [e];exact h
noncomputable def turn (b:FB)(s:FS)(x:D)(ρ:Env):R Fl:=(b x ρ).calm.bind s
noncomputable def Tn (P:Env→Prop)(Q:Fl→Prop):Fl→Prop
 | .nx ρ=>P ρ
 | .cnt ρ=>P ρ
 | .brk ρ=>Q (.nx ρ)
 | .ret d=>Q (.ret d)
@[simp] theorem Tn_nx (P:Env→Prop)(Q:Fl→Prop)(ρ:Env):Tn P Q (.nx ρ)=P ρ:=(rfl)
@[simp] theorem Tn_cnt (P:Env→Prop)(Q:Fl→Prop)(ρ:Env):Tn P Q (.cnt ρ)=P ρ:=(rfl)
@[simp] theorem Tn_brk (P:Env→Prop)(Q:Fl→Prop)(ρ:Env):Tn P Q (.brk ρ)=Q (.nx ρ):=(rfl)
@[simp] theorem Tn_ret (P:Env→Prop)(Q:Fl→Prop)(d:D):Tn P Q (.ret d)=Q (.ret d):=(rfl)
theorem Xas {b:FB}{s:FS}{Q:Fl→Prop}{P:List D→Env→Prop}(hs:∀x r ρ,P (x::r) ρ→V (turn b s x ρ) (Tn (P r) Q))(hd:∀ρ,P [] ρ→Q (.nx ρ)):∀{xs:List D} {ρ:Env},P xs ρ→V (Zdy b s xs ρ) Q
 | [],ρ,h=>hd ρ h
 | x::xs,ρ,h=>by
  have t:=hs x xs ρ h
  unfold turn at t
  rw [Zwo] at t
  rw [Zlt,Zwo]
  refine t.imp fun ρ1 q=>?_
  rw [Zwo]
  refine q.imp fun fl q=>?_
  cases fl with
  | nx ρ2=>exact Xas hs hd q
  | cnt ρ2=>exact Xas hs hd q
  | brk ρ2=>exact q
  | ret d=>exact q
theorem Ztl {α:Type}{enc:α→D}{b:FB}{s:FS}{Q:Fl→Prop}{P:List α→Env→Prop}(hs:∀x r ρ,P (x::r) ρ→V (turn b s (enc x) ρ) (Tn (P r) Q))(hd:∀ρ,P [] ρ→Q (.nx ρ)){xs:List α}{ρ:Env}(h:P xs ρ):V (Zdy b s (xs.map enc) ρ) Q:=by
 refine Xas (P:=fun ds ρ=>∃ys:List α,ds=ys.map enc∧P ys ρ) (fun x r ρ p=>?_) (fun ρ p=>?_) ⟨xs,rfl,h⟩
 ·obtain ⟨ys,e,p⟩:=p
  cases ys with
  | nil=>cases e
  | cons y ys =>
   rw [map_cons,List.cons.injEq] at e
   obtain ⟨rfl,rfl⟩:=e
   refine (hs y ys ρ p).imp fun fl q=>?_
   cases fl with
   | nx ρ2=>exact ⟨ys,rfl,q⟩
   | cnt ρ2=>exact ⟨ys,rfl,q⟩
   | brk ρ2=>exact q
   | ret d=>exact q
 ·obtain ⟨ys,e,p⟩:=p
  cases ys with
  | nil=>exact hd ρ p
  | cons y ys=>cases e
theorem Xoz {b:FB}{s:FS}{Q:Fl→Prop}{P:Nat→Env→Prop}{xs:List D}{ρ:Env}(h0:P 0 ρ)(hs:∀i x ρ,xs[i]?=some x→P i ρ→V (turn b s x ρ) (Tn (P (i+1)) Q))(hd:∀ρ,P xs.length ρ→Q (.nx ρ)):V (Zdy b s xs ρ) Q:=by
 refine Xas (P:=fun r ρ=>∃i,r=xs.drop i∧i≤xs.length∧P i ρ) (fun x r ρ p=>?_) (fun ρ p=>?_) ⟨0,rfl,zero_le _,h0⟩
 ·obtain ⟨i,e,hi,p⟩:=p
  have hl:i<xs.length:=by
   rcases Nat.lt_or_ge i xs.length with q | q
   ·exact q
   ·rw [drop_of_length_le q] at e;cases e
  rw [List.drop_eq_getElem_cons hl,List.cons.injEq] at e
  obtain ⟨rfl,rfl⟩:=e
  refine (hs i _ ρ (getElem?_eq_getElem hl) p).imp fun fl q=>?_
  cases fl with
  | nx ρ2=>exact ⟨i+1,rfl,hl,q⟩
  | cnt ρ2=>exact ⟨i+1,rfl,hl,q⟩
  | brk ρ2=>exact q
  | ret d=>exact q
 ·obtain ⟨i,e,hi,p⟩:=p
  have:i=xs.length:=by
   have:=congrArg List.length e
   rw [length_drop,length_nil] at this
   omega
  subst this
  exact hd ρ p
theorem V_rng {b:FB}{s:FS}{Q:Fl→Prop}{P:Nat→Env→Prop}{lo:Int}{n:Nat}{ρ:Env}(h0:P 0 ρ)(hs:∀i ρ,i<n→P i ρ→V (turn b s (.int (lo+i)) ρ) (Tn (P (i+1)) Q))(hd:∀ρ,P n ρ→Q (.nx ρ)):V (Zdy b s (Zek lo n) ρ) Q:=
  Xoz h0 (fun i x ρ hx p=>by
    obtain ⟨hi,rfl⟩:=Zkl hx
    exact hs i ρ hi p) (fun ρ p=>hd ρ (by rw [Zbm] at p;exact p))
theorem Zuc {b:FB}{s:FS}{Q:Fl→Prop}{P:Nat→Env→Prop}{n:Nat}{ρ:Env}(h0:P 0 ρ)(hs:∀(i:Nat) ρ,i<n→P i ρ→V (turn b s (.int (i:Int)) ρ) (Tn (P (i+1)) Q))(hd:∀ρ,P n ρ→Q (.nx ρ)):V (Zdy b s (Zek 0 n) ρ) Q:=
 V_rng h0 (fun i ρ hi p=>by rw [zero_add];exact hs i ρ hi p) hd
@[simp] theorem Znk (i:Nat)(s:FS)(x:D)(ρ:Env):turn (Zp i) s x ρ=s (ρ.set i (some x)):=(rfl)
@[simp] theorem ev_fJoin (a b:FE)(ρ:Env):fJoin a b ρ=(a ρ).bind fun x=>match x with | .str s=>(b ρ).bind fun y=>oR (Xpb (.str s) y) | _=>.bad:=(rfl)
@[simp] theorem calm_bad {α:Type}:(R.bad:R α).calm=.bad:=(rfl)
@[simp] theorem gLst_7 (a0 a1 a2 a3 a4 a5 a6:D):Zau [a0,a1,a2,a3,a4,a5,a6]=some (.lst [a0,a1,a2,a3,a4,a5,a6]):=rfl
@[simp] theorem gLst_8 (a0 a1 a2 a3 a4 a5 a6 a7:D):Zau [a0,a1,a2,a3,a4,a5,a6,a7]=some (.lst [a0,a1,a2,a3,a4,a5,a6,a7]):=rfl
@[simp] theorem gLst_9 (a0 a1 a2 a3 a4 a5 a6 a7 a8:D):Zau [a0,a1,a2,a3,a4,a5,a6,a7,a8]=some (.lst [a0,a1,a2,a3,a4,a5,a6,a7,a8]):=rfl
theorem add_str {x y:Str}{n m:Nat}(h:plain n x=true)(g:plain m y=true)(e:n+m≤1000):Jn (.str x) (.str y)=some (.str (x++y)):=by
 unfold Jn
 simp only []
 unfold plain at h g
 rw [Bool.and_eq_true] at h g
 have:=of_decide_eq_true h.1
 have:=of_decide_eq_true g.1
 rw [if_pos (by show _≤1000000;omega)]
noncomputable def eL:Nat→List Int→List D
 | _,[]=>[]
 | k,w::r=>.tup [.int (k:Int),.int w]::eL (k+1) r
@[simp] theorem Ztf (a b:FE)(ρ:Env):Zsn a b ρ=(a ρ).bind fun x=>(b ρ).bind fun y=>match x,y with
 | .lst xs,.lst ys=>if xs.length≤lim∧ys.length≤lim then .ok (Zqh xs ys) else .bad
 | _,_=>.bad:=(rfl)
@[simp] theorem Xnx (i j:Nat)(g:D→D→Option D)(a:FE)(ρ:Env):Xne i j g a ρ=(a ρ).bind fun x=>Xlw i j g x ρ:=(rfl)
@[simp] theorem ev_sDrop (e:FE)(ρ:Env):sDrop e ρ=(e ρ).bind fun _=>.ok (.nx ρ):=(rfl)
@[simp] theorem Xmd (a b:FE)(ρ:Env):Xmp a b ρ=(a ρ).bind fun x=>match x with | .lst ds=>(b ρ).bind fun y=>oR (Xec (.lst ds) y) | _=>.bad:=(rfl)
theorem Zff {α β:Type}(f:α→D)(g:β→D)(xs:List α)(ys:List β):Zqh (xs.map f) (ys.map g)=(xs.zip ys).map fun x=>.tup [f x.1,g x.2]:=by
 unfold Zqh
 rw [List.zipWith_map,List.zip,List.map_zipWith]
noncomputable def rsD (rs:List (List Int)):D:=.lst (rs.map iD)
theorem Zch {α:Type}{f:α→D}{xs:List α}{n:Nat}(h:xs.length≤n)(hn:n≤1000000:=by omega):(xs.map f).length≤lim:=by
 rw [length_map]
 show _≤1000000
 omega
theorem Xje (ws:List Int):Zxd [iD ws]=some (iD ws):=by simp [Zxd,iD]
theorem Xnf (ws:List Int):Zap [iD ws]=some (.int ws.length):=by simp [iD]
theorem Zrf (ks:List Kd):Zap [tD ks]=some (.int ks.length):=by simp [tD]
theorem Zou (rs:List (List Int)):Zap [rsD rs]=some (.int rs.length):=by simp [rsD]
theorem Ztd {ws:List Int}{k:Nat}(h:k<ws.length):gIx (iD ws) (.int (k:Int))=some (.int (ws.getD k 0)):=Zbi rfl h
theorem Xfg {ws:List Int}{v:Int}(h:ws≠[])(e:ws.getD (ws.length - 1) 0=v):gIx (iD ws) (.int (-1))=some (.int v):=by
 have:=Zqg h
 rw [e] at this
 exact this
noncomputable def ptd (ks:List Kd)(ps:List Int):List Kd:=((ks.zip ps).filter fun x=>decide (0<x.2)).map fun x=>{x.1 with wo:=x.2}
theorem Zht {ks:List Kd}{ps:List Int}(h:∀k∈ks,1≤k.w):∀k∈ptd ks ps,1≤k.w:=fun k hk=>by
 obtain ⟨x,hx,rfl⟩:=List.mem_map.mp hk
 exact h x.1 (of_mem_zip (List.mem_filter.mp hx).1).1
theorem Zfq (ks:List Kd)(ps:List Int):(ptd ks ps).length≤ks.length:=by
 unfold ptd
 rw [length_map]
 refine le_trans (length_filter_le _ _) ?_
 rw [length_zip]
 omega
theorem Zdq (ks:List Kd)(ps:List Int)(hk:ks.length≤1000)(hp:ps.length≤1000):Yw [tD ks,iD ps]=.ok (tD (ptd ks ps)):=by
 have hc:Yv 2 (Zcx (Xn (Zp 2) (Xn (Zp 3) Zcv))) (cE (f2 gGt (fV 3) (fC (.int 0)))) (fA Zfm (Zc (f1 Xt (f2 gIx (fV 2) (fC (.int 0)))) (Zc (f1 Xt (f2 gIx (fV 2) (fC (.int 1)))) (Zc (f1 Xt (fV 3)) (Zc (f1 Xt (f2 gIx (fV 2) (fC (.int 3)))) Zt))))) [some (tD ks),some (iD ps)] ((ks.zip ps).map fun x=>.tup [kD x.1,.int x.2])=.ok (((ks.zip ps).filter fun x=>decide (0<x.2)).map fun x=>kD {x.1 with wo:=x.2}):=
  Xpc rfl fun x _=>⟨by simp,fun _=>by simp [kD]⟩
 have hz:=Zff kD D.int ks ps
 rw [← hz] at hc
 have l1:(ks.map kD).length≤lim:=Zch hk
 have l2:(ps.map D.int).length≤lim:=Zch hp
 have e1:tD ks=.lst (ks.map kD):=rfl
 have e2:iD ps=.lst (ps.map D.int):=rfl
 have e3:tD (ptd ks ps)=.lst (((ks.zip ps).filter fun x=>decide (0<x.2)).map fun x=>kD {x.1 with wo:=x.2}):=by rw [tD,ptd,map_map];rfl
 rw [e1,e2] at hc ⊢
 rw [e3]
 generalize (((ks.zip ps).filter fun x=>decide (0<x.2)).map fun x=>kD {x.1 with wo:=x.2})=RR at *
 generalize ks.map kD=KK at *
 generalize ps.map D.int=PP at *
 simp [Yw,Znf,l1,l2,hc]
noncomputable def dot (os ps:List Int):Int:=((os.zip ps).map fun x=>x.1*x.2).sum
theorem Zcj (os ps:List Int)(ho:os.length≤1000)(hp:ps.length≤1000)(hs:∀o∈os,-(2 ^ 64)<o∧o<2 ^ 64):Yl [iD os,iD ps]=.ok (.int (dot os ps)):=by
 have hc:Yv 2 (Zcx (Xn (Zp 2) (Xn (Zp 3) Zcv))) Zbg (f2 Zbo (fV 2) (fV 3)) [some (iD os),some (iD ps)] ((os.zip ps).map fun x=>.tup [.int x.1,.int x.2])=.ok ((os.zip ps).map fun x=>.int (x.1*x.2)):=
  Zug rfl fun x hx=>by
   have hm:Zbo (.int x.1) (.int x.2)=some (.int (x.1*x.2)):=Zpg (.inl (hs x.1 (of_mem_zip hx).1))
   simp [hm]
 have hz:=Zff D.int D.int os ps
 rw [← hz] at hc
 have l1:(os.map D.int).length≤lim:=Zch ho
 have l2:(ps.map D.int).length≤lim:=Zch hp
 have hsum:Zid [.lst ((os.zip ps).map fun x=>.int (x.1*x.2))]=some (.int (dot os ps)):=by
  have:=sum_ints ((os.zip ps).map fun x=>x.1*x.2)
  rw [map_map] at this
  exact this
 have e1:iD os=.lst (os.map D.int):=rfl
 have e2:iD ps=.lst (ps.map D.int):=rfl
 rw [e1,e2] at hc ⊢
 generalize ((os.zip ps).map fun x=>D.int (x.1*x.2))=RR at *
 generalize os.map D.int=KK at *
 generalize ps.map D.int=PP at *
 simp [Yl,Zji,l1,l2,hc,hsum]
theorem Zzq {os ps:List Int}(h:ps.length=os.length):∀i,i<os.length→(os.zip ps)[i]?=some (os.getD i 0,ps.getD i 0):=fun i hi=>by
 have hz:i<(os.zip ps).length:=by rw [length_zip];omega
 rw [getElem?_eq_getElem hz,getElem_zip,getD_eq_getElem?_getD,getD_eq_getElem?_getD,getElem?_eq_getElem hi,getElem?_eq_getElem (show i<ps.length by omega)]
 rfl
noncomputable def few (need:Int):List Int→Int→Int→Int
 | [],n,t=>if need≤t then n else n+1
 | x::r,n,t=>if need≤t then n else few need r (n+1) (t+x)
theorem Xdj {need t:Int}(h:need≤t)(l:List Int)(n:Int):few need l n t=n:=by cases l<;>simp [few,h]
theorem Zwe (ss:List Int):(sortI ss).length=ss.length:=(List.mergeSort_perm ss _).length_eq
noncomputable def Zso (ss:List Int)(need:Int):Int:=few need (sortI ss).reverse 0 0
theorem Zng (ss:List Int)(need:Int)(h:ss.length<64):Zbc [iD ss,.int need]=.ok (.int (Zso ss need)):=by
 obtain ⟨L,hL⟩:∃L,L=(sortI ss).reverse:=⟨_,rfl⟩
 have hl:L.length=ss.length:=by rw [hL,length_reverse,Zwe]
 have hs:Zjf [iD ss]=some (iD L):=by
  unfold Zjf iD
  simp only [ints_map,Option.bind_some]
  rw [if_pos h,hL]
 have hf:Zso ss need=few need L 0 0:=by rw [hL];rfl
 have loop:V (Zdy (Zp 3) Zdo (Zek 0 (ss.length+1)) [some (iD ss),some (.int need),some (iD L),none]) (fun fl=>fl=.ret (.int (few need L 0 0))∨((few need L 0 0=ss.length+1)∧∃o,fl=.nx [some (iD ss),some (.int need),some (iD L),o])):=by
  refine Zuc (P:=fun i ρ=>(if i≤ss.length then few need L 0 0=few need (L.drop i) i ((L.take i).sum) else few need L 0 0=ss.length+1)∧∃o,ρ=[some (iD ss),some (.int need),some (iD L),o]) ⟨by simp,none,rfl⟩ ?_ ?_
  ·rintro i ρ hi ⟨e,o,rfl⟩
   rw [if_pos (by omega)] at e
   have sl:gSl (iD L) none (some (i:Int))=some (iD (L.take i)):=by
    have:=Xgu L none (some (i:Int))
    rw [Zth (by omega),toNat_natCast] at this
    exact this
   have su:Zid [iD (L.take i)]=some (.int (L.take i).sum):=sum_ints _
   by_cases c:need≤(L.take i).sum
   ·rw [Xdj c] at e
    rw [e]
    generalize (L.take i).sum=t at *
    generalize iD (L.take i)=LT at *
    generalize iD L=LL at *
    generalize iD ss=A at *
    generalize (i:Int)=I at *
    simp [Zdo,sl,su,c]
   ·have e2:if i+1≤ss.length then few need L 0 0=few need (L.drop (i+1)) ((i+1:Nat):Int) ((L.take (i+1)).sum) else few need L 0 0=ss.length+1:=by
     by_cases hh:i+1≤ss.length
     ·rw [if_pos hh,e]
      have hi':i<L.length:=by omega
      have et:(L.take (i+1)).sum=(L.take i).sum+L[i]:=by rw [List.take_add_one,getElem?_eq_getElem hi',sum_append];show _+(L[i]+0)=_;omega
      rw [List.drop_eq_getElem_cons hi',few,if_neg c,et]
      rfl
     ·rw [if_neg hh,e,drop_of_length_le (by omega),few,if_neg c]
      omega
    refine V.imp (Q:=fun fl=>fl=.nx [some (iD ss),some (.int need),some (iD L),some (.int i)]) ?_ ?_
    ·generalize (L.take i).sum=t at *
     generalize iD (L.take i)=LT at *
     generalize iD L=LL at *
     generalize iD ss=A at *
     generalize (i:Int)=I at *
     simp [Zdo,sl,su,c]
    ·rintro _ rfl
     exact ⟨e2,_,rfl⟩
  ·rintro ρ ⟨e,o,rfl⟩
   rw [if_neg (by omega)] at e
   exact .inr ⟨e,o,rfl⟩
 obtain ⟨fl,e,hfl⟩:=loop.ex
 have ll:=Xnf ss
 have b1:-1000000000≤(ss.length:Int)+1∧(ss.length:Int)+1≤1000000:=by omega
 have et:((ss.length:Int)+1).toNat=ss.length+1:=by omega
 rw [hf]
 rcases hfl with rfl | ⟨e2,o,rfl⟩
 ·generalize iD ss=A at *
  generalize iD L=LL at *
  simp [Zbc,Zjy,hs,ll,b1,et,e]
 ·rw [e2]
  generalize iD ss=A at *
  generalize iD L=LL at *
  simp [Zbc,Zjy,hs,ll,b1,et,e]
noncomputable def tops (rs:List (List Int))(ks:List Kd):List Int:=rs.map fun r=>ht r ks r.length
theorem Zqw {n:Nat}{F:List D→R D}{i j k:Nat}{ρ:Env}(hρ:ρ.length=n)(rs:List (List Int))(ks:List Kd)(hj:ρ[j]?=some (some (tD ks)))(hjn:j<n)(hF:∀r∈rs,F [iD r,tD ks]=.ok (iD (hts r ks r.length))) :
  Yv 1 (Zp n) Zbg (f1 Xt (f2 gIx (Zy F (Zc (fV n) (Zc (fV j) Zt))) (f1 Zxw (fC (.int 1))))) ρ (rs.map iD)=.ok ((tops rs ks).map D.int):=by
 have:=Zaz (n:=n) (e:=f1 Xt (f2 gIx (Zy F (Zc (fV n) (Zc (fV j) Zt))) (f1 Zxw (fC (.int 1))))) (ρ:=ρ) (enc:=iD) (v:=fun r=>D.int (ht r ks r.length)) (xs:=rs) hρ fun r hr=>by
  have h1:fV n (ρ++[some (iD r)])=.ok (iD r):=by unfold fV;rw [getElem?_append_right (by omega),hρ,sub_self];rfl
  have h2:fV j (ρ++[some (iD r)])=.ok (tD ks):=by unfold fV;rw [getElem?_append_left (by omega),hj]
  have h3:=hF r hr
  have h4:gIx (iD (hts r ks r.length)) (.int (-1))=some (.int (ht r ks r.length)):=by
   refine Xfg ?_ ?_
   ·intro z
    have:=Zdf r ks r.length
    rw [z] at this
    cases this
   ·rw [Zdf,Nat.add_sub_cancel,Znd r ks _ _ (le_refl _)]
  generalize iD (hts r ks r.length)=HH at *
  generalize iD r=RR at *
  generalize tD ks=T at *
  simp [h1,h2,h3,h4]
 rw [this,tops,map_map]
 rfl
theorem Zhw (rs:List (List Int))(ks:List Kd)(os ps:List Int)(hr:rs.length<64)(hc:∀r∈rs,r.length≤900)(hk:ks.length≤1000)(hw:∀k∈ks,1≤k.w)(ho:os.length≤1000)(hp:ps.length≤1000)(hs:∀o∈os,-(2 ^ 64)<o∧o<2 ^ 64) :
  Zae [rsD rs,tD ks,iD os,iD ps]=.ok (.int (Zso (tops rs (ptd ks ps)) (dot os ps))):=by
 have h1:=Zdq ks ps hk hp
 have h2:=Zcj os ps ho hp hs
 have hl:=Zfq ks ps
 have h3:=Zqw (F:=Ja) (n:=5) (j:=4) (i:=0) (k:=0) (ρ:=[some (rsD rs),some (tD ks),some (iD os),some (iD ps),some (tD (ptd ks ps))]) rfl rs (ptd ks ps) rfl (by omega) fun r hr=>Zfy r (ptd ks ps) (hc r hr) (by omega) (Zht hw)
 have h4:=Zng (tops rs (ptd ks ps)) (dot os ps) (by unfold tops;rw [length_map];exact hr)
 have e1:rsD rs=.lst (rs.map iD):=rfl
 have lr:(rs.map iD).length≤lim:=Zch (n:=64) (by omega)
 have e2:iD (tops rs (ptd ks ps))=.lst ((tops rs (ptd ks ps)).map D.int):=rfl
 rw [e2] at h4
 rw [e1] at h3 ⊢
 generalize (tops rs (ptd ks ps)).map D.int=TT at *
 generalize rs.map iD=RR at *
 generalize tD (ptd ks ps)=TP at *
 generalize tD ks=T at *
 generalize iD os=O at *
 generalize iD ps=P at *
 simp [Zae,Ziw,h1,h2,lr,h3,h4]
theorem Zqv (ns:List Int)(hn:ns.length≤63){i m c fl:Int}(h0:0≤i)(m0:0≤m)(h1:i+m<1000)(c0:0≤c)(c1:c≤200)(f0:1≤fl)(f1:fl≤100000000000000000) :
  ∃rs,Yh [.scr ns,.int i,.int m,.int c,.int fl]=.ok (rsD rs)∧(rs.length:Int)=m∧∀r∈rs,(r.length:Int)≤c∧∀w∈r,0≤w∧w≤1000000000000000000:=by
 have loop:V (Zdy (Zp 6) Zbx (Zek 0 m.toNat) [some (.scr ns),some (.int i),some (.int m),some (.int c),some (.int fl),some (.lst []),none]) (fun f=>∃(rs:List (List Int)) (o:Option D),f=.nx [some (.scr ns),some (.int i),some (.int m),some (.int c),some (.int fl),some (rsD rs),o]∧(rs.length:Int)=m∧∀r∈rs,(r.length:Int)≤c∧∀w∈r,0≤w∧w≤1000000000000000000):=by
  refine Zuc (P:=fun k ρ=>∃(rs:List (List Int)) (o:Option D),ρ=[some (.scr ns),some (.int i),some (.int m),some (.int c),some (.int fl),some (rsD rs),o]∧rs.length=k∧∀r∈rs,(r.length:Int)≤c∧∀w∈r,0≤w∧w≤1000000000000000000) ⟨[],none,rfl,rfl,by simp⟩ ?_ ?_
  ·rintro k ρ hk ⟨rs,o,rfl,hl,hp⟩
   obtain ⟨ws,hw,hwl,hwb⟩:=Zwd ns hn (i:=i+k) (m:=c) (fl:=fl) (by omega) (by omega) c0 c1 f0 f1
   have hlm:(rs.map iD).length<lim:=by rw [length_map];show _<1000000;omega
   have e0:rsD rs=.lst (rs.map iD):=rfl
   refine V.imp (Q:=fun f=>f=.nx [some (.scr ns),some (.int i),some (.int m),some (.int c),some (.int fl),some (.lst (rs.map iD++[iD ws])),some (.int k)]) ?_ ?_
   ·rw [e0]
    generalize rs.map iD=RR at *
    generalize iD ws=W at *
    generalize (k:Int)=K at *
    simp [Zbx,hw,hlm]
   ·rintro _ rfl
    refine ⟨rs++[ws],_,by rw [rsD,map_append];rfl,by simp [hl],fun r hr=>?_⟩
    rcases List.mem_append.mp hr with q | q
    ·exact hp r q
    ·rw [List.mem_singleton.mp q]
     exact ⟨hwl,hwb⟩
  ·rintro ρ ⟨rs,o,rfl,hl,hp⟩
   exact ⟨rs,o,rfl,by omega,hp⟩
 obtain ⟨f,e,rs,o,rfl,hl,hp⟩:=loop.ex
 refine ⟨rs,?_,hl,hp⟩
 have b1:-1000000000≤m∧m≤1000000:=by omega
 generalize rsD rs=RR at *
 simp [Yh,Zgn,b1,e]
theorem Xbn (ns:List Int)(hn:ns.length≤63){i c m:Int}(h0:0≤i)(h1:i<1000)(c0:0≤c)(c1:c≤8)(m0:1≤m)(m1:m≤1000000) :
    ∃os,Zaf [.scr ns,.int i,.int c,.int m]=.ok (iD os)∧(os.length:Int)=c∧∀o∈os,0≤o∧o<m:=by
  obtain ⟨qs,hrow,hqs⟩:=Zma ns hn (i:=i) h0 h1 (3::(List.replicate 8 [m,4]).flatten) (by rw [length_cons,Zci];simp) (fun x hx=>by
    rcases List.mem_cons.mp hx with rfl | hx
    · decide
    · have:=Zoz hx
      simp only [mem_cons,not_mem_nil,or_false] at this
      rcases this with rfl | rfl
      · exact ⟨by omega,Int.lt_of_le_of_lt m1 (by decide)⟩
      · decide)
  have hm8:Zbo (.lst [.int m,.int 4]) (.int 8)=some (iD (List.replicate 8 [m,4]).flatten):=Zny (ws:=[m,4]) (m:=8) (by omega) (by omega) (by simp)
  have ha:Jn (.lst [.int 3]) (iD (List.replicate 8 [m,4]).flatten)=some (iD (3::(List.replicate 8 [m,4]).flatten)):=Zhh (xs:=[3]) (by rw [Zci];simp)
  have hql:qs.length=17:=by rw [hqs.len,length_cons,Zci];rfl
  have bq:∀k:Nat,k<8→0≤qs.getD (2*k+1) 0∧qs.getD (2*k+1) 0<m:=fun k hk=>by
    have:=hqs.at_ (2*k+1) (by rw [length_cons,Zci];simp;omega)
    have e:(3::(List.replicate 8 [m,4]).flatten).getD (2*k+1) 0=m:=by
      rw [List.getD_cons_succ]
      exact (Zkt m 4 8 k hk).1
    rw [e] at this
    exact this
  have loop:V (Zdy (Zp 6) Jb (Zek 0 c.toNat) [some (.scr ns),some (.int i),some (.int c),some (.int m),some (iD qs),some (.lst []),none,none]) (fun f=>∃(os:List Int) (o6 o7:Option D),f=.nx [some (.scr ns),some (.int i),some (.int c),some (.int m),some (iD qs),some (iD os),o6,o7]∧(os.length:Int)=c∧∀o∈os,0≤o∧o<m):=by
    refine Zuc (P:=fun k ρ=>∃(os:List Int) (o6 o7:Option D),ρ=[some (.scr ns),some (.int i),some (.int c),some (.int m),some (iD qs),some (iD os),o6,o7]∧os.length=k∧∀o∈os,0≤o∧o<m) ⟨[],none,none,rfl,rfl,by simp⟩ ?_ ?_
    · rintro k ρ hk ⟨os,o6,o7,rfl,hl,hp⟩
      have mu:Zbo (.int 2) (.int (k:Int))=some (.int (2*(k:Int))):=Zpg (by omega)
      have i0:gIx (iD qs) (.int 0)=_:=Ztd (ws:=qs) (k:=0) (by omega)
      have i1:=Ztd (ws:=qs) (k:=2*k+1) (by omega)
      have i2:=Ztd (ws:=qs) (k:=2*k+2) (by omega)
      have b:=bq k (by omega)
      rw [show ((2*k+1:Nat):Int)=2*(k:Int)+1 by omega] at i1
      rw [show ((2*k+2:Nat):Int)=2*(k:Int)+2 by omega] at i2
      have hlm:(os.map D.int).length<lim:=by rw [length_map];show _<1000000;omega
      have e0:iD os=.lst (os.map D.int):=rfl
      have fin:∀v:Int,0≤v∧v<m→∀fl,fl=Fl.nx [some (.scr ns),some (.int i),some (.int c),some (.int m),some (iD qs),some (.lst (os.map D.int++[.int v])),some (.int k),some (.int v)]→Tn (fun ρ=>∃(os:List Int) (o6 o7:Option D),ρ=[some (.scr ns),some (.int i),some (.int c),some (.int m),some (iD qs),some (iD os),o6,o7]∧os.length=k+1∧∀o∈os,0≤o∧o<m) (fun f=>∃(os:List Int) (o6 o7:Option D),f=.nx [some (.scr ns),some (.int i),some (.int c),some (.int m),some (iD qs),some (iD os),o6,o7]∧(os.length:Int)=c∧∀o∈os,0≤o∧o<m) fl:=by
        rintro v hv fl rfl
        refine ⟨os++[v],_,_,by rw [show iD (os++[v])=.lst (os.map D.int++[.int v]) by simp [iD]],by simp [hl],fun o ho=>?_⟩
        rcases List.mem_append.mp ho with q | q
        · exact hp o q
        · rw [List.mem_singleton.mp q];exact hv
      by_cases c1:qs.getD (2*k+2) 0=0
      · refine V.imp ?_ (fin 0 ⟨by omega,by omega⟩)
        rw [e0]
        generalize os.map D.int=OO at *
        generalize qs.getD (2*k+2) 0=q2 at *
        generalize qs.getD (2*k+1) 0=q1 at *
        generalize qs.getD 0 0=q0 at *
        generalize iD qs=QQ at *
        generalize (k:Int)=K at *
        simp [Jb,mu,i0,i1,i2,c1,hlm]
      · by_cases c2:qs.getD 0 0=0∧1<(k:Int)
        · refine V.imp ?_ (fin 0 ⟨by omega,by omega⟩)
          rw [e0]
          generalize os.map D.int=OO at *
          generalize qs.getD (2*k+2) 0=q2 at *
          generalize qs.getD (2*k+1) 0=q1 at *
          generalize qs.getD 0 0=q0 at *
          generalize iD qs=QQ at *
          generalize (k:Int)=K at *
          simp [Jb,mu,i0,i1,i2,c1,c2.1,c2.2,hlm]
        · refine V.imp ?_ (fin _ b)
          rw [e0]
          have c3:qs.getD 0 0=0→¬1<(k:Int):=fun h1 h2=>c2 ⟨h1,h2⟩
          generalize os.map D.int=OO at *
          generalize qs.getD (2*k+2) 0=q2 at *
          generalize qs.getD (2*k+1) 0=q1 at *
          generalize qs.getD 0 0=q0 at *
          generalize iD qs=QQ at *
          generalize (k:Int)=K at *
          by_cases c4:q0=0
          · simp [Jb,mu,i0,i1,i2,c1,c4,c3 c4,hlm]
          · simp [Jb,mu,i0,i1,i2,c1,c4,hlm]
    · rintro ρ ⟨os,o6,o7,rfl,hl,hp⟩
      exact ⟨os,o6,o7,rfl,by omega,hp⟩
  obtain ⟨f,e,os,o6,o7,rfl,hl,hp⟩:=loop.ex
  refine ⟨os,?_,hl,hp⟩
  have b1:-1000000000≤c∧c≤1000000:=by omega
  generalize iD os=OO at *
  generalize iD qs=QQ at *
  generalize iD (List.replicate 8 [m,4]).flatten=R8 at *
  generalize iD (3::(List.replicate 8 [m,4]).flatten)=R17 at *
  simp [Zaf,Zgj,hm8,ha,hrow,b1,e]
theorem Zmc {i:Nat}{s:FS}{α S:Type}{enc:α→D}{t:α→Bool}{d:D}{ρ:S→Env}:∀(xs:List α) (st:S),
  (∀x∈xs,∀st,(t x=true→s ((ρ st).set i (some (enc x)))=.ok (.ret d))∧(t x=false→∃st',s ((ρ st).set i (some (enc x)))=.ok (.nx (ρ st'))))→
  (xs.any t=true→Zdy (Zp i) s (xs.map enc) (ρ st)=.ok (.ret d))∧(xs.any t=false→∃st',Zdy (Zp i) s (xs.map enc) (ρ st)=.ok (.nx (ρ st')))
 | [],st,_=>⟨(fun h=>nomatch h),fun _=>⟨st,rfl⟩⟩
 | x::xs,st,h=>by
  obtain ⟨h1,h2⟩:=h x (.head _) st
  have hs:Zdy (Zp i) s ((x::xs).map enc) (ρ st)=(s ((ρ st).set i (some (enc x)))).bind fun fl=>match fl with | .nx ρ2=>Zdy (Zp i) s (xs.map enc) ρ2 | .cnt ρ2=>Zdy (Zp i) s (xs.map enc) ρ2 | .brk ρ2=>.ok (.nx ρ2) | .ret d=>.ok (.ret d):=rfl
  cases q:t x with
  | true =>
   refine ⟨fun _=>by rw [hs,h1 q];rfl,fun e=>?_⟩
   rw [List.any_cons,q] at e
   cases e
  | false =>
   obtain ⟨st',e'⟩:=h2 q
   obtain ⟨k1,k2⟩:=Zmc xs st' fun x hx=>h x (.tail _ hx)
   rw [hs,e',List.any_cons,q]
   exact ⟨k1,k2⟩
theorem Xcs (ws:List Int):Zap [iD ws]=some (.int ws.length):=congrArg (fun n:Nat=>some (D.int n)) (length_map D.int)
theorem Xla {n m:Nat}(h:n≤m)(hm:m≤1000000:=by decide):-1000000000≤(n:Int)∧(n:Int)≤1000000:=⟨Int.le_trans (by decide) (natCast_nonneg _),Int.ofNat_le.mpr (le_trans h hm)⟩
noncomputable def upB (ns qs:List Int)(k:Kd)(p:Nat):Bool:=good ns k (p:Int)&&decide (pre qs ((p:Int)+k.w).toNat - pre qs p<k.wo)
noncomputable def negB (qs:List Int):Bool:=qs.any fun q=>decide (q<0)
noncomputable def Xic (ns:List Int)(ks:List Kd)(qs:List Int):Bool:=ks.any fun k=>(List.range ns.length).any (upB ns qs k)
noncomputable def Zsr (ns:List Int)(ks:List Kd)(qs:List Int):Bool:=decide (qs.length=ns.length)&&(!negB qs&&!Xic ns ks qs)
theorem Zty {α:Type}(l:List α)(f:α→Bool):Zyu [.lst (l.map fun x=>D.bl (f x))]=some (.bl (l.any f)):=by
 have:(l.map fun x=>D.bl (f x))=(l.map f).map D.bl:=by rw [map_map];rfl
 rw [this,any_bools,List.any_map]
 rfl
theorem Zul {α:Type}(l:List α)(f:α→Bool):Xed [.lst (l.map fun x=>D.bl (f x))]=some (.bl (l.all f)):=by
 have:(l.map fun x=>D.bl (f x))=(l.map f).map D.bl:=by rw [map_map];rfl
 rw [this,all_bools,List.all_map]
 rfl
theorem Xfi (n:Nat):Zek 0 n=(List.range n).map fun c:Nat=>D.int (c:Int):=by
 show (List.range n).map (fun c:Nat=>D.int (0+(c:Int)))=_
 refine map_congr_left fun c _=>?_
 rw [zero_add]
theorem Zwh {i j:Int}(h:i=j):gNe (.int i) (.int j)=some (.bl false):=(Xoe _ _).trans (congrArg (fun b=>some (D.bl (!b))) (decide_eq_true h))
theorem Xeg {i j:Int}(h:¬i=j):gNe (.int i) (.int j)=some (.bl true):=(Xoe _ _).trans (congrArg (fun b=>some (D.bl (!b))) (decide_eq_false h))
theorem Zzu (ns:List Int)(ks:List Kd)(m:Int)(qs:List Int)(hn:ns.length≤900)(hq:qs.length≤900)(hk:ks.length≤1000)(hw:∀k∈ks,1≤k.w)(hs:qs.sum≤m):Zfv [iD ns,tD ks,.int m,iD qs]=.ok (.bl (Zsr ns ks qs)):=by
 unfold Zsr
 have l1:=Xcs qs
 have l2:=Xcs ns
 by_cases hl:qs.length=ns.length
 ·have sm:Zid [iD qs]=some (.int qs.sum):=sum_ints _
  have c1:=Zaz (n:=5) (ρ:=[some (iD ns),some (tD ks),some (.int m),some (iD qs),none]) (enc:=D.int) (v:=fun q:Int=>D.bl (decide (q<0))) (xs:=qs) (e:=f2 gLt (fV 5) (fC (.int 0))) rfl fun q _=>Zo rfl rfl rfl
  have a1:=Zty qs fun q=>decide (q<0)
  have hqs:(qs.map D.int).length≤lim:=by rw [length_map];exact le_trans hq (by decide)
  have first:sIf (cOr (cE (f2 gNe (fA Zap (Zc (fV 3) Zt)) (fA Zap (Zc (fV 0) Zt)))) (cE (f2 gGt (fA Zid (Zc (fV 3) Zt)) (fV 2)))) (Zad (fC (.bl false))) sNx [some (iD ns),some (tD ks),some (.int m),some (iD qs),none]=.ok (.nx [some (iD ns),some (tD ks),some (.int m),some (iD qs),none]):=
   Jf (Zjc (Jz (Zo (Js (Zd rfl rfl) l1) (Js (Zd rfl rfl) l2) (Zwh (by rw [hl])))) (Jz (Zo (Js (Zd rfl rfl) sm) rfl (Zot (Int.not_lt.mpr hs))))) rfl
  rw [decide_eq_true hl,Bool.true_and]
  cases hg:negB qs with
  | true =>
   rw [show (qs.any fun q=>decide (q<0))=true from hg] at a1
   exact Jq (Zs first (Zhq (Zdu (Jz (Js (Zd (Yz rfl (Jv rfl hqs) c1) rfl) a1)) (Jm rfl))))
  | false =>
   rw [show (qs.any fun q=>decide (q<0))=false from hg] at a1
   have hkl:(ks.map kD).length≤lim:=by rw [length_map];exact le_trans hk (by decide)
   have b1:=Xla hn
   obtain ⟨f1,f2'⟩:=Zmc (i:=4) (s:=Zmk) (enc:=kD) (t:=fun k=>(List.range ns.length).any (upB ns qs k)) (d:=.bl false) (ρ:=fun o:Option D=>[some (iD ns),some (tD ks),some (.int m),some (iD qs),o]) ks none fun k hkm o=>by
    have c2:=Zaz (n:=5) (ρ:=[some (iD ns),some (tD ks),some (.int m),some (iD qs),some (kD k)]) (enc:=fun (c:Nat)=>D.int (c:Int)) (v:=fun c:Nat=>D.bl (upB ns qs k c)) (xs:=List.range ns.length)
     (e:=Zy Zaq (Zc (fV 0) (Zc (fV 4) (Zc (fV 3) (Zc (fV 5) Zt))))) rfl fun c hc=>Zv (Zd rfl (Zd rfl (Zd rfl (Zd rfl rfl)))) (Zlu ns k qs hl (hw k hkm) (c:Int))
    rw [← Xfi] at c2
    have an:=Zty (List.range ns.length) (upB ns qs k)
    refine ⟨fun q=>?_,fun q=>⟨some (kD k),?_⟩⟩
    ·rw [q] at an
     exact Zdu (Jz (Js (Zd (Yz rfl (Zoq (Zd (Js (Zd rfl rfl) l2) rfl) b1) c2) rfl) an)) (Jm rfl)
    ·rw [q] at an
     exact Jf (Jz (Js (Zd (Yz rfl (Zoq (Zd (Js (Zd rfl rfl) l2) rfl) b1) c2) rfl) an)) rfl
   cases ho:Xic ns ks qs with
   | true=>exact Jq (Zs first (Zs (Jf (Jz (Js (Zd (Yz rfl (Jv rfl hqs) c1) rfl) a1)) rfl) (Zhq (Zjt (Jv rfl hkl) (f1 ho)))))
   | false =>
    obtain ⟨o,f3⟩:=f2' ho
    exact Jq (Zs first (Zs (Jf (Jz (Js (Zd (Yz rfl (Jv rfl hqs) c1) rfl) a1)) rfl) (Zs (Zjt (Jv rfl hkl) f3) (Jm rfl))))
 ·rw [decide_eq_false hl]
  exact Jq (Zhq (Zdu (Xdg (Jz (Zo (Js (Zd rfl rfl) l1) (Js (Zd rfl rfl) l2) (Xeg fun z=>hl (Int.ofNat_inj.mp z))))) (Jm rfl)))
theorem Zoe (rs:List (List Int))(ks:List Kd)(ls:List (List Int))(hr:∀r∈rs,r.length≤900)(hl:∀l∈ls,l.length≤900)(hrl:rs.length≤900)(hll:ls.length≤900)(hk:ks.length≤1000)(hw:∀k∈ks,1≤k.w) :
  Zag [rsD rs,tD ks,rsD ls]=.ok (.bl (decide (ls.length=rs.length)&&(rs.zip ls).all fun x=>Zsr x.1 ks x.2)):=by
 have l1:=Zou rs
 have l2:=Zou ls
 by_cases q:ls.length=rs.length
 ·have hz:Zsn (fV 0) (fV 2) [some (rsD rs),some (tD ks),some (rsD ls)]=.ok ((rs.zip ls).map fun x=>.tup [iD x.1,iD x.2]):=by
   rw [Ztf]
   show (if (rs.map iD).length≤lim∧(ls.map iD).length≤lim then R.ok (Zqh (rs.map iD) (ls.map iD)) else .bad)=_
   rw [if_pos ⟨by rw [length_map];exact le_trans hrl (by decide),by rw [length_map];exact le_trans hll (by decide)⟩,Zff]
  have c:=Zug (n:=3) (ρ:=[some (rsD rs),some (tD ks),some (rsD ls)]) (f:=fun x:List Int×List Int=>iD x.1) (g:=fun x=>iD x.2) (v:=fun x=>D.bl (Zsr x.1 ks x.2)) (xs:=rs.zip ls)
   (e:=Zy Zfv (Zc (fV 3) (Zc (fV 1) (Zc (fA Zid (Zc (fV 4) Zt)) (Zc (fV 4) Zt))))) rfl fun x hx =>
    Zv (Zd rfl (Zd rfl (Zd (Js (Zd rfl rfl) (sum_ints _)) (Zd rfl rfl)))) (Zzu x.1 ks x.2.sum x.2 (hr _ (of_mem_zip hx).1) (hl _ (of_mem_zip hx).2) hk hw (Int.le_refl _))
  rw [decide_eq_true q,Bool.true_and]
  exact Jq (Zs (Jf (Jz (Zo (Js (Zd rfl rfl) l2) (Js (Zd rfl rfl) l1) (Zwh (by rw [q])))) rfl) (Jm (Js (Zd (Yz rfl hz c) rfl) (Zul _ _))))
 ·rw [decide_eq_false q]
  exact Jq (Zhq (Zdu (Jz (Zo (Js (Zd rfl rfl) l2) (Js (Zd rfl rfl) l1) (Xeg fun z=>q (Int.ofNat_inj.mp z)))) (Jm rfl)))
structure Pays (ns:List Int)(ks:List Kd)(qs:List Int):Prop where
 len:qs.length=ns.length
 nn:∀q∈qs,0≤q
 pay:∀k∈ks,∀p:Nat,good ns k (p:Int)=true→k.wo≤pre qs ((p:Int)+k.w).toNat - pre qs p
theorem Pays.b {ns:List Int}{ks:List Kd}{qs:List Int}(h:Pays ns ks qs):Zsr ns ks qs=true:=by
 have h1:negB qs=false:=List.any_eq_false.mpr fun q hq=>by
  rw [decide_eq_false (Int.not_lt.mpr (h.nn q hq))]
  exact Bool.false_ne_true
 have h2:Xic ns ks qs=false:=List.any_eq_false.mpr fun k hk=>by
  have:(List.range ns.length).any (upB ns qs k)=false:=List.any_eq_false.mpr fun p _=>by
   unfold upB
   cases hg:good ns k (p:Int) with
   | false=>exact Bool.false_ne_true
   | true =>
    rw [decide_eq_false (Int.not_lt.mpr (h.pay k hk p hg))]
    exact Bool.false_ne_true
  rw [this]
  exact Bool.false_ne_true
 unfold Zsr
 rw [decide_eq_true h.len,h1,h2]
 rfl
theorem Zzy (ns:List Int)(ks:List Kd)(hw:∀k∈ks,1≤k.w):Pays ns ks (prL ns ks):=by
 refine ⟨Zon ns ks,fun q hq=>?_,fun k hkm p hg=>?_⟩
 ·obtain ⟨c,-,rfl⟩:=List.mem_map.mp hq
  exact Int.sub_nonneg_of_le (Zjx ns ks hw c)
 ·have bd:=Zei hg
  have hw1:=hw k hkm
  have:=Zpe ns ks hw hkm hg
  rw [Zko ns ks _ (by omega),Zko ns ks _ (by omega)]
  rw [toNat_natCast] at this
  omega
theorem Xiv {n j:Nat}(h:j<n):ixD n (j:Int)=some j:=by
 unfold ixD
 rw [if_pos (natCast_nonneg _),if_pos (Int.ofNat_lt.mpr h),toNat_natCast]
theorem r_put {i:Nat}{k e:FE}{ρ:Env}{d:D}{xs:List D}{n:Int}{j:Nat}(he:e ρ=.ok d)(hi:ρ[i]?=some (some (.lst xs)))(hk:k ρ=.ok (.int n))(hf:flat d=true)(hx:Yi xs=true)(hj:ixD xs.length n=some j):Xjx i k e ρ=.ok (.nx (ρ.set i (some (.lst (xs.set j d))))):=by
 unfold Xjx
 rw [he]
 show (match ρ[i]? with | some (some (.lst xs))=>_ | _=>_)=_
 rw [hi]
 show (k ρ).bind _=_
 rw [hk]
 show (if flat d=true∧Yi xs=true then _ else _)=_
 rw [if_pos ⟨hf,hx⟩,hj]
theorem ix_rs {rs:List (List Int)}{k:Nat}(h:k<rs.length):gIx (rsD rs) (.int (k:Int))=some (iD rs[k]):=ix_l (k:=k) rfl (by rw [getElem?_map,getElem?_eq_getElem h];rfl)
theorem sl_to (ws:List Int)(i:Nat):gSl (iD ws) none (some (i:Int))=some (iD (ws.take i)):=by
 show (if Yi (ws.map D.int) then some (D.lst (cut (ws.map D.int) none (some (i:Int)))) else none)=_
 rw [if_pos (Zbd _),Zth (natCast_nonneg _),toNat_natCast,iD,map_take]
theorem Xcw (ws:List Int)(i:Nat){j:Int}(e:j=(i:Int)):gSl (iD ws) (some j) none=some (iD (ws.drop i)):=by
 show (if Yi (ws.map D.int) then some (D.lst (cut (ws.map D.int) (some j) none)) else none)=_
 rw [if_pos (Zbd _),e,Xbh (natCast_nonneg _),toNat_natCast,iD,map_drop]
noncomputable def less (ks:List Kd)(bs:List Int):List Int:=(ks.zip bs).map fun x=>x.1.wo - x.2
theorem Zfe {ks:List Kd}{bs:List Int}(h:bs.length=ks.length):(less ks bs).length=ks.length:=by unfold less;rw [length_map,length_zip,h,Nat.min_self]
theorem Zgb (ks:List Kd)(bs:List Int)(hk:ks.length≤900)(hb:bs.length=ks.length):Zak [tD ks,iD bs]=.ok (tD (ptd ks (less ks bs))):=by
 have hz:Zsn (fV 0) (fV 1) [some (tD ks),some (iD bs)]=.ok ((ks.zip bs).map fun x=>.tup [kD x.1,.int x.2]):=by
  rw [Ztf]
  show (if (ks.map kD).length≤lim∧(bs.map D.int).length≤lim then R.ok (Zqh (ks.map kD) (bs.map D.int)) else .bad)=_
  rw [if_pos ⟨by rw [length_map];exact le_trans hk (by decide),by rw [length_map,hb];exact le_trans hk (by decide)⟩,Zff]
 have c:=Zug (n:=2) (ρ:=[some (tD ks),some (iD bs)]) (f:=fun x:Kd×Int=>kD x.1) (g:=fun x=>D.int x.2) (v:=fun x=>D.int (x.1.wo - x.2)) (xs:=ks.zip bs) (e:=f2 Zkz (f2 gIx (fV 2) (fC (.int 2))) (fV 3)) rfl fun x _=>Zo (Zo rfl rfl (Xpf x.1)) rfl rfl
 have e:((ks.zip bs).map fun x=>D.int (x.1.wo - x.2))=(less ks bs).map D.int:=by unfold less;rw [map_map];rfl
 rw [e] at c
 have hp:=Zdq ks (less ks bs) (le_trans hk (by decide)) (by rw [Zfe hb];exact le_trans hk (by decide))
 exact Jq (Jm (Zv (Zd rfl (Zd (Yz rfl hz c) rfl)) hp))
theorem Zpt (f:Int→Int)(ks:List Int):∀n,1≤n→n≤ks.length→∃i,i<n∧(∀j,j<n→f (ks.getD i 0)≤f (ks.getD j 0))∧∀j,j<i→f (ks.getD i 0)<f (ks.getD j 0)
  | 0,h,_=>by omega
  | 1,_,_=>⟨0,by decide,fun j hj=>by
    have:j=0:=by omega
    subst this
    exact Int.le_refl _,fun j hj=>by omega⟩
  | n+2,_,h=>by
    obtain ⟨i,h1,h2,h3⟩:=Zpt f ks (n+1) (by omega) (by omega)
    by_cases q:f (ks.getD (n+1) 0)<f (ks.getD i 0)
    · refine ⟨n+1,by omega,fun j hj=>?_,fun j hj=>?_⟩
      · by_cases e:j=n+1
        · subst e;exact Int.le_refl _
        · have:=h2 j (by omega);omega
      · have:=h2 j hj;omega
    · refine ⟨i,by omega,fun j hj=>?_,h3⟩
      by_cases e:j=n+1
      · subst e;omega
      · exact h2 j (by omega)
theorem Xir {lt:Int→Int→Bool}(f:Int→Int)(hlt:∀a b,lt a b=decide (f a<f b)){ds:List D}{ks:List Int}(hl:ds.length=ks.length)(h0:ks≠[]):∃i d,i<ks.length∧ds[i]?=some d∧Zoc lt ds ks=.ok d∧∀j,j<ks.length→f (ks.getD i 0)≤f (ks.getD j 0):=by
 have hp:1≤ks.length:=by
  cases ks with
  | nil=>exact absurd rfl h0
  | cons _ _=>simp
 obtain ⟨i0,a1,a2,a3⟩:=Zpt f ks ks.length hp (le_refl _)
 have hf0:Zic lt ks i0=true:=by
  unfold Zic
  rw [Bool.and_eq_true,all_eq_true,all_eq_true]
  refine ⟨fun j hj=>?_,fun j hj=>?_⟩
  ·rw [hlt,decide_eq_false (Int.not_lt.mpr (a2 j (List.mem_range.mp hj)))]
   rfl
  ·rw [hlt]
   exact decide_eq_true (a3 j (List.mem_range.mp hj))
 cases hfd:(List.range ks.length).find? (Zic lt ks) with
 | none=>exact absurd hf0 (by rw [List.find?_eq_none.mp hfd i0 (List.mem_range.mpr a1) |> Bool.eq_false_iff.mpr];exact Bool.false_ne_true)
 | some i =>
  have h1:=List.find?_some hfd
  have h2:=List.mem_range.mp (List.mem_of_find?_eq_some hfd)
  have hd:ds[i]?=some ds[i]:=getElem?_eq_getElem (by omega)
  refine ⟨i,ds[i],h2,hd,?_,fun j hj=>?_⟩
  ·unfold Zoc
   rw [hfd]
   show oR ds[i]?=_
   rw [hd]
   rfl
  ·unfold Zic at h1
   rw [Bool.and_eq_true,all_eq_true] at h1
   have:=h1.1 j (List.mem_range.mpr hj)
   rw [hlt] at this
   simpa using this
theorem Zpo {α:Type}{enc:α→D}{fb:FE}{fr:Env}{v:α→Int}:∀(xs:List α),(∀x∈xs,fb (some (enc x)::fr)=.ok (.int (v x)))→Zdt fb fr (xs.map enc)=.ok (xs.map v)
 | [],_=>rfl
 | x::xs,h=>by
  rw [map_cons,Zdt,h x (.head _),Zuf,Jw]
  simp only []
  rw [Zpo xs fun y hy=>h y (.tail _ hy),Jw]
  rfl
theorem Zvl {α:Type}{enc:α→D}{lt:Int→Int→Bool}(f:Int→Int)(hlt:∀a b,lt a b=decide (f a<f b)){fe fb:FE}{js:List Nat}{ρ:Env}{xs:List α}{fs:List D}{v:α→Int}(he:fe ρ=.ok (.lst (xs.map enc)))(h0:xs≠[])(hj:Zgv js ρ=.ok fs)(hb:∀x∈xs,fb (some (enc x)::fs.map some)=.ok (.int (v x))) :
  ∃x∈xs,Zge lt fe js fb ρ=.ok (enc x)∧∀y∈xs,f (v x)≤f (v y):=by
 obtain ⟨i,d,h1,h2,h3,h4⟩:=Xir f hlt (ds:=xs.map enc) (ks:=xs.map v) (by rw [length_map,length_map]) (fun z=>h0 (List.map_eq_nil_iff.mp z))
 rw [length_map] at h1 h4
 have hg:∀j,(hj:j<xs.length)→(xs.map v).getD j 0=v xs[j]:=fun j hj=>by rw [getD_eq_getElem?_getD,getElem?_map,getElem?_eq_getElem hj];rfl
 have hd:d=enc xs[i]:=by
  rw [getElem?_map,getElem?_eq_getElem h1] at h2
  exact (Option.some.inj h2).symm
 refine ⟨xs[i],getElem_mem h1,?_,fun y hy=>?_⟩
 ·unfold Zge
  rw [he,Jw]
  simp only []
  have hne:(xs.map enc).isEmpty=false:=by
   cases xs with
   | nil=>exact absurd rfl h0
   | cons _ _=>rfl
  rw [hne]
  simp only [Bool.false_eq_true,if_false]
  rw [hj,Zuf,Jw,Zpo xs hb,Jw,h3,hd]
 ·obtain ⟨j,hj,rfl⟩:=List.getElem_of_mem hy
  have:=h4 j hj
  rw [hg i h1,hg j hj] at this
  exact this
theorem Xep {y x:Nat}{f1 f2:FE}{ρ:Env}{d1:D}{ds:List D}(hl:y<ρ.length)(h1:f1 ρ=.ok d1)(h2:f2 (ρ.set y (some d1))=.ok (.lst ds))(hf:Yi ds=true):Zls y x f1 f2 ρ=.ok (.nx ((ρ.set y none).set x (some (.lst ds)))):=by
 unfold Zls
 rw [if_pos hl,h1,Jw,h2,Jw]
 exact if_pos hf
noncomputable def wos (ks:List Kd):List Int:=ks.map (·.wo)
noncomputable def Xk (os:List Int)(ks:List Kd):List Int:=(os.zip (wos ks)).map fun x=>if 0<x.1 then 0 else x.2
noncomputable def cby (rs:List (List Int))(ks:List Kd)(os bs:List Int):Int:=(tops rs (ptd ks (less ks bs))).sum+dot os bs
theorem Xkt (ws:List Int):Zid [iD ws]=some (.int ws.sum):=by simp [Zid,iD]
theorem Xdr (rs:List (List Int))(ks:List Kd)(os bs:List Int)(hr:rs.length<64)(hc:∀r∈rs,r.length≤900)(hk:ks.length≤900)(hw:∀k∈ks,1≤k.w)(ho:os.length≤1000)(hb:bs.length=ks.length)(hs:∀o∈os,-(2 ^ 64)<o∧o<2 ^ 64) :
  Jg [rsD rs,tD ks,iD os,iD bs]=.ok (.int (cby rs ks os bs)):=by
 have h1:=Zgb ks bs hk hb
 have h2:=Zcj os bs ho (by omega) hs
 have hl:=Zfq ks (less ks bs)
 have h3:=Zqw (F:=Ja) (n:=5) (j:=4) (i:=0) (k:=0) (ρ:=[some (rsD rs),some (tD ks),some (iD os),some (iD bs),some (tD (ptd ks (less ks bs)))]) rfl rs (ptd ks (less ks bs)) rfl (by omega) fun r hr=>Zfy r _ (hc r hr) (by omega) (Zht hw)
 exact Jq (Zs (Xp (Zv (Zd rfl (Zd rfl rfl)) h1)) (Jm (Zo (Js (Zd (Yz rfl (Jv (xs:=rs.map iD) rfl (Zch (n:=64) (by omega))) h3) rfl) (Xkt _)) (Zv (Zd rfl (Zd rfl rfl)) h2) rfl)))
theorem Zhz (ws:List Int):Yi (ws.map D.int)=true:=Ziq (fun _=>rfl) _
theorem Zcm (ks:List Kd):(wos ks).length=ks.length:=length_map _
theorem Zdj {os:List Int}{ks:List Kd}(h:os.length=ks.length):(Xk os ks).length=ks.length:=by unfold Xk;rw [length_map,length_zip,Zcm,h,Nat.min_self]
theorem Xhm (L:List Int){p:Nat}(h:p<L.length)(w:Int):L.take p++[w]++L.drop (p+1)=L.set p w:=by
 rw [append_assoc,List.set_eq_take_append_cons_drop,if_pos h]
 rfl
theorem Xer {xs ys:List Int}(h:xs.length+ys.length≤1000):Jn (iD xs) (iD ys)=some (iD (xs++ys)):=by
 have h1:=Zhz xs
 have h2:=Zhz ys
 simp only [Jn,iD]
 rw [if_pos ⟨by rw [length_map,length_map];show _≤1000000;omega,h1,h2⟩,map_append]
theorem Zhk {os:List Int}{ks:List Kd}(h:os.length=ks.length){p:Nat}(hp:p<ks.length):(Xk os ks).getD p 0=if 0<os.getD p 0 then 0 else (wos ks).getD p 0:=by
 have hz:(os.zip (wos ks))[p]?=some (os.getD p 0,(wos ks).getD p 0):=by
  rw [List.getElem?_zip_eq_some]
  have h1:p<(wos ks).length:=by rw [Zcm];exact hp
  have h2:p<os.length:=by omega
  exact ⟨by simp [List.getD,h2],by simp [List.getD,h1]⟩
 unfold Xk
 rw [getD_eq_getElem?_getD,getElem?_map,hz]
 rfl
noncomputable def Zgf (os:List Int)(ks:List Kd)(l:List Nat):List (List Int):=(l.filter fun p=>decide (0<os.getD p 0)).map fun p=>(Xk os ks).set p ((wos ks).getD p 0)
noncomputable def tries (os:List Int)(ks:List Kd):List (List Int):=[Xk os ks]++Zgf os ks (List.range ks.length)++[wos ks]
theorem Zjd (os:List Int):Zgw (os.map D.int)=(List.range os.length).map fun p:Nat=>D.tup [.int (p:Int),.int (os.getD p 0)]:=by
 refine ext_getElem (by simp [Zgw]) fun i h1 h2=>?_
 have hi:i<os.length:=by simpa [Zgw] using h1
 simp [Zgw,List.getElem_mapIdx,getD_eq_getElem?_getD,hi]
theorem Zql (xs ys:List Int):Zqh (xs.map D.int) (ys.map D.int)=(xs.zip ys).map fun x=>D.tup [.int x.1,.int x.2]:=Zff D.int D.int xs ys
theorem Xcy (os:List Int)(ks:List Kd)(hk:ks.length≤800)(ho:os.length=ks.length):Yx [tD ks,iD os]=.ok (rsD (tries os ks)):=by
 have hll:=Zdj ho
 have hwl:=Zcm ks
 have c1:Yv 1 (Zp 7) Zbg (f1 Xt (f2 gIx (fV 7) (fC (.int 2)))) [some (tD ks),some (iD os),none,none,none,none,none] (ks.map kD)=.ok ((wos ks).map D.int):=by
  have e:(wos ks).map D.int=ks.map fun k=>D.int k.wo:=by unfold wos;rw [map_map];rfl
  rw [e]
  exact Zaz rfl fun x _=>Zgu (Zo rfl rfl (Xpf x)) rfl
 have c2:Yv 2 (Zcx (Xn (Zp 7) (Xn (Zp 8) Zcv))) Zbg (fIf (cE (f2 gGt (fV 7) (fC (.int 0)))) (fC (.int 0)) (f1 Xt (fV 8))) [some (tD ks),some (iD os),some (iD (wos ks)),none,none,none,none] ((os.zip (wos ks)).map fun x=>D.tup [.int x.1,.int x.2])=.ok ((Xk os ks).map D.int):=by
  have gen:∀l:List (Int×Int),Yv 2 (Zcx (Xn (Zp 7) (Xn (Zp 8) Zcv))) Zbg (fIf (cE (f2 gGt (fV 7) (fC (.int 0)))) (fC (.int 0)) (f1 Xt (fV 8))) [some (tD ks),some (iD os),some (iD (wos ks)),none,none,none,none] (l.map fun x=>D.tup [.int x.1,.int x.2])=.ok (l.map fun x=>D.int (if 0<x.1 then 0 else x.2)):=by
   intro l
   induction l with
   | nil=>rfl
   | cons x l ih =>
    have el:fIf (cE (f2 gGt (fV 7) (fC (.int 0)))) (fC (.int 0)) (f1 Xt (fV 8)) [some (tD ks),some (iD os),some (iD (wos ks)),none,none,none,none,some (.int x.1),some (.int x.2)]=.ok (.int (if 0<x.1 then 0 else x.2)):=by
     by_cases q:0<x.1
     ·rw [if_pos q]
      exact Zvn (Jz (Zo rfl rfl (Zkc q))) rfl
     ·rw [if_neg q]
      exact Zwm (Jz (Zo rfl rfl (Zot q))) (Zgu rfl rfl)
    show ((fIf (cE (f2 gGt (fV 7) (fC (.int 0)))) (fC (.int 0)) (f1 Xt (fV 8)) [some (tD ks),some (iD os),some (iD (wos ks)),none,none,none,none,some (.int x.1),some (.int x.2)]).bind fun y=>(Yv 2 (Zcx (Xn (Zp 7) (Xn (Zp 8) Zcv))) Zbg (fIf (cE (f2 gGt (fV 7) (fC (.int 0)))) (fC (.int 0)) (f1 Xt (fV 8))) [some (tD ks),some (iD os),some (iD (wos ks)),none,none,none,none] (l.map fun x=>D.tup [.int x.1,.int x.2])).bind fun ys=>.ok (y::ys))=_
    rw [el,Jw,ih,Jw]
    rfl
  rw [gen]
  unfold Xk
  rw [map_map]
  rfl
 have loop:V (Zdy (Zcx (Xn (Zp 5) (Xn (Zp 6) Zcv))) Zah ((List.range os.length).map fun p:Nat=>D.tup [.int (p:Int),.int (os.getD p 0)]) [some (tD ks),some (iD os),some (iD (wos ks)),some (iD (Xk os ks)),some (rsD ([Xk os ks]++Zgf os ks [])),none,none])
   (fun fl=>∃o5 o6,fl=.nx [some (tD ks),some (iD os),some (iD (wos ks)),some (iD (Xk os ks)),some (rsD ([Xk os ks]++Zgf os ks (List.range os.length))),o5,o6]):=by
  refine Ztl (P:=fun r ρ=>∃(l:List Nat) (o5 o6:Option D),l++r=List.range os.length∧ρ=[some (tD ks),some (iD os),some (iD (wos ks)),some (iD (Xk os ks)),some (rsD ([Xk os ks]++Zgf os ks l)),o5,o6]) (fun p r ρ q=>?_) (fun ρ q=>?_) ⟨[],none,none,rfl,rfl⟩
  ·obtain ⟨l,o5,o6,e,rfl⟩:=q
   have hp:p<ks.length:=by
    have:p∈List.range os.length:=by rw [← e];simp
    have:=List.mem_range.mp this
    omega
   have hlen:l.length≤800:=by
    have:=congrArg List.length e
    rw [length_append,length_range] at this
    omega
   have htl:(Zgf os ks l).length≤l.length:=by unfold Zgf;rw [length_map];exact length_filter_le _ _
   refine V.of (a:=.nx [some (tD ks),some (iD os),some (iD (wos ks)),some (iD (Xk os ks)),some (rsD ([Xk os ks]++Zgf os ks (l++[p]))),some (.int (p:Int)),some (.int (os.getD p 0))]) ?_ (by exact ⟨l++[p],_,_,by rw [← e,append_assoc];rfl,rfl⟩)
   show Zah [some (tD ks),some (iD os),some (iD (wos ks)),some (iD (Xk os ks)),some (rsD ([Xk os ks]++Zgf os ks l)),some (.int (p:Int)),some (.int (os.getD p 0))]=_
   by_cases q:0<os.getD p 0
   ·have et:Zgf os ks (l++[p])=Zgf os ks l++[(Xk os ks).set p ((wos ks).getD p 0)]:=by
     unfold Zgf
     rw [List.filter_append,map_append]
     congr 1
     rw [filter_cons,if_pos (decide_eq_true q)]
     rfl
    have s1:=sl_to (Xk os ks) p
    have s2:=Xcw (Xk os ks) (p+1) (j:=(p:Int)+1) (by omega)
    have i2:gIx (iD (wos ks)) (.int (p:Int))=some (.int ((wos ks).getD p 0)):=Ztd (by omega)
    have a1:Jn (iD ((Xk os ks).take p)) (.lst [.int ((wos ks).getD p 0)])=some (iD ((Xk os ks).take p++[(wos ks).getD p 0])):=Xer (ys:=[(wos ks).getD p 0]) (by rw [length_take];simp only [length_cons,length_nil];omega)
    have a2:Jn (iD ((Xk os ks).take p++[(wos ks).getD p 0])) (iD ((Xk os ks).drop (p+1)))=some (iD ((Xk os ks).set p ((wos ks).getD p 0))):=by
     rw [Xer (by rw [length_append,length_take,length_drop];simp only [length_cons,length_nil];omega),Xhm _ (by omega)]
    rw [et,show rsD ([Xk os ks]++(Zgf os ks l++[(Xk os ks).set p ((wos ks).getD p 0)]))=.lst (([Xk os ks]++Zgf os ks l).map iD++[iD ((Xk os ks).set p ((wos ks).getD p 0))]) from by rw [rsD,← append_assoc,map_append];rfl]
    exact Zdu (Jz (Zo rfl rfl (Zkc q))) (Zgz (xs:=([Xk os ks]++Zgf os ks l).map iD) rfl (Zo (Zo (r_sl rfl rfl (Zle rfl) s1) (Js (Zd (Zo rfl rfl i2) rfl) rfl) a1) (r_sl rfl (Zle (Zo rfl rfl rfl)) rfl s2) a2) (by rw [length_map,length_append];simp only [length_cons,length_nil];show _<1000000;omega))
   ·have et:Zgf os ks (l++[p])=Zgf os ks l:=by
     unfold Zgf
     rw [List.filter_append,filter_cons,if_neg (by simpa using q),List.filter_nil,append_nil]
    rw [et]
    exact Jf (Jz (Zo rfl rfl (Zot q))) rfl
  ·obtain ⟨l,o5,o6,e,rfl⟩:=q
   rw [append_nil] at e
   subst e
   exact ⟨o5,o6,rfl⟩
 obtain ⟨fl,h1,o5,o6,rfl⟩:=loop.ex
 have je:Zrq (fV 1) [some (tD ks),some (iD os),some (iD (wos ks)),some (iD (Xk os ks)),some (rsD ([Xk os ks]++Zgf os ks [])),none,none]=.ok ((List.range os.length).map fun p:Nat=>D.tup [.int (p:Int),.int (os.getD p 0)]):=by
  show (if (os.map D.int).length≤lim then R.ok (Zgw (os.map D.int)) else R.bad)=_
  rw [if_pos (by rw [length_map];show _≤1000000;omega),Zjd]
 have jz:Zsn (fV 1) (fV 2) [some (tD ks),some (iD os),some (iD (wos ks)),none,none,none,none]=.ok ((os.zip (wos ks)).map fun x=>D.tup [.int x.1,.int x.2]):=by
  show (if (os.map D.int).length≤lim∧((wos ks).map D.int).length≤lim then R.ok (Zqh (os.map D.int) ((wos ks).map D.int)) else R.bad)=_
  rw [if_pos ⟨by rw [length_map];show _≤1000000;omega,by rw [length_map];show _≤1000000;omega⟩,Zql]
 have ef:rsD (tries os ks)=.lst (([Xk os ks]++Zgf os ks (List.range os.length)).map iD++[iD (wos ks)]):=by
  unfold tries rsD
  rw [ho,map_append]
  rfl
 have htl:(Zgf os ks (List.range os.length)).length≤os.length:=by
  unfold Zgf
  rw [length_map]
  refine le_trans (length_filter_le _ _) ?_
  rw [length_range]
  exact le_refl _
 rw [ef]
 exact Jq (Zs (Xp (Yz rfl (Jv (xs:=ks.map kD) rfl (by rw [length_map];show _≤1000000;omega)) c1)) (Zs (Xp (Yz rfl jz c2)) (Zs (Xp (Js (Zd rfl rfl) rfl)) (Zs (Zjt je h1) (Zs (Zgz (xs:=([Xk os ks]++Zgf os ks (List.range os.length)).map iD) rfl rfl (by rw [length_map,length_append];simp only [length_cons,length_nil];show _<1000000;omega)) (Jm rfl))))))
theorem Zem {os:List Int}{ks:List Kd}(ho:os.length=ks.length):∀b∈tries os ks,b.length=ks.length:=fun b hb=>by
 unfold tries Zgf at hb
 rcases List.mem_append.mp hb with hb | hb
 ·rcases List.mem_append.mp hb with hb | hb
  ·rw [List.mem_singleton.mp hb];exact Zdj ho
  ·obtain ⟨p,_,rfl⟩:=List.mem_map.mp hb
   rw [length_set];exact Zdj ho
 ·rw [List.mem_singleton.mp hb];exact Zcm ks
theorem Yt (rs:List (List Int))(ks:List Kd)(os:List Int)(hr:rs.length<64)(hc:∀r∈rs,r.length≤900)(hk:ks.length≤800)(hw:∀k∈ks,1≤k.w)(ho:os.length=ks.length)(hs:∀o∈os,-(2 ^ 64)<o∧o<2 ^ 64) :
  ∃b∈tries os ks,(∀c∈tries os ks,cby rs ks os b≤cby rs ks os c)∧Xr [rsD rs,tD ks,iD os]=.ok (.tup [.int (cby rs ks os b),.tup [iD b,rsD (rs.map fun r=>prL r (ptd ks (less ks b)))]]):=by
 have ht:=Xcy os ks hk ho
 obtain ⟨b,hb,h1,h2⟩:=Zvl (enc:=iD) (xs:=tries os ks) (v:=cby rs ks os) (lt:=fun m n=>decide (m<n)) (fun z=>z) (fun _ _=>rfl) (fe:=fV 3) (js:=[0,1,2]) (fb:=Zy Jg (Zc (fV 1) (Zc (fV 2) (Zc (fV 3) (Zc (fV 0) Zt))))) (ρ:=[some (rsD rs),some (tD ks),some (iD os),some (rsD (tries os ks)),none,none,none]) (fs:=[rsD rs,tD ks,iD os]) rfl (by unfold tries;simp) rfl
  fun b hb=>Zv (Zd rfl (Zd rfl (Zd rfl (Zd rfl rfl)))) (Xdr rs ks os b hr hc (by omega) hw (by omega) (Zem ho b hb) hs)
 have hbl:=Zem ho b hb
 have h3:=Zgb ks b (by omega) hbl
 have hl:=Zfq ks (less ks b)
 have h4:Yv 1 (Zp 7) Zbg (Zy Zba (Zc (fV 7) (Zc (fV 5) Zt))) [some (rsD rs),some (tD ks),some (iD os),none,some (iD b),some (tD (ptd ks (less ks b))),none] (rs.map iD)=.ok ((rs.map fun r=>prL r (ptd ks (less ks b))).map iD):=by
  rw [map_map]
  exact Zaz rfl fun r hr=>Zv (Zd rfl (Zd rfl rfl)) (Zly r _ (hc r hr) (by omega) (Zht hw))
 have h5:=Xdr rs ks os b hr hc (by omega) hw (by omega) hbl hs
 refine ⟨b,hb,h2,Jq (Zs (Xep (by show 3<7;decide) (Zv (Zd rfl (Zd rfl rfl)) ht) h1 (Zhz b)) (Zs (Xp (Zv (Zd rfl (Zd rfl rfl)) h3)) (Zs (Xp (Yz rfl (Jv (xs:=rs.map iD) rfl (Zch (n:=64) (by omega))) h4)) (Jm (Js (Zd (Zv (Zd rfl (Zd rfl (Zd rfl (Zd rfl rfl)))) h5) (Zd (Js (Zd rfl (Zd rfl rfl)) rfl) rfl)) rfl)))))⟩
theorem Xft {l1 l2:List Int}:∀a b:Int,a∈l1→b∈l2→a≥b→b≥a→a=b:=fun a b _ _ h1 h2=>Int.le_antisymm h2 h1
noncomputable def dsc (ss:List Int):List Int:=(sortI ss).reverse
theorem Zez (ss:List Int):(dsc ss).Perm ss:=(List.reverse_perm _).trans (List.mergeSort_perm ss _)
theorem Zrh (ss:List Int):(dsc ss).Pairwise (·≥·):=by
  unfold dsc sortI
  rw [List.pairwise_reverse]
  refine (List.pairwise_mergeSort (le:=fun a b:Int=>decide (a≤b)) (fun a b c h1 h2=>decide_eq_true (Int.le_trans (of_decide_eq_true h1) (of_decide_eq_true h2))) (fun a b=>by
    rcases Int.le_total a b with h | h
    · rw [decide_eq_true h];rfl
    · rw [decide_eq_true h,Bool.or_true]) ss).imp fun h=>of_decide_eq_true h
theorem Xeo {ss l:List Int}(hp:l.Perm ss)(hu:l.Pairwise (·≥·)):dsc ss=l:=List.Perm.eq_of_pairwise Xft (Zrh ss) hu ((Zez ss).trans hp.symm)
theorem Zxk {ss tt:List Int}(h:ss.Perm tt)(need:Int):Zso ss need=Zso tt need:=by
 have:dsc tt=dsc ss:=Xeo ((Zez ss).trans h) (Zrh ss)
 show few need (dsc ss) 0 0=few need (dsc tt) 0 0
 rw [this]
theorem Xlk {need:Int}:∀{l:List Int} {n t:Int} {k:Nat},k≤l.length→need≤t+(l.take k).sum→few need l n t≤n+k
 | l,n,t,0,_,h=>by
  rw [Xdj (by rw [take_zero,sum_nil] at h;omega)]
  omega
 | [],_,_,k+1,hk,_=>by simp at hk
 | x::l,n,t,k+1,hk,h=>by
  rw [few]
  split
  ·omega
  ·rw [take_succ_cons,sum_cons] at h
   have:=Xlk (need:=need) (l:=l) (n:=n+1) (t:=t+x) (k:=k) (by simpa using hk) (by omega)
   omega
theorem Xmh {need:Int}:∀{l:List Int} {n t:Int},few need l n t≤n+l.length→∃k:Nat,k≤l.length∧few need l n t=n+k∧need≤t+(l.take k).sum
 | [],n,t,h=>by
  rw [few] at h ⊢
  split at h
  ·rename_i q
   exact ⟨0,le_refl _,by rw [if_pos q];simp,by simpa using q⟩
  ·simp at h
   omega
 | x::l,n,t,h=>by
  rw [few] at h ⊢
  split
  ·rename_i q
   exact ⟨0,zero_le _,by simp,by simpa using q⟩
  ·rename_i q
   rw [if_neg q,length_cons] at h
   obtain ⟨k,h1,h2,h3⟩:=Xmh (need:=need) (l:=l) (n:=n+1) (t:=t+x) (by omega)
   exact ⟨k+1,by rw [length_cons];omega,by omega,by rw [take_succ_cons,sum_cons];omega⟩
theorem Xln {need:Int}:∀(l:List Int) (n t:Int),few need l n t≤n+l.length+1
 | [],n,t=>by rw [few];split<;>simp<;>omega
 | x::l,n,t=>by
  rw [few]
  split
  ·omega
  ·have:=Xln (need:=need) l (n+1) (t+x)
   rw [length_cons]
   omega
theorem Xnd {need more:Int}(h:need≤more):∀(l:List Int) (n t:Int),few need l n t≤few more l n t
 | [],n,t=>by
  rw [few,few]
  split<;>split<;>omega
 | x::l,n,t=>by
  rw [few]
  split
  ·exact few_nn' _ _ _ _
  ·rename_i q
   rw [few,if_neg (by omega)]
   exact Xnd h l (n+1) (t+x)
where few_nn' (need:Int):∀(l:List Int) (n t:Int),n≤few need l n t
 | [],n,t=>by
  rw [few]
  split<;>omega
 | x::r,n,t=>by
  rw [few]
  split
  ·exact Int.le_refl _
  ·have:=few_nn' need r (n+1) (t+x)
   omega
noncomputable def ins (h:Int):List Int→List Int
 | []=>[h]
 | x::l=>if x≤h then h::x::l else x::ins h l
theorem Zhd (h:Int):∀l:List Int,(ins h l).Perm (h::l)
 | []=>.refl _
 | x::l=>by
  rw [ins]
  split
  ·exact .refl _
  ·exact ((Zhd h l).cons x).trans (.swap h x l)
theorem Xea (h:Int):∀{l:List Int},l.Pairwise (·≥·)→(ins h l).Pairwise (·≥·)
 | [],_=>List.pairwise_singleton _ _
 | x::l,p=>by
  rw [ins]
  obtain ⟨p1,p2⟩:=List.pairwise_cons.mp p
  split
  ·rename_i q
   refine List.pairwise_cons.mpr ⟨fun y hy=>?_,p⟩
   rcases List.mem_cons.mp hy with rfl | hy
   ·exact q
   ·exact Int.le_trans (p1 y hy) q
  ·rename_i q
   refine List.pairwise_cons.mpr ⟨fun y hy=>?_,Xea h p2⟩
   rcases List.mem_cons.mp ((Zhd h l).mem_iff.mp hy) with rfl | hy
   ·omega
   ·exact p1 y hy
theorem Zno:∀{x:Int} {l:List Int} {k:Nat},(x::l).Pairwise (·≥·)→k≤l.length→(l.take k).sum≤((x::l).take k).sum
 | _,_,0,_,_=>Int.le_refl _
 | x,[],k+1,_,h=>by simp at h
 | x,y::l,k+1,p,h=>by
  obtain ⟨p1,p2⟩:=List.pairwise_cons.mp p
  have:=Zno (k:=k) p2 (by simpa using h)
  have q:y≤x:=p1 y (.head _)
  rw [take_succ_cons,take_succ_cons,sum_cons,sum_cons]
  omega
theorem Zqz (h:Int):∀{l:List Int} {k:Nat},l.Pairwise (·≥·)→k≤l.length→(l.take k).sum≤((ins h l).take k).sum
 | _,0,_,_=>by rw [take_zero,take_zero];exact Int.le_refl _
 | [],k+1,_,hk=>by simp at hk
 | x::l,k+1,p,hk=>by
  obtain ⟨p1,p2⟩:=List.pairwise_cons.mp p
  have hk':k≤l.length:=by simpa using hk
  rw [ins]
  split
  ·rename_i q
   have:=Zno (k:=k) p hk'
   rw [take_succ_cons,take_succ_cons,sum_cons,sum_cons]
   omega
  ·have:=Zqz h (k:=k) p2 hk'
   rw [take_succ_cons,take_succ_cons,sum_cons,sum_cons]
   omega
theorem Zub {ss:List Int}{h need:Int}(e:Zso ss need≤ss.length):Zso (ss++[h]) need≤Zso ss need:=by
 have hl:(dsc ss).length=ss.length:=(Zez ss).length_eq
 have hd:dsc (ss++[h])=ins h (dsc ss):=Xeo ((Zhd h _).trans ((Zez ss).cons h |>.trans (List.perm_append_singleton h ss).symm)) (Xea h (Zrh ss))
 have e':few need (dsc ss) 0 0≤0+(dsc ss).length:=by rw [hl];rw [zero_add];exact e
 obtain ⟨k,h1,h2,h3⟩:=Xmh e'
 have h4:=Zqz h (Zrh ss) h1
 show few need (dsc (ss++[h])) 0 0≤few need (dsc ss) 0 0
 rw [hd,h2]
 refine Xlk ?_ (by omega)
 rw [(Zhd h (dsc ss)).length_eq,length_cons]
 omega
theorem Zud (ss:List Int)(need:Int):Zso ss need≤ss.length+1:=by
 have:=Xln (need:=need) (dsc ss) 0 0
 rw [(Zez ss).length_eq,zero_add] at this
 exact this
theorem Zuo {need more:Int}(h:need≤more)(ss:List Int):Zso ss need≤Zso ss more:=Xnd h _ _ _
theorem Xem {ns:List Int}{ks:List Kd}(hw:∀k∈ks,1≤k.w):∀j,0≤ht ns ks j
 | 0=>by rw [Zkn];exact Int.le_refl _
 | j+1=>Int.le_trans (Xem hw j) (Zjx ns ks hw j)
theorem Zzc {ns:List Int}{ks ls:List Kd}(hw:∀k∈ks,1≤k.w)(hv:∀k∈ls,1≤k.w)(hk:∀k∈ks,∃l∈ls,l.w=k.w∧l.al=k.al∧k.wo≤l.wo):∀j,ht ns ks j≤ht ns ls j:=by
 intro j
 induction j using Nat.strongRecOn with
 | _ j ih =>
  cases j with
  | zero=>rw [Zkn,Zkn];exact Int.le_refl _
  | succ j =>
   rcases Xoh ns ks hw j with q | ⟨k,k1,k2,k3⟩
   ·rw [q]
    exact Int.le_trans (ih j (lt_succ_self j)) (Zjx ns ls hv j)
   ·obtain ⟨l,l1,l2,l3,l4⟩:=hk k k1
    have hw1:=hw k k1
    have e:(((j+1:Nat):Int) - k.w+k.w).toNat=j+1:=by rw [Int.sub_add_cancel];rfl
    have hg:good ns l (((j+1:Nat):Int) - k.w)=true:=by
     simp only [good,decide_eq_true_eq] at k2 ⊢
     rw [l2,l3]
     exact k2
    simp only [good,decide_eq_true_eq] at k2
    have lt:(((j+1:Nat):Int) - k.w).toNat<j+1:=(toNat_lt k2.1).mpr (Int.sub_lt_self _ (Int.lt_of_lt_of_le (by decide) hw1))
    have h2:=Zpe ns ls hv l1 hg
    rw [l2,e] at h2
    have h3:=ih _ lt
    rw [← k3]
    omega
theorem Zxb {ks:List Kd}{ps qs:List Int}(hl:ps.length=qs.length)(h:∀i,ps.getD i 0≤qs.getD i 0):∀k∈ptd ks ps,∃l∈ptd ks qs,l.w=k.w∧l.al=k.al∧k.wo≤l.wo:=fun k hk=>by
 obtain ⟨x,hx,rfl⟩:=List.mem_map.mp hk
 obtain ⟨h1,h2⟩:=List.mem_filter.mp hx
 have h2:0<x.2:=of_decide_eq_true h2
 obtain ⟨i,hi,e⟩:=List.getElem_of_mem h1
 rw [length_zip] at hi
 have hp:i<ps.length:=by omega
 have hq:i<qs.length:=by omega
 have hks:i<ks.length:=by omega
 have hz:x=(ks[i],ps[i]):=by rw [← e,getElem_zip]
 have hh:=h i
 rw [getD_eq_getElem?_getD,getD_eq_getElem?_getD,getElem?_eq_getElem hp,getElem?_eq_getElem hq,Option.getD_some,Option.getD_some] at hh
 rw [hz] at h2 ⊢
 refine ⟨{ks[i] with wo:=qs[i]},List.mem_map.mpr ⟨(ks[i],qs[i]),List.mem_filter.mpr ⟨?_,decide_eq_true (Int.lt_of_lt_of_le h2 hh)⟩,rfl⟩,rfl,rfl,hh⟩
 exact List.mem_iff_getElem.mpr ⟨i,by rw [length_zip];omega,by rw [getElem_zip]⟩
theorem Zii {ks ls:List Kd}(h:∀ns j,ht ns ks j≤ht ns ls j):∀rs:List (List Int),(tops rs ks).sum≤(tops rs ls).sum
 | []=>Int.le_refl _
 | r::rs=>by
  have:=Zii h rs
  have:=h r r.length
  unfold tops at *
  rw [map_cons,map_cons,sum_cons,sum_cons]
  omega
theorem Zij {ks:List Kd}(hw:∀k∈ks,1≤k.w)(rs:List (List Int)):tops (rs.map List.reverse).reverse ks=(tops rs ks).reverse:=by
 unfold tops
 rw [List.map_reverse,map_map]
 congr 1
 refine map_congr_left fun r _=>?_
 show ht r.reverse ks r.reverse.length=_
 rw [length_reverse,Xmi hw]
theorem Zuh:∀l:List Int,l.reverse.sum=l.sum
 | []=>rfl
 | x::l=>by
  rw [reverse_cons,sum_append,sum_cons,sum_cons,sum_nil,Zuh l]
  omega
theorem Zqo (rs:List (List Int))(r:List Int)(ks:List Kd):tops (rs++[r]) ks=tops rs ks++[ht r ks r.length]:=by unfold tops;rw [map_append];rfl
theorem Zbu (o p:Int)(os ps:List Int):dot (o::os) (p::ps)=o*p+dot os ps:=by unfold dot;rw [List.zip_cons_cons,map_cons,sum_cons]
theorem Zpi:∀{os ps:List Int} {i:Nat},i<os.length→os.length=ps.length→dot (os.set i (os.getD i 0+1)) ps=dot os ps+ps.getD i 0
 | [],_,i,h,_=>by simp at h
 | o::os,[],_,_,h=>by simp at h
 | o::os,p::ps,0,_,_=>by
  rw [List.set_cons_zero,Zbu,Zbu]
  show ((o+1)*p+_:Int)=_+p
  rw [Int.add_mul]
  omega
 | o::os,p::ps,i+1,h,e=>by
  have:=Zpi (os:=os) (ps:=ps) (i:=i) (by simpa using h) (by simpa using e)
  rw [List.set_cons_succ,Zbu,Zbu]
  show o*p+dot (os.set i (os.getD i 0+1)) ps=_+ps.getD i 0
  omega
theorem Zvh:∀{os ps:List Int} {i:Nat} (z:Int),i<os.length→os.length=ps.length→os.getD i 0=0→dot os (ps.set i z)=dot os ps
 | [],_,i,_,h,_,_=>by simp at h
 | o::os,[],_,_,_,h,_=>by simp at h
 | o::os,p::ps,0,z,_,_,h=>by
  have:o=0:=h
  subst this
  rw [List.set_cons_zero,Zbu,Zbu,Int.zero_mul,Int.zero_mul]
 | o::os,p::ps,i+1,z,h,e,q=>by
  have:=Zvh (os:=os) (ps:=ps) (i:=i) z (by simpa using h) (by simpa using e) q
  rw [List.set_cons_succ,Zbu,Zbu,this]
theorem Zwg {b:List Int}(h:∀z∈b,0≤z)(i:Nat):0≤b.getD i 0:=by
 rw [getD_eq_getElem?_getD]
 by_cases hi:i<b.length
 ·rw [getElem?_eq_getElem hi]
  exact h _ (getElem_mem hi)
 ·rw [getElem?_eq_none (by omega)]
  exact Int.le_refl _
theorem Xav {ks:List Kd}{b:List Int}(hb:b.length=ks.length)(h0:∀z∈b,0≤z)(i:Nat):∀j,(less ks b).getD j 0≤(less ks (b.set i 0)).getD j 0:=fun j=>by
 have h1:=Zfe hb
 have h2:(less ks (b.set i 0)).length=ks.length:=Zfe (by rw [length_set];exact hb)
 by_cases hj:j<ks.length
 ·have e1:(less ks b)[j]'(by omega)=ks[j].wo - b[j]'(by omega):=by unfold less;rw [List.getElem_map,getElem_zip]
  have e2:(less ks (b.set i 0))[j]'(by omega)=ks[j].wo - (b.set i 0)[j]'(by rw [length_set];omega):=by unfold less;rw [List.getElem_map,getElem_zip]
  rw [getD_eq_getElem?_getD,getD_eq_getElem?_getD,getElem?_eq_getElem (by omega),getElem?_eq_getElem (by omega),Option.getD_some,Option.getD_some,e1,e2,List.getElem_set]
  have:=h0 _ (getElem_mem (show j<b.length by omega))
  split<;>omega
 ·rw [getD_eq_getElem?_getD,getD_eq_getElem?_getD,getElem?_eq_none (by omega),getElem?_eq_none (by omega)]
  exact Int.le_refl _
theorem Xhy {rs:List (List Int)}{ks:List Kd}{os b:List Int}{i:Nat}(hw:∀k∈ks,1≤k.w)(hi:i<os.length)(ho:os.length=ks.length)(hb:b.length=ks.length)(h0:∀z∈b,0≤z)(hz:os.getD i 0=0):cby rs ks os b≤cby rs ks (os.set i (os.getD i 0+1)) (b.set i 0):=by
 have e1:=Zpi (os:=os) (ps:=b.set i 0) (i:=i) hi (by rw [length_set];omega)
 have e2:=Zvh (os:=os) (ps:=b) (i:=i) 0 hi (by omega) hz
 have e3:(b.set i 0).getD i 0=0:=by rw [getD_eq_getElem?_getD,getElem?_set_self (by omega)];rfl
 have e4:=Zii (ks:=ptd ks (less ks b)) (ls:=ptd ks (less ks (b.set i 0))) (fun ns j=>Zzc (Zht hw) (Zht hw) (Zxb (by rw [Zfe hb,Zfe (by rw [length_set];exact hb)]) (Xav hb h0 i)) j) rs
 unfold cby
 omega
theorem Xll {rs:List (List Int)}{ks:List Kd}{os b:List Int}{i:Nat}(hi:i<os.length)(hb:b.length=os.length)(h0:∀z∈b,0≤z):cby rs ks os b≤cby rs ks (os.set i (os.getD i 0+1)) b:=by
 have e1:=Zpi (os:=os) (ps:=b) (i:=i) hi (by omega)
 have e2:=Zwg h0 i
 unfold cby
 omega
theorem set_same {L:List Int}{p:Nat}{w:Int}(h:p<L.length)(e:L.getD p 0=w):L.set p w=L:=by
 refine ext_getElem (by rw [length_set]) fun i h1 h2=>?_
 rw [List.getElem_set]
 split
 ·rename_i q
  subst q
  rw [← e,getD_eq_getElem?_getD,getElem?_eq_getElem h2]
  rfl
 ·rfl
theorem Zpl {os:List Int}{ks:List Kd}(ho:os.length=ks.length)(hwo:∀k∈ks,1≤k.wo):∀b∈tries os ks,∀z∈b,0≤z:=fun b hb z hz=>by
 have w0:∀z∈wos ks,0≤z:=fun z hz=>by
  obtain ⟨k,hk,rfl⟩:=List.mem_map.mp hz
  have:=hwo k hk
  omega
 have l0:∀z∈Xk os ks,0≤z:=fun z hz=>by
  obtain ⟨x,hx,rfl⟩:=List.mem_map.mp hz
  split
  ·exact Int.le_refl _
  ·exact w0 _ (of_mem_zip hx).2
 unfold tries Zgf at hb
 rcases List.mem_append.mp hb with hb | hb
 ·rcases List.mem_append.mp hb with hb | hb
  ·rw [List.mem_singleton.mp hb] at hz;exact l0 z hz
  ·obtain ⟨p,hp,rfl⟩:=List.mem_map.mp hb
   have hp:=List.mem_range.mp (List.mem_filter.mp hp).1
   rcases List.mem_or_eq_of_mem_set hz with q | q
   ·exact l0 z q
   ·rw [q]
    refine w0 _ ?_
    rw [getD_eq_getElem?_getD,getElem?_eq_getElem (by rw [Zcm];exact hp)]
    exact getElem_mem _
 ·rw [List.mem_singleton.mp hb] at hz;exact w0 z hz
theorem Zln {os:List Int}{i:Nat}(hi:i<os.length)(p:Nat):(os.set i (os.getD i 0+1)).getD p 0=if p=i then os.getD i 0+1 else os.getD p 0:=by
 rw [getD_eq_getElem?_getD,List.getElem?_set]
 by_cases q:i=p
 ·subst q
  rw [if_pos rfl,if_pos hi,if_pos rfl]
  rfl
 ·rw [if_neg q,if_neg (fun z=>q z.symm),← getD_eq_getElem?_getD]
theorem Zmr {os:List Int}{ks:List Kd}{L:List Int}(ho:os.length=ks.length)(hL:L.length=ks.length)(h:∀p,p<ks.length→L.getD p 0=if 0<os.getD p 0 then 0 else (wos ks).getD p 0):Xk os ks=L:=by
 have hl:=Zdj ho
 refine ext_getElem (by omega) fun p h1 h2=>?_
 have e1:=Zhk ho (p:=p) (by omega)
 have e2:=h p (by omega)
 rw [← e1,getD_eq_getElem?_getD,getD_eq_getElem?_getD,getElem?_eq_getElem h1,getElem?_eq_getElem h2] at e2
 exact e2.symm
theorem Zrr {rs:List (List Int)}{ks:List Kd}{os:List Int}{i:Nat}(hw:∀k∈ks,1≤k.w)(hwo:∀k∈ks,1≤k.wo)(ho:os.length=ks.length)(hi:i<os.length)(h0:0≤os.getD i 0) :
  ∀c∈tries (os.set i (os.getD i 0+1)) ks,∃b∈tries os ks,cby rs ks os b≤cby rs ks (os.set i (os.getD i 0+1)) c:=fun c hc=>by
 have hll:=Zdj ho
 have hwl:=Zcm ks
 have ho':(os.set i (os.getD i 0+1)).length=ks.length:=by rw [length_set];exact ho
 have nn:=Zpl ho hwo
 have tl:=Zem ho
 have inL:Xk os ks∈tries os ks:=by unfold tries;simp
 have inW:wos ks∈tries os ks:=by unfold tries;simp
 have inP:∀p,p<ks.length→0<os.getD p 0→(Xk os ks).set p ((wos ks).getD p 0)∈tries os ks:=fun p hp q=>by
  unfold tries Zgf
  exact mem_append_left _ (mem_append_right _ (List.mem_map.mpr ⟨p,List.mem_filter.mpr ⟨List.mem_range.mpr hp,decide_eq_true q⟩,rfl⟩))
 have same:∀b∈tries os ks,cby rs ks os b≤cby rs ks (os.set i (os.getD i 0+1)) b:=fun b hb=>Xll hi (by rw [tl b hb];omega) (nn b hb)
 unfold tries Zgf at hc
 by_cases q:0<os.getD i 0
 ·have el:Xk (os.set i (os.getD i 0+1)) ks=Xk os ks:=Zmr ho' hll fun p hp=>by
   rw [Zhk ho hp,Zln hi]
   by_cases e:p=i
   ·subst e
    rw [if_pos rfl,if_pos q,if_pos (by omega)]
   ·rw [if_neg e]
  rw [el] at hc
  rcases List.mem_append.mp hc with hc | hc
  ·rcases List.mem_append.mp hc with hc | hc
   ·rw [List.mem_singleton.mp hc]
    exact ⟨_,inL,same _ inL⟩
   ·obtain ⟨p,hp,rfl⟩:=List.mem_map.mp hc
    obtain ⟨hp1,hp2⟩:=List.mem_filter.mp hp
    have hp1:=List.mem_range.mp hp1
    have hp2:=of_decide_eq_true hp2
    rw [Zln hi] at hp2
    have hp3:0<os.getD p 0:=by
     by_cases e:p=i
     ·subst e;exact q
     ·rw [if_neg e] at hp2;exact hp2
    exact ⟨_,inP p hp1 hp3,same _ (inP p hp1 hp3)⟩
  ·rw [List.mem_singleton.mp hc]
   exact ⟨_,inW,same _ inW⟩
 ·have z:os.getD i 0=0:=by omega
  have el:Xk (os.set i (os.getD i 0+1)) ks=(Xk os ks).set i 0:=Zmr ho' (by rw [length_set];exact hll) fun p hp=>by
   rw [Zln hi]
   by_cases e:p=i
   ·subst e
    rw [if_pos rfl,if_pos (by omega),getD_eq_getElem?_getD,getElem?_set_self (by omega)]
    rfl
   ·rw [if_neg e,getD_eq_getElem?_getD,getElem?_set_ne (fun h=>e h.symm),← getD_eq_getElem?_getD,Zhk ho hp]
  have put:∀b∈tries os ks,cby rs ks os b≤cby rs ks (os.set i (os.getD i 0+1)) (b.set i 0):=fun b hb=>Xhy hw hi ho (tl b hb) (nn b hb) z
  rw [el] at hc
  rcases List.mem_append.mp hc with hc | hc
  ·rcases List.mem_append.mp hc with hc | hc
   ·rw [List.mem_singleton.mp hc]
    exact ⟨_,inL,put _ inL⟩
   ·obtain ⟨p,hp,rfl⟩:=List.mem_map.mp hc
    obtain ⟨hp1,hp2⟩:=List.mem_filter.mp hp
    have hp1:=List.mem_range.mp hp1
    have hp2:=of_decide_eq_true hp2
    rw [Zln hi] at hp2
    by_cases e:p=i
    ·subst e
     have e5:((Xk os ks).set p 0).set p ((wos ks).getD p 0)=Xk os ks:=by
      rw [List.set_set]
      exact set_same (by omega) (by rw [Zhk ho hp1,if_neg q])
     rw [e5]
     exact ⟨_,inL,same _ inL⟩
    ·rw [if_neg e] at hp2
     rw [List.set_comm _ _ (fun h=>e h.symm)]
     exact ⟨_,inP p hp1 hp2,put _ (inP p hp1 hp2)⟩
  ·rw [List.mem_singleton.mp hc]
   exact ⟨_,inW,same _ inW⟩
noncomputable def Zif:FS:=
  (Xu (Yr 2 (Yy 4 1 (Zds (Zc (fA Zap (Zc (fV 0) Zt)) Zt)) (Zp 4) Zbg (Yy 5 1 (Zds (Zc (fA Zap (Zc (fV 0) Zt)) Zt)) (Zp 5) Zbg (fIf (cE (f2 gEq (fV 5) (fV 4))) (fC (.int 1)) (fC (.int 0))))))
    (Xu (Yr 3 (Yy 4 2 (Zrq (fV 1)) (Zcx (Xn (Zp 4) (Xn (Zp 5) Zcv))) (cE (f2 gGt (fV 5) (fC (.int 0)))) (f2 gIx (fV 2) (fV 4))))
    (Xu (Zis 3 (Zy Yu (Zc (fV 1) (Zc (Yy 4 1 (Zbk (fV 0)) (Zp 4) Zbg (f1 Xt (f2 gIx (fV 4) (fC (.int 1))))) Zt))))
    (Xu (Zis 3 (Zy Yu (Zc (fV 1) (Zc (Yy 4 1 (Zbk (fV 0)) (Zp 4) Zbg (f1 Xt (f2 gIx (fV 4) (fC (.int 2))))) Zt))))
    (Xu (Zis 3 (Zy Yu (Zc (fV 1) (Zc (f2 Zbo (fA Zau (Zc (fC (.int 1)) Zt)) (fA Zap (Zc (fV 0) Zt))) Zt))))
    (Zad (fV 3)))))))
noncomputable def Jj (ds:List D):R D:=(run 4 Zif ds).calm
noncomputable def Xix:FS:=
  (Xu (Zls 3 4 (Zy Jj (Zc (fV 1) (Zc (fV 2) Zt))) (Zge (fun m n=>decide (m > n)) (fV 3) [0,1,2] (Zy Zae (Zc (fV 1) (Zc (fV 2) (Zc (fV 3) (Zc (fV 0) Zt)))))))
    (Xu (Yr 5 (Zy Yw (Zc (fV 1) (Zc (fV 4) Zt))))
    (Xu (Yr 6 (Yy 7 1 (Zbk (fV 0)) (Zp 7) Zbg (Zy Zba (Zc (fV 7) (Zc (fV 5) Zt)))))
    (Zad (fA Zfm (Zc (Zy Zae (Zc (fV 0) (Zc (fV 1) (Zc (fV 2) (Zc (fV 4) Zt))))) (Zc (fA Zfm (Zc (fV 4) (Zc (fV 6) Zt))) Zt)))))))
noncomputable def Ju (ds:List D):R D:=(run 7 Xix ds).calm
noncomputable def Zdc:FS:=
 (sIf (cE (f2 Ziv (Zy Zal (Zc (fV 0) (Zc (fV 1) (Zc (fV 2) (Zc (fV 5) (Zc (fV 4) Zt)))))) (fC (.bl true)))) (Zad (fC (.bl false))) sNx)
noncomputable def Zdi:FS:=
 (sIf (cE (f2 Ziv (Zy Jk (Zc (fV 0) (Zc (fV 1) (Zc (fV 2) (Zc (fV 5) (Zc (fV 7) Zt)))))) (fC (.bl true)))) (Zad (fC (.bl false))) sNx)
noncomputable def Zks:FS:=
  (Xu (Xih (Zy Ju (Zc (fV 0) (Zc (fV 1) (Zc (fV 2) Zt)))) (Zcx (Xn (Zp 3) (Xn (Zp 4) Zcv))))
    (Xu (Znv (Xkf (fA Zfm (Zc (fV 3) (Zc (f2 Zkz (fV 3) (fC (.int 1))) (Zc (fC (.int 0)) (Zc (f1 Zxw (fC (.int 5))) Zt)))))) (Zp 5) Zdc)
    (Xu (Xih (Zy Xr (Zc (fV 0) (Zc (fV 1) (Zc (fV 2) Zt)))) (Zcx (Xn (Zp 6) (Xn (Zp 7) Zcv))))
    (Xu (Znv (Xkf (fA Zfm (Zc (fV 6) (Zc (f2 Jn (fV 6) (fC (.int 1))) (Zc (f2 Jn (fV 6) (f2 Zir (fC (.int 10)) (fC (.int 20)))) Zt))))) (Zp 5) Zdi)
    (Zad (fC (.bl true)))))))
noncomputable def Zai (ds:List D):R D:=(run 8 Zks ds).calm
noncomputable def Zfp:FS:=
  (Xu (Yr 4 (f1 Xt (f2 gIx (Zy Ju (Zc (fV 0) (Zc (fV 1) (Zc (fV 2) Zt)))) (fC (.int 0)))))
    (Xu (Yr 5 (f1 Xt (f2 gIx (Zy Ju (Zc (f2 Zpd (fV 0) (fA Zau (Zc (fV 3) Zt))) (Zc (fV 1) (Zc (fV 2) Zt)))) (fC (.int 0)))))
    (Xu (sIf (Zxz (cE (f2 gGt (fV 5) (fV 4))) (cOr (cE (f2 gLe (fV 4) (fA Zap (Zc (fV 0) Zt)))) (cE (f2 gGt (fV 5) (f2 Jn (fA Zap (Zc (fV 0) Zt)) (fC (.int 2))))))) (Zad (fC (.bl false))) sNx)
    (Zad (f2 gGe (f2 gIx (Zy Xr (Zc (f2 Zpd (fV 0) (fA Zau (Zc (fV 3) Zt))) (Zc (fV 1) (Zc (fV 2) Zt)))) (fC (.int 0))) (f2 gIx (Zy Xr (Zc (fV 0) (Zc (fV 1) (Zc (fV 2) Zt)))) (fC (.int 0))))))))
noncomputable def Yq (ds:List D):R D:=(run 6 Zfp ds).calm
noncomputable def Zer:FS:=
  (Xu (Yr 4 (fA Zxd (Zc (fV 2) Zt)))
    (Xu (Xjx 4 (fV 3) (f2 Jn (f2 gIx (fV 4) (fV 3)) (fC (.int 1))))
    (Xu (Yr 5 (f2 gLt (f2 gIx (Zy Ju (Zc (fV 0) (Zc (fV 1) (Zc (fV 4) Zt)))) (fC (.int 0))) (f2 gIx (Zy Ju (Zc (fV 0) (Zc (fV 1) (Zc (fV 2) Zt)))) (fC (.int 0)))))
    (Xu (sIf (Zxz (cE (f2 gGt (f2 gIx (fV 2) (fV 3)) (fC (.int 0)))) (cE (fV 5))) (Zad (fC (.bl false))) sNx)
    (Zad (f2 gGe (f2 gIx (Zy Xr (Zc (fV 0) (Zc (fV 1) (Zc (fV 4) Zt)))) (fC (.int 0))) (f2 gIx (Zy Xr (Zc (fV 0) (Zc (fV 1) (Zc (fV 2) Zt)))) (fC (.int 0)))))))))
noncomputable def Yb (ds:List D):R D:=(run 6 Zer ds).calm
noncomputable def q_law:FS:=
  (Xu (Yr 1 (Zy Zat (Zc (fV 0) (Zc (fC (.int 0)) (Zc (fC (.int 8)) Zt)))))
    (Xu (Yr 2 (Zy Yc (Zc (fV 0) (Zc (fC (.int 1)) (Zc (fA Zau (Zc (fC (.int 6)) (Zc (fC (.int 8)) (Zc (fC (.int 8)) Zt)))) Zt)))))
    (Xu (Yr 3 (Zy Zbj (Zc (fV 0) (Zc (fC (.int 0)) (Zc (fC (.int 8)) Zt)))))
    (Xu (Yr 4 (Zy Yh (Zc (fV 0) (Zc (fC (.int 2)) (Zc (f2 gIx (fV 2) (fC (.int 0))) (Zc (fC (.int 20)) (Zc (fV 3) Zt)))))))
    (Xu (sIf (cE (f2 gEq (f2 gIx (fV 2) (fC (.int 2))) (fC (.int 0)))) (Yr 4 (Zy Yh (Zc (fV 0) (Zc (fC (.int 2)) (Zc (fC (.int 1)) (Zc (fC (.int 120)) (Zc (fV 3) Zt))))))) sNx)
    (Xu (Yr 5 (Zy Zaf (Zc (fV 0) (Zc (fC (.int 20)) (Zc (fA Zap (Zc (fV 1) Zt)) (Zc (fC (.int 7)) Zt))))))
    (Xu (Yr 6 (f2 Ztn (Yy 7 1 (Zbk (fV 4)) (Zp 7) Zbg (Zy Zeo (Zc (fV 7) Zt))) (f1 Zxw (fC (.int 1)))))
    (Xu (sIf (cE (f2 gNe (f2 gIx (Zy Ju (Zc (fV 6) (Zc (fV 1) (Zc (fV 5) Zt)))) (fC (.int 0))) (f2 gIx (Zy Ju (Zc (fV 4) (Zc (fV 1) (Zc (fV 5) Zt)))) (fC (.int 0))))) (Zad (fC (.bl false))) sNx)
    (Xu (sIf (cE (f2 gNe (f2 gIx (Zy Xr (Zc (fV 6) (Zc (fV 1) (Zc (fV 5) Zt)))) (fC (.int 0))) (f2 gIx (Zy Xr (Zc (fV 4) (Zc (fV 1) (Zc (fV 5) Zt)))) (fC (.int 0))))) (Zad (fC (.bl false))) sNx)
    (Xu (sIf (Xbi (cE (Zy Zai (Zc (fV 4) (Zc (fV 1) (Zc (fV 5) Zt)))))) (Zad (fC (.bl false))) sNx)
    (Xu (sIf (Xbi (cE (Zy Yq (Zc (fV 4) (Zc (fV 1) (Zc (fV 5) (Zc (Zy Zab (Zc (fV 0) (Zc (fC (.int 15)) (Zc (fC (.int 20)) (Zc (fV 3) Zt))))) Zt))))))) (Zad (fC (.bl false))) sNx)
    (Zad (fOr (f2 gEq (fA Zap (Zc (fV 1) Zt)) (fC (.int 0))) (Zy Yb (Zc (fV 4) (Zc (fV 1) (Zc (fV 5) (Zc (f2 Zhe (f2 gIx (fV 2) (fC (.int 1))) (fA Zap (Zc (fV 1) Zt))) Zt))))))))))))))))))
noncomputable def Xgg (ds:List D):R D:=(run 7 q_law ds).calm
noncomputable def Zux (ks:List Kd):List Int:=ks.map (·.w)
noncomputable def Zcd (os ps:List Int):List Int:=(os.zip ps).map fun x=>if 0<x.1 then x.2 else 0
noncomputable def Zhs (n p:Nat):List Int:=(List.range n).map fun k=>if k=p then 1 else 0
noncomputable def isW (os:List Int)(p:Nat):Bool:=decide (0<os.getD p 0)
noncomputable def Znp (os:List Int)(ks:List Kd):List (List Int):=((List.range ks.length).filter (isW os)).map (Zhs ks.length)++[Zcd os (Zux ks),Zcd os (wos ks),Zcd os (List.replicate ks.length 1)]
noncomputable def fby (rs:List (List Int))(ks:List Kd)(os ps:List Int):Int:=Zso (tops rs (ptd ks ps)) (dot os ps)
theorem Zof (os ps:List Int)(ho:os.length≤1000)(hp:ps.length≤1000):Yu [iD os,iD ps]=.ok (iD (Zcd os ps)):=by
 have gen:∀l:List (Int×Int),Yv 2 (Zcx (Xn (Zp 2) (Xn (Zp 3) Zcv))) Zbg (fIf (cE (f2 gGt (fV 2) (fC (.int 0)))) (f1 Xt (fV 3)) (fC (.int 0))) [some (iD os),some (iD ps)] (l.map fun x=>D.tup [.int x.1,.int x.2])=.ok (l.map fun x=>D.int (if 0<x.1 then x.2 else 0)):=by
  intro l
  induction l with
  | nil=>rfl
  | cons x l ih =>
   have el:fIf (cE (f2 gGt (fV 2) (fC (.int 0)))) (f1 Xt (fV 3)) (fC (.int 0)) [some (iD os),some (iD ps),some (.int x.1),some (.int x.2)]=.ok (.int (if 0<x.1 then x.2 else 0)):=by
    by_cases q:0<x.1
    ·rw [if_pos q]
     exact Zvn (Jz (Zo rfl rfl (Zkc q))) (Zgu rfl rfl)
    ·rw [if_neg q]
     exact Zwm (Jz (Zo rfl rfl (Zot q))) rfl
   show ((fIf (cE (f2 gGt (fV 2) (fC (.int 0)))) (f1 Xt (fV 3)) (fC (.int 0)) [some (iD os),some (iD ps),some (.int x.1),some (.int x.2)]).bind fun y=>(Yv 2 (Zcx (Xn (Zp 2) (Xn (Zp 3) Zcv))) Zbg (fIf (cE (f2 gGt (fV 2) (fC (.int 0)))) (f1 Xt (fV 3)) (fC (.int 0))) [some (iD os),some (iD ps)] (l.map fun x=>D.tup [.int x.1,.int x.2])).bind fun ys=>.ok (y::ys))=_
   rw [el,Jw,ih,Jw]
   rfl
 have jz:Zsn (fV 0) (fV 1) [some (iD os),some (iD ps)]=.ok ((os.zip ps).map fun x=>D.tup [.int x.1,.int x.2]):=by
  show (if (os.map D.int).length≤lim∧(ps.map D.int).length≤lim then R.ok (Zqh (os.map D.int) (ps.map D.int)) else R.bad)=_
  rw [if_pos ⟨by rw [length_map];show _≤1000000;omega,by rw [length_map];show _≤1000000;omega⟩,Zql]
 have e:iD (Zcd os ps)=.lst ((os.zip ps).map fun x=>D.int (if 0<x.1 then x.2 else 0)):=by
  unfold iD Zcd
  rw [map_map]
  rfl
 rw [e]
 exact Jq (Jm (Yz rfl jz (gen _)))
theorem Xlm {ρ:Env}{n m:Nat}(hn:ρ.length=n){j:Nat}(p:Nat)(hj:ρ[j]?=some (some (.int (0+(p:Int)))))(hjn:j<n):Yv 1 (Zp n) Zbg (fIf (cE (f2 gEq (fV n) (fV j))) (fC (.int 1)) (fC (.int 0))) ρ (Zek 0 m)=.ok ((Zhs m p).map D.int):=by
 have e:(Zhs m p).map D.int=(List.range m).map fun k=>D.int (if k=p then 1 else 0):=by
  unfold Zhs
  rw [map_map]
  rfl
 rw [e]
 refine Zaz (enc:=fun k:Nat=>D.int (0+(k:Int))) hn fun k _=>?_
 have vn:fV n (ρ++[some (D.int (0+(k:Int)))])=.ok (.int (0+(k:Int))):=by
  unfold fV
  rw [getElem?_append_right (by omega),hn,sub_self]
  rfl
 have vj:fV j (ρ++[some (D.int (0+(k:Int)))])=.ok (.int (0+(p:Int))):=by
  unfold fV
  rw [getElem?_append_left (by omega),hj]
 by_cases q:k=p
 ·rw [if_pos q]
  exact Zvn (Jz (Zo vn vj ((Zod _ _).trans (Zkc (by rw [q]))))) rfl
 ·rw [if_neg q]
  exact Zwm (Jz (Zo vn vj ((Zod _ _).trans (Zot (by omega))))) rfl
theorem Zuu (os:List Int)(ks:List Kd)(hk:ks.length≤800)(ho:os.length=ks.length):Jj [tD ks,iD os]=.ok (rsD (Znp os ks)):=by
 have lt:=Zrf ks
 have bt:=Xla (n:=ks.length) (m:=800) hk
 have rr:∀ρ:Env,ρ[0]?=some (some (tD ks))→Zds (Zc (fA Zap (Zc (fV 0) Zt)) Zt) ρ=.ok (Zek 0 ks.length):=fun ρ h0=>by
  have v0:fV 0 ρ=.ok (tD ks):=by unfold fV;rw [h0]
  exact (Zoq (j:=(ks.length:Int)) (Zd (Js (Zd v0 rfl) lt) rfl) bt).trans (by rw [toNat_natCast])
 obtain ⟨U,hU⟩:∃U,U=(List.range ks.length).map (Zhs ks.length):=⟨_,rfl⟩
 have hUl:U.length=ks.length:=by rw [hU,length_map,length_range]
 have hUa:∀p,(hp:p<ks.length)→U[p]'(by omega)=Zhs ks.length p:=fun p hp=>by simp [hU]
 have c1:Yv 1 (Zp 4) Zbg (Yy 5 1 (Zds (Zc (fA Zap (Zc (fV 0) Zt)) Zt)) (Zp 5) Zbg (fIf (cE (f2 gEq (fV 5) (fV 4))) (fC (.int 1)) (fC (.int 0)))) [some (tD ks),some (iD os),none,none] (Zek 0 ks.length)=.ok (U.map iD):=by
  rw [hU,map_map]
  refine Zaz (enc:=fun k:Nat=>D.int (0+(k:Int))) rfl fun p _=>?_
  exact Yz rfl (rr _ rfl) (Xlm (n:=5) (m:=ks.length) (j:=4) rfl p rfl (by decide))
 have c2:∀l:List Nat,(∀p∈l,p<ks.length)→Yv 2 (Zcx (Xn (Zp 4) (Xn (Zp 5) Zcv))) (cE (f2 gGt (fV 5) (fC (.int 0)))) (f2 gIx (fV 2) (fV 4)) [some (tD ks),some (iD os),some (rsD U),none] (l.map fun p:Nat=>D.tup [.int (p:Int),.int (os.getD p 0)])=.ok ((l.filter (isW os)).map fun p=>iD (Zhs ks.length p)):=by
  intro l
  induction l with
  | nil=>intro _;rfl
  | cons p l ih =>
   intro hl
   have ih:=ih fun x hx=>hl x (.tail _ hx)
   have hp:=hl p (.head _)
   show ((cE (f2 gGt (fV 5) (fC (.int 0)))) [some (tD ks),some (iD os),some (rsD U),none,some (.int (p:Int)),some (.int (os.getD p 0))]).bind (fun t=>if t then ((f2 gIx (fV 2) (fV 4)) [some (tD ks),some (iD os),some (rsD U),none,some (.int (p:Int)),some (.int (os.getD p 0))]).bind fun y=>(Yv 2 (Zcx (Xn (Zp 4) (Xn (Zp 5) Zcv))) (cE (f2 gGt (fV 5) (fC (.int 0)))) (f2 gIx (fV 2) (fV 4)) [some (tD ks),some (iD os),some (rsD U),none] (l.map fun p:Nat=>D.tup [.int (p:Int),.int (os.getD p 0)])).bind fun ys=>.ok (y::ys) else Yv 2 (Zcx (Xn (Zp 4) (Xn (Zp 5) Zcv))) (cE (f2 gGt (fV 5) (fC (.int 0)))) (f2 gIx (fV 2) (fV 4)) [some (tD ks),some (iD os),some (rsD U),none] (l.map fun p:Nat=>D.tup [.int (p:Int),.int (os.getD p 0)]))=_
   rw [filter_cons]
   by_cases q:0<os.getD p 0
   ·have hc:cE (f2 gGt (fV 5) (fC (.int 0))) [some (tD ks),some (iD os),some (rsD U),none,some (.int (p:Int)),some (.int (os.getD p 0))]=.ok true:=Jz (Zo rfl rfl (Zkc q))
    have hx:f2 gIx (fV 2) (fV 4) [some (tD ks),some (iD os),some (rsD U),none,some (.int (p:Int)),some (.int (os.getD p 0))]=.ok (iD (Zhs ks.length p)):=Zo rfl rfl (by rw [ix_rs (by omega),hUa p hp])
    rw [hc,Jw,if_pos rfl,hx,Jw,ih,Jw,show isW os p=true from decide_eq_true q,if_pos rfl]
    rfl
   ·have hc:cE (f2 gGt (fV 5) (fC (.int 0))) [some (tD ks),some (iD os),some (rsD U),none,some (.int (p:Int)),some (.int (os.getD p 0))]=.ok false:=Jz (Zo rfl rfl (Zot q))
    rw [hc,Jw,if_neg Bool.false_ne_true,ih,show isW os p=false from decide_eq_false q,if_neg Bool.false_ne_true]
 have je:Zrq (fV 1) [some (tD ks),some (iD os),some (rsD U),none]=.ok ((List.range os.length).map fun p:Nat=>D.tup [.int (p:Int),.int (os.getD p 0)]):=by
  show (if (os.map D.int).length≤lim then R.ok (Zgw (os.map D.int)) else R.bad)=_
  rw [if_pos (by rw [length_map];show _≤1000000;omega),Zjd]
 obtain ⟨T0,hT0⟩:∃T0,T0=((List.range ks.length).filter (isW os)).map (Zhs ks.length):=⟨_,rfl⟩
 have hTl:T0.length≤ks.length:=by
  rw [hT0,length_map]
  refine le_trans (length_filter_le _ _) ?_
  rw [length_range]
  exact le_refl _
 have h2:=c2 (List.range os.length) fun p hp=>by have:=List.mem_range.mp hp;omega
 have e2:(((List.range os.length).filter (isW os)).map fun p=>iD (Zhs ks.length p))=T0.map iD:=by
  rw [hT0,map_map,ho]
  rfl
 rw [e2] at h2
 have w1:∀o,Yv 1 (Zp 4) Zbg (f1 Xt (f2 gIx (fV 4) (fC (.int 1)))) [some (tD ks),some (iD os),some (rsD U),o] (ks.map kD)=.ok ((Zux ks).map D.int):=fun o=>by
  have e:(Zux ks).map D.int=ks.map fun k=>D.int k.w:=by unfold Zux;rw [map_map];rfl
  rw [e]
  exact Zaz rfl fun x _=>Zgu (Zo rfl rfl (Xjv x)) rfl
 have w2:∀o,Yv 1 (Zp 4) Zbg (f1 Xt (f2 gIx (fV 4) (fC (.int 2)))) [some (tD ks),some (iD os),some (rsD U),o] (ks.map kD)=.ok ((wos ks).map D.int):=fun o=>by
  have e:(wos ks).map D.int=ks.map fun k=>D.int k.wo:=by unfold wos;rw [map_map];rfl
  rw [e]
  exact Zaz rfl fun x _=>Zgu (Zo rfl rfl (Xpf x)) rfl
 have w3:Zbo (.lst [.int 1]) (.int (ks.length:Int))=some (iD (List.replicate ks.length 1)):=by
  show (if ((ks.length:Int)≤1000000∧1*(ks.length:Int).toNat≤lim∧-1000000≤(ks.length:Int)∧Yi [D.int 1]) then some (D.lst (List.replicate (ks.length:Int).toNat [D.int 1]).flatten) else none)=_
  rw [if_pos ⟨by omega,by rw [toNat_natCast];show _≤1000000;omega,by omega,rfl⟩,toNat_natCast]
  unfold iD
  rw [List.map_replicate]
  refine congrArg (fun z=>some (D.lst z)) ?_
  induction ks.length with
  | zero=>rfl
  | succ n ih=>rw [replicate_succ,flatten_cons,ih,replicate_succ];rfl
 have o1:=Zof os (Zux ks) (by omega) (by unfold Zux;rw [length_map];omega)
 have o2:=Zof os (wos ks) (by omega) (by rw [Zcm];omega)
 have o3:=Zof os (List.replicate ks.length 1) (by omega) (by rw [length_replicate];omega)
 have ef:rsD (Znp os ks)=.lst (((T0.map iD++[iD (Zcd os (Zux ks))])++[iD (Zcd os (wos ks))])++[iD (Zcd os (List.replicate ks.length 1))]):=by
  unfold Znp rsD
  rw [← hT0,map_append,append_assoc,append_assoc]
  rfl
 have jl:∀o,Zbk (fV 0) [some (tD ks),some (iD os),some (rsD U),o]=.ok (ks.map kD):=fun o=>Jv (xs:=ks.map kD) rfl (by rw [length_map];show _≤1000000;omega)
 rw [ef]
 refine Jq (Zs (Xp (Yz rfl (rr _ rfl) c1)) (Zs (Xp (Yz rfl je h2)) (Zs (Zgz (xs:=T0.map iD) rfl (Zv (Zd rfl (Zd (Yz rfl (jl _) (w1 _)) rfl)) o1) ?_) (Zs (Zgz (xs:=T0.map iD++[iD (Zcd os (Zux ks))]) rfl (Zv (Zd rfl (Zd (Yz rfl (jl _) (w2 _)) rfl)) o2) ?_) (Zs (Zgz (xs:=(T0.map iD++[iD (Zcd os (Zux ks))])++[iD (Zcd os (wos ks))]) rfl (Zv (Zd rfl (Zd (Zo (Js (Zd rfl rfl) rfl) (Js (Zd rfl rfl) lt) w3) rfl)) o3) ?_) (Jm rfl))))))
 ·rw [length_map];show _<1000000;omega
 ·rw [length_append,length_map];show T0.length+1<1000000;omega
 ·rw [length_append,length_append,length_map];show T0.length+1+1<1000000;omega
theorem Zep {os ps:List Int}(h:ps.length=os.length):(Zcd os ps).length=os.length:=by unfold Zcd;rw [length_map,length_zip,h,Nat.min_self]
theorem Zha {os:List Int}{ks:List Kd}(ho:os.length=ks.length):∀b∈Znp os ks,b.length=ks.length:=fun b hb=>by
 unfold Znp at hb
 rcases List.mem_append.mp hb with hb | hb
 ·obtain ⟨p,_,rfl⟩:=List.mem_map.mp hb
  unfold Zhs
  rw [length_map,length_range]
 ·rcases List.mem_cons.mp hb with rfl | hb
  ·rw [Zep (by unfold Zux;rw [length_map];exact ho.symm)];exact ho
  ·rcases List.mem_cons.mp hb with rfl | hb
   ·rw [Zep (by rw [Zcm];exact ho.symm)];exact ho
   ·rw [List.mem_singleton.mp hb,Zep (by rw [length_replicate];exact ho.symm)];exact ho
theorem Zac (rs:List (List Int))(ks:List Kd)(os:List Int)(hr:rs.length<64)(hc:∀r∈rs,r.length≤900)(hk:ks.length≤800)(hw:∀k∈ks,1≤k.w)(ho:os.length=ks.length)(hs:∀o∈os,-(2 ^ 64)<o∧o<2 ^ 64) :
  ∃b∈Znp os ks,(∀c∈Znp os ks,fby rs ks os c≤fby rs ks os b)∧Ju [rsD rs,tD ks,iD os]=.ok (.tup [.int (fby rs ks os b),.tup [iD b,rsD (rs.map fun r=>prL r (ptd ks b))]]):=by
 have ht:=Zuu os ks hk ho
 obtain ⟨b,hb,h1,h2⟩:=Zvl (enc:=iD) (xs:=Znp os ks) (v:=fby rs ks os) (lt:=fun m n=>decide (m > n)) (fun z=>-z) (fun a b=>decide_eq_decide.mpr (by omega)) (fe:=fV 3) (js:=[0,1,2]) (fb:=Zy Zae (Zc (fV 1) (Zc (fV 2) (Zc (fV 3) (Zc (fV 0) Zt))))) (ρ:=[some (rsD rs),some (tD ks),some (iD os),some (rsD (Znp os ks)),none,none,none]) (fs:=[rsD rs,tD ks,iD os]) rfl (by unfold Znp;simp) rfl
  fun b hb=>Zv (Zd rfl (Zd rfl (Zd rfl (Zd rfl rfl)))) (Zhw rs ks os b hr hc (by omega) hw (by omega) (by rw [Zha ho b hb];omega) hs)
 have hbl:=Zha ho b hb
 have h3:=Zdq ks b (by omega) (by omega)
 have hl:=Zfq ks b
 have h4:Yv 1 (Zp 7) Zbg (Zy Zba (Zc (fV 7) (Zc (fV 5) Zt))) [some (rsD rs),some (tD ks),some (iD os),none,some (iD b),some (tD (ptd ks b)),none] (rs.map iD)=.ok ((rs.map fun r=>prL r (ptd ks b)).map iD):=by
  rw [map_map]
  exact Zaz rfl fun r hr=>Zv (Zd rfl (Zd rfl rfl)) (Zly r _ (hc r hr) (by omega) (Zht hw))
 have h5:=Zhw rs ks os b hr hc (by omega) hw (by omega) (by omega) hs
 refine ⟨b,hb,fun c hc=>by have:=h2 c hc;omega,Jq (Zs (Xep (by show 3<7;decide) (Zv (Zd rfl (Zd rfl rfl)) ht) h1 (Zhz b)) (Zs (Xp (Zv (Zd rfl (Zd rfl rfl)) h3)) (Zs (Xp (Yz rfl (Jv (xs:=rs.map iD) rfl (Zch (n:=64) (by omega))) h4)) (Jm (Js (Zd (Zv (Zd rfl (Zd rfl (Zd rfl (Zd rfl rfl)))) h5) (Zd (Js (Zd rfl (Zd rfl rfl)) rfl) rfl)) rfl)))))⟩
theorem Xkv {a b:FE}{ρ:Env}(h:a ρ=.ok (.bl true)):fOr a b ρ=.ok (.bl true):=by rw [Xdv,h];rfl
theorem Xod {a b:FE}{ρ:Env}{r:R D}(h:a ρ=.ok (.bl false))(h2:b ρ=r):fOr a b ρ=r:=by rw [Xdv,h];exact h2
theorem Xdz (need:Int):∀(l:List Int) (n t:Int),n≤few need l n t
 | [],n,t=>by
  unfold few
  split<;>omega
 | x::r,n,t=>by
  unfold few
  split
  ·exact Int.le_refl _
  ·have:=Xdz need r (n+1) (t+x)
   omega
theorem Xkh (rs:List (List Int))(ks:List Kd)(os ps:List Int):0≤fby rs ks os ps:=Xdz _ _ _ _
theorem Zuv {os:List Int}{ks:List Kd}(ho:os.length=ks.length)(hw:∀k∈ks,1≤k.w)(hwo:∀k∈ks,k.w≤200∧1≤k.wo∧k.wo≤1000000000000000000):∀b∈Znp os ks,∀z∈b,0≤z∧z≤1000000000000000000:=fun b hb z hz=>by
 have only:∀ps:List Int,(∀z∈ps,0≤z∧z≤1000000000000000000)→∀z∈Zcd os ps,0≤z∧z≤1000000000000000000:=fun ps h z hz=>by
  obtain ⟨x,hx,rfl⟩:=List.mem_map.mp hz
  split
  ·exact h _ (of_mem_zip hx).2
  ·exact ⟨Int.le_refl _,by decide⟩
 unfold Znp at hb
 rcases List.mem_append.mp hb with hb | hb
 ·obtain ⟨p,_,rfl⟩:=List.mem_map.mp hb
  obtain ⟨k,_,rfl⟩:=List.mem_map.mp hz
  split<;>decide
 ·rcases List.mem_cons.mp hb with rfl | hb
  ·refine only _ (fun z hz=>?_) z hz
   obtain ⟨k,hk,rfl⟩:=List.mem_map.mp hz
   have h1:=hw k hk
   have h2:=hwo k hk
   constructor<;>omega
  ·rcases List.mem_cons.mp hb with rfl | hb
   ·refine only _ (fun z hz=>?_) z hz
    obtain ⟨k,hk,rfl⟩:=List.mem_map.mp hz
    have h2:=hwo k hk
    constructor<;>omega
   ·rw [List.mem_singleton.mp hb] at hz
    refine only _ (fun z hz=>?_) z hz
    rw [(List.mem_replicate.mp hz).2]
    decide
theorem Xgh {os ps:List Int}(h:ps.length=os.length){k:Nat}(hk:k<os.length):(Zcd os ps).getD k 0=if 0<os.getD k 0 then ps.getD k 0 else 0:=by
 unfold Zcd
 rw [getD_eq_getElem?_getD,getElem?_map,Zzq h k hk]
 rfl
theorem Zjq {os ps:List Int}(h:ps.length=os.length):Zcd os ps=(List.range os.length).map fun k=>if 0<os.getD k 0 then ps.getD k 0 else 0:=by
 have hl:=Zep h
 refine ext_getElem (by rw [hl,length_map,length_range]) fun i h1 h2=>?_
 have:=Xgh h (k:=i) (by omega)
 rw [getD_eq_getElem?_getD,getElem?_eq_getElem h1] at this
 rw [List.getElem_map,List.getElem_range]
 exact this
theorem Zvd {α β:Type}(f:α→β):∀l:List α,l.zip (l.map f)=l.map fun x=>(x,f x)
 | []=>rfl
 | x::l=>by rw [map_cons,List.zip_cons_cons,Zvd f l];rfl
theorem Zwq (rs:List (List Int))(kk:List Kd):(rs.map fun r=>prL r kk).map List.sum=tops rs kk:=by
 unfold tops
 rw [map_map]
 exact map_congr_left fun r _=>Xiq r kk
theorem Zqe (rs:List (List Int))(kk:List Kd)(hr:rs.length≤900)(hc:∀r∈rs,r.length≤900)(hk:kk.length≤1000)(hw:∀k∈kk,1≤k.w):Zag [rsD rs,tD kk,rsD (rs.map fun r=>prL r kk)]=.ok (.bl true):=by
  have h:=Zoe rs kk (rs.map fun r=>prL r kk) hc (fun l hl=>by
    obtain ⟨r,hr,rfl⟩:=List.mem_map.mp hl
    rw [Zon]
    exact hc r hr) hr (by rw [length_map];exact hr) hk hw
  rw [h,Zvd,decide_eq_true (by rw [length_map]),Bool.true_and]
  congr 2
  rw [all_eq_true]
  intro x hx
  obtain ⟨r,_,rfl⟩:=List.mem_map.mp hx
  exact (Zzy r kk hw).b
theorem Xeh {ρ:Env}{n:Nat}(hn:ρ.length=n)(ls:List (List Int)):Yv 1 (Zp n) Zbg (fA Zid (Zc (fV n) Zt)) ρ (ls.map iD)=.ok ((ls.map List.sum).map D.int):=by
 have e:(ls.map List.sum).map D.int=ls.map fun l=>D.int l.sum:=by rw [map_map];rfl
 rw [e]
 refine Zaz hn fun l _=>?_
 have vn:fV n (ρ++[some (iD l)])=.ok (iD l):=by
  unfold fV
  rw [getElem?_append_right (by rw [hn];exact le_refl _),hn,sub_self]
  rfl
 exact Js (Zd vn rfl) (sum_ints _)
section
variable (rs:List (List Int))(ks:List Kd)(os:List Int)(hr:rs.length<64)(hc:∀r∈rs,r.length≤900)(hk:ks.length≤800)(hw:∀k∈ks,1≤k.w)(hwo:∀k∈ks,k.w≤200∧1≤k.wo∧k.wo≤1000000000000000000)(ho:os.length=ks.length)(hs:∀o∈os,-(2 ^ 64)<o∧o<2 ^ 64)
include hr hc hk hw ho hs
theorem Xat (b:List Int)(num:Int)(hb:b.length=ks.length)(hb0:∀z∈b,0≤z∧z≤1000000000000000000)(hn:num≤fby rs ks os b) :
  Zal [rsD rs,tD ks,iD os,.int num,.tup [iD b,rsD (rs.map fun r=>prL r (ptd ks b))]]=.ok (.bl true):=by
 have hkl:=Zfq ks b
 have as:=Zqe rs (ptd ks b) (by omega) hc (by omega) (Zht hw)
 obtain ⟨ls,hls⟩:∃ls,ls=rs.map fun r=>prL r (ptd ks b):=⟨_,rfl⟩
 have hsum:ls.map List.sum=tops rs (ptd ks b):=by rw [hls];exact Zwq rs _
 have hll:ls.length=rs.length:=by rw [hls,length_map]
 rw [← hls] at as ⊢
 have l1:=Xcs b
 have l2:=Zrf ks
 have hlim:(b.map D.int).length≤lim:=by rw [length_map];show _≤1000000;omega
 have ap:Zas [tD ks,iD b]=.ok (.bl true):=by
  have c:=Zaz (n:=2) (ρ:=[some (tD ks),some (iD b)]) (enc:=D.int) (v:=fun _=>D.bl true) (xs:=b) (e:=Ziy gLe gLe (fC (.int 0)) (fV 2) (fC (.int 1000000000000000000))) rfl fun p hp=>Xhc rfl rfl (Zkc (hb0 p hp).1) rfl (Zkc (hb0 p hp).2)
  have al:Xed [.lst (b.map fun _=>D.bl true)]=some (.bl true):=by
   rw [Zul b fun _=>true]
   simp
  exact Jq (Jm (Zta (Zo (Js (Zd rfl rfl) l1) (Js (Zd rfl rfl) l2) ((Zod _ _).trans (Zkc (by rw [hb])))) (Js (Zd (Yz rfl (Jv rfl hlim) c) rfl) al)))
 have hp:=Zdq ks b (by omega) (by omega)
 have i0:gIx (.tup [iD b,rsD ls]) (.int 0)=some (iD b):=rfl
 have i1:gIx (.tup [iD b,rsD ls]) (.int 1)=some (rsD ls):=rfl
 have c3:=Xeh (ρ:=[some (rsD rs),some (tD ks),some (iD os),some (.int num),some (.tup [iD b,rsD ls]),some (iD b),none]) (n:=7) rfl ls
 rw [hsum] at c3
 have tg:=Zcj os b (by omega) (by omega) hs
 have fw:=Zng (tops rs (ptd ks b)) (dot os b) (by rw [← hsum,length_map,hll];exact hr)
 have hl3:(ls.map iD).length≤lim:=by rw [length_map];show _≤1000000;omega
 exact Jq (Zs (Xp (Zo rfl rfl i0)) (Zs (Jf (Zjc (Zlh (b:=true) (Jz (Zv (Zd rfl (Zd rfl rfl)) ap))) (Zlh (b:=true) (Jz (Zv (Zd rfl (Zd (Zv (Zd rfl (Zd rfl rfl)) hp) (Zd (Zo rfl rfl i1) rfl))) as)))) rfl) (Zs (Xp (Yz rfl (Jv (Zo rfl rfl i1) hl3) c3)) (Jm (Zo rfl (Zv (Zd rfl (Zd (Zv (Zd rfl (Zd rfl rfl)) tg) rfl)) fw) (Zkc hn))))))
theorem Xbw (b:List Int)(num:Int)(hb:b.length=ks.length)(hb0:∀z∈b,0≤z)(hn:cby rs ks os b≤num) :
  Jk [rsD rs,tD ks,iD os,.int num,.tup [iD b,rsD (rs.map fun r=>prL r (ptd ks (less ks b)))]]=.ok (.bl true):=by
 have hkl:=Zfq ks (less ks b)
 have as:=Zqe rs (ptd ks (less ks b)) (by omega) hc (by omega) (Zht hw)
 obtain ⟨ls,hls⟩:∃ls,ls=rs.map fun r=>prL r (ptd ks (less ks b)):=⟨_,rfl⟩
 have hsum:ls.map List.sum=tops rs (ptd ks (less ks b)):=by rw [hls];exact Zwq rs _
 have hll:ls.length=rs.length:=by rw [hls,length_map]
 rw [← hls] at as ⊢
 have l1:=Xcs b
 have l2:=Zrf ks
 have hlim:(b.map D.int).length≤lim:=by rw [length_map];show _≤1000000;omega
 have hl3:(ls.map iD).length≤lim:=by rw [length_map];show _≤1000000;omega
 have i0:gIx (.tup [iD b,rsD ls]) (.int 0)=some (iD b):=rfl
 have i1:gIx (.tup [iD b,rsD ls]) (.int 1)=some (rsD ls):=rfl
 have c:=Zaz (n:=6) (ρ:=[some (rsD rs),some (tD ks),some (iD os),some (.int num),some (.tup [iD b,rsD ls]),some (iD b)]) (enc:=D.int) (v:=fun p:Int=>D.bl (decide (p<0))) (xs:=b) (e:=f2 gLt (fV 6) (fC (.int 0))) rfl fun p _=>Zo rfl rfl rfl
 have an:Zyu [.lst (b.map fun p:Int=>D.bl (decide (p<0)))]=some (.bl false):=by
  rw [Zty b fun p:Int=>decide (p<0)]
  congr 2
  rw [List.any_eq_false]
  intro p hp
  rw [decide_eq_false (Int.not_lt.mpr (hb0 p hp))]
  exact Bool.false_ne_true
 have hp:=Zgb ks b (by omega) hb
 have c3:=Xeh (ρ:=[some (rsD rs),some (tD ks),some (iD os),some (.int num),some (.tup [iD b,rsD ls]),some (iD b)]) (n:=6) rfl ls
 rw [hsum] at c3
 have tg:=Zcj os b (by omega) (by omega) hs
 exact Jq (Zs (Xp (Zo rfl rfl i0)) (Zs (Jf (Zjc (Jz (Zo (Js (Zd rfl rfl) l1) (Js (Zd rfl rfl) l2) (Zwh (by rw [hb])))) (Jz (Js (Zd (Yz rfl (Jv rfl hlim) c) rfl) an))) rfl) (Zs (Jf (Zlh (b:=true) (Jz (Zv (Zd rfl (Zd (Zv (Zd rfl (Zd rfl rfl)) hp) (Zd (Zo rfl rfl i1) rfl))) as))) rfl) (Jm (Zo (Zo (Js (Zd (Yz rfl (Jv (Zo rfl rfl i1) hl3) c3) rfl) (sum_ints _)) (Zv (Zd rfl (Zd rfl rfl)) tg) rfl) rfl (Zkc hn))))))
include hwo
theorem Xah:Zai [rsD rs,tD ks,iD os]=.ok (.bl true):=by
 obtain ⟨b,hb,_,hf⟩:=Zac rs ks os hr hc hk hw ho hs
 obtain ⟨c,hc',_,hce⟩:=Yt rs ks os hr hc hk hw ho hs
 have hbl:=Zha ho b hb
 have hcl:=Zem ho c hc'
 have hb0:=Zuv ho hw hwo b hb
 have hc0:=Zpl ho (fun k hk=>(hwo k hk).2.1) c hc'
 have sf:=fun num hn=>Xat rs ks os hr hc hk hw ho hs b num hbl hb0 hn
 have sc:=fun num hn=>Xbw rs ks os hr hc hk hw ho hs c num hcl hc0 hn
 have nn:=Xkh rs ks os b
 obtain ⟨P,hP⟩:∃P,P=D.tup [iD b,rsD (rs.map fun r=>prL r (ptd ks b))]:=⟨_,rfl⟩
 obtain ⟨O,hO⟩:∃O,O=D.tup [iD c,rsD (rs.map fun r=>prL r (ptd ks (less ks c)))]:=⟨_,rfl⟩
 obtain ⟨F,hF⟩:∃F,F=fby rs ks os b:=⟨_,rfl⟩
 obtain ⟨W,hW⟩:∃W,W=cby rs ks os c:=⟨_,rfl⟩
 rw [← hP,← hF] at hf
 rw [← hP,← hF] at sf
 rw [← hO,← hW] at hce
 rw [← hO,← hW] at sc
 rw [← hF] at nn
 have loop1:V (Zdy (Zp 5) Zdc ([F,F - 1,0,-5].map D.int) [some (rsD rs),some (tD ks),some (iD os),some (.int F),some P,none,none,none]) (fun fl=>∃o5,fl=.nx [some (rsD rs),some (tD ks),some (iD os),some (.int F),some P,o5,none,none]):=by
  refine Ztl (P:=fun r ρ=>(∀z∈r,z≤F)∧∃o5,ρ=[some (rsD rs),some (tD ks),some (iD os),some (.int F),some P,o5,none,none]) (fun z r ρ q=>?_) (fun ρ q=>q.2.elim fun o5 e=>⟨o5,by rw [e]⟩) ⟨fun z hz=>by simp at hz;omega,none,rfl⟩
  obtain ⟨q1,o5,rfl⟩:=q
  rw [Znk]
  refine V.of (a:=.nx [some (rsD rs),some (tD ks),some (iD os),some (.int F),some P,some (.int z),none,none]) ?_ (by exact ⟨fun y hy=>q1 y (.tail _ hy),_,rfl⟩)
  exact Jf (Jz (Zo (Zv (Zd rfl (Zd rfl (Zd rfl (Zd rfl (Zd rfl rfl))))) (sf z (q1 z (.head _)))) rfl rfl)) rfl
 obtain ⟨f1,h1,o5,rfl⟩:=loop1.ex
 have loop2:V (Zdy (Zp 5) Zdi ([W,W+1,W+100000000000000000000].map D.int) [some (rsD rs),some (tD ks),some (iD os),some (.int F),some P,o5,some (.int W),some O]) (fun fl=>∃o5,fl=.nx [some (rsD rs),some (tD ks),some (iD os),some (.int F),some P,o5,some (.int W),some O]):=by
  refine Ztl (P:=fun r ρ=>(∀z∈r,W≤z)∧∃o5,ρ=[some (rsD rs),some (tD ks),some (iD os),some (.int F),some P,o5,some (.int W),some O]) (fun z r ρ q=>?_) (fun ρ q=>q.2.elim fun o5 e=>⟨o5,by rw [e]⟩) ⟨fun z hz=>by simp at hz;omega,o5,rfl⟩
  obtain ⟨q1,o5,rfl⟩:=q
  rw [Znk]
  refine V.of (a:=.nx [some (rsD rs),some (tD ks),some (iD os),some (.int F),some P,some (.int z),some (.int W),some O]) ?_ (by exact ⟨fun y hy=>q1 y (.tail _ hy),_,rfl⟩)
  exact Jf (Jz (Zo (Zv (Zd rfl (Zd rfl (Zd rfl (Zd rfl (Zd rfl rfl))))) (sc z (q1 z (.head _)))) rfl rfl)) rfl
 obtain ⟨f2',h2,o5',rfl⟩:=loop2.ex
 have p20:Zir (.int 10) (.int 20)=some (.int 100000000000000000000):=Zjj (by decide) (by decide) (by decide)
 exact Jq (Zs (Xpe (Zv (Zd rfl (Zd rfl (Zd rfl rfl))) hf) rfl) (Zs (Zjt (Xdp (xs:=[F,F - 1,0,-5].map D.int) (Js (Zd rfl (Zd (Zo rfl rfl rfl) (Zd rfl (Zd (Zgu rfl rfl) rfl)))) rfl) (by show 4≤1000000;decide)) h1) (Zs (Xpe (Zv (Zd rfl (Zd rfl (Zd rfl rfl))) hce) rfl) (Zs (Zjt (Xdp (xs:=[W,W+1,W+100000000000000000000].map D.int) (Js (Zd rfl (Zd (Zo rfl rfl rfl) (Zd (Zo rfl (Zo rfl rfl p20) rfl) rfl))) rfl) (by show 3≤1000000;decide)) h2) (Jm rfl)))))
theorem Zml (r:List Int)(hr1:rs.length<63)(hrl:r.length≤900):Yq [rsD rs,tD ks,iD os,iD r]=.ok (.bl true):=by
 have hc2:∀x∈rs++[r],x.length≤900:=fun x hx=>by
  rcases List.mem_append.mp hx with h | h
  ·exact hc x h
  ·rw [List.mem_singleton.mp h];exact hrl
 have hl2:(rs++[r]).length<64:=by rw [length_append];show rs.length+1<64;omega
 obtain ⟨b,hb,hbm,hf⟩:=Zac rs ks os hr hc hk hw ho hs
 obtain ⟨c,hc',_,hg⟩:=Zac (rs++[r]) ks os hl2 hc2 hk hw ho hs
 obtain ⟨d,hd,hdm,hce⟩:=Yt rs ks os hr hc hk hw ho hs
 obtain ⟨e,he,_,hcg⟩:=Yt (rs++[r]) ks os hl2 hc2 hk hw ho hs
 have hlt:∀kk,(tops rs kk).length=rs.length:=fun kk=>by unfold tops;rw [length_map]
 have f1:fby rs ks os b≤rs.length→fby (rs++[r]) ks os c≤fby rs ks os b:=fun h=>by
  have h1:=hbm c hc'
  have h2:Zso (tops rs (ptd ks c)) (dot os c)≤(tops rs (ptd ks c)).length:=by
   rw [hlt]
   exact Int.le_trans h1 h
  have h3:=Zub (h:=ht r (ptd ks c) r.length) h2
  rw [← Zqo] at h3
  exact Int.le_trans h3 h1
 have f2':fby (rs++[r]) ks os c≤rs.length+2:=by
  have h:=Zud (tops (rs++[r]) (ptd ks c)) (dot os c)
  have e:(tops (rs++[r]) (ptd ks c)).length=rs.length+1:=by unfold tops;rw [length_map,length_append];rfl
  rw [e] at h
  unfold fby
  omega
 have g1:cby rs ks os d≤cby (rs++[r]) ks os e:=by
  have h1:=hdm e he
  have h2:=Xem (ns:=r) (Zht hw (ps:=less ks e)) r.length
  unfold cby at *
  rw [Zqo,sum_append,sum_cons,sum_nil]
  omega
 generalize fby rs ks os b=N at *
 generalize fby (rs++[r]) ks os c=M at *
 generalize cby rs ks os d=W at *
 generalize cby (rs++[r]) ks os e=U at *
 have av:Zpd (rsD rs) (.lst [iD r])=some (rsD (rs++[r])):=by
  show (if (rs.map iD).length+1≤lim then some (D.lst (rs.map iD++[iD r])) else none)=_
  rw [if_pos (by rw [length_map];show _≤1000000;omega),rsD,map_append]
  rfl
 have lr:=Zou rs
 have ret:f2 gGe (f2 gIx (Zy Xr (Zc (f2 Zpd (fV 0) (fA Zau (Zc (fV 3) Zt))) (Zc (fV 1) (Zc (fV 2) Zt)))) (fC (.int 0))) (f2 gIx (Zy Xr (Zc (fV 0) (Zc (fV 1) (Zc (fV 2) Zt)))) (fC (.int 0))) [some (rsD rs),some (tD ks),some (iD os),some (iD r),some (.int N),some (.int M)]=.ok (.bl true):=Zo (Zo (Zv (Zd (Zo rfl (Js (Zd rfl rfl) rfl) av) (Zd rfl (Zd rfl rfl))) hcg) rfl rfl) (Zo (Zv (Zd rfl (Zd rfl (Zd rfl rfl))) hce) rfl rfl) (Zkc g1)
 have test:sIf (Zxz (cE (f2 gGt (fV 5) (fV 4))) (cOr (cE (f2 gLe (fV 4) (fA Zap (Zc (fV 0) Zt)))) (cE (f2 gGt (fV 5) (f2 Jn (fA Zap (Zc (fV 0) Zt)) (fC (.int 2))))))) (Zad (fC (.bl false))) sNx [some (rsD rs),some (tD ks),some (iD os),some (iD r),some (.int N),some (.int M)]=.ok (.nx [some (rsD rs),some (tD ks),some (iD os),some (iD r),some (.int N),some (.int M)]):=by
  by_cases q:N<M
  ·refine Jf (Zxm (Jz (Zo rfl rfl (Zkc q))) (Zjc (Jz (Zo rfl (Js (Zd rfl rfl) lr) (Zot fun z=>?_))) (Jz (Zo rfl (Zo (Js (Zd rfl rfl) lr) rfl rfl) (Zot (by omega)))))) rfl
   have:=f1 z
   omega
  ·exact Jf (Zui (Jz (Zo rfl rfl (Zot q)))) rfl
 exact Jq (Zs (Xp (Zgu (Zo (Zv (Zd rfl (Zd rfl (Zd rfl rfl))) hf) rfl rfl) rfl)) (Zs (Xp (Zgu (Zo (Zv (Zd (Zo rfl (Js (Zd rfl rfl) rfl) av) (Zd rfl (Zd rfl rfl))) hg) rfl rfl) rfl)) (Zs test (Jm ret))))
theorem Zki (i:Nat)(hi:i<ks.length)(hs7:∀o∈os,0≤o∧o<7):Yb [rsD rs,tD ks,iD os,.int (i:Int)]=.ok (.bl true):=by
 have hio:i<os.length:=by omega
 have hoi:=hs7 (os.getD i 0) (by rw [getD_eq_getElem?_getD,getElem?_eq_getElem hio];exact getElem_mem hio)
 obtain ⟨o',ho'⟩:∃o',o'=os.set i (os.getD i 0+1):=⟨_,rfl⟩
 have hol:o'.length=ks.length:=by rw [ho',length_set];exact ho
 have hs':∀o∈o',-(2 ^ 64)<o∧o<2 ^ 64:=fun o h=>by
  rw [ho'] at h
  rcases List.mem_or_eq_of_mem_set h with h | h
  ·exact hs o h
  ·rw [h];constructor<;>omega
 obtain ⟨b,hb,hbm,hf⟩:=Zac rs ks os hr hc hk hw ho hs
 obtain ⟨c,hc',hcm,hg⟩:=Zac rs ks o' hr hc hk hw hol hs'
 obtain ⟨d,hd,hdm,hce⟩:=Yt rs ks os hr hc hk hw ho hs
 obtain ⟨e,he,_,hcg⟩:=Yt rs ks o' hr hc hk hw hol hs'
 have f1:0<os.getD i 0→fby rs ks os b≤fby rs ks o' c:=fun q=>by
  have sg:∀p,(0<o'.getD p 0)=(0<os.getD p 0):=fun p=>by
   rw [ho',Zln hio]
   by_cases e:p=i
   ·subst e
    rw [if_pos rfl]
    exact propext ⟨fun _=>q,fun _=>by omega⟩
   ·rw [if_neg e]
  have only:∀ps:List Int,ps.length=ks.length→Zcd o' ps=Zcd os ps:=fun ps hps=>by
   rw [Zjq (by omega),Zjq (by omega),hol,ho]
   exact map_congr_left fun p _=>by simp only [sg]
  have eq:Znp o' ks=Znp os ks:=by
   unfold Znp
   rw [only _ (by unfold Zux;rw [length_map]),only _ (Zcm ks),only _ (by rw [length_replicate]),show isW o'=isW os from funext fun p=>by unfold isW;simp only [sg]]
  have hb2:b∈Znp o' ks:=by rw [eq];exact hb
  refine Int.le_trans (Zuo ?_ _) (hcm b hb2)
  rw [ho',Zpi hio (by rw [Zha ho b hb];omega)]
  have:=Zwg (fun z hz=>(Zuv ho hw hwo b hb z hz).1) i
  omega
 have g1:cby rs ks os d≤cby rs ks o' e:=by
  rw [ho'] at he ⊢
  obtain ⟨x,hx,hle⟩:=Zrr (rs:=rs) hw (fun k hk=>(hwo k hk).2.1) ho hio hoi.1 e he
  exact Int.le_trans (hdm x hx) hle
 have ix:gIx (iD os) (.int (i:Int))=some (.int (os.getD i 0)):=Ztd hio
 have eo:D.lst ((os.map D.int).set i (.int (os.getD i 0+1)))=iD o':=by rw [ho',iD,List.map_set]
 have put:Xjx 4 (fV 3) (f2 Jn (f2 gIx (fV 4) (fV 3)) (fC (.int 1))) [some (rsD rs),some (tD ks),some (iD os),some (.int (i:Int)),some (iD os),none]=.ok (.nx [some (rsD rs),some (tD ks),some (iD os),some (.int (i:Int)),some (iD o'),none]):=by
  rw [← eo]
  exact r_put (xs:=os.map D.int) (j:=i) (Zo (Zo rfl rfl ix) rfl rfl) rfl rfl rfl (Zhz os) (by rw [length_map];exact Xiv hio)
 generalize fby rs ks os b=N at *
 generalize fby rs ks o' c=M at *
 generalize cby rs ks os d=W at *
 generalize cby rs ks o' e=U at *
 have ret:f2 gGe (f2 gIx (Zy Xr (Zc (fV 0) (Zc (fV 1) (Zc (fV 4) Zt)))) (fC (.int 0))) (f2 gIx (Zy Xr (Zc (fV 0) (Zc (fV 1) (Zc (fV 2) Zt)))) (fC (.int 0))) [some (rsD rs),some (tD ks),some (iD os),some (.int (i:Int)),some (iD o'),some (.bl (decide (M<N)))]=.ok (.bl true):=Zo (Zo (Zv (Zd rfl (Zd rfl (Zd rfl rfl))) hcg) rfl rfl) (Zo (Zv (Zd rfl (Zd rfl (Zd rfl rfl))) hce) rfl rfl) (Zkc g1)
 have test:sIf (Zxz (cE (f2 gGt (f2 gIx (fV 2) (fV 3)) (fC (.int 0)))) (cE (fV 5))) (Zad (fC (.bl false))) sNx [some (rsD rs),some (tD ks),some (iD os),some (.int (i:Int)),some (iD o'),some (.bl (decide (M<N)))]=.ok (.nx [some (rsD rs),some (tD ks),some (iD os),some (.int (i:Int)),some (iD o'),some (.bl (decide (M<N)))]):=by
  by_cases q:0<os.getD i 0
  ·have h:=f1 q
   have e:decide (M<N)=false:=decide_eq_false (by omega)
   rw [e]
   exact Jf (Zxm (Jz (Zo (Zo rfl rfl ix) rfl (Zkc q))) (Jz rfl)) rfl
  ·exact Jf (Zui (Jz (Zo (Zo rfl rfl ix) rfl (Zot q)))) rfl
 exact Jq (Zs (Xp (Js (Zd rfl rfl) (Xje os))) (Zs put (Zs (Xp (Zo (Zo (Zv (Zd rfl (Zd rfl (Zd rfl rfl))) hg) rfl rfl) (Zo (Zv (Zd rfl (Zd rfl (Zd rfl rfl))) hf) rfl rfl) rfl)) (Zs test (Jm ret)))))
theorem Xac:(∃n P Q,Ju [rsD (rs.map List.reverse).reverse,tD ks,iD os]=.ok (.tup [.int n,P])∧Ju [rsD rs,tD ks,iD os]=.ok (.tup [.int n,Q]))∧(∃n P Q,Xr [rsD (rs.map List.reverse).reverse,tD ks,iD os]=.ok (.tup [.int n,P])∧Xr [rsD rs,tD ks,iD os]=.ok (.tup [.int n,Q])):=by
 have hl2:(rs.map List.reverse).reverse.length<64:=by rw [length_reverse,length_map];exact hr
 have hc2:∀x∈(rs.map List.reverse).reverse,x.length≤900:=fun x hx=>by
  obtain ⟨r,h,rfl⟩:=List.mem_map.mp (List.mem_reverse.mp hx)
  rw [length_reverse]
  exact hc r h
 obtain ⟨b,hb,hbm,hf⟩:=Zac rs ks os hr hc hk hw ho hs
 obtain ⟨c,hc',hcm,hg⟩:=Zac (rs.map List.reverse).reverse ks os hl2 hc2 hk hw ho hs
 obtain ⟨d,hd,hdm,hce⟩:=Yt rs ks os hr hc hk hw ho hs
 obtain ⟨e,he,hem,hcg⟩:=Yt (rs.map List.reverse).reverse ks os hl2 hc2 hk hw ho hs
 have ef:∀p,fby (rs.map List.reverse).reverse ks os p=fby rs ks os p:=fun p=>by
  unfold fby
  rw [Zij (Zht hw)]
  exact Zxk (List.reverse_perm _) _
 have ec:∀p,cby (rs.map List.reverse).reverse ks os p=cby rs ks os p:=fun p=>by
  unfold cby
  rw [Zij (Zht hw),Zuh]
 have e1:fby rs ks os c=fby rs ks os b:=by
  have h1:=hbm c hc'
  have h2:=hcm b hb
  rw [ef,ef] at h2
  omega
 have e2:cby rs ks os e=cby rs ks os d:=by
  have h1:=hdm e he
  have h2:=hem d hd
  rw [ec,ec] at h2
  omega
 rw [ef,e1] at hg
 rw [ec,e2] at hcg
 exact ⟨⟨_,_,_,hg,hf⟩,⟨_,_,_,hcg,hce⟩⟩
end
theorem Zsb (ns:List Int)(h:ns.length≤63):Xgg [.scr ns]=.ok (.bl true):=by
  obtain ⟨ks,htb,hkl,hto⟩:=Xcz ns h (i:=0) (m:=8) (by decide) (by decide) (by decide) (by decide)
  have hk8:ks.length≤8:=Int.ofNat_le.mp hkl
  obtain ⟨qs,hrow,R⟩:=Zma ns h (i:=1) (by decide) (by decide) [6,8,8] (by decide) (Zkr (by decide))
  have hql:qs.length=3:=R.len
  have b0:0≤qs.getD 0 0∧qs.getD 0 0<6:=R.at_ 0 (by decide)
  have b1:0≤qs.getD 1 0∧qs.getD 1 0<8:=R.at_ 1 (by decide)
  have x0:gIx (iD qs) (.int 0)=some (.int (qs.getD 0 0)):=Zbi rfl (by omega)
  have x1:gIx (iD qs) (.int 1)=some (.int (qs.getD 1 0)):=Zbi rfl (by omega)
  have x2:gIx (iD qs) (.int 2)=some (.int (qs.getD 2 0)):=Zbi rfl (by omega)
  obtain ⟨fl,hfl,fl0,fl1⟩:=Xif ns h (i:=0) (m:=8) (by decide) (by decide) (by decide) (by decide)
  obtain ⟨rs,hrl,hrb,step⟩:∃rs:List (List Int),rs.length<63∧(∀r∈rs,r.length≤900)∧∀r:FS,(Xu (Yr 4 (Zy Yh (Zc (fV 0) (Zc (fC (.int 2)) (Zc (f2 gIx (fV 2) (fC (.int 0))) (Zc (fC (.int 20)) (Zc (fV 3) Zt)))))))
    (Xu (sIf (cE (f2 gEq (f2 gIx (fV 2) (fC (.int 2))) (fC (.int 0)))) (Yr 4 (Zy Yh (Zc (fV 0) (Zc (fC (.int 2)) (Zc (fC (.int 1)) (Zc (fC (.int 120)) (Zc (fV 3) Zt))))))) sNx) r)) [some (.scr ns),some (tD ks),some (iD qs),some (.int fl),none,none,none]=r [some (.scr ns),some (tD ks),some (iD qs),some (.int fl),some (rsD rs),none,none]:=by
    obtain ⟨ra,ha,hal,hab⟩:=Zqv ns h (i:=2) (m:=qs.getD 0 0) (c:=20) (by decide) b0.1 (by omega) (by decide) (by decide) fl0 fl1
    obtain ⟨rb,hb,hbl,hbb⟩:=Zqv ns h (i:=2) (m:=1) (c:=120) (by decide) (by decide) (by decide) (by decide) (by decide) fl0 fl1
    have sa:=Zv (F:=Yh) (a:=Zc (fV 0) (Zc (fC (.int 2)) (Zc (f2 gIx (fV 2) (fC (.int 0))) (Zc (fC (.int 20)) (Zc (fV 3) Zt))))) (ρ:=[some (.scr ns),some (tD ks),some (iD qs),some (.int fl),none,none,none]) (Zd rfl (Zd rfl (Zd (Zo rfl rfl x0) (Zd rfl (Zd rfl rfl))))) ha
    by_cases q:qs.getD 2 0=0
    · exact ⟨rb,by omega,fun r hr=>by have:=(hbb r hr).1;omega,fun r=>Zs (Xp sa) (Zs (Zdu (Jz (Zo (Zo rfl rfl x2) rfl ((Zod _ _).trans (Zkc q)))) (Xp (Zv (Zd rfl (Zd rfl (Zd rfl (Zd rfl (Zd rfl rfl))))) hb))) rfl)⟩
    · exact ⟨ra,by omega,fun r hr=>by have:=(hab r hr).1;omega,fun r=>Zs (Xp sa) (Zs (Jf (Jz (Zo (Zo rfl rfl x2) rfl ((Zod _ _).trans (Zot q)))) rfl) rfl)⟩
  obtain ⟨od,ho,hodl,hob⟩:=Xbn ns h (i:=20) (c:=(ks.length:Int)) (m:=7) (by decide) (by decide) (natCast_nonneg _) hkl (by decide) (by decide)
  obtain ⟨w,hwr,hwl,_⟩:=Zwd ns h (i:=15) (m:=20) (by decide) (by decide) (by decide) (by decide) fl0 fl1
  have hol:od.length=ks.length:=by omega
  have hr:rs.length<64:=by omega
  have hk:ks.length≤800:=by omega
  have hw:∀k∈ks,1≤k.w:=fun k hk=>(hto.ok k hk).w1
  have hwo:∀k∈ks,k.w≤200∧1≤k.wo∧k.wo≤1000000000000000000:=fun k hk=>⟨(hto.ok k hk).w2,(hto.ok k hk).o1,(hto.ok k hk).o2⟩
  have hs:∀o∈od,-(2 ^ 64)<o∧o<2 ^ 64:=fun o ho=>⟨Int.lt_of_lt_of_le (by decide) (hob o ho).1,Int.lt_trans (hob o ho).2 (by decide)⟩
  obtain ⟨⟨n1,P1,Q1,t1,t2⟩,⟨n2,P2,Q2,t3,t4⟩⟩:=Xac rs ks od hr hrb hk hw hwo hol hs
  have pp:=Xah rs ks od hr hrb hk hw hwo hol hs
  have mr:=Zml rs ks od hr hrb hk hw hwo hol hs w hrl (by omega)
  have lt:=Zrf ks
  have ct:Yv 1 (Zp 7) Zbg (Zy Zeo (Zc (fV 7) Zt)) [some (.scr ns),some (tD ks),some (iD qs),some (.int fl),some (rsD rs),some (iD od),none] (rs.map iD)=.ok ((rs.map List.reverse).map iD):=by
    rw [map_map]
    exact Zaz rfl fun r _=>Zv (Zd rfl rfl) (Jq (Jm (Zgu rfl (by simp [Zwa,iD]))))
  have rv:Ztn (.lst ((rs.map List.reverse).map iD)) (.int (-1))=some (rsD (rs.map List.reverse).reverse):=by
    show (if (-1:Int)=-1 then some (D.lst ((rs.map List.reverse).map iD).reverse) else none)=_
    rw [if_pos rfl,rsD,List.map_reverse]
  have last:fOr (f2 gEq (fA Zap (Zc (fV 1) Zt)) (fC (.int 0))) (Zy Yb (Zc (fV 4) (Zc (fV 1) (Zc (fV 5) (Zc (f2 Zhe (f2 gIx (fV 2) (fC (.int 1))) (fA Zap (Zc (fV 1) Zt))) Zt))))) [some (.scr ns),some (tD ks),some (iD qs),some (.int fl),some (rsD rs),some (iD od),some (rsD (rs.map List.reverse).reverse)]=.ok (.bl true):=by
    by_cases q:ks.length=0
    · exact Xkv (Zo (Js (Zd rfl rfl) lt) rfl ((Zod _ _).trans (Zkc (by omega))))
    · have hm:Zhe (.int (qs.getD 1 0)) (.int (ks.length:Int))=some (.int (((qs.getD 1 0).toNat % ks.length:Nat):Int)):=by
        show (if 0<(ks.length:Int) then some (D.int (qs.getD 1 0 % (ks.length:Int))) else none)=_
        rw [if_pos (by omega),Int.natCast_emod,Int.toNat_of_nonneg b1.1]
      have mw:=Zki rs ks od hr hrb hk hw hwo hol hs ((qs.getD 1 0).toNat % ks.length) (Nat.mod_lt _ (by omega)) hob
      exact Xod (Zo (Js (Zd rfl rfl) lt) rfl ((Zod _ _).trans (Zot (by omega)))) (Zv (Zd rfl (Zd rfl (Zd rfl (Zd (Zo (Zo rfl rfl x1) (Js (Zd rfl rfl) lt) hm) rfl)))) mw)
  refine Jq (Zs (Xp (Zv (Zd rfl (Zd rfl (Zd rfl rfl))) htb)) (Zs (Xp (Zv (Zd rfl (Zd rfl (Zd (Js (Zd rfl (Zd rfl (Zd rfl rfl))) rfl) rfl))) hrow)) (Zs (Xp (Zv (Zd rfl (Zd rfl (Zd rfl rfl))) hfl)) ?_)))
  refine (step _).trans ?_
  refine Zs (Xp (Zv (Zd rfl (Zd rfl (Zd (Js (Zd rfl rfl) lt) (Zd rfl rfl)))) ho)) ?_
  refine Zs (Xp (Zo (Yz rfl (Jv (xs:=rs.map iD) rfl (Zch (n:=64) (by omega))) ct) (Zgu rfl rfl) rv)) ?_
  refine Zs (Jf (Jz (Zo (Zo (Zv (Zd rfl (Zd rfl (Zd rfl rfl))) t1) rfl rfl) (Zo (Zv (Zd rfl (Zd rfl (Zd rfl rfl))) t2) rfl rfl) (Zwh rfl))) rfl) ?_
  refine Zs (Jf (Jz (Zo (Zo (Zv (Zd rfl (Zd rfl (Zd rfl rfl))) t3) rfl rfl) (Zo (Zv (Zd rfl (Zd rfl (Zd rfl rfl))) t4) rfl rfl) (Zwh rfl))) rfl) ?_
  refine Zs (Jf (Zlh (b:=true) (Jz (Zv (Zd rfl (Zd rfl (Zd rfl rfl))) pp))) rfl) ?_
  refine Zs (Jf (Zlh (b:=true) (Jz (Zv (Zd rfl (Zd rfl (Zd rfl (Zd (Zv (Zd rfl (Zd rfl (Zd rfl (Zd rfl rfl)))) hwr) rfl)))) mr))) rfl) ?_
  exact Jm last
end Dl
set_option maxHeartbeats 4000000
namespace K77
open PySem PySem.Spec PyProof.Rows L2
open Dl (D R FE FT FA FO FS FI FB Fl)
noncomputable def top (i:Nat):Stmt:=PySem.Challenge.pw_selvage_k77_bounds_seen_otherwise.main.body.getD i (.Pass ⟨0,0,0,0⟩)
noncomputable abbrev Zpb:Stmt:=top 4
noncomputable abbrev Zox:Stmt:=top 5
noncomputable abbrev Xju:Stmt:=top 8
noncomputable abbrev Zkh:Stmt:=top 10
noncomputable abbrev Zen:Stmt:=top 11
noncomputable abbrev Zkd:Stmt:=top 12
noncomputable abbrev Zfj:Stmt:=top 14
noncomputable abbrev Zjs:Stmt:=top 16
noncomputable abbrev Zfw:Stmt:=top 17
noncomputable abbrev Znm:Stmt:=top 18
noncomputable abbrev Zfg:Stmt:=top 19
noncomputable abbrev Zhc:Stmt:=top 21
noncomputable abbrev Zol:Stmt:=top 22
noncomputable abbrev Zfb:Stmt:=top 23
noncomputable abbrev Zbs:Stmt:=top 24
noncomputable abbrev Yg:Stmt:=top 25
noncomputable abbrev Zpf:Stmt:=top 26
noncomputable abbrev Zcq:Stmt:=top 27
noncomputable abbrev Zbq:Stmt:=top 28
noncomputable abbrev Zhj:Stmt:=top 30
noncomputable abbrev Zcp:Stmt:=top 31
noncomputable abbrev Jr:Stmt:=top 32
noncomputable abbrev Zhg:Stmt:=top 33
noncomputable abbrev Jy:Stmt:=top 34
noncomputable abbrev Zfn:Stmt:=top 36
noncomputable abbrev Zhu:Stmt:=top 37
noncomputable abbrev Zhp:Stmt:=top 38
noncomputable abbrev Zeg:Stmt:=top 39
noncomputable abbrev Zfu:Stmt:=top 40
noncomputable abbrev Zga:Stmt:=top 41
noncomputable abbrev Zeh:Stmt:=top 42
noncomputable abbrev Zed:Stmt:=top 43
noncomputable abbrev Zda:Stmt:=top 44
noncomputable abbrev Zav:Stmt:=top 45
noncomputable abbrev Zao:Stmt:=top 46
noncomputable abbrev Xjq:Stmt:=top 47
theorem Zpp:Xa ["roll","begin","end"] ["roll","begin","end"] (Zj Zpb):=⟨rfl,rfl,rfl,by decide +kernel,rfl,by decide +kernel,by decide +kernel⟩
theorem Zqj:Xa ["roll"] ["roll"] (Zj Zox):=⟨rfl,rfl,rfl,by decide +kernel,rfl,by decide +kernel,by decide +kernel⟩
theorem Xds:Xa ["roll","kind","place","end"] ["roll","kind","place"] (Zj Xju):=⟨rfl,rfl,rfl,by decide +kernel,rfl,by decide +kernel,by decide +kernel⟩
theorem Zqm:Xa ["roll","table","end"] ["roll","table","end"] (Zj Zkh):=⟨rfl,rfl,rfl,by decide +kernel,rfl,by decide +kernel,by decide +kernel⟩
theorem Zjp:Xa ["roll","table","tops","end","worths"] ["roll","table","tops"] (Zj Zen):=⟨rfl,rfl,rfl,by decide +kernel,rfl,by decide +kernel,by decide +kernel⟩
theorem Zmq:Xa ["roll","table","tops"] ["roll","table"] (Zj Zkd):=⟨rfl,rfl,rfl,by decide +kernel,rfl,by decide +kernel,by decide +kernel⟩
theorem Zjb:Xa ["order","some"] ["order","some"] (Zj Zfj):=⟨rfl,rfl,rfl,by decide +kernel,rfl,by decide +kernel,by decide +kernel⟩
theorem Zrc:Xa ["roll","table","tops"] ["roll","table"] (Zj Zjs):=⟨rfl,rfl,rfl,by decide +kernel,rfl,by decide +kernel,by decide +kernel⟩
theorem Zhy:Xa ["roll","kind","prices","place"] ["roll","kind","prices","place"] (Zj Zfw):=⟨rfl,rfl,rfl,by decide +kernel,rfl,by decide +kernel,by decide +kernel⟩
theorem Zwx:Xa ["roll","table","number","prices","kind"] ["roll","table","number","prices"] (Zj Znm):=⟨rfl,rfl,rfl,by decide +kernel,rfl,by decide +kernel,by decide +kernel⟩
theorem Zjo:Xa ["rolls","table","lists"] ["rolls","table","lists"] (Zj Zfg):=⟨rfl,rfl,rfl,by decide +kernel,rfl,by decide +kernel,by decide +kernel⟩
theorem Zmf:Xa ["table","points"] ["table","points"] (Zj Zhc):=⟨rfl,rfl,rfl,by decide +kernel,rfl,by decide +kernel,by decide +kernel⟩
theorem Zrg:Xa ["sums","needed","falling","number"] ["sums","needed"] (Zj Zol):=⟨rfl,rfl,rfl,by decide +kernel,rfl,by decide +kernel,by decide +kernel⟩
theorem Zjl:Xa ["rolls","table","order","points","kinds"] ["rolls","table","order","points"] (Zj Zfb):=⟨rfl,rfl,rfl,by decide +kernel,rfl,by decide +kernel,by decide +kernel⟩
theorem Zfk:Xa ["order","some"] ["order","some"] (Zj Zbs):=⟨rfl,rfl,rfl,by decide +kernel,rfl,by decide +kernel,by decide +kernel⟩
theorem Zcy:Xa ["table","order","alone","tries"] ["table","order"] (Zj Yg):=⟨rfl,rfl,rfl,by decide +kernel,rfl,by decide +kernel,by decide +kernel⟩
theorem Zve:Xa ["rolls","table","order","tries","points","kinds","lists"] ["rolls","table","order"] (Zj Zpf):=⟨rfl,rfl,rfl,by decide +kernel,rfl,by decide +kernel,by decide +kernel⟩
theorem Zgh:Xa ["table","points"] ["table","points"] (Zj Zcq):=⟨rfl,rfl,rfl,by decide +kernel,rfl,by decide +kernel,by decide +kernel⟩
theorem Zfi:Xa ["rolls","table","order","number","paper","points","sums"] ["rolls","table","order","number","paper"] (Zj Zbq):=⟨rfl,rfl,rfl,by decide +kernel,rfl,by decide +kernel,by decide +kernel⟩
theorem Zmd:Xa ["table","rebates"] ["table","rebates"] (Zj Zhj):=⟨rfl,rfl,rfl,by decide +kernel,rfl,by decide +kernel,by decide +kernel⟩
theorem Zgq:Xa ["rolls","table","order","rebates","kinds"] ["rolls","table","order","rebates"] (Zj Zcp):=⟨rfl,rfl,rfl,by decide +kernel,rfl,by decide +kernel,by decide +kernel⟩
theorem Zct:Xa ["table","order","worths","least","tries","place","number"] ["table","order"] (Zj Jr):=⟨rfl,rfl,rfl,by decide +kernel,rfl,by decide +kernel,by decide +kernel⟩
theorem Zmw:Xa ["rolls","table","order","tries","rebates","kinds","lists"] ["rolls","table","order"] (Zj Zhg):=⟨rfl,rfl,rfl,by decide +kernel,rfl,by decide +kernel,by decide +kernel⟩
theorem Zdg:Xa ["rolls","table","order","number","paper","rebates"] ["rolls","table","order","number","paper"] (Zj Jy):=⟨rfl,rfl,rfl,by decide +kernel,rfl,by decide +kernel,by decide +kernel⟩
theorem Zhr:Xa ["_law_script","_law_place","_law_seed","_law_cell_here"] ["_law_script","_law_place"] (Zj Zfn):=⟨rfl,rfl,rfl,by decide +kernel,rfl,by decide +kernel,by decide +kernel⟩
theorem Zjm:Xa ["_law_cell_here","_law_k","_law_one","_law_two"] ["_law_cell_here","_law_k"] (Zj Zhu):=⟨rfl,rfl,rfl,by decide +kernel,rfl,by decide +kernel,by decide +kernel⟩
theorem Zjh:Xa ["_law_script","_law_place","_law_sizes","_law_cell_here","_law_left","_law_some","_law_k","_law_other"] ["_law_script","_law_place","_law_sizes"] (Zj Zhp):=⟨rfl,rfl,rfl,by decide +kernel,rfl,by decide +kernel,by decide +kernel⟩
theorem Zgl:Xa ["_law_script","_law_place","_law_most","_law_pool","_law_some","_law_flaw_here","_law_gain","_law_table_here","_law_k","_law_at","_law_width","_law_worth","_law_allowed","_law_name"] ["_law_script","_law_place","_law_most"] (Zj Zeg):=⟨rfl,rfl,rfl,by decide +kernel,rfl,by decide +kernel,by decide +kernel⟩
theorem Zih:Xa ["_law_script","_law_place","_law_most"] ["_law_script","_law_place","_law_most"] (Zj Zfu):=⟨rfl,rfl,rfl,by decide +kernel,rfl,by decide +kernel,by decide +kernel⟩
theorem Zim:Xa ["_law_script","_law_place","_law_most","_law_flaw_here","_law_some","_law_great","_law_roll_here","_law_k","_law_at","_law_weight"] ["_law_script","_law_place","_law_most","_law_flaw_here"] (Zj Zga):=⟨rfl,rfl,rfl,by decide +kernel,rfl,by decide +kernel,by decide +kernel⟩
theorem Zgd:Xa ["_law_script","_law_place","_law_count","_law_most","_law_some","_law_order_here","_law_k","_law_number"] ["_law_script","_law_place","_law_count","_law_most"] (Zj Zeh):=⟨rfl,rfl,rfl,by decide +kernel,rfl,by decide +kernel,by decide +kernel⟩
theorem Zgr:Xa ["_law_script","_law_place","_law_many","_law_most","_law_flaw_here","_law_rolls_here","_law_k"] ["_law_script","_law_place","_law_many","_law_most","_law_flaw_here"] (Zj Zed):=⟨rfl,rfl,rfl,by decide +kernel,rfl,by decide +kernel,by decide +kernel⟩
theorem Zfd:Xa ["_law_rolls_here","_law_table_here","_law_order_here","_law_number","_law_paper","_law_one","_law_worth","_law_other"] ["_law_rolls_here","_law_table_here","_law_order_here"] (Zj Zda):=⟨rfl,rfl,rfl,by decide +kernel,rfl,by decide +kernel,by decide +kernel⟩
theorem Zce:Xa ["_law_rolls_here","_law_table_here","_law_order_here","_law_roll_here","_law_number","_law_more"] ["_law_rolls_here","_law_table_here","_law_order_here","_law_roll_here"] (Zj Zav):=⟨rfl,rfl,rfl,by decide +kernel,rfl,by decide +kernel,by decide +kernel⟩
theorem Zbr:Xa ["_law_rolls_here","_law_table_here","_law_order_here","_law_at","_law_more","_law_less"] ["_law_rolls_here","_law_table_here","_law_order_here","_law_at"] (Zj Zao):=⟨rfl,rfl,rfl,by decide +kernel,rfl,by decide +kernel,by decide +kernel⟩
theorem Xnb:Xa ["_law_script","_law_table_here","_law_some","_law_flaw_here","_law_rolls_here","_law_order_here","_law_behind"] ["_law_script"] (Zj Xjq):=⟨rfl,rfl,rfl,by decide +kernel,rfl,by decide +kernel,by decide +kernel⟩
structure Txt (mg:Str→Option Value):Prop where
 sum:mg "sum"=none
 len:mg "len"=none
 list:mg "list"=none
 reversed:mg "reversed"=none
 max:mg "max"=none
 zip:mg "zip"=none
 range:mg "range"=none
 any:mg "any"=none
 all:mg "all"=none
 sorted:mg "sorted"=none
 enumerate:mg "enumerate"=none
 some:mg "some"=none
 min:mg "min"=none
 GREATEST_WORTH:∃t,mg "GREATEST_WORTH"=Option.some (.int 1000000000000000000 t)
noncomputable abbrev tsL (P1 P2:Addr):List (Addr×Pos×Str):=[(P1,⟨77,28,77,76⟩,"floor.<locals>.<lambda>"),(P2,⟨106,29,106,79⟩,"ceiling.<locals>.<lambda>")]
section
variable {P:Program}{w:World}{K:Frag}{C:String→Addr}{mg:Str→Option Value}{base:Heap}{f:Addr}{fd:FuncData}{P1 P2 c:Addr}
theorem Xag (F:Fun K "spoilt" "spoilt" Zpb f fd)(T:Txt mg):Zam P w K mg base CX0 7 f fd ["roll","begin","end"] (spD K C 3 2 Dl.Zdp):=by
  refine F.okC Zpp (Γ':=[]) (Δ':=[]) rfl fun cdv A outer s H E hr=>?_
  have sc:=Zpp
  have hu:_+64<cLine:=hr.units
  exact ⟨_,(Zh [] [] (Zaj (Zxv (Zmj (Xv Zka Zeu (Zi 1) Ze (Xi _)) (Zmj (Xv Zew Zbt (Zi 2) (Zq (r:=Jx K) Xc Xy rfl T.len PySem.boot_len (Zb (Zi 0) Zg Za) (he:=Za)) (Xi _)) (Zhx (Xv Zew Zbt (Zi 1) (Zi 2) (Xi _)))))) (Zm Zze) Xx)
      (Zm (Xf (Zq (r:=Zss K) (Zar rfl) Zbw rfl T.sum PyProof.Rows.boot_sum (Zb (Zsq K (Zi 0) (Zde (Zi 1)) (Zde (Zi 2))) Zg Yn) (he:=Yn)))))⟩
theorem Xak (F:Fun K "turned" "turned" Zox f fd)(T:Txt mg):Zam P w K mg base CX0 7 f fd ["roll"] (spD K C 1 2 Dl.Zeo):=by
 refine F.okC Zqj (Γ':=[]) (Δ':=[]) rfl fun cdv A outer s H E hr=>?_
 have sc:=Zqj
 have hu:_+64<cLine:=hr.units
 exact ⟨_,(Zm (Xf (Xfv K rfl T.list rfl T.reversed (Zi 0) Za)))⟩
theorem Zsl (F:Fun K "together" "together" Zfj f fd)(T:Txt mg):Zam P w K mg base CX0 7 f fd ["order","some"] (spD K C 2 2 Dl.Yl):=by
 refine F.okC Zjb (Γ':=[]) (Δ':=[]) rfl fun cdv A outer s H E hr=>?_
 have sc:=Zjb
 have hu:_+64<cLine:=hr.units
 exact ⟨_,(Zm (Xf (Zq (r:=Zss K) (Zar rfl) Zbw rfl T.sum PyProof.Rows.boot_sum (Zb (Jd (n:=2) (Zj Zfj) ["order","some"] ["order","some"] ["number","one"] ⟨rfl,by decide +kernel,by decide +kernel,by decide +kernel,by decide +kernel,by decide +kernel,rfl,by decide +kernel⟩ (Zjn rfl T.zip (Zi 0) (Zi 1) Za Za) (fun _ _ _ _ _=>(Zil K (Je (Xm 2 (hN:=(by decide +kernel:List.Nodup (["order","some","number","one"]:List Str)))) (Je (Xm 3 (hN:=(by decide +kernel:List.Nodup (["order","some","number","one"]:List Str)))) Zej)))) (fun _ _ _ _ _=>Yk) (fun _ _ _ _ _=>(Zu Ye Yf (Zi 2 (hv:=Or.inl rfl)) (Zi 3 (hv:=Or.inl rfl))))) Zg Xo) (he:=Xo))))⟩
theorem Zte (F:Fun K "pointed" "pointed" Zhc f fd)(T:Txt mg):Zam P w K mg base CX0 7 f fd ["table","points"] (spD K C 2 2 Dl.Yw):=by
 refine F.okC Zmf (Γ':=[]) (Δ':=[]) rfl fun cdv A outer s H E hr=>?_
 have sc:=Zmf
 have hu:_+64<cLine:=hr.units
 exact ⟨_,(Zm (Xf (Jd (n:=2) (Zj Zhc) ["table","points"] ["table","points"] ["kind","point"] ⟨rfl,by decide +kernel,by decide +kernel,by decide +kernel,by decide +kernel,by decide +kernel,rfl,by decide +kernel⟩ (Zjn rfl T.zip (Zi 0) (Zi 1) Za Za) (fun _ _ _ _ _=>(Zil K (Je (Xm 2 (hN:=(by decide +kernel:List.Nodup (["table","points","kind","point"]:List Str)))) (Je (Xm 3 (hN:=(by decide +kernel:List.Nodup (["table","points","kind","point"]:List Str)))) Zej)))) (fun _ _ _ _ _=>Zpa (Xv Zew Zbt (Zi 3 (hv:=Or.inl rfl)) Ze (Xi _))) (fun _ _ _ _ _=>(Zje (Zl (Xs (Xe K (Zi 2 (hv:=Or.inl rfl)) Ze Zk)) (Zl (Xs (Xe K (Zi 2 (hv:=Or.inl rfl)) Ze Zk)) (Zl (Xs (Zi 3 (hv:=Or.inl rfl))) (Zl (Xs (Xe K (Zi 2 (hv:=Or.inl rfl)) Ze Zk)) Zg Yn) Za) Yn) Yn))))))⟩
theorem Xcj (F:Fun K "fewest" "fewest" Zol f fd)(T:Txt mg):Zam P w K mg base CX0 7 f fd ["sums","needed"] (spD K C 2 2 Dl.Zbc):=by
  refine F.okC Zrg (Γ':=[]) (Δ':=[]) rfl fun cdv A outer s H E hr=>?_
  have sc:=Zrg
  have hu:_+64<cLine:=hr.units
  exact ⟨_,(Zh [2] [2] (Xd (i:=2) sc.nd rfl (Or.inl rfl) (Xaq K rfl T.sorted (Zi 0) Za))
      (Zh [2] [2] (Zdn [2] [2] PassesOwn.never rfl (Zbz rfl T.range (Zb (Zu Zw Zx (Zq (r:=Jx K) Xc Xy rfl T.len PySem.boot_len (Zb (Zi 0) Zg Za) (he:=Za)) Ze) Zg Zz)) (Zax (i:=3) (hN:=sc.nd) (hi:=rfl) (hx:=Or.inl rfl)) (Zm (Zaj (Xv Xjc Ztc (Zq (r:=Zss K) (Zar rfl) Zbw rfl T.sum PyProof.Rows.boot_sum (Zb (Zsq K (Zi 2) Zjv (Zde (Zi 3))) Zg Yn) (he:=Yn)) (Zi 1) (Xi _)) (Zm (Xf (Xs (Zi 3)))) Xx)))
      (Zm (Xf (Zu Zw Zx (Zq (r:=Jx K) Xc Xy rfl T.len PySem.boot_len (Zb (Zi 0) Zg Za) (he:=Za)) Ze)))))⟩
theorem Zla (F:Fun K "only_wanted" "only_wanted" Zbs f fd)(T:Txt mg):Zam P w K mg base CX0 7 f fd ["order","some"] (spD K C 2 2 Dl.Yu):=by
 refine F.okC Zfk (Γ':=[]) (Δ':=[]) rfl fun cdv A outer s H E hr=>?_
 have sc:=Zfk
 have hu:_+64<cLine:=hr.units
 exact ⟨_,(Zm (Xf (Jd (n:=2) (Zj Zbs) ["order","some"] ["order","some"] ["number","one"] ⟨rfl,by decide +kernel,by decide +kernel,by decide +kernel,by decide +kernel,by decide +kernel,rfl,by decide +kernel⟩ (Zjn rfl T.zip (Zi 0) (Zi 1) Za Za) (fun _ _ _ _ _=>(Zil K (Je (Xm 2 (hN:=(by decide +kernel:List.Nodup (["order","some","number","one"]:List Str)))) (Je (Xm 3 (hN:=(by decide +kernel:List.Nodup (["order","some","number","one"]:List Str)))) Zej)))) (fun _ _ _ _ _=>Yk) (fun _ _ _ _ _=>(Xit (Xv Zew Zbt (Zi 2 (hv:=Or.inl rfl)) Ze (Xi _)) (Xs (Zi 3 (hv:=Or.inl rfl))) Ze)))))⟩
theorem Zmm (F:Fun K "are_points" "are_points" Zcq f fd)(T:Txt mg):Zam P w K mg base CX0 7 f fd ["table","points"] (spD K C 2 2 Dl.Zas):=by
 refine F.okC Zgh (Γ':=[]) (Δ':=[]) rfl fun cdv A outer s H E hr=>?_
 have sc:=Zgh
 have hu:_+64<cLine:=hr.units
 exact ⟨_,(Zm (Xf (Xeq (Zdl (r:=Zsx K) (Zeb hu) Zec (Zq (r:=Jx K) Xc Xy rfl T.len PySem.boot_len (Zb (Zi 1) Zg Za) (he:=Za)) (Zq (r:=Jx K) Xc Xy rfl T.len PySem.boot_len (Zb (Zi 0) Zg Za) (he:=Za)) (Xi _)) (Zxo (Zq (r:=Zun K) (Zlv rfl) Zvz rfl T.all PyProof.Rows.boot_all (Zb (Jd (n:=2) (Zj Zcq) ["table","points"] ["table","points"] ["point"] ⟨rfl,by decide +kernel,by decide +kernel,by decide +kernel,by decide +kernel,by decide +kernel,rfl,by decide +kernel⟩ (Jo (Zi 1)) (fun _ _ _ _ _=>(Xm 2 (hN:=(by decide +kernel:List.Nodup (["table","points","point"]:List Str))))) (fun _ _ _ _ _=>Yk) (fun _ _ _ _ _=>(Xbe Zor Zor Zhm Zhm bl_le Ze (Zi 2 (hv:=Or.inl rfl)) (Xjd rfl T.GREATEST_WORTH.choose_spec ⟨_,rfl⟩)))) Zg Xo) (he:=Xo))))))⟩
theorem Zgx (F:Fun K "rebates_to_try" "rebates_to_try" Jr f fd)(T:Txt mg):Zam P w K mg base CX0 7 f fd ["table","order"] (spD K C 2 0 Dl.Yx):=by
  refine F.okC Zct (Γ':=[]) (Δ':=[]) rfl fun cdv A outer s H E hr=>?_
  have sc:=Zct
  have hu:_+64<cLine:=hr.units
  exact ⟨_,(Zh [2] [2] (Zfx (i:=2) (n:=7) (Zj Jr) ["table","order","worths","least","tries","place","number"] ["table","order","worths","least","tries","place","number"] ["kind"] ⟨rfl,by decide +kernel,by decide +kernel,by decide +kernel,by decide +kernel,by decide +kernel,rfl,by decide +kernel⟩ rfl rfl (Jo (Zi 0)) (fun _ _ _ _ _=>(Xm 7 (hN:=(by decide +kernel:List.Nodup (["table","order","worths","least","tries","place","number","kind"]:List Str))))) (fun _ _ _ _ _=>Yk) (fun _ _ _ _ _=>(Xs (Xe K (Zi 7 (hv:=Or.inl rfl)) Ze Zk))))
      (Zh [2,3] [2,3] (Zfx (i:=3) (n:=7) (Zj Jr) ["table","order","worths","least","tries","place","number"] ["table","order","worths","least","tries","place",""] ["number","worth"] ⟨rfl,by decide +kernel,by decide +kernel,by decide +kernel,by decide +kernel,by decide +kernel,rfl,by decide +kernel⟩ rfl rfl (Zjn rfl T.zip (Zi 1) (Zi 2) Za Za) (fun _ _ _ _ _=>(Zil K (Je (Xm 7 (hN:=(by decide +kernel:List.Nodup (["table","order","worths","least","tries","place","","number","worth"]:List Str)))) (Je (Xm 8 (hN:=(by decide +kernel:List.Nodup (["table","order","worths","least","tries","place","","number","worth"]:List Str)))) Zej)))) (fun _ _ _ _ _=>Yk) (fun _ _ _ _ _=>(Xit (Xv Zew Zbt (Zi 7 (hv:=Or.inl rfl)) Ze (Xi _)) Ze (Xs (Zi 8 (hv:=Or.inl rfl))))))
      (Zh [2,4] [2] (Zvo (i:=4) sc.nd rfl (Or.inl rfl) (Zdh (Zb (Zi 3) Zg Za)))
      (Zh [2,4] [2] (Zdn [2,4] [2] PassesOwn.never rfl (Zvi rfl T.enumerate (Zi 1) Za) (Xnk rfl (Zpr (Zax (i:=5) (hN:=sc.nd) (hi:=rfl) (hx:=Or.inl rfl)) (Zpr (Zax (i:=6) (hN:=sc.nd) (hi:=rfl) (hx:=Or.inl rfl)) Xhe))) (Zm (Zaj (Xv Zew Zbt (Zi 6) Ze (Xi _)) (Zm (Zcu (i:=4) (he:=(Zu Zw Zx (Zu Zw Zx (Zsq K (Zi 3) Zjv (Zde (Zi 5))) (Zdh (Zb (Xe K (Zi 2) (Zi 5) Ym) Zg Yn))) (Zsq K (Zi 3) (Zde (Zu Zw Zx (Zi 5) Ze)) Zjv))) (hse:=Zz))) Xx)))
      (Zh [4] [] (Xjl (i:=4) (he:=(Zi 2)) (hse:=Za))
      (Zm (Zva (Zi 4))))))))⟩
theorem Zoy (F:Fun K "_law_cell" "_law_cell" Zfn f fd)(T:Txt mg):Zam P w K mg base CX0 7 f fd ["_law_script","_law_place"] (spD K C 2 2 Dl.Zan):=by
  refine F.okC Zhr (Γ':=[]) (Δ':=[]) rfl fun cdv A outer s H E hr=>?_
  have sc:=Zhr
  have hu:_+64<cLine:=hr.units
  exact ⟨_,(Zh [] [] (Zaj (Xv Zka Zeu (Zi 1) (Zq (r:=Jx K) Xc Xy rfl T.len PySem.boot_len (Zb (Zi 0) Zg Za) (he:=Za)) (Xi _)) (Zm (Xf (Xs (Xe K (Zi 0) (Zi 1) Ym)))) Xx)
      (Zh [2] [2] (Xd (i:=2) sc.nd rfl (Or.inl rfl) Ze)
      (Zh [2] [2] (Zdn [2] [2] PassesOwn.never rfl (Jo (Zsq K (Zi 0) Zjv (Zde Ze))) (Zax (i:=3) (hN:=sc.nd) (hi:=rfl) (hx:=Or.inl rfl)) (Zm (Xd (i:=2) sc.nd rfl (Or.inl rfl) (Zu Zbn Zaa (Zu Zw Zx (Zu Zw Zx (Zu Ye Yf (Zi 2) Ze) (Zu Zbn Zaa (Zi 3) Ze)) Ze) Ze))))
      (Zm (Xf (Zu Zbn Zaa (Zu Zw Zx (Zi 2) (Zu Ye Yf Ze (Zi 1))) Ze))))))⟩
theorem Zrp (F:Fun K "_law_mix" "_law_mix" Zhu f fd)(T:Txt mg):Zam P w K mg base CX0 7 f fd ["_law_cell_here","_law_k"] (spD K C 2 2 Dl.Zbe):=by
  refine F.okC Zjm (Γ':=[]) (Δ':=[]) rfl fun cdv A outer s H E hr=>?_
  have sc:=Zjm
  have hu:_+64<cLine:=hr.units
  exact ⟨_,(Zh [2] [2] (Xd (i:=2) sc.nd rfl (Or.inl rfl) (Zu Zbn Zaa (Zu Zdv Zca (Zu Zw Zx (Zu Zw Zx (Zu Zbn Zaa (Zi 0) Ze) (Zu Ye Yf Ze (Zi 1))) Ze) Ze) Ze))
      (Zh [2,3] [2,3] (Xd (i:=3) sc.nd rfl (Or.inl rfl) (Zu Zbn Zaa (Zu Zw Zx (Zu Zw Zx (Zu Ye Yf (Zi 2) Ze) (Zu Ye Yf (Zu Ye Yf Ze (Zi 1)) (Zi 1))) Ze) Ze))
      (Zm (Xf (Zu Zqc Zum (Zi 3) Ze)))))⟩
theorem Xow (F:Fun K "fits" "fits" Xju f fd)(T:Txt mg)(Dspoilt:Def P w K mg base CX0 7 "spoilt" ["roll","begin","end"] (spD K C 3 2 Dl.Zdp)):Zam P w K mg base CX0 8 f fd ["roll","kind","place"] (spD K C 3 2 Dl.Zgi):=by
  refine F.okC Xds (Γ':=[]) (Δ':=[]) rfl fun cdv A outer s H E hr=>?_
  have sc:=Xds
  have hu:_+64<cLine:=hr.units
  exact ⟨_,(Zh [3] [3] (Xd (i:=3) sc.nd rfl (Or.inl rfl) (Zu Zw Zx (Zi 2) (Xe K (Zi 1) Ze Zk)))
      (Zh [3] [3] (Zaj (Zxv (Zmj (Xv Zka Zeu (Zi 2) Ze (Xi _)) (Zhx (Xv Zew Zbt (Zi 3) (Zq (r:=Jx K) Xc Xy rfl T.len PySem.boot_len (Zb (Zi 0) Zg Za) (he:=Za)) (Xi _))))) (Zm (Xf Zcg)) Xx)
      (Zm (Xf (Zdl Zor Zhm (Zr Dspoilt (hr.mono (by decide)) rfl Xg (Zb (Zi 0) (Zb (Zi 2) (Zb (Zi 3) Zg Za) Za) Za) (he:=Za)) (Xe K (Zi 1) Ze Zk) (Xi _))))))⟩
theorem Zie (F:Fun K "points_to_try" "points_to_try" Yg f fd)(T:Txt mg)(Donly_wanted:Def P w K mg base CX0 7 "only_wanted" ["order","some"] (spD K C 2 2 Dl.Yu)):Zam P w K mg base CX0 8 f fd ["table","order"] (spD K C 2 0 Dl.Jj):=by
  refine F.okC Zcy (Γ':=[]) (Δ':=[]) rfl fun cdv A outer s H E hr=>?_
  have sc:=Zcy
  have hu:_+64<cLine:=hr.units
  exact ⟨_,(Zh [2] [2] (Xd (i:=2) sc.nd rfl (Or.inr rfl) (Xbb (n:=4) (Zj Yg) ["table","order","alone","tries"] ["table","order","alone","tries"] ("place":Str) ⟨rfl,fun _ _=>rfl,by decide +kernel,by decide +kernel,by decide +kernel,by decide +kernel,by decide +kernel,by decide +kernel,rfl,by decide +kernel⟩ (Zbz rfl T.range (Zb (Zq (r:=Jx K) Xc Xy rfl T.len PySem.boot_len (Zb (Zi 0) Zg Za) (he:=Za)) Zg Xl)) (fun _ _ _ _ _=>(Xm 4 (hN:=(by decide +kernel:List.Nodup (["table","order","alone","tries","place"]:List Str))) (hx:=.inr rfl) (hf:=.inl rfl))) (fun _ _ _ _ _=>Yk) (fun _ _ _ _ _=>(Ztu (n:=5) (Zj Yg) ["table","order","alone","tries","place"] ["table","order","alone","tries","place"] ["other"] ⟨rfl,by decide +kernel,by decide +kernel,by decide +kernel,by decide +kernel,by decide +kernel,rfl,by decide +kernel⟩ (Zbz rfl T.range (Zb (Zq (r:=Jx K) Xc Xy rfl T.len PySem.boot_len (Zb (Zi 0 (hv:=Or.inr (Or.inl rfl))) Zg Za) (he:=Za)) Zg Xl)) (fun _ _ _ _ _=>(Xm 5 (hN:=(by decide +kernel:List.Nodup (["table","order","alone","tries","place","other"]:List Str))))) (fun _ _ _ _ _=>Yk) (fun _ _ _ _ _=>(Xit (Xv (r:=Zsx K) (Zeb hu) Zec (Zi 5 (hv:=Or.inl rfl)) (Zi 4 (hv:=Or.inr (Or.inl rfl))) (Xi _)) Ze Ze))))))
      (Zh [3] [] (Zzo (i:=3) (n:=4) 2 (Zj Yg) ["table","order","alone","tries"] ["table","order","alone","tries"] ⟨rfl,by decide +kernel,by decide +kernel,by decide +kernel,by decide +kernel,by decide +kernel,rfl,by decide +kernel⟩ rfl rfl (by decide) (Zvi rfl T.enumerate (Zi 1) Za) (fun _ _ _ _ _=>(Zil K (Je (Xm 4 (hN:=(by decide +kernel:List.Nodup (["table","order","alone","tries","place","number"]:List Str)))) (Je (Xm 5 (hN:=(by decide +kernel:List.Nodup (["table","order","alone","tries","place","number"]:List Str)))) Zej)))) (fun _ _ _ _ _=>Zpa (Xv Zew Zbt (Zi 5 (hv:=Or.inl rfl)) Ze (Xi _))) (fun _ _ _ _ _=>(Xe K (Zi 2 (hv:=Or.inr (Or.inl rfl))) (Zi 4 (hv:=Or.inl rfl)) Ym)))
      (Zh [3] [] (Zcu (i:=3) (he:=(Zr Donly_wanted (hr.mono (by decide)) rfl Xg (Zb (Zi 1) (Zb (Jd (n:=4) (Zj Yg) ["table","order","alone","tries"] ["table","order","alone","tries"] ["kind"] ⟨rfl,by decide +kernel,by decide +kernel,by decide +kernel,by decide +kernel,by decide +kernel,rfl,by decide +kernel⟩ (Jo (Zi 0)) (fun _ _ _ _ _=>(Xm 4 (hN:=(by decide +kernel:List.Nodup (["table","order","alone","tries","kind"]:List Str))))) (fun _ _ _ _ _=>Yk) (fun _ _ _ _ _=>(Xs (Xe K (Zi 4 (hv:=Or.inl rfl)) Ze Zk)))) Zg Xo) Za) (he:=Za))) (hse:=Xl))
      (Zh [3] [] (Zcu (i:=3) (he:=(Zr Donly_wanted (hr.mono (by decide)) rfl Xg (Zb (Zi 1) (Zb (Jd (n:=4) (Zj Yg) ["table","order","alone","tries"] ["table","order","alone","tries"] ["kind"] ⟨rfl,by decide +kernel,by decide +kernel,by decide +kernel,by decide +kernel,by decide +kernel,rfl,by decide +kernel⟩ (Jo (Zi 0)) (fun _ _ _ _ _=>(Xm 4 (hN:=(by decide +kernel:List.Nodup (["table","order","alone","tries","kind"]:List Str))))) (fun _ _ _ _ _=>Yk) (fun _ _ _ _ _=>(Xs (Xe K (Zi 4 (hv:=Or.inl rfl)) Ze Zk)))) Zg Xo) Za) (he:=Za))) (hse:=Xl))
      (Zh [3] [] (Zcu (i:=3) (he:=(Zr Donly_wanted (hr.mono (by decide)) rfl Xg (Zb (Zi 1) (Zb (Zu Ye Yf (Jt (Zl Ze Zg Zf)) (Zq (r:=Jx K) Xc Xy rfl T.len PySem.boot_len (Zb (Zi 0) Zg Za) (he:=Za))) Zg Zz) Za) (he:=Za))) (hse:=Xl))
      (Zm (Zva (Zi 3))))))))⟩
theorem Zsz (F:Fun K "rebated" "rebated" Zhj f fd)(T:Txt mg)(Dpointed:Def P w K mg base CX0 7 "pointed" ["table","points"] (spD K C 2 2 Dl.Yw)):Zam P w K mg base CX0 8 f fd ["table","rebates"] (spD K C 2 2 Dl.Zak):=by
 refine F.okC Zmd (Γ':=[]) (Δ':=[]) rfl fun cdv A outer s H E hr=>?_
 have sc:=Zmd
 have hu:_+64<cLine:=hr.units
 exact ⟨_,(Zm (Xf (Zr Dpointed (hr.mono (by decide)) rfl Xg (Zb (Zi 0) (Zb (Jd (n:=2) (Zj Zhj) ["table","rebates"] ["table","rebates"] ["kind","rebate"] ⟨rfl,by decide +kernel,by decide +kernel,by decide +kernel,by decide +kernel,by decide +kernel,rfl,by decide +kernel⟩ (Zjn rfl T.zip (Zi 0) (Zi 1) Za Za) (fun _ _ _ _ _=>(Zil K (Je (Xm 2 (hN:=(by decide +kernel:List.Nodup (["table","rebates","kind","rebate"]:List Str)))) (Je (Xm 3 (hN:=(by decide +kernel:List.Nodup (["table","rebates","kind","rebate"]:List Str)))) Zej)))) (fun _ _ _ _ _=>Yk) (fun _ _ _ _ _=>(Zu Zja Zfz (Xe K (Zi 2 (hv:=Or.inl rfl)) Ze Zk) (Zi 3 (hv:=Or.inl rfl))))) Zg Xo) Za) (he:=Za))))⟩
theorem Zsk (F:Fun K "_law_row" "_law_row" Zhp f fd)(T:Txt mg)(D_law_cell:Def P w K mg base CX0 7 "_law_cell" ["_law_script","_law_place"] (spD K C 2 2 Dl.Zan))(D_law_mix:Def P w K mg base CX0 7 "_law_mix" ["_law_cell_here","_law_k"] (spD K C 2 2 Dl.Zbe)):Zam P w K mg base CX0 8 f fd ["_law_script","_law_place","_law_sizes"] (spD K C 3 2 Dl.Yc):=by
  refine F.okC Zjh (Γ':=[]) (Δ':=[]) rfl fun cdv A outer s H E hr=>?_
  have sc:=Zjh
  have hu:_+64<cLine:=hr.units
  exact ⟨_,(Zh [3] [3] (Xd (i:=3) sc.nd rfl (Or.inl rfl) (Zr D_law_cell (hr.mono (by decide)) rfl Xg (Zb (Zi 0) (Zb (Zi 1) Zg Za) Za) (he:=Za)))
      (Zh [3,4] [3,4] (Xd (i:=4) sc.nd rfl (Or.inl rfl) (Xs (Zi 3)))
      (Zh [3,4,5] [3,4,5] (Xd (i:=5) sc.nd rfl (Or.inl rfl) (Jt Zg))
      (Zh [3,4,5] [3,4,5] (Zdn [3,4,5] [3,4,5] PassesOwn.never rfl (Zbz rfl T.range (Zb (Zq (r:=Jx K) Xc Xy rfl T.len PySem.boot_len (Zb (Zi 2) Zg Za) (he:=Za)) Zg Xl)) (Zax (i:=6) (hN:=sc.nd) (hi:=rfl) (hx:=Or.inl rfl)) (Zm (Zaj (Xv Zka Zeu (Zi 3) (Zu Zdv Zca Ze Ze) (Xi _)) (Zm (Zcu (i:=5) (he:=(Zu Zbn Zaa (Zr D_law_mix (hr.mono (by decide)) rfl Xg (Zb (Zi 3) (Zb (Zi 6) Zg Za) Za) (he:=Za)) (Xe K (Zi 2) (Zi 6) Ym))) (hse:=Zz))) (Zm (Zaj (Xv Zew Zbt (Zi 4) Ze (Xi _)) (Zh [3,4,5] [3,4,5] (Zcu (i:=5) (he:=(Zu Zbn Zaa (Zi 4) (Xe K (Zi 2) (Zi 6) Ym))) (hse:=Zz))
      (Zm (Xd (i:=4) sc.nd rfl (Or.inl rfl) (Zu Zqc Zum (Zi 4) (Xe K (Zi 2) (Zi 6) Ym))))) (Zhi [3,4,5,7] [3,4,5,7] (Zh [3,4,5,7] [3,4,5,7] (Xd (i:=7) sc.nd rfl (Or.inl rfl) (Zr D_law_cell (hr.mono (by decide)) rfl Xg (Zb (Zi 0) (Zb (Zu Zbn Zaa (Zu Zw Zx (Zu Zw Zx (Zi 1) Ze) (Zi 6)) Ze) Zg Zz) Za) (he:=Za)))
      (Zm (Zcu (i:=5) (he:=(Zu Zbn Zaa (Zr D_law_mix (hr.mono (by decide)) rfl Xg (Zb (Zi 7) (Zb (Zi 6) Zg Za) Za) (he:=Za)) (Xe K (Zi 2) (Zi 6) Ym))) (hse:=Zz))))))))))
      (Zm (Xf (Zit 5)))))))⟩
theorem Zzj (F:Fun K "ending" "ending" Zkh f fd)(T:Txt mg)(Dfits:Def P w K mg base CX0 8 "fits" ["roll","kind","place"] (spD K C 3 2 Dl.Zgi)):Zam P w K mg base CX0 9 f fd ["roll","table","end"] (spD K C 3 2 Dl.Zco):=by
 refine F.okC Zqm (Γ':=[]) (Δ':=[]) rfl fun cdv A outer s H E hr=>?_
 have sc:=Zqm
 have hu:_+64<cLine:=hr.units
 exact ⟨_,(Zm (Xf (Jd (n:=3) (Zj Zkh) ["roll","table","end"] ["roll","table","end"] ["kind"] ⟨rfl,by decide +kernel,by decide +kernel,by decide +kernel,by decide +kernel,by decide +kernel,rfl,by decide +kernel⟩ (Jo (Zi 1)) (fun _ _ _ _ _=>(Xm 3 (hN:=(by decide +kernel:List.Nodup (["roll","table","end","kind"]:List Str))))) (fun _ _ _ _ _=>Zpa (Zdz (Zr Dfits (hr.mono (by decide)) rfl Xg (Zb (Zi 0 (hv:=Or.inr (Or.inl rfl))) (Zb (Zi 3 (hv:=Or.inl rfl)) (Zb (Zu Zja Zfz (Zi 2 (hv:=Or.inr (Or.inl rfl))) (Xe K (Zi 3 (hv:=Or.inl rfl)) Ze Zk)) Zg Zz) Za) Za) (he:=Za)))) (fun _ _ _ _ _=>(Xs (Zi 3 (hv:=Or.inl rfl)))))))⟩
theorem Zom (F:Fun K "underpaid" "underpaid" Zfw f fd)(T:Txt mg)(Dfits:Def P w K mg base CX0 8 "fits" ["roll","kind","place"] (spD K C 3 2 Dl.Zgi)):Zam P w K mg base CX0 9 f fd ["roll","kind","prices","place"] (spD K C 4 2 Dl.Zaq):=by
 refine F.okC Zhy (Γ':=[]) (Δ':=[]) rfl fun cdv A outer s H E hr=>?_
 have sc:=Zhy
 have hu:_+64<cLine:=hr.units
 exact ⟨_,(Zm (Xf (Xeq (Zr Dfits (hr.mono (by decide)) rfl Xg (Zb (Zi 0) (Zb (Zi 1) (Zb (Zi 3) Zg Za) Za) Za) (he:=Za)) (Zxo (Zdl Zka Zeu (Zq (r:=Zss K) (Zar rfl) Zbw rfl T.sum PyProof.Rows.boot_sum (Zb (Zsq K (Zi 2) (Zde (Zi 3)) (Zde (Zu Zw Zx (Zi 3) (Xe K (Zi 1) Ze Zk)))) Zg Yn) (he:=Yn)) (Xe K (Zi 1) Ze Zk) (Xi _))))))⟩
theorem Zne (F:Fun K "_law_table" "_law_table" Zeg f fd)(T:Txt mg)(D_law_row:Def P w K mg base CX0 8 "_law_row" ["_law_script","_law_place","_law_sizes"] (spD K C 3 2 Dl.Yc)):Zam P w K mg base CX0 9 f fd ["_law_script","_law_place","_law_most"] (spD K C 3 2 Dl.Zat):=by
  refine F.okC Zgl (Γ':=[]) (Δ':=[]) rfl fun cdv A outer s H E hr=>?_
  have sc:=Zgl
  have hu:_+64<cLine:=hr.units
  exact ⟨_,(Zh [3] [3] (Xd (i:=3) sc.nd rfl (Or.inl rfl) (Jt (Zl Zay (Zl Zay (Zl Zay (Zl Zay (Zl Zay (Zl Zay (Zl Zay (Zl Zay (Zl Zay (Zl Zay Zg Zf) Zf) Zf) Zf) Zf) Zf) Zf) Zf) Zf) Zf)))
      (Zh [3] [3] (Xd (i:=3) sc.nd rfl (Or.inl rfl) (Zu Zw Zx (Zi 3) (Jt (Zl Zay (Zl Zay (Zl Zay (Zl Zay (Zl Zay (Zl Zay Zg Zf) Zf) Zf) Zf) Zf) Zf))))
      (Zh [3,4] [3,4] (Xd (i:=4) sc.nd rfl (Or.inl rfl) (Zr D_law_row (hr.mono (by decide)) rfl Xg (Zb (Zi 0) (Zb (Zi 1) (Zb (Zu Zw Zx (Jt (Zl (Zu Zw Zx (Zi 2) Ze) (Zl Ze (Zl Ze (Zl Ze (Zl Ze (Zl Ze Zg Zf) Zf) Zf) Zf) Zf) Zz)) (Zu Ye Yf (Jt (Zl Ze (Zl Ze (Zl Ze Zg Zf) Zf) Zf)) (Zi 2))) Zg Zz) Za) Za) (he:=Za)))
      (Zh [3,4,5] [3,4,5] (Xd (i:=5) sc.nd rfl (Or.inl rfl) (Xs (Xe K (Jt (Zl Ze (Zl Ze (Zl Ze (Zl (Zu Zdv Zca Ze Ze) Zg Zz) Zf) Zf) Zf)) (Xe K (Zi 4) Ze Zk) Zbh)))
      (Zh [3,4,5,6] [3,4,5,6] (Xd (i:=6) sc.nd rfl (Or.inl rfl) (Xs (Xe K (Jt (Zl Ze (Zl Ze (Zl (Zu Zdv Zca Ze Ze) (Zl (Zu Ye Yf Ze (Zu Zdv Zca Ze Ze)) Zg Zz) Zz) Zf) Zf)) (Xe K (Zi 4) Ze Zk) Zbh)))
      (Zh [3,4,5,6,7] [3,4,5,6,7] (Xd (i:=7) sc.nd rfl (Or.inl rfl) (Jt Zg))
      (Zh [3,4,5,6,7] [3,4,5,6,7] (Zdn [3,4,5,6,7] [3,4,5,6,7] PassesOwn.never rfl (Zbz rfl T.range (Zb (Xe K (Zi 4) Ze Zk) Zg Yn)) (Zax (i:=8) (hN:=sc.nd) (hi:=rfl) (hx:=Or.inl rfl)) (Zhi [3,4,5,6,7,9,10,11,12,13] [3,4,5,6,7,9,10,11,12,13] (Zh [3,4,5,6,7,9] [3,4,5,6,7,9] (Xd (i:=9) sc.nd rfl (Or.inl rfl) (Zu Zw Zx (Zu Ye Yf Ze (Zi 8)) Ze))
      (Zh [3,4,5,6,7,9,10] [3,4,5,6,7,9,10] (Xd (i:=10) sc.nd rfl (Or.inl rfl) (Xs (Xe K (Zdh (Zb Ze (Zb Ze (Zb Ze (Zb Ze (Zb Ze (Zb Ze (Zb Ze (Zb Ze (Zb Ze (Zb Ze (Zb (Xe K (Jt (Zl Ze (Zl Ze Zg Zf) Zf)) (Zu Zbn Zaa (Zi 8) Ze) plain_bin) Zg Yn) Zf) Zf) Zf) Zf) Zf) Zf) Zf) Zf) Zf) Zf)) (Xe K (Zi 4) (Zi 9) Ym) Zbh)))
      (Zh [3,4,5,6,7,9,10,11] [3,4,5,6,7,9,10,11] (Xd (i:=11) sc.nd rfl (Or.inl rfl) (Zu Zw Zx Ze (Xe K (Zi 4) (Zu Zw Zx (Zi 9) Ze) plain_bin)))
      (Zh [3,4,5,6,7,9,10,11] [3,4,5,6,7,9,10,11] (Zaj (Xv (r:=Zsx K) (Zeb hu) Zec (Xe K (Zi 4) Ze Zk) Ze (Xi _)) (Zm (Xd (i:=11) sc.nd rfl (Or.inl rfl) (Zu Zw Zx (Zu Ye Yf Ze (Zi 10)) (Zu Zbn Zaa (Xe K (Zi 4) (Zu Zw Zx (Zi 9) Ze) plain_bin) Ze)))) Xx)
      (Zh [3,4,5,6,7,9,10,11] [3,4,5,6,7,9,10,11] (Zaj (Xv (r:=Zsx K) (Zeb hu) Zec (Xe K (Zi 4) Ze Zk) Ze (Xi _)) (Zm (Xd (i:=11) sc.nd rfl (Or.inl rfl) (Zu Zw Zx Ze (Zu Zbn Zaa (Xe K (Zi 4) (Zu Zw Zx (Zi 9) Ze) plain_bin) Ze)))) Xx)
      (Zh [3,4,5,6,7,9,10,11] [3,4,5,6,7,9,10,11] (Zaj (Xv (r:=Zsx K) (Zeb hu) Zec (Xe K (Zi 4) Ze Zk) Ze (Xi _)) (Zm (Xd (i:=11) sc.nd rfl (Or.inl rfl) (Xs (Zi 10)))) Xx)
      (Zh [3,4,5,6,7,9,10,11,12] [3,4,5,6,7,9,10,11,12] (Xd (i:=12) sc.nd rfl (Or.inl rfl) (Zq (r:=Xby) (Znb rfl) Zwz rfl T.min PyProof.Rows.boot_min (Zb (Zu Ye Yf (Xe K (Jt (Zl Ze (Zl Ze (Zl Ze (Zl Ze (Zl Ze (Zl Ze Zg Zf) Zf) Zf) Zf) Zf) Zf)) (Xe K (Zi 4) (Zu Zw Zx (Zi 9) Ze) plain_bin) Zbh) (Zi 5)) (Zb (Zu Zja Zfz (Zu Zdv Zca Ze Ze) Ze) Zg Zz) Zz) (he:=Zz)))
      (Zh [3,4,5,6,7,9,10,11,12,13] [3,4,5,6,7,9,10,11,12,13] (Xd (i:=13) sc.nd rfl (Or.inl rfl) (Xs (Xe K (Zi 3) (Zu Zbn Zaa (Zu Zw Zx (Xe K (Zi 4) Ze Zk) (Zu Ye Yf (Zu Zw Zx (Zu Ye Yf Ze (Xe K (Zi 4) Ze Zk)) Ze) (Zi 8))) Ze) plain_bin)))
      (Zm (Zcu (i:=7) (he:=(Zje (Zl (Xs (Zi 13)) (Zl (Xs (Zi 10)) (Zl (Zq (r:=Xby) (Znb rfl) Zwz rfl T.min PyProof.Rows.boot_min (Zb (Zu Ye Yf (Zi 11) (Zi 6)) (Zb (Zu Zdv Zca Ze Ze) Zg Zz) Zz) (he:=Zz)) (Zl (Xs (Zi 12)) Zg Za) Xl) Za) Za))) (hse:=Zku)))))))))))))
      (Zm (Xf (Zit 7))))))))))⟩
theorem Zoi (F:Fun K "_law_flaw" "_law_flaw" Zfu f fd)(T:Txt mg)(D_law_row:Def P w K mg base CX0 8 "_law_row" ["_law_script","_law_place","_law_sizes"] (spD K C 3 2 Dl.Yc)):Zam P w K mg base CX0 9 f fd ["_law_script","_law_place","_law_most"] (spD K C 3 2 Dl.Zbj):=by
 refine F.okC Zih (Γ':=[]) (Δ':=[]) rfl fun cdv A outer s H E hr=>?_
 have sc:=Zih
 have hu:_+64<cLine:=hr.units
 exact ⟨_,(Zm (Xf (Xs (Xe K (Jt (Zl Ze (Zl Ze (Zl Ze (Zl (Zu Zdv Zca Ze Ze) Zg Zz) Zf) Zf) Zf)) (Xe K (Zr D_law_row (hr.mono (by decide)) rfl Xg (Zb (Zi 0) (Zb (Zi 1) (Zb (Jt (Zl (Zu Zw Zx (Zi 2) Ze) (Zl Ze Zg Zf) Zz)) Zg Zlk) Za) Za) (he:=Za)) Ze Zk) Zbh))))⟩
theorem Zov (F:Fun K "_law_roll" "_law_roll" Zga f fd)(T:Txt mg)(D_law_row:Def P w K mg base CX0 8 "_law_row" ["_law_script","_law_place","_law_sizes"] (spD K C 3 2 Dl.Yc)):Zam P w K mg base CX0 9 f fd ["_law_script","_law_place","_law_most","_law_flaw_here"] (spD K C 4 2 Dl.Zab):=by
  refine F.okC Zim (Γ':=[]) (Δ':=[]) rfl fun cdv A outer s H E hr=>?_
  have sc:=Zim
  have hu:_+64<cLine:=hr.units
  exact ⟨_,(Zh [4] [4] (Xd (i:=4) sc.nd rfl (Or.inl rfl) (Zr D_law_row (hr.mono (by decide)) rfl Xg (Zb (Zi 0) (Zb (Zi 1) (Zb (Zu Zw Zx (Jt (Zl (Zu Zw Zx (Zi 2) Ze) (Zl Ze (Zl Ze Zg Zf) Zf) Zz)) (Zu Ye Yf (Jt (Zl Ze (Zl Ze Zg Zf) Zf)) (Zi 2))) Zg Zz) Za) Za) (he:=Za)))
      (Zh [4,5] [4,5] (Xd (i:=5) sc.nd rfl (Or.inl rfl) (Zu Ye Yf Ze (Zi 3)))
      (Zh [4,5] [4,5] (Zaj (Xv (r:=Zsx K) (Zeb hu) Zec (Xe K (Zi 4) Ze Zk) Ze (Xi _)) (Zm (Xd (i:=5) sc.nd rfl (Or.inl rfl) (Zu Zdv Zca Ze Ze))) Xx)
      (Zh [4,5,6] [4,5,6] (Xd (i:=6) sc.nd rfl (Or.inl rfl) (Jt Zg))
      (Zh [4,5,6] [4,5,6] (Zdn [4,5,6] [4,5,6] PassesOwn.never rfl (Zbz rfl T.range (Zb (Xe K (Zi 4) Ze Zk) Zg Yn)) (Zax (i:=7) (hN:=sc.nd) (hi:=rfl) (hx:=Or.inl rfl)) (Zhi [4,5,6,8,9] [4,5,6,8,9] (Zh [4,5,6,8] [4,5,6,8] (Xd (i:=8) sc.nd rfl (Or.inl rfl) (Zu Zw Zx (Zu Ye Yf Ze (Zi 7)) Ze))
      (Zh [4,5,6,8,9] [4,5,6,8,9] (Xd (i:=9) sc.nd rfl (Or.inl rfl) Ze)
      (Zh [4,5,6,8,9] [4,5,6,8,9] (Zaj (Xv Zka Zeu (Xe K (Zi 4) (Zi 8) Ym) (Xe K (Jt (Zl Ze (Zl Ze (Zl Ze (Zl Ze Zg Zf) Zf) Zf) Zf)) (Xe K (Zi 4) Ze Zk) Zbh) (Xi _)) (Zm (Xd (i:=9) sc.nd rfl (Or.inl rfl) (Xs (Xe K (Zdh (Zb (Zi 3) (Zb (Zi 3) (Zb (Zu Ye Yf Ze (Zi 3)) (Zb (Zu Ye Yf Ze (Zi 3)) (Zb (Zi 5) Zg Za) Zz) Zz) Za) Za)) (Xe K (Zi 4) (Zu Zw Zx (Zi 8) Ze) plain_bin) Zbh)))) Xx)
      (Zm (Zcu (i:=6) (he:=(Xs (Zi 9))) (hse:=Za))))))))
      (Zm (Xf (Zit 6))))))))⟩
theorem Znh (F:Fun K "_law_order" "_law_order" Zeh f fd)(T:Txt mg)(D_law_row:Def P w K mg base CX0 8 "_law_row" ["_law_script","_law_place","_law_sizes"] (spD K C 3 2 Dl.Yc)):Zam P w K mg base CX0 9 f fd ["_law_script","_law_place","_law_count","_law_most"] (spD K C 4 2 Dl.Zaf):=by
  refine F.okC Zgd (Γ':=[]) (Δ':=[]) rfl fun cdv A outer s H E hr=>?_
  have sc:=Zgd
  have hu:_+64<cLine:=hr.units
  exact ⟨_,(Zh [4] [4] (Xd (i:=4) sc.nd rfl (Or.inl rfl) (Zr D_law_row (hr.mono (by decide)) rfl Xg (Zb (Zi 0) (Zb (Zi 1) (Zb (Zu Zw Zx (Jt (Zl Ze Zg Zf)) (Zu Ye Yf (Zdh (Zb (Zi 3) (Zb Ze Zg Zf) Za)) Ze)) Zg Zz) Za) Za) (he:=Za)))
      (Zh [4,5] [4,5] (Xd (i:=5) sc.nd rfl (Or.inl rfl) (Jt Zg))
      (Zh [4,5] [4,5] (Zdn [4,5] [4,5] PassesOwn.never rfl (Zbz rfl T.range (Zb (Zi 2) Zg Za)) (Zax (i:=6) (hN:=sc.nd) (hi:=rfl) (hx:=Or.inl rfl)) (Zhi [4,5,7] [4,5,7] (Zh [4,5,7] [4,5,7] (Xd (i:=7) sc.nd rfl (Or.inl rfl) (Xs (Xe K (Zi 4) (Zu Zw Zx (Zu Ye Yf Ze (Zi 6)) Ze) plain_bin)))
      (Zh [4,5,7] [4,5,7] (Zaj (Zxv (Zmj (Xv (r:=Zsx K) (Zeb hu) Zec (Xe K (Zi 4) (Zu Zw Zx (Zu Ye Yf Ze (Zi 6)) Ze) plain_bin) Ze (Xi _)) (Zhx (Zxv (Zwy (Xv (r:=Zsx K) (Zeb hu) Zec (Xe K (Zi 4) Ze Zk) Ze (Xi _)) (Zog (Xv Zew Zbt (Zi 6) Ze (Xi _)))))))) (Zm (Xd (i:=7) sc.nd rfl (Or.inl rfl) Ze)) Xx)
      (Zm (Zcu (i:=5) (he:=(Xs (Zi 7))) (hse:=Za)))))))
      (Zm (Xf (Zit 5))))))⟩
theorem Zsv (F:Fun K "next_top" "next_top" Zen f fd)(T:Txt mg)(Dending:Def P w K mg base CX0 9 "ending" ["roll","table","end"] (spD K C 3 2 Dl.Zco)):Zam P w K mg base CX0 10 f fd ["roll","table","tops"] (spD K C 3 2 Dl.Zcf):=by
  refine F.okC Zjp (Γ':=[]) (Δ':=[]) rfl fun cdv A outer s H E hr=>?_
  have sc:=Zjp
  have hu:_+64<cLine:=hr.units
  exact ⟨_,(Zh [3] [3] (Xd (i:=3) sc.nd rfl (Or.inr rfl) (Zq (r:=Jx K) Xc Xy rfl T.len PySem.boot_len (Zb (Zi 2) Zg Za) (he:=Za)))
      (Zh [3,4] [3,4] (Zfx (i:=4) (n:=5) (Zj Zen) ["roll","table","tops","end","worths"] ["roll","table","tops","end","worths"] ["kind"] ⟨rfl,by decide +kernel,by decide +kernel,by decide +kernel,by decide +kernel,by decide +kernel,rfl,by decide +kernel⟩ rfl rfl (Jo (Zr Dending (hr.mono (by decide)) rfl Xg (Zb (Zi 0) (Zb (Zi 1) (Zb (Zi 3) Zg Za) Za) Za) (he:=Za))) (fun _ _ _ _ _=>(Xm 5 (hN:=(by decide +kernel:List.Nodup (["roll","table","tops","end","worths","kind"]:List Str))))) (fun _ _ _ _ _=>Yk) (fun _ _ _ _ _=>(Zu Zw Zx (Xe K (Zi 2 (hv:=Or.inr (Or.inl rfl))) (Zu Zja Zfz (Zi 3 (hv:=Or.inr (Or.inl rfl))) (Xe K (Zi 5 (hv:=Or.inl rfl)) Ze Zk)) plain_bin) (Xe K (Zi 5 (hv:=Or.inl rfl)) Ze Zk))))
      (Zm (Xf (Zq (r:=Zvs K) (Zuw rfl) Xex rfl T.max PyProof.Rows.boot_max (Zb (Zu Zw Zx (Zdh (Zb (Xe K (Zi 2) (Zni Ze) Zkm) Zg Yn)) (Zi 4)) Zg Zz) (he:=Zz))))))⟩
theorem Xgk (F:Fun K "shows" "shows" Znm f fd)(T:Txt mg)(Dunderpaid:Def P w K mg base CX0 9 "underpaid" ["roll","kind","prices","place"] (spD K C 4 2 Dl.Zaq)):Zam P w K mg base CX0 10 f fd ["roll","table","number","prices"] (spD K C 4 2 Dl.Zfv):=by
  refine F.okC Zwx (Γ':=[]) (Δ':=[]) rfl fun cdv A outer s H E hr=>?_
  have sc:=Zwx
  have hu:_+64<cLine:=hr.units
  exact ⟨_,(Zh [] [] (Zaj (Zxv (Zmj (Xv (r:=Xhl K) (Zna hu) Zlr (Zq (r:=Jx K) Xc Xy rfl T.len PySem.boot_len (Zb (Zi 3) Zg Za) (he:=Za)) (Zq (r:=Jx K) Xc Xy rfl T.len PySem.boot_len (Zb (Zi 0) Zg Za) (he:=Za)) (Xi _)) (Zhx (Xv Zew Zbt (Zq (r:=Zss K) (Zar rfl) Zbw rfl T.sum PyProof.Rows.boot_sum (Zb (Zi 3) Zg Za) (he:=Za)) (Zi 2) (Xi _))))) (Zm (Xf Zcg)) Xx)
      (Zh [] [] (Zaj (Zdz (Zq (r:=Zsf K) (Zik rfl) Znw rfl T.any PyProof.Rows.boot_any (Zb (Jd (n:=5) (Zj Znm) ["roll","table","number","prices","kind"] ["roll","table","number","prices","kind"] ["price"] ⟨rfl,by decide +kernel,by decide +kernel,by decide +kernel,by decide +kernel,by decide +kernel,rfl,by decide +kernel⟩ (Jo (Zi 3)) (fun _ _ _ _ _=>(Xm 5 (hN:=(by decide +kernel:List.Nodup (["roll","table","number","prices","kind","price"]:List Str))))) (fun _ _ _ _ _=>Yk) (fun _ _ _ _ _=>(Zdl Zka Zeu (Zi 5 (hv:=Or.inl rfl)) Ze (Xi _)))) Zg Xo) (he:=Xo))) (Zm (Xf Zcg)) Xx)
      (Zh [] [] (Zdn [] [] PassesOwn.never rfl (Jo (Zi 1)) (Zax (i:=4) (hN:=sc.nd) (hi:=rfl) (hx:=Or.inr rfl)) (Zm (Zaj (Zdz (Zq (r:=Zsf K) (Zik rfl) Znw rfl T.any PyProof.Rows.boot_any (Zb (Jd (n:=5) (Zj Znm) ["roll","table","number","prices","kind"] ["roll","table","number","prices","kind"] ["place"] ⟨rfl,by decide +kernel,by decide +kernel,by decide +kernel,by decide +kernel,by decide +kernel,rfl,by decide +kernel⟩ (Zbz rfl T.range (Zb (Zq (r:=Jx K) Xc Xy rfl T.len PySem.boot_len (Zb (Zi 0) Zg Za) (he:=Za)) Zg Xl)) (fun _ _ _ _ _=>(Xm 5 (hN:=(by decide +kernel:List.Nodup (["roll","table","number","prices","kind","place"]:List Str))))) (fun _ _ _ _ _=>Yk) (fun _ _ _ _ _=>(Zr Dunderpaid (hr.mono (by decide)) rfl Xg (Zb (Zi 0 (hv:=Or.inr (Or.inl rfl))) (Zb (Zi 4 (hv:=Or.inr (Or.inl rfl))) (Zb (Zi 3 (hv:=Or.inr (Or.inl rfl))) (Zb (Zi 5 (hv:=Or.inl rfl)) Zg Za) Za) Za) Za) (he:=Za)))) Zg Xo) (he:=Xo))) (Zm (Xf Zcg)) Xx)))
      (Zm (Xf Zcg)))))⟩
theorem Zli (F:Fun K "_law_rolls" "_law_rolls" Zed f fd)(T:Txt mg)(D_law_roll:Def P w K mg base CX0 9 "_law_roll" ["_law_script","_law_place","_law_most","_law_flaw_here"] (spD K C 4 2 Dl.Zab)):Zam P w K mg base CX0 10 f fd ["_law_script","_law_place","_law_many","_law_most","_law_flaw_here"] (spD K C 5 2 Dl.Yh):=by
  refine F.okC Zgr (Γ':=[]) (Δ':=[]) rfl fun cdv A outer s H E hr=>?_
  have sc:=Zgr
  have hu:_+64<cLine:=hr.units
  exact ⟨_,(Zh [5] [5] (Xd (i:=5) sc.nd rfl (Or.inl rfl) (Jt Zg))
      (Zh [5] [5] (Zdn [5] [5] PassesOwn.never rfl (Zbz rfl T.range (Zb (Zi 2) Zg Za)) (Zax (i:=6) (hN:=sc.nd) (hi:=rfl) (hx:=Or.inl rfl)) (Zm (Zcu (i:=5) (he:=(Zr D_law_roll (hr.mono (by decide)) rfl Xg (Zb (Zi 0) (Zb (Zu Zw Zx (Zi 1) (Zi 6)) (Zb (Zi 3) (Zb (Zi 4) Zg Za) Za) Zz) Za) (he:=Za))) (hse:=Xl))))
      (Zm (Xf (Zit 5)))))⟩
theorem Zxq (F:Fun K "heights" "heights" Zkd f fd)(T:Txt mg)(Dnext_top:Def P w K mg base CX0 10 "next_top" ["roll","table","tops"] (spD K C 3 2 Dl.Zcf)):Zam P w K mg base CX0 11 f fd ["roll","table"] (spD K C 2 2 Dl.Ja):=by
  refine F.okC Zmq (Γ':=[]) (Δ':=[]) rfl fun cdv A outer s H E hr=>?_
  have sc:=Zmq
  have hu:_+64<cLine:=hr.units
  exact ⟨_,(Zh [2] [2] (Xd (i:=2) sc.nd rfl (Or.inl rfl) (Jt (Zl Ze Zg Zf)))
      (Zh [2] [2] (Xcg 100000 PassesOwn.never (Xv Zor Zhm (Zq (r:=Jx K) Xc Xy rfl T.len PySem.boot_len (Zb (Zi 2) Zg Za) (he:=Za)) (Zq (r:=Jx K) Xc Xy rfl T.len PySem.boot_len (Zb (Zi 0) Zg Za) (he:=Za)) (Xi _)) (Zm (Zcu (i:=2) (he:=(Zr Dnext_top (hr.mono (by decide)) rfl Xg (Zb (Zi 0) (Zb (Zi 1) (Zb (Zi 2) Zg Za) Za) Za) (he:=Za))) (hse:=Xl))))
      (Zm (Xf (Zit 2)))))⟩
theorem Zro (F:Fun K "all_show" "all_show" Zfg f fd)(T:Txt mg)(Dshows:Def P w K mg base CX0 10 "shows" ["roll","table","number","prices"] (spD K C 4 2 Dl.Zfv)):Zam P w K mg base CX0 11 f fd ["rolls","table","lists"] (spD K C 3 2 Dl.Zag):=by
  refine F.okC Zjo (Γ':=[]) (Δ':=[]) rfl fun cdv A outer s H E hr=>?_
  have sc:=Zjo
  have hu:_+64<cLine:=hr.units
  exact ⟨_,(Zh [] [] (Zaj (Xv (r:=Xhl K) (Zna hu) Zlr (Zq (r:=Jx K) Xc Xy rfl T.len PySem.boot_len (Zb (Zi 2) Zg Za) (he:=Za)) (Zq (r:=Jx K) Xc Xy rfl T.len PySem.boot_len (Zb (Zi 0) Zg Za) (he:=Za)) (Xi _)) (Zm (Xf Zcg)) Xx)
      (Zm (Xf (Zq (r:=Zun K) (Zlv rfl) Zvz rfl T.all PyProof.Rows.boot_all (Zb (Jd (n:=3) (Zj Zfg) ["rolls","table","lists"] ["rolls","table","lists"] ["roll","some"] ⟨rfl,by decide +kernel,by decide +kernel,by decide +kernel,by decide +kernel,by decide +kernel,rfl,by decide +kernel⟩ (Zjn rfl T.zip (Zi 0) (Zi 2) Za Za) (fun _ _ _ _ _=>(Zil K (Je (Xm 3 (hN:=(by decide +kernel:List.Nodup (["rolls","table","lists","roll","some"]:List Str)))) (Je (Xm 4 (hN:=(by decide +kernel:List.Nodup (["rolls","table","lists","roll","some"]:List Str)))) Zej)))) (fun _ _ _ _ _=>Yk) (fun _ _ _ _ _=>(Zr Dshows (hr.mono (by decide)) rfl Xg (Zb (Zi 3 (hv:=Or.inl rfl)) (Zb (Zi 1 (hv:=Or.inr (Or.inl rfl))) (Zb (Zq (r:=Zss K) (Zar rfl) Zbw rfl T.sum PyProof.Rows.boot_sum (Zb (Zi 4 (hv:=Or.inl rfl)) Zg Za) (he:=Za)) (Zb (Zi 4 (hv:=Or.inl rfl)) Zg Za) Xl) Za) Za) (he:=Za)))) Zg Xo) (he:=Xo)))))⟩
theorem Xay (F:Fun K "prices" "prices" Zjs f fd)(T:Txt mg)(Dheights:Def P w K mg base CX0 11 "heights" ["roll","table"] (spD K C 2 2 Dl.Ja)):Zam P w K mg base CX0 12 f fd ["roll","table"] (spD K C 2 2 Dl.Zba):=by
  refine F.okC Zrc (Γ':=[]) (Δ':=[]) rfl fun cdv A outer s H E hr=>?_
  have sc:=Zrc
  have hu:_+64<cLine:=hr.units
  exact ⟨_,(Zh [2] [2] (Xd (i:=2) sc.nd rfl (Or.inr rfl) (Zr Dheights (hr.mono (by decide)) rfl Xg (Zb (Zi 0) (Zb (Zi 1) Zg Za) Za) (he:=Za)))
      (Zm (Xf (Jd (n:=3) (Zj Zjs) ["roll","table","tops"] ["roll","table","tops"] ["cell"] ⟨rfl,by decide +kernel,by decide +kernel,by decide +kernel,by decide +kernel,by decide +kernel,rfl,by decide +kernel⟩ (Zbz rfl T.range (Zb (Zq (r:=Jx K) Xc Xy rfl T.len PySem.boot_len (Zb (Zi 0) Zg Za) (he:=Za)) Zg Xl)) (fun _ _ _ _ _=>(Xm 3 (hN:=(by decide +kernel:List.Nodup (["roll","table","tops","cell"]:List Str))))) (fun _ _ _ _ _=>Yk) (fun _ _ _ _ _=>(Zu Zja Zfz (Xe K (Zi 2 (hv:=Or.inr (Or.inl rfl))) (Zu Zw Zx (Zi 3 (hv:=Or.inl rfl)) Ze) plain_bin) (Xe K (Zi 2 (hv:=Or.inr (Or.inl rfl))) (Zi 3 (hv:=Or.inl rfl)) Ym)))))))⟩
theorem Zrt (F:Fun K "floor_by" "floor_by" Zfb f fd)(T:Txt mg)(Dpointed:Def P w K mg base CX0 7 "pointed" ["table","points"] (spD K C 2 2 Dl.Yw))(Dfewest:Def P w K mg base CX0 7 "fewest" ["sums","needed"] (spD K C 2 2 Dl.Zbc))(Dtogether:Def P w K mg base CX0 7 "together" ["order","some"] (spD K C 2 2 Dl.Yl))(Dheights:Def P w K mg base CX0 11 "heights" ["roll","table"] (spD K C 2 2 Dl.Ja)):Zam P w K mg base CX0 12 f fd ["rolls","table","order","points"] (spD K C 4 2 Dl.Zae):=by
  refine F.okC Zjl (Γ':=[]) (Δ':=[]) rfl fun cdv A outer s H E hr=>?_
  have sc:=Zjl
  have hu:_+64<cLine:=hr.units
  exact ⟨_,(Zh [4] [4] (Xd (i:=4) sc.nd rfl (Or.inr rfl) (Zr Dpointed (hr.mono (by decide)) rfl Xg (Zb (Zi 1) (Zb (Zi 3) Zg Za) Za) (he:=Za)))
      (Zm (Xf (Zr Dfewest (hr.mono (by decide)) rfl Xg (Zb (Jd (n:=5) (Zj Zfb) ["rolls","table","order","points","kinds"] ["rolls","table","order","points","kinds"] ["roll"] ⟨rfl,by decide +kernel,by decide +kernel,by decide +kernel,by decide +kernel,by decide +kernel,rfl,by decide +kernel⟩ (Jo (Zi 0)) (fun _ _ _ _ _=>(Xm 5 (hN:=(by decide +kernel:List.Nodup (["rolls","table","order","points","kinds","roll"]:List Str))))) (fun _ _ _ _ _=>Yk) (fun _ _ _ _ _=>(Xs (Xe K (Zr Dheights (hr.mono (by decide)) rfl Xg (Zb (Zi 5 (hv:=Or.inl rfl)) (Zb (Zi 4 (hv:=Or.inr (Or.inl rfl))) Zg Za) Za) (he:=Za)) (Zni Ze) Zkm)))) (Zb (Zr Dtogether (hr.mono (by decide)) rfl Xg (Zb (Zi 2) (Zb (Zi 3) Zg Za) Za) (he:=Za)) Zg Xl) Xo) (he:=Xo)))))⟩
theorem Zkf (F:Fun K "shows_floor" "shows_floor" Zbq f fd)(T:Txt mg)(Dfewest:Def P w K mg base CX0 7 "fewest" ["sums","needed"] (spD K C 2 2 Dl.Zbc))(Dare_points:Def P w K mg base CX0 7 "are_points" ["table","points"] (spD K C 2 2 Dl.Zas))(Dall_show:Def P w K mg base CX0 11 "all_show" ["rolls","table","lists"] (spD K C 3 2 Dl.Zag))(Dtogether:Def P w K mg base CX0 7 "together" ["order","some"] (spD K C 2 2 Dl.Yl))(Dpointed:Def P w K mg base CX0 7 "pointed" ["table","points"] (spD K C 2 2 Dl.Yw)):Zam P w K mg base CX0 12 f fd ["rolls","table","order","number","paper"] (spD K C 5 2 Dl.Zal):=by
  refine F.okC Zfi (Γ':=[]) (Δ':=[]) rfl fun cdv A outer s H E hr=>?_
  have sc:=Zfi
  have hu:_+64<cLine:=hr.units
  exact ⟨_,(Zh [] [] (Zvu (i:=5) sc.nd rfl (Or.inl rfl) (Xe K (Zi 4) Ze Zk))
      (Zh [] [] (Zaj (Zxv (Zmj (Zmh (Zdz (Zr Dare_points (hr.mono (by decide)) rfl Xg (Zb (Zi 1) (Zb (Zi 5) Zg Za) Za) (he:=Za)))) (Zhx (Zmh (Zdz (Zr Dall_show (hr.mono (by decide)) rfl Xg (Zb (Zi 0) (Zb (Zr Dpointed (hr.mono (by decide)) rfl Xg (Zb (Zi 1) (Zb (Zi 5) Zg Za) Za) (he:=Za)) (Zb (Xe K (Zi 4) Ze Zk) Zg Yn) Xl) Za) (he:=Za))))))) (Zm (Xf Zcg)) Xx)
      (Zh [6] [6] (Zfx (i:=6) (n:=7) (Zj Zbq) ["rolls","table","order","number","paper","points","sums"] ["rolls","table","order","number","paper","points","sums"] ["some"] ⟨rfl,by decide +kernel,by decide +kernel,by decide +kernel,by decide +kernel,by decide +kernel,rfl,by decide +kernel⟩ rfl rfl (Jo (Xe K (Zi 4) Ze Zk)) (fun _ _ _ _ _=>(Xm 7 (hN:=(by decide +kernel:List.Nodup (["rolls","table","order","number","paper","points","sums","some"]:List Str))))) (fun _ _ _ _ _=>Yk) (fun _ _ _ _ _=>(Zq (r:=Zss K) (Zar rfl) Zbw rfl T.sum PyProof.Rows.boot_sum (Zb (Zi 7 (hv:=Or.inl rfl)) Zg Za) (he:=Za))))
      (Zm (Xf (Zdl Zor Zhm (Zi 3) (Zr Dfewest (hr.mono (by decide)) rfl Xg (Zb (Zi 6) (Zb (Zr Dtogether (hr.mono (by decide)) rfl Xg (Zb (Zi 2) (Zb (Zi 5) Zg Za) Za) (he:=Za)) Zg Xl) Za) (he:=Za)) (Xi _)))))))⟩
theorem Zmp (F:Fun K "ceiling_by" "ceiling_by" Zcp f fd)(T:Txt mg)(Drebated:Def P w K mg base CX0 8 "rebated" ["table","rebates"] (spD K C 2 2 Dl.Zak))(Dtogether:Def P w K mg base CX0 7 "together" ["order","some"] (spD K C 2 2 Dl.Yl))(Dheights:Def P w K mg base CX0 11 "heights" ["roll","table"] (spD K C 2 2 Dl.Ja)):Zam P w K mg base CX0 12 f fd ["rolls","table","order","rebates"] (spD K C 4 2 Dl.Jg):=by
  refine F.okC Zgq (Γ':=[]) (Δ':=[]) rfl fun cdv A outer s H E hr=>?_
  have sc:=Zgq
  have hu:_+64<cLine:=hr.units
  exact ⟨_,(Zh [4] [4] (Xd (i:=4) sc.nd rfl (Or.inr rfl) (Zr Drebated (hr.mono (by decide)) rfl Xg (Zb (Zi 1) (Zb (Zi 3) Zg Za) Za) (he:=Za)))
      (Zm (Xf (Zu Zw Zx (Zq (r:=Zss K) (Zar rfl) Zbw rfl T.sum PyProof.Rows.boot_sum (Zb (Jd (n:=5) (Zj Zcp) ["rolls","table","order","rebates","kinds"] ["rolls","table","order","rebates","kinds"] ["roll"] ⟨rfl,by decide +kernel,by decide +kernel,by decide +kernel,by decide +kernel,by decide +kernel,rfl,by decide +kernel⟩ (Jo (Zi 0)) (fun _ _ _ _ _=>(Xm 5 (hN:=(by decide +kernel:List.Nodup (["rolls","table","order","rebates","kinds","roll"]:List Str))))) (fun _ _ _ _ _=>Yk) (fun _ _ _ _ _=>(Xs (Xe K (Zr Dheights (hr.mono (by decide)) rfl Xg (Zb (Zi 5 (hv:=Or.inl rfl)) (Zb (Zi 4 (hv:=Or.inr (Or.inl rfl))) Zg Za) Za) (he:=Za)) (Zni Ze) Zkm)))) Zg Xo) (he:=Xo)) (Zr Dtogether (hr.mono (by decide)) rfl Xg (Zb (Zi 2) (Zb (Zi 3) Zg Za) Za) (he:=Za))))))⟩
theorem Zip (F:Fun K "shows_ceiling" "shows_ceiling" Jy f fd)(T:Txt mg)(Dall_show:Def P w K mg base CX0 11 "all_show" ["rolls","table","lists"] (spD K C 3 2 Dl.Zag))(Drebated:Def P w K mg base CX0 8 "rebated" ["table","rebates"] (spD K C 2 2 Dl.Zak))(Dtogether:Def P w K mg base CX0 7 "together" ["order","some"] (spD K C 2 2 Dl.Yl)):Zam P w K mg base CX0 12 f fd ["rolls","table","order","number","paper"] (spD K C 5 2 Dl.Jk):=by
  refine F.okC Zdg (Γ':=[]) (Δ':=[]) rfl fun cdv A outer s H E hr=>?_
  have sc:=Zdg
  have hu:_+64<cLine:=hr.units
  exact ⟨_,(Zh [] [] (Zvu (i:=5) sc.nd rfl (Or.inl rfl) (Xe K (Zi 4) Ze Zk))
      (Zh [] [] (Zaj (Zxv (Zmj (Xv (r:=Xhl K) (Zna hu) Zlr (Zq (r:=Jx K) Xc Xy rfl T.len PySem.boot_len (Zb (Zi 5) Zg Za) (he:=Za)) (Zq (r:=Jx K) Xc Xy rfl T.len PySem.boot_len (Zb (Zi 1) Zg Za) (he:=Za)) (Xi _)) (Zhx (Zdz (Zq (r:=Zsf K) (Zik rfl) Znw rfl T.any PyProof.Rows.boot_any (Zb (Jd (n:=6) (Zj Jy) ["rolls","table","order","number","paper","rebates"] ["rolls","table","order","number","paper","rebates"] ["rebate"] ⟨rfl,by decide +kernel,by decide +kernel,by decide +kernel,by decide +kernel,by decide +kernel,rfl,by decide +kernel⟩ (Jo (Zi 5)) (fun _ _ _ _ _=>(Xm 6 (hN:=(by decide +kernel:List.Nodup (["rolls","table","order","number","paper","rebates","rebate"]:List Str))))) (fun _ _ _ _ _=>Yk) (fun _ _ _ _ _=>(Zdl Zka Zeu (Zi 6 (hv:=Or.inl rfl)) Ze (Xi _)))) Zg Xo) (he:=Xo)))))) (Zm (Xf Zcg)) Xx)
      (Zh [] [] (Zaj (Zmh (Zdz (Zr Dall_show (hr.mono (by decide)) rfl Xg (Zb (Zi 0) (Zb (Zr Drebated (hr.mono (by decide)) rfl Xg (Zb (Zi 1) (Zb (Zi 5) Zg Za) Za) (he:=Za)) (Zb (Xe K (Zi 4) Ze Zk) Zg Yn) Xl) Za) (he:=Za)))) (Zm (Xf Zcg)) Xx)
      (Zm (Xf (Zdl Zor Zhm (Zu Zw Zx (Zq (r:=Zss K) (Zar rfl) Zbw rfl T.sum PyProof.Rows.boot_sum (Zb (Jd (n:=6) (Zj Jy) ["rolls","table","order","number","paper","rebates"] ["rolls","table","order","number","paper","rebates"] ["some"] ⟨rfl,by decide +kernel,by decide +kernel,by decide +kernel,by decide +kernel,by decide +kernel,rfl,by decide +kernel⟩ (Jo (Xe K (Zi 4) Ze Zk)) (fun _ _ _ _ _=>(Xm 6 (hN:=(by decide +kernel:List.Nodup (["rolls","table","order","number","paper","rebates","some"]:List Str))))) (fun _ _ _ _ _=>Yk) (fun _ _ _ _ _=>(Zq (r:=Zss K) (Zar rfl) Zbw rfl T.sum PyProof.Rows.boot_sum (Zb (Zi 6 (hv:=Or.inl rfl)) Zg Za) (he:=Za)))) Zg Xo) (he:=Xo)) (Zr Dtogether (hr.mono (by decide)) rfl Xg (Zb (Zi 2) (Zb (Zi 5) Zg Za) Za) (he:=Za))) (Zi 3) (Xi _)))))))⟩
theorem Xhh (F:Zys K "floor" "floor" Zpf f fd c)(T:Txt mg)(B:BMod base mg)(hd:CodeHd base c P1)(Dpoints_to_try:Def P w K mg base CX0 8 "points_to_try" ["table","order"] (spD K C 2 0 Dl.Jj))(Dpointed:Def P w K mg base CX0 7 "pointed" ["table","points"] (spD K C 2 2 Dl.Yw))(Dprices:Def P w K mg base CX0 12 "prices" ["roll","table"] (spD K C 2 2 Dl.Zba))(Dfloor_by:Def P w K mg base CX0 12 "floor_by" ["rolls","table","order","points"] (spD K C 4 2 Dl.Zae)):Zam P w K mg base CX0 15 f fd ["rolls","table","order"] (spL (tsL P1 P2) (spD K C 3 2 Dl.Ju)):=by
  refine F.okL Zve (Γ':=[]) (Δ':=[]) rfl fun A outer s H E hr hL=>?_
  have sc:=Zve
  have hu:_+64<cLine:=hr.units
  exact ⟨_,(Zpk (i:=3) (j:=4) [] [] [4] [4] sc.nd rfl (Or.inl rfl) rfl (Or.inl rfl) (Zr Dpoints_to_try (hr.mono (by decide)) rfl Xg (Zb (Zi 1) (Zb (Zi 2) Zg Za) Za) (he:=Za)) (Xgd rfl T.max (Zi 3) (Xes (js:=[0,1,2]) (N:=["some","rolls","table","order"]) (p:=("some":Str)) (P:=P1) (qual:=("floor.<locals>.<lambda>":Str)) B (hL (P1,⟨77,28,77,76⟩,("floor.<locals>.<lambda>":Str)) (.head _)) hd (hr.mono (by decide:1≤_)) rfl rfl (List.forall_mem_cons.mpr ⟨rfl,List.forall_mem_cons.mpr ⟨rfl,List.forall_mem_cons.mpr ⟨rfl,fun _ z=>nomatch z⟩⟩⟩) (List.forall_mem_cons.mpr ⟨⟨_,rfl⟩,List.forall_mem_cons.mpr ⟨⟨_,rfl⟩,List.forall_mem_cons.mpr ⟨⟨_,rfl⟩,fun _ z=>nomatch z⟩⟩⟩) rfl (List.forall_mem_cons.mpr ⟨⟨Or.inr (Or.inl rfl),Zft rfl⟩,List.forall_mem_cons.mpr ⟨⟨Or.inr (Or.inl rfl),Zft rfl⟩,List.forall_mem_cons.mpr ⟨⟨Or.inr (Or.inl rfl),Zft rfl⟩,fun _ z=>nomatch z⟩⟩⟩)) (fun _ _ _ _=>(Zr Dfloor_by ((Zpy hr _).mono (by decide)) rfl Xg (Zb (Zi 1 (hv:=Or.inr (Or.inr rfl))) (Zb (Zi 2 (hv:=Or.inr (Or.inr rfl))) (Zb (Zi 3 (hv:=Or.inr (Or.inr rfl))) (Zb (Zi 0 (hv:=Or.inl rfl)) Zg Za) Za) Za) Za) (he:=Za))) Za)
      (Zh [4,5] [4,5] (Xd (i:=5) sc.nd rfl (Or.inr rfl) (Zr Dpointed (hr.mono (by decide)) rfl Xg (Zb (Zi 1) (Zb (Zi 4) Zg Za) Za) (he:=Za)))
      (Zh [4,5,6] [4,5,6] (Zfx (i:=6) (n:=7) (Zj Zpf) ["rolls","table","order","tries","points","kinds","lists"] ["rolls","table","order","tries","points","kinds","lists"] ["roll"] ⟨rfl,by decide +kernel,by decide +kernel,by decide +kernel,by decide +kernel,by decide +kernel,rfl,by decide +kernel⟩ rfl rfl (Jo (Zi 0)) (fun _ _ _ _ _=>(Xm 7 (hN:=(by decide +kernel:List.Nodup (["rolls","table","order","tries","points","kinds","lists","roll"]:List Str))))) (fun _ _ _ _ _=>Yk) (fun _ _ _ _ _=>(Zr Dprices (hr.mono (by decide)) rfl Xg (Zb (Zi 7 (hv:=Or.inl rfl)) (Zb (Zi 5 (hv:=Or.inr (Or.inl rfl))) Zg Za) Za) (he:=Za))))
      (Zm (Xf (Zje (Zbp [(4,false),(6,false)] (Zr Dfloor_by (hr.mono (by decide)) rfl Xg (Zb (Zi 0) (Zb (Zi 1) (Zb (Zi 2) (Zb (Zi 4) Zg Za) Za) Za) Za) (he:=Za)) (Zbp [(4,false),(6,false)] (Zje (Zbp [(4,false),(6,false)] (Zit 4) (Zbp [(6,false)] (Zit 6) Zg Za) Za)) Zg Zku) Xl)))))))⟩
theorem Zuk (F:Zys K "ceiling" "ceiling" Zhg f fd c)(T:Txt mg)(B:BMod base mg)(hd:CodeHd base c P2)(Drebates_to_try:Def P w K mg base CX0 7 "rebates_to_try" ["table","order"] (spD K C 2 0 Dl.Yx))(Drebated:Def P w K mg base CX0 8 "rebated" ["table","rebates"] (spD K C 2 2 Dl.Zak))(Dprices:Def P w K mg base CX0 12 "prices" ["roll","table"] (spD K C 2 2 Dl.Zba))(Dceiling_by:Def P w K mg base CX0 12 "ceiling_by" ["rolls","table","order","rebates"] (spD K C 4 2 Dl.Jg)):Zam P w K mg base CX0 15 f fd ["rolls","table","order"] (spL (tsL P1 P2) (spD K C 3 2 Dl.Xr)):=by
  refine F.okL Zmw (Γ':=[]) (Δ':=[]) rfl fun A outer s H E hr hL=>?_
  have sc:=Zmw
  have hu:_+64<cLine:=hr.units
  exact ⟨_,(Zpk (i:=3) (j:=4) [] [] [4] [4] sc.nd rfl (Or.inl rfl) rfl (Or.inl rfl) (Zr Drebates_to_try (hr.mono (by decide)) rfl Xg (Zb (Zi 1) (Zb (Zi 2) Zg Za) Za) (he:=Za)) (Xfw rfl T.min (Zi 3) (Xes (js:=[0,1,2]) (N:=["some","rolls","table","order"]) (p:=("some":Str)) (P:=P2) (qual:=("ceiling.<locals>.<lambda>":Str)) B (hL (P2,⟨106,29,106,79⟩,("ceiling.<locals>.<lambda>":Str)) (.tail _ (.head _))) hd (hr.mono (by decide:1≤_)) rfl rfl (List.forall_mem_cons.mpr ⟨rfl,List.forall_mem_cons.mpr ⟨rfl,List.forall_mem_cons.mpr ⟨rfl,fun _ z=>nomatch z⟩⟩⟩) (List.forall_mem_cons.mpr ⟨⟨_,rfl⟩,List.forall_mem_cons.mpr ⟨⟨_,rfl⟩,List.forall_mem_cons.mpr ⟨⟨_,rfl⟩,fun _ z=>nomatch z⟩⟩⟩) rfl (List.forall_mem_cons.mpr ⟨⟨Or.inr (Or.inl rfl),Zft rfl⟩,List.forall_mem_cons.mpr ⟨⟨Or.inr (Or.inl rfl),Zft rfl⟩,List.forall_mem_cons.mpr ⟨⟨Or.inr (Or.inl rfl),Zft rfl⟩,fun _ z=>nomatch z⟩⟩⟩)) (fun _ _ _ _=>(Zr Dceiling_by ((Zpy hr _).mono (by decide)) rfl Xg (Zb (Zi 1 (hv:=Or.inr (Or.inr rfl))) (Zb (Zi 2 (hv:=Or.inr (Or.inr rfl))) (Zb (Zi 3 (hv:=Or.inr (Or.inr rfl))) (Zb (Zi 0 (hv:=Or.inl rfl)) Zg Za) Za) Za) Za) (he:=Za))) Za)
      (Zh [4,5] [4,5] (Xd (i:=5) sc.nd rfl (Or.inr rfl) (Zr Drebated (hr.mono (by decide)) rfl Xg (Zb (Zi 1) (Zb (Zi 4) Zg Za) Za) (he:=Za)))
      (Zh [4,5,6] [4,5,6] (Zfx (i:=6) (n:=7) (Zj Zhg) ["rolls","table","order","tries","rebates","kinds","lists"] ["rolls","table","order","tries","rebates","kinds","lists"] ["roll"] ⟨rfl,by decide +kernel,by decide +kernel,by decide +kernel,by decide +kernel,by decide +kernel,rfl,by decide +kernel⟩ rfl rfl (Jo (Zi 0)) (fun _ _ _ _ _=>(Xm 7 (hN:=(by decide +kernel:List.Nodup (["rolls","table","order","tries","rebates","kinds","lists","roll"]:List Str))))) (fun _ _ _ _ _=>Yk) (fun _ _ _ _ _=>(Zr Dprices (hr.mono (by decide)) rfl Xg (Zb (Zi 7 (hv:=Or.inl rfl)) (Zb (Zi 5 (hv:=Or.inr (Or.inl rfl))) Zg Za) Za) (he:=Za))))
      (Zm (Xf (Zje (Zbp [(4,false),(6,false)] (Zr Dceiling_by (hr.mono (by decide)) rfl Xg (Zb (Zi 0) (Zb (Zi 1) (Zb (Zi 2) (Zb (Zi 4) Zg Za) Za) Za) Za) (he:=Za)) (Zbp [(4,false),(6,false)] (Zje (Zbp [(4,false),(6,false)] (Zit 4) (Zbp [(6,false)] (Zit 6) Zg Za) Za)) Zg Zku) Xl)))))))⟩
theorem Zkk (F:Fun K "_law_papers" "_law_papers" Zda f fd)(T:Txt mg)(Dfloor:Def P w K mg base CX0 15 "floor" ["rolls","table","order"] (spL (tsL P1 P2) (spD K C 3 2 Dl.Ju)))(Dceiling:Def P w K mg base CX0 15 "ceiling" ["rolls","table","order"] (spL (tsL P1 P2) (spD K C 3 2 Dl.Xr)))(Dshows_floor:Def P w K mg base CX0 12 "shows_floor" ["rolls","table","order","number","paper"] (spD K C 5 2 Dl.Zal))(Dshows_ceiling:Def P w K mg base CX0 12 "shows_ceiling" ["rolls","table","order","number","paper"] (spD K C 5 2 Dl.Jk)):Zam P w K mg base CX0 16 f fd ["_law_rolls_here","_law_table_here","_law_order_here"] (spL (tsL P1 P2) (spD K C 3 2 Dl.Zai)):=by
  refine F.okL Zfd (Γ':=[]) (Δ':=[]) rfl fun cdv A outer s H E hr hL=>?_
  have sc:=Zfd
  have hu:_+64<cLine:=hr.units
  exact ⟨_,(Zh [3,4] [3,4] (Zmg rfl (Yo Dfloor (hr.mono (by decide)) rfl Xg hL (Zb (Zi 0) (Zb (Zi 1) (Zb (Zi 2) Zg Za) Za) Za) (he:=Za)) (Zkp (i:=3) sc.nd rfl (Or.inl rfl) (Zkp (i:=4) sc.nd rfl (Or.inl rfl) Xef)))
      (Zh [4] [4] (Zdn [4] [4] PassesOwn.never rfl (Xel (Zxa (Zb (Zi 3) (Zb (Zu Zja Zfz (Zi 3) Ze) (Zb Ze (Zb (Zni Ze) Zg Xis) Zf) Zz) Za))) (Zax (i:=5) (hN:=sc.nd) (hi:=rfl) (hx:=Or.inl rfl)) (Zm (Zaj (Xv Zwc Zme (Zr Dshows_floor (hr.mono (by decide)) rfl Xg (Zb (Zi 0) (Zb (Zi 1) (Zb (Zi 2) (Zb (Zi 5) (Zb (Zi 4) Zg Za) Za) Za) Za) Za) (he:=Za)) Zcg (Xi _)) (Zm (Xf Zcg)) Xx)))
      (Zh [4,6,7] [4,6,7] (Zmg rfl (Yo Dceiling (hr.mono (by decide)) rfl Xg hL (Zb (Zi 0) (Zb (Zi 1) (Zb (Zi 2) Zg Za) Za) Za) (he:=Za)) (Zkp (i:=6) sc.nd rfl (Or.inl rfl) (Zkp (i:=7) sc.nd rfl (Or.inl rfl) Xef)))
      (Zh [4,7] [4,7] (Zdn [4,7] [4,7] PassesOwn.never rfl (Xel (Zxa (Zb (Zi 6) (Zb (Zu Zw Zx (Zi 6) Ze) (Zb (Zu Zw Zx (Zi 6) (Zu Zdv Zca Ze Ze)) Zg Zz) Zz) Za))) (Zax (i:=5) (hN:=sc.nd) (hi:=rfl) (hx:=Or.inl rfl)) (Zm (Zaj (Xv Zwc Zme (Zr Dshows_ceiling (hr.mono (by decide)) rfl Xg (Zb (Zi 0) (Zb (Zi 1) (Zb (Zi 2) (Zb (Zi 5) (Zb (Zi 7) Zg Za) Za) Za) Za) Za) (he:=Za)) Zcg (Xi _)) (Zm (Xf Zcg)) Xx)))
      (Zm (Xf Zcg))))))⟩
theorem Zfo (F:Fun K "_law_more_rolls" "_law_more_rolls" Zav f fd)(T:Txt mg)(Dfloor:Def P w K mg base CX0 15 "floor" ["rolls","table","order"] (spL (tsL P1 P2) (spD K C 3 2 Dl.Ju)))(Dceiling:Def P w K mg base CX0 15 "ceiling" ["rolls","table","order"] (spL (tsL P1 P2) (spD K C 3 2 Dl.Xr))):Zam P w K mg base CX0 16 f fd ["_law_rolls_here","_law_table_here","_law_order_here","_law_roll_here"] (spL (tsL P1 P2) (spD K C 4 2 Dl.Yq)):=by
  refine F.okL Zce (Γ':=[]) (Δ':=[]) rfl fun cdv A outer s H E hr hL=>?_
  have sc:=Zce
  have hu:_+64<cLine:=hr.units
  exact ⟨_,(Zh [4] [4] (Xd (i:=4) sc.nd rfl (Or.inl rfl) (Xs (Xe K (Yo Dfloor (hr.mono (by decide)) rfl Xg hL (Zb (Zi 0) (Zb (Zi 1) (Zb (Zi 2) Zg Za) Za) Za) (he:=Za)) Ze Zk)))
      (Zh [4,5] [4,5] (Xd (i:=5) sc.nd rfl (Or.inl rfl) (Xs (Xe K (Yo Dfloor (hr.mono (by decide)) rfl Xg hL (Zb (Ztk (Zi 0) (Zdh (Zb (Zi 3) Zg Za))) (Zb (Zi 1) (Zb (Zi 2) Zg Za) Za) Zz) (he:=Zz)) Ze Zk)))
      (Zh [4,5] [4,5] (Zaj (Zxv (Zwy (Xv Zew Zbt (Zi 5) (Zi 4) (Xi _)) (Zog (Zxv (Zmj (Xv Zor Zhm (Zi 4) (Zq (r:=Jx K) Xc Xy rfl T.len PySem.boot_len (Zb (Zi 0) Zg Za) (he:=Za)) (Xi _)) (Zhx (Xv Zew Zbt (Zi 5) (Zu Zw Zx (Zq (r:=Jx K) Xc Xy rfl T.len PySem.boot_len (Zb (Zi 0) Zg Za) (he:=Za)) Ze) (Xi _)))))))) (Zm (Xf Zcg)) Xx)
      (Zm (Xf (Zdl Xjc Ztc (Xe K (Yo Dceiling (hr.mono (by decide)) rfl Xg hL (Zb (Ztk (Zi 0) (Zdh (Zb (Zi 3) Zg Za))) (Zb (Zi 1) (Zb (Zi 2) Zg Za) Za) Zz) (he:=Zz)) Ze Zk) (Xe K (Yo Dceiling (hr.mono (by decide)) rfl Xg hL (Zb (Zi 0) (Zb (Zi 1) (Zb (Zi 2) Zg Za) Za) Za) (he:=Za)) Ze Zk) (Xi _)))))))⟩
theorem Zfc (F:Fun K "_law_more_wanted" "_law_more_wanted" Zao f fd)(T:Txt mg)(Dfloor:Def P w K mg base CX0 15 "floor" ["rolls","table","order"] (spL (tsL P1 P2) (spD K C 3 2 Dl.Ju)))(Dceiling:Def P w K mg base CX0 15 "ceiling" ["rolls","table","order"] (spL (tsL P1 P2) (spD K C 3 2 Dl.Xr))):Zam P w K mg base CX0 16 f fd ["_law_rolls_here","_law_table_here","_law_order_here","_law_at"] (spL (tsL P1 P2) (spD K C 4 2 Dl.Yb)):=by
  refine F.okL Zbr (Γ':=[]) (Δ':=[]) rfl fun cdv A outer s H E hr hL=>?_
  have sc:=Zbr
  have hu:_+64<cLine:=hr.units
  exact ⟨_,(Zh [4] [4] (Xd (i:=4) sc.nd rfl (Or.inl rfl) (Ztr (r:=Zur K) (Zsg rfl) Xaw rfl T.list PyProof.Rows.boot_list (Zb (Zi 2) Zg Za) (he:=Za)))
      (Zh [4] [4] (Xkm (i:=4) (he:=(Zu Zw Zx (Xe K (Zi 4) (Zi 3) Ym) Ze)) (hk:=(Zi 3)))
      (Zh [4,5] [4,5] (Xd (i:=5) sc.nd rfl (Or.inl rfl) (Zdl Zka Zeu (Xe K (Yo Dfloor (hr.mono (by decide)) rfl Xg hL (Zb (Zi 0) (Zb (Zi 1) (Zb (Zi 4) Zg Za) Za) Za) (he:=Za)) Ze Zk) (Xe K (Yo Dfloor (hr.mono (by decide)) rfl Xg hL (Zb (Zi 0) (Zb (Zi 1) (Zb (Zi 2) Zg Za) Za) Za) (he:=Za)) Ze Zk) (Xi _)))
      (Zh [4,5] [4,5] (Zaj (Zxv (Zwy (Xv Zew Zbt (Xe K (Zi 2) (Zi 3) Ym) Ze (Xi _)) (Zog (Zdz (Zi 5))))) (Zm (Xf Zcg)) Xx)
      (Zm (Xf (Zdl Xjc Ztc (Xe K (Yo Dceiling (hr.mono (by decide)) rfl Xg hL (Zb (Zi 0) (Zb (Zi 1) (Zb (Zi 4) Zg Za) Za) Za) (he:=Za)) Ze Zk) (Xe K (Yo Dceiling (hr.mono (by decide)) rfl Xg hL (Zb (Zi 0) (Zb (Zi 1) (Zb (Zi 2) Zg Za) Za) Za) (he:=Za)) Ze Zk) (Xi _))))))))⟩
theorem oklaw (F:Fun K "law" "law" Xjq f fd)(T:Txt mg)(D_law_table:Def P w K mg base CX0 9 "_law_table" ["_law_script","_law_place","_law_most"] (spD K C 3 2 Dl.Zat))(D_law_row:Def P w K mg base CX0 8 "_law_row" ["_law_script","_law_place","_law_sizes"] (spD K C 3 2 Dl.Yc))(D_law_flaw:Def P w K mg base CX0 9 "_law_flaw" ["_law_script","_law_place","_law_most"] (spD K C 3 2 Dl.Zbj))(D_law_rolls:Def P w K mg base CX0 10 "_law_rolls" ["_law_script","_law_place","_law_many","_law_most","_law_flaw_here"] (spD K C 5 2 Dl.Yh))(D_law_order:Def P w K mg base CX0 9 "_law_order" ["_law_script","_law_place","_law_count","_law_most"] (spD K C 4 2 Dl.Zaf))(D_law_papers:Def P w K mg base CX0 16 "_law_papers" ["_law_rolls_here","_law_table_here","_law_order_here"] (spL (tsL P1 P2) (spD K C 3 2 Dl.Zai)))(D_law_more_rolls:Def P w K mg base CX0 16 "_law_more_rolls" ["_law_rolls_here","_law_table_here","_law_order_here","_law_roll_here"] (spL (tsL P1 P2) (spD K C 4 2 Dl.Yq)))(D_law_more_wanted:Def P w K mg base CX0 16 "_law_more_wanted" ["_law_rolls_here","_law_table_here","_law_order_here","_law_at"] (spL (tsL P1 P2) (spD K C 4 2 Dl.Yb)))(Dturned:Def P w K mg base CX0 7 "turned" ["roll"] (spD K C 1 2 Dl.Zeo))(Dfloor:Def P w K mg base CX0 15 "floor" ["rolls","table","order"] (spL (tsL P1 P2) (spD K C 3 2 Dl.Ju)))(Dceiling:Def P w K mg base CX0 15 "ceiling" ["rolls","table","order"] (spL (tsL P1 P2) (spD K C 3 2 Dl.Xr)))(D_law_roll:Def P w K mg base CX0 9 "_law_roll" ["_law_script","_law_place","_law_most","_law_flaw_here"] (spD K C 4 2 Dl.Zab)):Zam P w K mg base CX0 17 f fd ["_law_script"] (spL (tsL P1 P2) (spD K C 1 2 Dl.Xgg)):=by
  refine F.okL Xnb (Γ':=[]) (Δ':=[]) rfl fun cdv A outer s H E hr hL=>?_
  have sc:=Xnb
  have hu:_+64<cLine:=hr.units
  exact ⟨_,(Zh [1] [1] (Xd (i:=1) sc.nd rfl (Or.inl rfl) (Zr D_law_table (hr.mono (by decide)) rfl Xg (Zb (Zi 0) (Zb Ze (Zb Ze Zg Zf) Zf) Za) (he:=Za)))
      (Zh [1,2] [1,2] (Xd (i:=2) sc.nd rfl (Or.inl rfl) (Zr D_law_row (hr.mono (by decide)) rfl Xg (Zb (Zi 0) (Zb Ze (Zb (Jt (Zl Ze (Zl Ze (Zl Ze Zg Zf) Zf) Zf)) Zg Zlk) Zf) Za) (he:=Za)))
      (Zh [1,2,3] [1,2,3] (Xd (i:=3) sc.nd rfl (Or.inl rfl) (Zr D_law_flaw (hr.mono (by decide)) rfl Xg (Zb (Zi 0) (Zb Ze (Zb Ze Zg Zf) Zf) Za) (he:=Za)))
      (Zh [1,2,3,4] [1,2,3,4] (Xd (i:=4) sc.nd rfl (Or.inl rfl) (Zr D_law_rolls (hr.mono (by decide)) rfl Xg (Zb (Zi 0) (Zb Ze (Zb (Xe K (Zi 2) Ze Zk) (Zb Ze (Zb (Zi 3) Zg Za) Zf) Yn) Zf) Za) (he:=Za)))
      (Zh [1,2,3,4] [1,2,3,4] (Zaj (Xv (r:=Zsx K) (Zeb hu) Zec (Xe K (Zi 2) Ze Zk) Ze (Xi _)) (Zm (Xd (i:=4) sc.nd rfl (Or.inl rfl) (Zr D_law_rolls (hr.mono (by decide)) rfl Xg (Zb (Zi 0) (Zb Ze (Zb Ze (Zb Ze (Zb (Zi 3) Zg Za) Zf) Zf) Zf) Za) (he:=Za)))) Xx)
      (Zh [1,2,3,4,5] [1,2,3,4,5] (Xd (i:=5) sc.nd rfl (Or.inl rfl) (Zr D_law_order (hr.mono (by decide)) rfl Xg (Zb (Zi 0) (Zb Ze (Zb (Zq (r:=Jx K) Xc Xy rfl T.len PySem.boot_len (Zb (Zi 1) Zg Za) (he:=Za)) (Zb Ze Zg Zf) Xl) Zf) Za) (he:=Za)))
      (Zh [1,2,3,4,5,6] [1,2,3,4,5] (Zvo (i:=6) sc.nd rfl (Or.inl rfl) (Xij K (Jd (n:=7) (Zj Xjq) ["_law_script","_law_table_here","_law_some","_law_flaw_here","_law_rolls_here","_law_order_here","_law_behind"] ["_law_script","_law_table_here","_law_some","_law_flaw_here","_law_rolls_here","_law_order_here","_law_behind"] ["_law_roll_here"] ⟨rfl,by decide +kernel,by decide +kernel,by decide +kernel,by decide +kernel,by decide +kernel,rfl,by decide +kernel⟩ (Jo (Zi 4)) (fun _ _ _ _ _=>(Xm 7 (hN:=(by decide +kernel:List.Nodup (["_law_script","_law_table_here","_law_some","_law_flaw_here","_law_rolls_here","_law_order_here","_law_behind","_law_roll_here"]:List Str))))) (fun _ _ _ _ _=>Yk) (fun _ _ _ _ _=>(Zr Dturned (hr.mono (by decide)) rfl Xg (Zb (Zi 7 (hv:=Or.inl rfl)) Zg Za) (he:=Za)))) (Zni Ze)))
      (Zh [1,2,3,4,5,6] [1,2,3,4,5] (Zaj (Xv (r:=Xhl K) (Zna hu) Zlr (Xe K (Yo Dfloor (hr.mono (by decide)) rfl Xg hL (Zb (Zi 6) (Zb (Zi 1) (Zb (Zi 5) Zg Za) Za) Za) (he:=Za)) Ze Zk) (Xe K (Yo Dfloor (hr.mono (by decide)) rfl Xg hL (Zb (Zi 4) (Zb (Zi 1) (Zb (Zi 5) Zg Za) Za) Za) (he:=Za)) Ze Zk) (Xi _)) (Zm (Xf Zcg)) Xx)
      (Zh [1,2,3,4,5,6] [1,2,3,4,5] (Zaj (Xv (r:=Xhl K) (Zna hu) Zlr (Xe K (Yo Dceiling (hr.mono (by decide)) rfl Xg hL (Zb (Zi 6) (Zb (Zi 1) (Zb (Zi 5) Zg Za) Za) Za) (he:=Za)) Ze Zk) (Xe K (Yo Dceiling (hr.mono (by decide)) rfl Xg hL (Zb (Zi 4) (Zb (Zi 1) (Zb (Zi 5) Zg Za) Za) Za) (he:=Za)) Ze Zk) (Xi _)) (Zm (Xf Zcg)) Xx)
      (Zh [1,2,3,4,5,6] [1,2,3,4,5] (Zaj (Zmh (Zdz (Yo D_law_papers (hr.mono (by decide)) rfl Xg hL (Zb (Zi 4) (Zb (Zi 1) (Zb (Zi 5) Zg Za) Za) Za) (he:=Za)))) (Zm (Xf Zcg)) Xx)
      (Zh [1,2,3,4,5,6] [1,2,3,4,5] (Zaj (Zmh (Zdz (Yo D_law_more_rolls (hr.mono (by decide)) rfl Xg hL (Zb (Zi 4) (Zb (Zi 1) (Zb (Zi 5) (Zb (Zr D_law_roll (hr.mono (by decide)) rfl Xg (Zb (Zi 0) (Zb Ze (Zb Ze (Zb (Zi 3) Zg Za) Zf) Zf) Za) (he:=Za)) Zg Xl) Za) Za) Za) (he:=Za)))) (Zm (Xf Zcg)) Xx)
      (Zm (Xf (ce_or (Zdl (r:=Zsx K) (Zeb hu) Zec (Zq (r:=Jx K) Xc Xy rfl T.len PySem.boot_len (Zb (Zi 1) Zg Za) (he:=Za)) Ze (Xi _)) (Zxo (Yo D_law_more_wanted (hr.mono (by decide)) rfl Xg hL (Zb (Zi 4) (Zb (Zi 1) (Zb (Zi 5) (Zb (Zu Zbn Zaa (Xe K (Zi 2) Ze Zk) (Zq (r:=Jx K) Xc Xy rfl T.len PySem.boot_len (Zb (Zi 1) Zg Za) (he:=Za))) Zg Zz) Za) Za) Za) (he:=Za)))))))))))))))))⟩
end
noncomputable def Xgy (K:Frag)(ts:List (Addr×Pos×Str)):Sp:=fun vs H Q _=>Zea ts H∧∃(a:Addr) (ns:List Int),vs=[.ref a]∧FzL K H a (ns.map V.int)∧ns.length≤63∧∀H',Q (.bl true) H'
theorem Xco (ns:List Int)(h:ns.length≤63):Dl.Xgg [.scr ns]=.ok (.bl true):=Dl.Zsb ns h
theorem all_mk {l:PySem.W.OpenLaw}{w:World}{K:Frag}{h:Heap}{mg:Str→Option Value}{fa f1 f2 f3 f4 f5 f6 f7 f8 f9 f10 f11 f12 f13 f14 f15 f16 f17 f18 f19 f20 f21 f22 f23 f24 f25 f26 f27 f28 f29 f30 f31 f32 f33 f34 f35 f36:Addr}{P1 P2 c1' c2' bm:Addr}{ob:Obj}(X:K.In h)(G:h.Ns mainGlobals mg)(hfa:mg "law"=some (.ref fa))
  {fd1 fd2 fd3 fd4 fd5 fd6 fd7 fd8 fd9 fd10 fd11 fd12 fd13 fd14 fd15 fd16 fd17 fd18 fd19 fd20 fd21 fd22 fd23 fd24 fd25 fd26 fd27 fd28 fd29 fd30 fd31 fd32 fd33 fd34 fd35 fd36:FuncData}
  (a1:nsIn K mainGlobals "spoilt"=some (some (.ref f1))) (F1:Fun K "spoilt" "spoilt" Zpb f1 fd1)
  (a2:nsIn K mainGlobals "turned"=some (some (.ref f2))) (F2:Fun K "turned" "turned" Zox f2 fd2)
  (a3:nsIn K mainGlobals "fits"=some (some (.ref f3))) (F3:Fun K "fits" "fits" Xju f3 fd3)
  (a4:nsIn K mainGlobals "ending"=some (some (.ref f4))) (F4:Fun K "ending" "ending" Zkh f4 fd4)
  (a5:nsIn K mainGlobals "next_top"=some (some (.ref f5))) (F5:Fun K "next_top" "next_top" Zen f5 fd5)
  (a6:nsIn K mainGlobals "heights"=some (some (.ref f6))) (F6:Fun K "heights" "heights" Zkd f6 fd6)
  (a7:nsIn K mainGlobals "together"=some (some (.ref f7))) (F7:Fun K "together" "together" Zfj f7 fd7)
  (a8:nsIn K mainGlobals "prices"=some (some (.ref f8))) (F8:Fun K "prices" "prices" Zjs f8 fd8)
  (a9:nsIn K mainGlobals "underpaid"=some (some (.ref f9))) (F9:Fun K "underpaid" "underpaid" Zfw f9 fd9)
  (a10:nsIn K mainGlobals "shows"=some (some (.ref f10))) (F10:Fun K "shows" "shows" Znm f10 fd10)
  (a11:nsIn K mainGlobals "all_show"=some (some (.ref f11))) (F11:Fun K "all_show" "all_show" Zfg f11 fd11)
  (a12:nsIn K mainGlobals "pointed"=some (some (.ref f12))) (F12:Fun K "pointed" "pointed" Zhc f12 fd12)
  (a13:nsIn K mainGlobals "fewest"=some (some (.ref f13))) (F13:Fun K "fewest" "fewest" Zol f13 fd13)
  (a14:nsIn K mainGlobals "floor_by"=some (some (.ref f14))) (F14:Fun K "floor_by" "floor_by" Zfb f14 fd14)
  (a15:nsIn K mainGlobals "only_wanted"=some (some (.ref f15))) (F15:Fun K "only_wanted" "only_wanted" Zbs f15 fd15)
  (a16:nsIn K mainGlobals "points_to_try"=some (some (.ref f16))) (F16:Fun K "points_to_try" "points_to_try" Yg f16 fd16)
  (a17:nsIn K mainGlobals "floor"=some (some (.ref f17))) (F17:Zys K "floor" "floor" Zpf f17 fd17 c1')
  (a18:nsIn K mainGlobals "are_points"=some (some (.ref f18))) (F18:Fun K "are_points" "are_points" Zcq f18 fd18)
  (a19:nsIn K mainGlobals "shows_floor"=some (some (.ref f19))) (F19:Fun K "shows_floor" "shows_floor" Zbq f19 fd19)
  (a20:nsIn K mainGlobals "rebated"=some (some (.ref f20))) (F20:Fun K "rebated" "rebated" Zhj f20 fd20)
  (a21:nsIn K mainGlobals "ceiling_by"=some (some (.ref f21))) (F21:Fun K "ceiling_by" "ceiling_by" Zcp f21 fd21)
  (a22:nsIn K mainGlobals "rebates_to_try"=some (some (.ref f22))) (F22:Fun K "rebates_to_try" "rebates_to_try" Jr f22 fd22)
  (a23:nsIn K mainGlobals "ceiling"=some (some (.ref f23))) (F23:Zys K "ceiling" "ceiling" Zhg f23 fd23 c2')
  (a24:nsIn K mainGlobals "shows_ceiling"=some (some (.ref f24))) (F24:Fun K "shows_ceiling" "shows_ceiling" Jy f24 fd24)
  (a25:nsIn K mainGlobals "_law_cell"=some (some (.ref f25))) (F25:Fun K "_law_cell" "_law_cell" Zfn f25 fd25)
  (a26:nsIn K mainGlobals "_law_mix"=some (some (.ref f26))) (F26:Fun K "_law_mix" "_law_mix" Zhu f26 fd26)
  (a27:nsIn K mainGlobals "_law_row"=some (some (.ref f27))) (F27:Fun K "_law_row" "_law_row" Zhp f27 fd27)
  (a28:nsIn K mainGlobals "_law_table"=some (some (.ref f28))) (F28:Fun K "_law_table" "_law_table" Zeg f28 fd28)
  (a29:nsIn K mainGlobals "_law_flaw"=some (some (.ref f29))) (F29:Fun K "_law_flaw" "_law_flaw" Zfu f29 fd29)
  (a30:nsIn K mainGlobals "_law_roll"=some (some (.ref f30))) (F30:Fun K "_law_roll" "_law_roll" Zga f30 fd30)
  (a31:nsIn K mainGlobals "_law_order"=some (some (.ref f31))) (F31:Fun K "_law_order" "_law_order" Zeh f31 fd31)
  (a32:nsIn K mainGlobals "_law_rolls"=some (some (.ref f32))) (F32:Fun K "_law_rolls" "_law_rolls" Zed f32 fd32)
  (a33:nsIn K mainGlobals "_law_papers"=some (some (.ref f33))) (F33:Fun K "_law_papers" "_law_papers" Zda f33 fd33)
  (a34:nsIn K mainGlobals "_law_more_rolls"=some (some (.ref f34))) (F34:Fun K "_law_more_rolls" "_law_more_rolls" Zav f34 fd34)
  (a35:nsIn K mainGlobals "_law_more_wanted"=some (some (.ref f35))) (F35:Fun K "_law_more_wanted" "_law_more_wanted" Zao f35 fd35)
  (a36:nsIn K mainGlobals "law"=some (some (.ref f36))) (F36:Fun K "law" "law" Xjq f36 fd36)
  (z1:nsIn K mainGlobals "sum"=some none)
  (z2:nsIn K mainGlobals "len"=some none)
  (z3:nsIn K mainGlobals "list"=some none)
  (z4:nsIn K mainGlobals "reversed"=some none)
  (z5:nsIn K mainGlobals "max"=some none)
  (z6:nsIn K mainGlobals "zip"=some none)
  (z7:nsIn K mainGlobals "range"=some none)
  (z8:nsIn K mainGlobals "any"=some none)
  (z9:nsIn K mainGlobals "all"=some none)
  (z10:nsIn K mainGlobals "sorted"=some none)
  (z11:nsIn K mainGlobals "enumerate"=some none)
  (z12:nsIn K mainGlobals "some"=some none)
  (z13:nsIn K mainGlobals "min"=some none)
  {tv1:Tok} (v1:nsIn K mainGlobals "GREATEST_WORTH"=some (some (.int 1000000000000000000 tv1)))
  (hT1:codeHdIn K c1' P1=true)
  (hT2:codeHdIn K c2' P2=true)
  (bm1:nsIn K mainGlobals "__builtins__"=some (some (.ref bm))) (bm2:K.lookup bm=some ob) (bm3:bm≠builtinsNs∧ob.cls=.type "module"∧ob.dict=some builtinsNs∧ob.data=.plain)
  : ∃fd:FuncData,(∀(s:Shared) (v:Value),BindsTo s fd ⟨[v],[]⟩ [("_law_script",v)])∧∀base:Heap,K.In base→base.Ns mainGlobals mg→Zam l.prog w K mg base CX0 17 fa fd ["_law_script"] (Xgy K (tsL P1 P2)):=by
 have e:=hfa.symm.trans (mg_of X G a36)
 cases e
 have T:Txt mg:=⟨mg_none_of X G z1,mg_none_of X G z2,mg_none_of X G z3,mg_none_of X G z4,mg_none_of X G z5,mg_none_of X G z6,mg_none_of X G z7,mg_none_of X G z8,mg_none_of X G z9,mg_none_of X G z10,mg_none_of X G z11,mg_none_of X G z12,mg_none_of X G z13,⟨tv1,mg_of X G v1⟩⟩
 obtain ⟨oc,od,kV,doc,pm,an,cdv,ct,osl,rfl,lk,hcd⟩:=F36.ex
 refine ⟨fnOf "law" "law" (Zgc Xjq) (Zbl Xjq) (Zj Xjq) .none kV doc pm an cdv ct,fun s v=>.of_eq rfl,fun base kb nb=>?_⟩
 have B:BMod base mg:=Xim kb nb bm1 bm2 bm3
 have hd1:=codeHd_of_K kb hT1
 have hd2:=codeHd_of_K kb hT2
 have b1:=F1.binds (ps:=["roll","begin","end"]) fun _ _ _ _ _ _=>Zgs (fun _ _ _=>rfl)
 have Dspoilt:Def l.prog w K mg base CX0 7 "spoilt" ["roll","begin","end"] (spD K (fun _=>0) 3 2 Dl.Zdp):=⟨f1,_,mg_of X G a1,F1.kp,b1,Xag F1 T⟩
 have b2:=F2.binds (ps:=["roll"]) fun _ _ _ _ _ _=>Xkp (fun _=>rfl)
 have Dturned:Def l.prog w K mg base CX0 7 "turned" ["roll"] (spD K (fun _=>0) 1 2 Dl.Zeo):=⟨f2,_,mg_of X G a2,F2.kp,b2,Xak F2 T⟩
 have b7:=F7.binds (ps:=["order","some"]) fun _ _ _ _ _ _=>Zfs (fun _ _=>rfl)
 have Dtogether:Def l.prog w K mg base CX0 7 "together" ["order","some"] (spD K (fun _=>0) 2 2 Dl.Yl):=⟨f7,_,mg_of X G a7,F7.kp,b7,Zsl F7 T⟩
 have b12:=F12.binds (ps:=["table","points"]) fun _ _ _ _ _ _=>Zfs (fun _ _=>rfl)
 have Dpointed:Def l.prog w K mg base CX0 7 "pointed" ["table","points"] (spD K (fun _=>0) 2 2 Dl.Yw):=⟨f12,_,mg_of X G a12,F12.kp,b12,Zte F12 T⟩
 have b13:=F13.binds (ps:=["sums","needed"]) fun _ _ _ _ _ _=>Zfs (fun _ _=>rfl)
 have Dfewest:Def l.prog w K mg base CX0 7 "fewest" ["sums","needed"] (spD K (fun _=>0) 2 2 Dl.Zbc):=⟨f13,_,mg_of X G a13,F13.kp,b13,Xcj F13 T⟩
 have b15:=F15.binds (ps:=["order","some"]) fun _ _ _ _ _ _=>Zfs (fun _ _=>rfl)
 have Donly_wanted:Def l.prog w K mg base CX0 7 "only_wanted" ["order","some"] (spD K (fun _=>0) 2 2 Dl.Yu):=⟨f15,_,mg_of X G a15,F15.kp,b15,Zla F15 T⟩
 have b18:=F18.binds (ps:=["table","points"]) fun _ _ _ _ _ _=>Zfs (fun _ _=>rfl)
 have Dare_points:Def l.prog w K mg base CX0 7 "are_points" ["table","points"] (spD K (fun _=>0) 2 2 Dl.Zas):=⟨f18,_,mg_of X G a18,F18.kp,b18,Zmm F18 T⟩
 have b22:=F22.binds (ps:=["table","order"]) fun _ _ _ _ _ _=>Zfs (fun _ _=>rfl)
 have Drebates_to_try:Def l.prog w K mg base CX0 7 "rebates_to_try" ["table","order"] (spD K (fun _=>0) 2 0 Dl.Yx):=⟨f22,_,mg_of X G a22,F22.kp,b22,Zgx F22 T⟩
 have b25:=F25.binds (ps:=["_law_script","_law_place"]) fun _ _ _ _ _ _=>Zfs (fun _ _=>rfl)
 have D_law_cell:Def l.prog w K mg base CX0 7 "_law_cell" ["_law_script","_law_place"] (spD K (fun _=>0) 2 2 Dl.Zan):=⟨f25,_,mg_of X G a25,F25.kp,b25,Zoy F25 T⟩
 have b26:=F26.binds (ps:=["_law_cell_here","_law_k"]) fun _ _ _ _ _ _=>Zfs (fun _ _=>rfl)
 have D_law_mix:Def l.prog w K mg base CX0 7 "_law_mix" ["_law_cell_here","_law_k"] (spD K (fun _=>0) 2 2 Dl.Zbe):=⟨f26,_,mg_of X G a26,F26.kp,b26,Zrp F26 T⟩
 have b3:=F3.binds (ps:=["roll","kind","place"]) fun _ _ _ _ _ _=>Zgs (fun _ _ _=>rfl)
 have Dfits:Def l.prog w K mg base CX0 8 "fits" ["roll","kind","place"] (spD K (fun _=>0) 3 2 Dl.Zgi):=⟨f3,_,mg_of X G a3,F3.kp,b3,Xow F3 T Dspoilt⟩
 have b16:=F16.binds (ps:=["table","order"]) fun _ _ _ _ _ _=>Zfs (fun _ _=>rfl)
 have Dpoints_to_try:Def l.prog w K mg base CX0 8 "points_to_try" ["table","order"] (spD K (fun _=>0) 2 0 Dl.Jj):=⟨f16,_,mg_of X G a16,F16.kp,b16,Zie F16 T Donly_wanted⟩
 have b20:=F20.binds (ps:=["table","rebates"]) fun _ _ _ _ _ _=>Zfs (fun _ _=>rfl)
 have Drebated:Def l.prog w K mg base CX0 8 "rebated" ["table","rebates"] (spD K (fun _=>0) 2 2 Dl.Zak):=⟨f20,_,mg_of X G a20,F20.kp,b20,Zsz F20 T Dpointed⟩
 have b27:=F27.binds (ps:=["_law_script","_law_place","_law_sizes"]) fun _ _ _ _ _ _=>Zgs (fun _ _ _=>rfl)
 have D_law_row:Def l.prog w K mg base CX0 8 "_law_row" ["_law_script","_law_place","_law_sizes"] (spD K (fun _=>0) 3 2 Dl.Yc):=⟨f27,_,mg_of X G a27,F27.kp,b27,Zsk F27 T D_law_cell D_law_mix⟩
 have b4:=F4.binds (ps:=["roll","table","end"]) fun _ _ _ _ _ _=>Zgs (fun _ _ _=>rfl)
 have Dending:Def l.prog w K mg base CX0 9 "ending" ["roll","table","end"] (spD K (fun _=>0) 3 2 Dl.Zco):=⟨f4,_,mg_of X G a4,F4.kp,b4,Zzj F4 T Dfits⟩
 have b9:=F9.binds (ps:=["roll","kind","prices","place"]) fun _ _ _ _ _ _=>Zld (fun _ _ _ _=>rfl)
 have Dunderpaid:Def l.prog w K mg base CX0 9 "underpaid" ["roll","kind","prices","place"] (spD K (fun _=>0) 4 2 Dl.Zaq):=⟨f9,_,mg_of X G a9,F9.kp,b9,Zom F9 T Dfits⟩
 have b28:=F28.binds (ps:=["_law_script","_law_place","_law_most"]) fun _ _ _ _ _ _=>Zgs (fun _ _ _=>rfl)
 have D_law_table:Def l.prog w K mg base CX0 9 "_law_table" ["_law_script","_law_place","_law_most"] (spD K (fun _=>0) 3 2 Dl.Zat):=⟨f28,_,mg_of X G a28,F28.kp,b28,Zne F28 T D_law_row⟩
 have b29:=F29.binds (ps:=["_law_script","_law_place","_law_most"]) fun _ _ _ _ _ _=>Zgs (fun _ _ _=>rfl)
 have D_law_flaw:Def l.prog w K mg base CX0 9 "_law_flaw" ["_law_script","_law_place","_law_most"] (spD K (fun _=>0) 3 2 Dl.Zbj):=⟨f29,_,mg_of X G a29,F29.kp,b29,Zoi F29 T D_law_row⟩
 have b30:=F30.binds (ps:=["_law_script","_law_place","_law_most","_law_flaw_here"]) fun _ _ _ _ _ _=>Zld (fun _ _ _ _=>rfl)
 have D_law_roll:Def l.prog w K mg base CX0 9 "_law_roll" ["_law_script","_law_place","_law_most","_law_flaw_here"] (spD K (fun _=>0) 4 2 Dl.Zab):=⟨f30,_,mg_of X G a30,F30.kp,b30,Zov F30 T D_law_row⟩
 have b31:=F31.binds (ps:=["_law_script","_law_place","_law_count","_law_most"]) fun _ _ _ _ _ _=>Zld (fun _ _ _ _=>rfl)
 have D_law_order:Def l.prog w K mg base CX0 9 "_law_order" ["_law_script","_law_place","_law_count","_law_most"] (spD K (fun _=>0) 4 2 Dl.Zaf):=⟨f31,_,mg_of X G a31,F31.kp,b31,Znh F31 T D_law_row⟩
 have b5:=F5.binds (ps:=["roll","table","tops"]) fun _ _ _ _ _ _=>Zgs (fun _ _ _=>rfl)
 have Dnext_top:Def l.prog w K mg base CX0 10 "next_top" ["roll","table","tops"] (spD K (fun _=>0) 3 2 Dl.Zcf):=⟨f5,_,mg_of X G a5,F5.kp,b5,Zsv F5 T Dending⟩
 have b10:=F10.binds (ps:=["roll","table","number","prices"]) fun _ _ _ _ _ _=>Zld (fun _ _ _ _=>rfl)
 have Dshows:Def l.prog w K mg base CX0 10 "shows" ["roll","table","number","prices"] (spD K (fun _=>0) 4 2 Dl.Zfv):=⟨f10,_,mg_of X G a10,F10.kp,b10,Xgk F10 T Dunderpaid⟩
 have b32:=F32.binds (ps:=["_law_script","_law_place","_law_many","_law_most","_law_flaw_here"]) fun _ _ _ _ _ _=>Xhu (fun _ _ _ _ _=>rfl)
 have D_law_rolls:Def l.prog w K mg base CX0 10 "_law_rolls" ["_law_script","_law_place","_law_many","_law_most","_law_flaw_here"] (spD K (fun _=>0) 5 2 Dl.Yh):=⟨f32,_,mg_of X G a32,F32.kp,b32,Zli F32 T D_law_roll⟩
 have b6:=F6.binds (ps:=["roll","table"]) fun _ _ _ _ _ _=>Zfs (fun _ _=>rfl)
 have Dheights:Def l.prog w K mg base CX0 11 "heights" ["roll","table"] (spD K (fun _=>0) 2 2 Dl.Ja):=⟨f6,_,mg_of X G a6,F6.kp,b6,Zxq F6 T Dnext_top⟩
 have b11:=F11.binds (ps:=["rolls","table","lists"]) fun _ _ _ _ _ _=>Zgs (fun _ _ _=>rfl)
 have Dall_show:Def l.prog w K mg base CX0 11 "all_show" ["rolls","table","lists"] (spD K (fun _=>0) 3 2 Dl.Zag):=⟨f11,_,mg_of X G a11,F11.kp,b11,Zro F11 T Dshows⟩
 have b8:=F8.binds (ps:=["roll","table"]) fun _ _ _ _ _ _=>Zfs (fun _ _=>rfl)
 have Dprices:Def l.prog w K mg base CX0 12 "prices" ["roll","table"] (spD K (fun _=>0) 2 2 Dl.Zba):=⟨f8,_,mg_of X G a8,F8.kp,b8,Xay F8 T Dheights⟩
 have b14:=F14.binds (ps:=["rolls","table","order","points"]) fun _ _ _ _ _ _=>Zld (fun _ _ _ _=>rfl)
 have Dfloor_by:Def l.prog w K mg base CX0 12 "floor_by" ["rolls","table","order","points"] (spD K (fun _=>0) 4 2 Dl.Zae):=⟨f14,_,mg_of X G a14,F14.kp,b14,Zrt F14 T Dpointed Dfewest Dtogether Dheights⟩
 have b19:=F19.binds (ps:=["rolls","table","order","number","paper"]) fun _ _ _ _ _ _=>Xhu (fun _ _ _ _ _=>rfl)
 have Dshows_floor:Def l.prog w K mg base CX0 12 "shows_floor" ["rolls","table","order","number","paper"] (spD K (fun _=>0) 5 2 Dl.Zal):=⟨f19,_,mg_of X G a19,F19.kp,b19,Zkf F19 T Dfewest Dare_points Dall_show Dtogether Dpointed⟩
 have b21:=F21.binds (ps:=["rolls","table","order","rebates"]) fun _ _ _ _ _ _=>Zld (fun _ _ _ _=>rfl)
 have Dceiling_by:Def l.prog w K mg base CX0 12 "ceiling_by" ["rolls","table","order","rebates"] (spD K (fun _=>0) 4 2 Dl.Jg):=⟨f21,_,mg_of X G a21,F21.kp,b21,Zmp F21 T Drebated Dtogether Dheights⟩
 have b24:=F24.binds (ps:=["rolls","table","order","number","paper"]) fun _ _ _ _ _ _=>Xhu (fun _ _ _ _ _=>rfl)
 have Dshows_ceiling:Def l.prog w K mg base CX0 12 "shows_ceiling" ["rolls","table","order","number","paper"] (spD K (fun _=>0) 5 2 Dl.Jk):=⟨f24,_,mg_of X G a24,F24.kp,b24,Zip F24 T Dall_show Drebated Dtogether⟩
 have b17:=F17.one.binds (ps:=["rolls","table","order"]) fun _ _ _ _ _ _=>Zgs (fun _ _ _=>rfl)
 have Dfloor:Def l.prog w K mg base CX0 15 "floor" ["rolls","table","order"] (spL (tsL P1 P2) (spD K (fun _=>0) 3 2 Dl.Ju)):=⟨f17,_,mg_of X G a17,F17.kp,b17,Xhh F17 T B hd1 Dpoints_to_try Dpointed Dprices Dfloor_by⟩
 have b23:=F23.one.binds (ps:=["rolls","table","order"]) fun _ _ _ _ _ _=>Zgs (fun _ _ _=>rfl)
 have Dceiling:Def l.prog w K mg base CX0 15 "ceiling" ["rolls","table","order"] (spL (tsL P1 P2) (spD K (fun _=>0) 3 2 Dl.Xr)):=⟨f23,_,mg_of X G a23,F23.kp,b23,Zuk F23 T B hd2 Drebates_to_try Drebated Dprices Dceiling_by⟩
 have b33:=F33.binds (ps:=["_law_rolls_here","_law_table_here","_law_order_here"]) fun _ _ _ _ _ _=>Zgs (fun _ _ _=>rfl)
 have D_law_papers:Def l.prog w K mg base CX0 16 "_law_papers" ["_law_rolls_here","_law_table_here","_law_order_here"] (spL (tsL P1 P2) (spD K (fun _=>0) 3 2 Dl.Zai)):=⟨f33,_,mg_of X G a33,F33.kp,b33,Zkk F33 T Dfloor Dceiling Dshows_floor Dshows_ceiling⟩
 have b34:=F34.binds (ps:=["_law_rolls_here","_law_table_here","_law_order_here","_law_roll_here"]) fun _ _ _ _ _ _=>Zld (fun _ _ _ _=>rfl)
 have D_law_more_rolls:Def l.prog w K mg base CX0 16 "_law_more_rolls" ["_law_rolls_here","_law_table_here","_law_order_here","_law_roll_here"] (spL (tsL P1 P2) (spD K (fun _=>0) 4 2 Dl.Yq)):=⟨f34,_,mg_of X G a34,F34.kp,b34,Zfo F34 T Dfloor Dceiling⟩
 have b35:=F35.binds (ps:=["_law_rolls_here","_law_table_here","_law_order_here","_law_at"]) fun _ _ _ _ _ _=>Zld (fun _ _ _ _=>rfl)
 have D_law_more_wanted:Def l.prog w K mg base CX0 16 "_law_more_wanted" ["_law_rolls_here","_law_table_here","_law_order_here","_law_at"] (spL (tsL P1 P2) (spD K (fun _=>0) 4 2 Dl.Yb)):=⟨f35,_,mg_of X G a35,F35.kp,b35,Zfc F35 T Dfloor Dceiling⟩
 exact (oklaw (C:=fun _=>0) F36 T D_law_table D_law_row D_law_flaw D_law_rolls D_law_order D_law_papers D_law_more_rolls D_law_more_wanted Dturned Dfloor Dceiling D_law_roll).imp fun vs H Q E h=>by
  obtain ⟨hL,a,ns,rfl,hz,hl,q⟩:=h
  refine ⟨hL,[.scr ns],[],rfl,⟨.ref a,[],[],[],rfl,⟨a,rfl,hz,rfl⟩,⟨rfl,rfl⟩,rfl⟩,?_⟩
  rw [Xco ns hl]
  rintro v H' _ ⟨B,r,_⟩
  obtain ⟨rfl,_⟩:=r
  exact q H'
theorem walk {l:PySem.W.OpenLaw}{q:Program}{loose:List Str}{XP:(Str→Option Value)→Heap→Prop}{YP:World→Heap→Prop}{d:DefRec}{K:Params→Frag}{P1 P2:Addr}(hn:l.most=some 63)(hdf:d.params.defaults=[])
    (hY:∀(w:World) (h:Heap),YP w h→(K w.params).In h)
    (hT:∀w:World,∀t∈tsL P1 P2,(K w.params).lookup t.1=some (tabObj #[])∧∃c,codeHdIn (K w.params) c t.1=true) (hnd:((tsL P1 P2).map (·.1)).Nodup)
    (F:∀(w:World) (mg:Str→Option Value) (fa:Addr) (h:Heap),(K w.params).In h→h.Ns mainGlobals mg→mg d.name=some (.ref fa)→
      ∃fd:FuncData,(∀(s:Shared) (u:Value),BindsTo s fd ⟨[u],[]⟩ [("_law_script",u)])∧∀base:Heap,(Zaw ((tsL P1 P2).map (·.1)) (K w.params)).In base→base.Ns mainGlobals mg→Zam l.prog w (Zaw ((tsL P1 P2).map (·.1)) (K w.params)) mg base CX0 17 fa fd ["_law_script"] (Xgy (Zaw ((tsL P1 P2).map (·.1)) (K w.params)) (tsL P1 P2))) :
    PySem.W.WalkO q loose XP YP l.row.toRowW d [] (fun f vs=>PySem.call f vs):=
  L2.Xcb (ts:=tsL P1 P2) (K:=K) (n:=63) (k:=17) (x:="_law_script") (CX:=fun _=>CX0) (sp:=fun w=>Xgy (Zaw ((tsL P1 P2).map (·.1)) (K w.params)) (tsL P1 P2)) hn (by decide) hdf ⟨rfl,by decide,by decide,rfl⟩ hY hT hnd F (fun _ H a ns hl hL hO hS=>⟨hL,a,ns,rfl,Xli hO hS,hl,fun _=>rfl⟩) fun _ _ _ _ _ z=>z
end K77
open PySem PySem.W PyProof.Rows
set_option maxRecDepth 100000 in
set_option maxHeartbeats 0 in
theorem PySem.Challenge.cw_selvage_k77_bounds_seen_otherwise_holds : PySem.Challenge.rw_selvage_k77_bounds_seen_otherwise.Holds := by
 w_on;o_law;z_head;(case hw=>w_witness2)
 k_fill
 refine L2.Zyx (fun _=>by kernel_rfl) (K77.walk (P1:=133) (P2:=163) (l:=PySem.Challenge.rw_selvage_k77_bounds_seen_otherwise) rfl rfl (fun w h Y=>Y) (fun w=>?T) (by decide) ?F)
 case T=>exact List.forall_mem_cons.mpr ⟨⟨by kernel_rfl,135,by kernel_rfl⟩,List.forall_mem_cons.mpr ⟨⟨by kernel_rfl,165,by kernel_rfl⟩,fun _ z=>nomatch z⟩⟩
 case F =>
  intro w mg fa h KX G hmg
  refine' K77.all_mk (L2.Zqy (T:=[133,163]) KX) G hmg (L2.Zn ?a1 rfl) (L2.Xh ?l1 ?c1 ?u1 ?w1).one (L2.Zn ?a2 rfl) (L2.Xh ?l2 ?c2 ?u2 ?w2).one (L2.Zn ?a3 rfl) (L2.Xh ?l3 ?c3 ?u3 ?w3).one (L2.Zn ?a4 rfl) (L2.Xh ?l4 ?c4 ?u4 ?w4).one (L2.Zn ?a5 rfl) (L2.Xh ?l5 ?c5 ?u5 ?w5).one (L2.Zn ?a6 rfl) (L2.Xh ?l6 ?c6 ?u6 ?w6).one (L2.Zn ?a7 rfl) (L2.Xh ?l7 ?c7 ?u7 ?w7).one (L2.Zn ?a8 rfl) (L2.Xh ?l8 ?c8 ?u8 ?w8).one (L2.Zn ?a9 rfl) (L2.Xh ?l9 ?c9 ?u9 ?w9).one (L2.Zn ?a10 rfl) (L2.Xh ?l10 ?c10 ?u10 ?w10).one (L2.Zn ?a11 rfl) (L2.Xh ?l11 ?c11 ?u11 ?w11).one (L2.Zn ?a12 rfl) (L2.Xh ?l12 ?c12 ?u12 ?w12).one (L2.Zn ?a13 rfl) (L2.Xh ?l13 ?c13 ?u13 ?w13).one (L2.Zn ?a14 rfl) (L2.Xh ?l14 ?c14 ?u14 ?w14).one (L2.Zn ?a15 rfl) (L2.Xh ?l15 ?c15 ?u15 ?w15).one (L2.Zn ?a16 rfl) (L2.Xh ?l16 ?c16 ?u16 ?w16).one (L2.Zn ?a17 rfl) (L2.Xh ?l17 ?c17 ?u17 ?w17) (L2.Zn ?a18 rfl) (L2.Xh ?l18 ?c18 ?u18 ?w18).one (L2.Zn ?a19 rfl) (L2.Xh ?l19 ?c19 ?u19 ?w19).one (L2.Zn ?a20 rfl) (L2.Xh ?l20 ?c20 ?u20 ?w20).one (L2.Zn ?a21 rfl) (L2.Xh ?l21 ?c21 ?u21 ?w21).one (L2.Zn ?a22 rfl) (L2.Xh ?l22 ?c22 ?u22 ?w22).one (L2.Zn ?a23 rfl) (L2.Xh ?l23 ?c23 ?u23 ?w23) (L2.Zn ?a24 rfl) (L2.Xh ?l24 ?c24 ?u24 ?w24).one (L2.Zn ?a25 rfl) (L2.Xh ?l25 ?c25 ?u25 ?w25).one (L2.Zn ?a26 rfl) (L2.Xh ?l26 ?c26 ?u26 ?w26).one (L2.Zn ?a27 rfl) (L2.Xh ?l27 ?c27 ?u27 ?w27).one (L2.Zn ?a28 rfl) (L2.Xh ?l28 ?c28 ?u28 ?w28).one (L2.Zn ?a29 rfl) (L2.Xh ?l29 ?c29 ?u29 ?w29).one (L2.Zn ?a30 rfl) (L2.Xh ?l30 ?c30 ?u30 ?w30).one (L2.Zn ?a31 rfl) (L2.Xh ?l31 ?c31 ?u31 ?w31).one (L2.Zn ?a32 rfl) (L2.Xh ?l32 ?c32 ?u32 ?w32).one (L2.Zn ?a33 rfl) (L2.Xh ?l33 ?c33 ?u33 ?w33).one (L2.Zn ?a34 rfl) (L2.Xh ?l34 ?c34 ?u34 ?w34).one (L2.Zn ?a35 rfl) (L2.Xh ?l35 ?c35 ?u35 ?w35).one (L2.Zn ?a36 rfl) (L2.Xh ?l36 ?c36 ?u36 ?w36).one (L2.Zn ?z1 rfl) (L2.Zn ?z2 rfl) (L2.Zn ?z3 rfl) (L2.Zn ?z4 rfl) (L2.Zn ?z5 rfl) (L2.Zn ?z6 rfl) (L2.Zn ?z7 rfl) (L2.Zn ?z8 rfl) (L2.Zn ?z9 rfl) (L2.Zn ?z10 rfl) (L2.Zn ?z11 rfl) (L2.Zn ?z12 rfl) (L2.Zn ?z13 rfl) (L2.Zn ?v1 rfl) (L2.Zqs ?h1 ?g1) (L2.Zqs ?h2 ?g2) (L2.Zn ?bm1 rfl) (L2.Zsp ?bm2 ?bm4) ?bm3
  (case a1=>k_is)
  (case l1=>k_is)
  (case c1=>k_is)
  (case a2=>k_is)
  (case l2=>k_is)
  (case c2=>k_is)
  (case a3=>k_is)
  (case l3=>k_is)
  (case c3=>k_is)
  (case a4=>k_is)
  (case l4=>k_is)
  (case c4=>k_is)
  (case a5=>k_is)
  (case l5=>k_is)
  (case c5=>k_is)
  (case a6=>k_is)
  (case l6=>k_is)
  (case c6=>k_is)
  (case a7=>k_is)
  (case l7=>k_is)
  (case c7=>k_is)
  (case a8=>k_is)
  (case l8=>k_is)
  (case c8=>k_is)
  (case a9=>k_is)
  (case l9=>k_is)
  (case c9=>k_is)
  (case a10=>k_is)
  (case l10=>k_is)
  (case c10=>k_is)
  (case a11=>k_is)
  (case l11=>k_is)
  (case c11=>k_is)
  (case a12=>k_is)
  (case l12=>k_is)
  (case c12=>k_is)
  (case a13=>k_is)
  (case l13=>k_is)
  (case c13=>k_is)
  (case a14=>k_is)
  (case l14=>k_is)
  (case c14=>k_is)
  (case a15=>k_is)
  (case l15=>k_is)
  (case c15=>k_is)
  (case a16=>k_is)
  (case l16=>k_is)
  (case c16=>k_is)
  (case a17=>k_is)
  (case l17=>k_is)
  (case c17=>k_is)
  (case a18=>k_is)
  (case l18=>k_is)
  (case c18=>k_is)
  (case a19=>k_is)
  (case l19=>k_is)
  (case c19=>k_is)
  (case a20=>k_is)
  (case l20=>k_is)
  (case c20=>k_is)
  (case a21=>k_is)
  (case l21=>k_is)
  (case c21=>k_is)
  (case a22=>k_is)
  (case l22=>k_is)
  (case c22=>k_is)
  (case a23=>k_is)
  (case l23=>k_is)
  (case c23=>k_is)
  (case a24=>k_is)
  (case l24=>k_is)
  (case c24=>k_is)
  (case a25=>k_is)
  (case l25=>k_is)
  (case c25=>k_is)
  (case a26=>k_is)
  (case l26=>k_is)
  (case c26=>k_is)
  (case a27=>k_is)
  (case l27=>k_is)
  (case c27=>k_is)
  (case a28=>k_is)
  (case l28=>k_is)
  (case c28=>k_is)
  (case a29=>k_is)
  (case l29=>k_is)
  (case c29=>k_is)
  (case a30=>k_is)
  (case l30=>k_is)
  (case c30=>k_is)
  (case a31=>k_is)
  (case l31=>k_is)
  (case c31=>k_is)
  (case a32=>k_is)
  (case l32=>k_is)
  (case c32=>k_is)
  (case a33=>k_is)
  (case l33=>k_is)
  (case c33=>k_is)
  (case a34=>k_is)
  (case l34=>k_is)
  (case c34=>k_is)
  (case a35=>k_is)
  (case l35=>k_is)
  (case c35=>k_is)
  (case a36=>k_is)
  (case l36=>k_is)
  (case c36=>k_is)
  (case z1=>k_is)
  (case z2=>k_is)
  (case z3=>k_is)
  (case z4=>k_is)
  (case z5=>k_is)
  (case z6=>k_is)
  (case z7=>k_is)
  (case z8=>k_is)
  (case z9=>k_is)
  (case z10=>k_is)
  (case z11=>k_is)
  (case z12=>k_is)
  (case z13=>k_is)
  (case v1=>k_is)
  (case u1=>rfl)
  (case w1=>rfl)
  (case u2=>rfl)
  (case w2=>rfl)
  (case u3=>rfl)
  (case w3=>rfl)
  (case u4=>rfl)
  (case w4=>rfl)
  (case u5=>rfl)
  (case w5=>rfl)
  (case u6=>rfl)
  (case w6=>rfl)
  (case u7=>rfl)
  (case w7=>rfl)
  (case u8=>rfl)
  (case w8=>rfl)
  (case u9=>rfl)
  (case w9=>rfl)
  (case u10=>rfl)
  (case w10=>rfl)
  (case u11=>rfl)
  (case w11=>rfl)
  (case u12=>rfl)
  (case w12=>rfl)
  (case u13=>rfl)
  (case w13=>rfl)
  (case u14=>rfl)
  (case w14=>rfl)
  (case u15=>rfl)
  (case w15=>rfl)
  (case u16=>rfl)
  (case w16=>rfl)
  (case u17=>rfl)
  (case w17=>rfl)
  (case u18=>rfl)
  (case w18=>rfl)
  (case u19=>rfl)
  (case w19=>rfl)
  (case u20=>rfl)
  (case w20=>rfl)
  (case u21=>rfl)
  (case w21=>rfl)
  (case u22=>rfl)
  (case w22=>rfl)
  (case u23=>rfl)
  (case w23=>rfl)
  (case u24=>rfl)
  (case w24=>rfl)
  (case u25=>rfl)
  (case w25=>rfl)
  (case u26=>rfl)
  (case w26=>rfl)
  (case u27=>rfl)
  (case w27=>rfl)
  (case u28=>rfl)
  (case w28=>rfl)
  (case u29=>rfl)
  (case w29=>rfl)
  (case u30=>rfl)
  (case w30=>rfl)
  (case u31=>rfl)
  (case w31=>rfl)
  (case u32=>rfl)
  (case w32=>rfl)
  (case u33=>rfl)
  (case w33=>rfl)
  (case u34=>rfl)
  (case w34=>rfl)
  (case u35=>rfl)
  (case w35=>rfl)
  (case u36=>rfl)
  (case w36=>rfl)
  (case h1=>kernel_rfl)
  (case g1=>rfl)
  (case h2=>kernel_rfl)
  (case g2=>rfl)
  (case bm1=>k_is)
  (case bm2=>k_is)
  (case bm4=>rfl)
  (case bm3=>exact ⟨by decide,by kernel_rfl,by kernel_rfl,by kernel_rfl⟩)
