import PyProof.Rows.All
import Wide.All
import OpenK.AllK
import Wide.FinOn
import Lean
import PyProof.EqAt
import PyProof.EqKinds
import PyProof.TupleCall
import PySem.Challenge.RW_selvage_k38_whole_seen_from_behind
set_option Elab.async false
set_option linter.all false
set_option maxRecDepth 100000
set_option genSizeOfSpec false
set_option genInjectivity false
open PySem.W (Frag clsIn codeHdIn codeIn exmOne findIn fnOf hideAll isFn kat_no kat_yes keepIn methodObj mg_none_of mg_of nsIn specialIn subIn typeIn)
open List (append_assoc append_nil drop_eq_getElem_cons drop_eq_nil_of_le filterMap_cons filter_append filter_congr filter_cons filter_filter filter_nil flatten_append flatten_cons foldl_cons getD_eq_getElem?_getD getElem?_append_left getElem?_append_right getElem?_drop getElem?_eq_getElem getElem?_eq_none getElem?_map getElem?_set_ne getElem?_set_self getElem?_take getElem_mem length_append length_cons length_drop length_filter_le length_map length_nil length_range length_reverse length_set length_singleton length_take lookup_cons map_append map_congr_left map_cons map_drop map_id map_map map_nil map_take mem_append_left mem_append_right mem_cons_of_mem mem_cons_self mem_iff_getElem mem_of_getElem? mem_of_mem_drop mem_of_mem_take nodup_nil pairwise_singleton perm_append_comm replicate_succ reverse_append reverse_cons reverse_reverse set_append_right size_toArray sum_append sum_cons take_append_drop take_of_length_le take_zero)
open Nat (add_assoc add_sub_cancel add_zero le_add_right le_of_eq le_of_lt le_refl le_succ le_trans lt_irrefl lt_of_lt_of_le lt_succ_of_lt lt_trans min_eq_left mul_le_mul ne_of_gt ne_of_lt sub_self sub_zero succ_mul zero_add zero_le)
open Int (add_le_add add_mul emod_lt_of_pos emod_nonneg mul_add mul_nonneg mul_zero natCast_add toNat_lt toNat_natCast zero_mul)
open Array (getElem?_toList length_toList toList_append toList_push toList_reverse)
open PySem.Heap (get?_push_of_some get?_push_size get?_update_other lt_size size_push size_update)
def PySem.W.Fast.tw8267290130633424503:=0
def PySem.W.Fast.tw3667638331748256399:=0
def PySem.W.Fast.tw11792480983377372921:=0
def PySem.W.Fast.tw3327389617888467800:=0
def PySem.W.Fast.tw15419060329886447486:=0
def PySem.W.Fast.tw12419795894480711264:=0
def PySem.W.Fast.tw8160111409094872598:=0
def PySem.W.Fast.tw8770774257680442788:=0
def PySem.W.Fast.tw13634002760658617508:=0
def PySem.W.Fast.tw788698401433258736:=0
def PySem.W.Fast.tw6708591977227209657:=0
def PySem.W.Fast.tw4356634765367639578:=0
theorem aT0 (h:True:=by first | exact .inl rfl | exact .inr rfl | assumption):True:=True.intro
theorem aT3 (h:True:=by first | exact Or.inl rfl | exact Or.inr (Or.inl rfl) | exact Or.inr (Or.inr rfl)):True:=True.intro
namespace L2
open PySem PySem.Spec PyProof.Rows
noncomputable abbrev Key:=Sum Int Str
noncomputable def Xoj:Key→Value→Bool
 | .inl k,v=>Value.isInt k v
 | .inr x,v=>Value.isStrOf x v
noncomputable def keyH (w:World):Key→Int
 | .inl k=>hashInt k
 | .inr x=>hashStr w x
theorem Yn:∀{k:Key} {v:Value},Xoj k v=true→(∃i t,k=Sum.inl i∧v=Value.int i t)∨(∃x t,k=Sum.inr x∧v=Value.str x t)
 | .inl i,v,h=>by
  obtain ⟨t,e⟩:=Value.isInt_shape (k:=i) (v:=v) h
  exact .inl ⟨i,t,rfl,e⟩
 | .inr x,v,h=>by
  obtain ⟨t,e⟩:=Value.isStrOf_shape (x:=x) (v:=v) h
  exact .inr ⟨x,t,rfl,e⟩
theorem Xpf (a b:Int):decide ((Sum.inl a:Key)=Sum.inl b)=(a==b):=by
 by_cases e:a=b
 ·subst e;simp
 ·have h:¬(Sum.inl a:Key)=Sum.inl b:=fun q=>e (Sum.inl.inj q)
  rw [decide_eq_false h]
  exact (beq_eq_false_iff_ne.mpr e).symm
theorem Xov (a b:Str):decide ((Sum.inr a:Key)=Sum.inr b)=decide (a=b):=by
 by_cases e:a=b
 ·subst e;simp
 ·have h:¬(Sum.inr a:Key)=Sum.inr b:=fun q=>e (Sum.inr.inj q)
  rw [decide_eq_false h,decide_eq_false e]
theorem Xrs (a:Int)(b:Str):decide ((Sum.inl a:Key)=Sum.inr b)=false:=decide_eq_false (fun q=>nomatch q)
theorem Xpe (a:Str)(b:Int):decide ((Sum.inr a:Key)=Sum.inl b)=false:=decide_eq_false (fun q=>nomatch q)
noncomputable def Zww (prog:Program)(w:World):PySem.KeyKind prog w Key where
 is:=Xoj
 hash:=keyH w
 inj:=fun v a b ha hb=>by
  rcases Yn ha with ⟨i,t,rfl,rfl⟩ | ⟨x,t,rfl,rfl⟩
  ·rcases Yn hb with ⟨j,u,rfl,e⟩ | ⟨y,u,rfl,e⟩
   ·injection e with e1 _;rw [e1]
   ·exact nomatch e
  ·rcases Yn hb with ⟨j,u,rfl,e⟩ | ⟨y,u,rfl,e⟩
   ·exact nomatch e
   ·injection e with e1 _;rw [e1]
 byValue:=fun k v h=>by
  rcases Yn h with ⟨i,t,rfl,rfl⟩ | ⟨x,t,rfl,rfl⟩<;>rfl
 pyHash:=fun hv h=>by
  rcases Yn hv with ⟨i,t,rfl,rfl⟩ | ⟨x,t,rfl,rfl⟩
  ·exact wpAny_pyHash_int h
  ·exact wpAny_pyHash_str h
 eqBool:=fun hu hv h=>by
  rcases Yn hu with ⟨i,t,rfl,rfl⟩ | ⟨x,t,rfl,rfl⟩
  ·rcases Yn hv with ⟨j,u,rfl,rfl⟩ | ⟨y,u,rfl,rfl⟩
   ·rw [Xpf] at h;exact wpAny_eqBool_int h
   ·rw [Xrs] at h;exact SeqAt.EqAt.int_str i t y u _ _ _ _ h
  ·rcases Yn hv with ⟨j,u,rfl,rfl⟩ | ⟨y,u,rfl,rfl⟩
   ·rw [Xpe] at h;exact SeqAt.EqAt.str_int x t j u _ _ _ _ h
   ·rw [Xov] at h;exact wpAny_eqBool_str h
 «strs»:=fun k x t v h=>by
  rcases Yn h with ⟨i,u,rfl,e⟩ | ⟨y,u,rfl,e⟩
  ·exact nomatch e
  ·injection e with e1 _
   subst e1
   cases v<;>rfl
set_option genInjectivity true in
inductive V where
 | non | bl (b:Bool) | int (i:Int) | str (x:Str) | byt (b:Array UInt8) | flt (b:UInt64) | ref (a:Addr) | ty (n:String)
 deriving DecidableEq
noncomputable def RelV:V→Value→Prop
 | .non,u=>u=Value.none
 | .bl b,u=>u=Value.bool b
 | .int i,u=>∃t,u=Value.int i t
 | .str x,u=>∃t,u=Value.str x t
 | .byt b,u=>∃t,u=Value.bytes b t
 | .flt b,u=>∃t,u=Value.float b t
 | .ref a,u=>u=Value.ref a
 | .ty n,u=>u=Value.type n
noncomputable abbrev Ys:List V→List Value→Prop:=Paired RelV
theorem Ys.length {xs:List V}{us:List Value}(r:Ys xs us):xs.length=us.length:=Paired.length r
theorem Ys.get:∀{xs:List V} {us:List Value} {i:Nat} {x:V},Ys xs us→xs[i]?=some x→∃u,us[i]?=some u∧RelV x u
 | _,_,_,_,.nil,e=>by simp at e
 | _,_,0,_,.cons r _,e=>by simp at e;subst e;exact ⟨_,rfl,r⟩
 | _,_,i+1,x,.cons _ t,e=>by
  obtain ⟨u,h1,h2⟩:=Ys.get (i:=i) (x:=x) t (by simpa using e)
  exact ⟨u,by simpa using h1,h2⟩
theorem Ys.append:∀{xs ys:List V} {us ws:List Value},Ys xs us→Ys ys ws→Ys (xs++ys) (us++ws)
 | _,_,_,_,.nil,s=>s
 | _,_,_,_,.cons r t,s=>.cons r (Ys.append t s)
theorem Ys.take:∀{xs:List V} {us:List Value} (n:Nat),Ys xs us→Ys (xs.take n) (us.take n)
 | _,_,0,_=>.nil
 | _,_,_+1,.nil=>.nil
 | _,_,n+1,.cons r t=>.cons r (Ys.take n t)
theorem Ys.drop:∀{xs:List V} {us:List Value} (n:Nat),Ys xs us→Ys (xs.drop n) (us.drop n)
 | _,_,0,r=>r
 | _,_,_+1,.nil=>.nil
 | _,_,n+1,.cons _ t=>Ys.drop n t
noncomputable def RelO:Option V→Option Value→Prop
 | some v,some u=>RelV v u
 | none,none=>True
 | _,_=>False
def KV {κ:Type}:List (κ×V)→List (κ×Value)→Prop:=Paired fun (p:κ×V) (q:κ×Value)=>p.1=q.1∧RelV p.2 q.2
noncomputable def kV:Key→V
 | .inl i=>.int i
 | .inr x=>.str x
inductive HO where
 | lst (xs:List V)
 | tup (xs:List V)
 | dK (kvs:List (Key×V)) | dT (kvs:List (List Key×V))
 | set (S:Int→Bool) (n:Nat)
 | ins (C dx:Addr) (fs:List (Str×V))
 | own (x:Addr)
 | xd (fs:List (Str×V))
 | met (f x:Addr)
 | rng (lo hi:Int)
 | frz (o:Obj) (u:HO)
 | tbl (pos:Pos) (qual:Str)
 | ext (φ:Heap→Prop)
noncomputable abbrev Hp:=Addr→Option HO
noncomputable def upd (H:Hp)(a:Addr)(o:HO):Hp:=fun b=>if b=a then some o else H b
theorem Jz {H:Hp}{a:Addr}{o:HO}:upd H a o a=some o:=by unfold upd;rw [if_pos rfl]
theorem Yz {H:Hp}{a b:Addr}{o:HO}(h:b≠a):upd H a o b=H b:=by unfold upd;rw [if_neg h]
theorem Yy {H:Hp}{a b:Addr}{o:HO}(h:H a=some o)(h':H b=none):a≠b:=by
 intro e;subst e;rw [h] at h';cases h'
section
variable (P:Program)(w:World)
noncomputable def Zei (H:Hp)(h:Heap)(a:Addr):HO→Prop
 | .lst xs=>xs.length≤sizeLine∧∃(its:List Value) (n:Nat),Ys xs its∧h.get? a=some {cls:=.type "list",data:=.seq its.toArray n}
 | .tup xs=>xs.length≤sizeLine∧∃its:List Value,Ys xs its∧IsTup h a its.toArray
 | .dK kvs=>kvs.length≤sizeLine∧(a==sysModules)=false∧∃vs,KV kvs vs∧h.DictOf (Zww P w) a vs
 | .dT kvs=>kvs.length≤sizeLine∧(a==sysModules)=false∧∃xs:List (List Key×Addr×Value),
   Paired (fun (p:List Key×V) (q:List Key×Addr×Value)=>p.1=q.1∧H q.2.1=some (.tup (p.1.map kV))∧RelV p.2 q.2.2) kvs xs∧
   ∃o es ep,h.get? a=some o∧o.ExactDict∧o.data=.dict es ep∧es.toList=xs.map (entryOfKey (tupleKind (Zww P w)))∧(xs.map (·.1)).Nodup
 | .set S n=>h.SetOf (intKind P w) a S n
 | .ins C dx fs=>H dx=some (.own a)∧fs.length≤1000∧dx≠a∧h.get? a=some (PySem.W.instObj C dx)∧
   ∃mA,h.Ns1 dx mA∧(∀f,RelO (fs.lookup f) (mA f))∧PySem.Within mA (fs.map (·.1))
 | .own _=>∃o,h.get? a=some o
 | .xd fs=>∃mA,h.Ns1 a mA∧∀f,RelO (fs.lookup f) (mA f)
 | .rng lo hi=>∃t u v,h.get? a=some {cls:=.type "range",data:=.fields #[.int lo t,.int hi u,.int 1 v]}
 | .frz o u=>h.get? a=some o∧Zei H h a u
 | .tbl pos qual=>∃ps,h.get? a=some {cls:=.none,data:=.fields ps}∧TriplesOk ps.toList∧∀v,codeAmong pos ps.toList=some v→∃c o vs t,v=.ref c∧H c=some (.frz o (.own 0))∧o.data=.fields vs∧vs[1]?=some (.str qual t)
 | .met f x=>h.get? a=some (methodObj (.ref f) (.ref x))
 | .ext φ=>φ h∧(∃o,h.get? a=some o)∧∀h1 h2:Heap,φ h1→(∀o,h1.get? a=some o→h2.get? a=some o)→φ h2
def HOk (H:Hp)(h:Heap):Prop:=∀a o,H a=some o→Zei P w H h a o
end
section
variable {P:Program}{w:World}{H H':Hp}{h h':Heap}{a:Addr}{o:HO}
theorem Zei.lt (x:Zei P w H h a o):a<h.objs.size:=by
 cases o with
 | lst xs=>obtain ⟨_,_,_,_,e⟩:=x;exact lt_size e
 | tup xs=>obtain ⟨_,_,_,p⟩:=x;exact p.lt
 | dK kvs=>obtain ⟨_,_,_,_,o,_,_,e,_⟩:=x;exact lt_size e
 | dT kvs=>obtain ⟨_,_,_,_,o,_,_,e,_⟩:=x;exact lt_size e
 | set S n=>obtain ⟨o,_,_,_,e,_⟩:=x;exact lt_size e
 | ins C dx fs=>obtain ⟨_,_,_,e,_⟩:=x;exact lt_size e
 | own y=>obtain ⟨_,e⟩:=x;exact lt_size e
 | xd fs=>obtain ⟨_,⟨_,_,_,e,_⟩,_⟩:=x;exact lt_size e
 | rng lo hi=>obtain ⟨_,_,_,e⟩:=x;exact lt_size e
 | frz ob u=>obtain ⟨e,_⟩:=x;exact lt_size e
 | tbl pos qual=>obtain ⟨_,e,_⟩:=x;exact lt_size e
 | met f y=>exact lt_size (show h.get? a=some _ from x)
 | ext φ=>obtain ⟨_,⟨_,e⟩,_⟩:=x;exact lt_size e
theorem Paired.mapP {α β:Type}{F G:α→β→Prop}:∀{l₁:List α} {l₂:List β},Paired F l₁ l₂→(∀a b,F a b→G a b)→Paired G l₁ l₂
 | _,_,.nil,_=>.nil
 | _,_,.cons r t,f=>.cons (f _ _ r) (Paired.mapP t f)
theorem Zei.stay (x:Zei P w H h a o)(k:∀b u,(b=a∨H b=some (.own a))→h.get? b=some u→h'.get? b=some u)
  (ho:∀b,H b=some (.own a)→H' b=some (.own a)) (ht:∀b xs,H b=some (.tup xs)→H' b=some (.tup xs)) (hf:∀b o u,H b=some (.frz o u)→H' b=some (.frz o u)):Zei P w H' h' a o:=by
 induction o with
 | lst xs=>obtain ⟨z,its,n,r,e⟩:=x;exact ⟨z,its,n,r,k _ _ (.inl rfl) e⟩
 | tup xs=>obtain ⟨z,its,r,ob,e,c⟩:=x;exact ⟨z,its,r,ob,k _ _ (.inl rfl) e,c⟩
 | dK kvs=>obtain ⟨z,y,vs,r,ob,es,ep,e,c⟩:=x;exact ⟨z,y,vs,r,ob,es,ep,k _ _ (.inl rfl) e,c⟩
 | dT kvs =>
  obtain ⟨z,y,xs,r,ob,es,ep,e,c⟩:=x
  exact ⟨z,y,xs,Paired.mapP r fun p q z=>⟨z.1,ht _ _ z.2.1,z.2.2⟩,ob,es,ep,k _ _ (.inl rfl) e,c⟩
 | set S n=>obtain ⟨ob,es,ep,t,e,c⟩:=x;exact ⟨ob,es,ep,t,k _ _ (.inl rfl) e,c⟩
 | ins C dx fs =>
  obtain ⟨d,z,ne,e,mA,⟨od,es,ep,e2,c⟩,r⟩:=x
  exact ⟨ho _ d,z,ne,k _ _ (.inl rfl) e,mA,⟨od,es,ep,k _ _ (.inr d) e2,c⟩,r⟩
 | own y=>obtain ⟨ob,e⟩:=x;exact ⟨ob,k _ _ (.inl rfl) e⟩
 | xd fs=>obtain ⟨mA,⟨od,es,ep,e,c⟩,r⟩:=x;exact ⟨mA,⟨od,es,ep,k _ _ (.inl rfl) e,c⟩,r⟩
 | rng lo hi=>obtain ⟨t,u,v,e⟩:=x;exact ⟨t,u,v,k _ _ (.inl rfl) e⟩
 | frz ob u ih=>obtain ⟨e,q⟩:=x;exact ⟨k _ _ (.inl rfl) e,ih q⟩
 | tbl pos qual =>
  obtain ⟨ps,e,tr,hc⟩:=x
  refine ⟨ps,k a _ (.inl rfl) e,tr,fun v hv=>?_⟩
  obtain ⟨c,o,vs,t,e1,e2,e3⟩:=hc v hv
  exact ⟨c,o,vs,t,e1,hf _ _ _ e2,e3⟩
 | met f y =>
  have e:h.get? a=some (methodObj (.ref f) (.ref y)):=x
  show h'.get? a=some (methodObj (.ref f) (.ref y))
  exact k a _ (.inl rfl) e
 | ext φ=>obtain ⟨p,⟨o,e⟩,st⟩:=x;exact ⟨st _ _ p fun o q=>k _ _ (.inl rfl) q,⟨o,k _ _ (.inl rfl) e⟩,st⟩
theorem HOk.lt (x:HOk P w H h)(e:H a=some o):a<h.objs.size:=(x a o e).lt
theorem HOk.fresh (x:HOk P w H h)(e:h.objs.size≤a):H a=none:=by
 cases q:H a with
 | none=>rfl
 | some u=>exact absurd (lt_of_lt_of_le (x.lt q) e) (lt_irrefl _)
theorem HOk.kept (x:HOk P w H h)(k:∀b u,h.get? b=some u→h'.get? b=some u):HOk P w H h':=fun a o e =>
 (x a o e).stay (fun b u _ q=>k b u q) (fun _ q=>q) (fun _ _ q=>q) fun _ _ _ q=>q
theorem HOk.laid (x:HOk P w H h)(k:∀b u,h.get? b=some u→h'.get? b=some u)(hp:h.objs.size≤a)(new:Zei P w (upd H a o) h' a o):HOk P w (upd H a o) h':=fun b u e=>by
 have hn:=x.fresh hp
 by_cases hb:b=a
 ·subst hb;rw [Jz] at e;cases e;exact new
 ·rw [Yz hb] at e
  exact (x b u e).stay (fun c v _ q=>k c v q) (fun c q=>by rw [Yz (Yy q hn)];exact q) (fun c xs q=>by rw [Yz (Yy q hn)];exact q) fun c ob u q=>by rw [Yz (Yy q hn)];exact q
end
def Rd (H:Hp)(a:Addr)(u:HO):Prop:=H a=some u∨∃o,H a=some (.frz o u)
theorem Rd.ok {P:Program}{w:World}{H:Hp}{h:Heap}{a:Addr}{u:HO}(r:Rd H a u)(x:HOk P w H h):Zei P w H h a u:=by
 rcases r with r | ⟨o,r⟩
 ·exact x a u r
 ·obtain ⟨_,q⟩:=x a _ r
  exact q
noncomputable def Mut:Option HO→Prop
 | some (.lst _)=>True
 | some (.dK _)=>True
 | some (.dT _)=>True
 | some (.set _ _)=>True
 | some (.ins _ _ _)=>True
 | some (.ext _)=>True
 | _=>False
section
variable {P:Program}{w:World}{H:Hp}{h h':Heap}{x e:Addr}{o':HO}
theorem HOk.write (ok:HOk P w H h)(mu:Mut (H x))(he:e=x∨H e=some (.own x))(k:∀b u,b≠e→h.get? b=some u→h'.get? b=some u)(heo:∃u,h'.get? e=some u)
  (new:Zei P w (upd H x o') h' x o'):HOk P w (upd H x o') h':=fun b u q=>by
 have nown:∀c y,H c=some (.own y)→c≠x:=fun c y r z=>by subst z;rw [r] at mu;exact mu
 have ntup:∀c xs,H c=some (.tup xs)→c≠x:=fun c xs r z=>by subst z;rw [r] at mu;exact mu
 have nfrz:∀c ob u,H c=some (.frz ob u)→c≠x:=fun c ob u r z=>by subst z;rw [r] at mu;exact mu
 by_cases hb:b=x
 ·subst hb;rw [Jz] at q;cases q;exact new
 ·rw [Yz hb] at q
  by_cases hbe:b=e
  ·have q':H b=some (.own x):=by
    rcases he with z | z
    ·exact absurd (hbe.trans z) hb
    ·rw [hbe];exact z
   rw [q] at q';cases q'
   obtain ⟨v,hv⟩:=heo
   exact ⟨v,by rw [hbe];exact hv⟩
  ·refine (ok b u q).stay (fun c v hc r=>k c v ?_ r) (fun c r=>by rw [Yz (nown c b r)];exact r) (fun c xs r=>by rw [Yz (ntup c xs r)];exact r) fun c ob u r=>by rw [Yz (nfrz c ob u r)];exact r
   rcases hc with rfl | hc
   ·exact hbe
   ·rintro rfl
    rcases he with z | z
    ·exact nown c b hc z
    ·rw [hc] at z;cases z;exact hb rfl
end
structure Un (fs ex:List Addr)(H H':Hp)(h h':Heap):Prop where
 keep:∀b o,h.get? b=some o→H b=none→b∉fs→b∉ex→h'.get? b=some o
 slot:∀b o,h.get? b=some o→H b=none→b∈fs→b∉ex→∃sl,h'.get? b=some {o with slots:=sl}
 free:∀b o,h.get? b=some o→H b=none→b∉ex→H' b=none
 there:∀b o,h.get? b=some o→b∉ex→∃o',h'.get? b=some o'
 tups:∀b xs,H b=some (.tup xs)→H' b=some (.tup xs)
 frzs:∀b o u,H b=some (.frz o u)→H' b=some (.frz o u)
 tbls:∀b p q,H b=some (.tbl p q)→H' b=some (.tbl p q)
section
variable {fs fs' ex ex':List Addr}{H H1 H2:Hp}{h h1 h2 h':Heap}{a x e:Addr}{o:HO}
theorem Un.any (u:Un fs ex H H1 h h1){b:Addr}{ob:Obj}(q:h.get? b=some ob)(n:H b=none)(hx:b∉ex):∃sl,h1.get? b=some {ob with slots:=sl}:=by
 by_cases hb:b∈fs
 ·exact u.slot b ob q n hb hx
 ·exact ⟨ob.slots,u.keep b ob q n hb hx⟩
theorem Un.kept (k:∀b u,h.get? b=some u→h'.get? b=some u):Un fs ex H H h h':=
 ⟨fun b ob q _ _ _=>k b ob q,fun b ob q _ _ _=>⟨ob.slots,k b ob q⟩,fun _ _ _ n _=>n,fun b ob q _=>⟨ob,k b ob q⟩,fun _ _ q=>q,fun _ _ _ q=>q,fun _ _ _ q=>q⟩
theorem Un.refl:Un fs ex H H h h:=Un.kept fun _ _ q=>q
theorem Un.laid (k:∀b u,h.get? b=some u→h'.get? b=some u)(hp:h.objs.size≤a)(hn:H a=none):Un fs ex H (upd H a o) h h' where
 keep:=fun b u q _ _ _=>k b u q
 slot:=fun b u q _ _ _=>⟨u.slots,k b u q⟩
 free:=fun b u q n _=>by rw [Yz (ne_of_lt (lt_of_lt_of_le (lt_size q) hp))];exact n
 there:=fun b u q _=>⟨u,k b u q⟩
 tups:=fun b xs q=>by rw [Yz (Yy q hn)];exact q
 frzs:=fun b u xs q=>by rw [Yz (Yy q hn)];exact q
 tbls:=fun b p n q=>by rw [Yz (Yy q hn)];exact q
theorem Un.write (mu:Mut (H x))(he:e=x∨H e=some (.own x))(k:∀b u,b≠e→h.get? b=some u→h'.get? b=some u)(heo:∃u,h'.get? e=some u):Un fs ex H (upd H x o) h h':=by
  have hx:∀b,H b=none→b≠x:=fun b n z=>by subst z;rw [n] at mu;exact mu
  have hb:∀b,H b=none→b≠e:=fun b n z=>by
    subst z
    rcases he with r | r
    · exact hx b n r
    · rw [n] at r;cases r
  have hm:∀b u,H b=some u→¬Mut (some u)→b≠x:=fun b u q nm z=>by subst z;rw [q] at mu;exact nm mu
  refine ⟨fun b u q n _ _=>k b u (hb b n) q,fun b u q n _ _=>⟨u.slots,k b u (hb b n) q⟩,fun b u q n _=>by rw [Yz (hx b n)];exact n,fun b u q _=>?_,
    fun b xs q=>by rw [Yz (hm b _ q fun z=>z)];exact q,fun b u xs q=>by rw [Yz (hm b _ q fun z=>z)];exact q,fun b p n q=>by rw [Yz (hm b _ q fun z=>z)];exact q⟩
  by_cases hbe:b=e
  · subst hbe;exact heo
  · exact ⟨u,k b u hbe q⟩
end
noncomputable def trk (h:Heap)(H:Hp):List Addr:=(List.range h.objs.size).filter fun a=>(H a).isSome
noncomputable def Xam (h:Heap)(H:Hp):Heap:=hideAll h (trk h H)
theorem Zwh (h:Heap)(H:Hp):(Xam h H).objs.size=h.objs.size:=PySem.W.hideAll_size _ _
theorem Xbs {h:Heap}{H:Hp}{b:Addr}{o:Obj}(e:h.get? b=some o)(n:H b=none):(Xam h H).get? b=some o:=
 PySem.W.hideAll_get _ e fun hm=>by
  have q:(H b).isSome=true:=(List.mem_filter.mp hm).2
  rw [n] at q;simp at q
theorem Xkl {h:Heap}{H:Hp}{b:Addr}{o:Obj}(e:(Xam h H).get? b=some o):h.get? b=some o∧H b=none:=by
 have e':h.get? b=some o:=PySem.W.of_hideAll (trk h H) e
 refine ⟨e',?_⟩
 cases q:H b with
 | none=>rfl
 | some x =>
  have hm:b∈trk h H:=List.mem_filter.mpr ⟨List.mem_range.mpr (lt_size e'),by simp [q]⟩
  have z:(Xam h H).get? b=none:=PySem.W.hideAll_none (trk h H) hm
  rw [z] at e;cases e
noncomputable def Xjp (g h:Heap)(L:Addr):List (Addr×Obj):=(List.range h.objs.size).filterMap fun a=>if a=L∨(g.get? a).isSome=true then none else (h.get? a).map fun o=>(a,o)
noncomputable def rest (g h:Heap)(L d:Addr):List (Addr×Obj):=(Xjp g h L).filter fun p=>decide (p.1≠d)
structure Mod (K:Frag)(mg:Str→Option Value)(base:Heap):Prop where
 kin:K.In base
 glob:base.Ns mainGlobals mg
 blt:∃mb,base.Ns builtinsNs mb∧∀x:Str,x≠"__name__"→mb x=bootBuiltins x
 nolimit:base.NoLimit
structure Cx where
 prog:Program
 w:World
 K:Frag
 mg:Str→Option Value
 base:Heap
 A:Around
 N:List Str
 s₀:Shared
 H₀:Hp
 env:Env
 outer:List Env
 stack:List Env
 ex:List Addr
 fn:Str→Bool
 calm:Bool
 pn:List (Addr×Obj)
 xe:Value→Shared→Prop
noncomputable def frs (l:List Env):List Addr:=l.filterMap (·.frame)
noncomputable abbrev Cx.fs (X:Cx):List Addr:=frs X.outer
def Vis (sc:Scope)(x:Str):Prop:=sc.names.lookup x=some .local∨sc.names.lookup x=some .cell∨sc.names.lookup x=some .free
def Loc (sc:Scope)(x:Str):Prop:=sc.names.lookup x=some .local∨sc.names.lookup x=some .cell
def Look (env:Env)(h:Heap)(m:Str→Option Value)(x:Str)(u:Value):Prop:=
 (env.kindOf x=some .local∧m x=some u)∨((env.kindOf x=some .cell∨env.kindOf x=some .free)∧∃c,env.cells.lookup x=some c∧h.IsCell c (some u))
structure Cx.Ok (X:Cx):Prop where
 mod:Mod X.K X.mg X.base
 kind:X.env.scope.kind=.function
 glob:X.env.globals=mainGlobals
 blt:X.env.builtins=builtinsNs
 above:X.s₀.heap.objs.size≤X.env.locals
 inj:∀x y c,X.env.cells.lookup x=some c→X.env.cells.lookup y=some c→x=y
 has:∀x,(X.env.kindOf x=some .cell∨X.env.kindOf x=some .free)→∃c,X.env.cells.lookup x=some c
 cab:∀x c,X.fn x=true→X.env.cells.lookup x=some c→X.s₀.heap.objs.size≤c
 hd:X.calm=true→X.A.handled=none
 frames:X.A.frames=some X.stack
 stk:X.stack=X.outer∨(X.stack=X.env::X.outer∧X.env.frame=some X.env.locals)
 exf:∀b∈X.ex,b≠X.env.locals∧∀x c,X.env.cells.lookup x=some c→c≠b
 bs:∀b o,X.base.get? b=some o→X.s₀.heap.get? b=some o∧X.H₀ b=none
 bsz:X.base.objs.size≤X.s₀.heap.objs.size
 noex:∀b o,X.base.get? b=some o→b∉X.ex
 exfs:∀b∈X.ex,b∉X.fs
 funs:X.s₀.heap.FunFrames X.base X.outer
 frf:∀b∈X.fs,X.H₀ b=none
structure Inv (X:Cx)(pins:List (Addr×Obj))(σ:List (Option V))(H:Hp)(s:Shared):Prop where
 ok:X.Ok
 os:s.os=X.s₀.os
 bare:AllBare s.gens
 base:Un X.fs X.ex X.H₀ H X.s₀.heap s.heap
 loc:∃m,s.heap.Ns X.env.locals m∧∀(i:Nat) (x:Str) (v:V),X.N[i]?=some x→σ[i]?=some (some v)→Vis X.env.scope x→∃u,RelV v u∧Look X.env s.heap m x u
 cell:∀x c,X.env.cells.lookup x=some c→∃v,s.heap.IsCell c v
 free:H X.env.locals=none
 freeC:∀x c,X.env.cells.lookup x=some c→H c=none
 pin:∀p∈X.pn++pins,s.heap.get? p.1=some p.2∧H p.1=none∧p.1≠X.env.locals∧p.1∉X.fs∧∀v,p.2.data≠.cell v
 hok:HOk X.prog X.w H s.heap
 len:σ.length=X.N.length
section
variable {X:Cx}{pins:List (Addr×Obj)}{σ:List (Option V)}{H H':Hp}{s:Shared}{h':Heap}
theorem Cx.Ok.nofr (ok:X.Ok){b:Addr}{o:Obj}(e:X.base.get? b=some o):b∉X.fs:=fun hb=>by
 have:=(ok.funs.mem hb).1
 rw [e] at this;cases this
theorem Inv.bs (I:Inv X pins σ H s):∀b o,X.base.get? b=some o→s.heap.get? b=some o∧H b=none:=fun b o e =>
 ⟨I.base.keep b o (I.ok.bs b o e).1 (I.ok.bs b o e).2 (I.ok.nofr e) (I.ok.noex b o e),I.base.free b o (I.ok.bs b o e).1 (I.ok.bs b o e).2 (I.ok.noex b o e)⟩
theorem Inv.bk (I:Inv X pins σ H s):∀b o,X.base.get? b=some o→s.heap.get? b=some o:=fun b o e=>(I.bs b o e).1
theorem Inv.mod (I:Inv X pins σ H s):Mod X.K X.mg X.base:=I.ok.mod
theorem Inv.kIn (I:Inv X pins σ H s):X.K.In s.heap:=I.ok.mod.kin.keeps I.bk
theorem Inv.lt (I:Inv X pins σ H s):X.env.locals<s.heap.objs.size:=let ⟨_,hn,_⟩:=I.loc;hn.lt
theorem Inv.sz (I:Inv X pins σ H s):X.s₀.heap.objs.size≤s.heap.objs.size:=le_trans I.ok.above (le_of_lt I.lt)
theorem Inv.nofs (I:Inv X pins σ H s){a:Addr}(h:s.heap.objs.size≤a):a∉X.fs:=fun hb=>by
 obtain ⟨_,o,ho,_⟩:=I.ok.funs.mem hb
 exact absurd (lt_of_lt_of_le (lt_size ho) (le_trans I.sz h)) (lt_irrefl _)
theorem Inv.cne (I:Inv X pins σ H s):∀x c,X.env.cells.lookup x=some c→c≠X.env.locals:=fun x c e z=>by
 obtain ⟨v,o,ho,hd⟩:=I.cell x c e
 obtain ⟨m,⟨o',es,ep,ho',hd',_⟩,_⟩:=I.loc
 rw [z,ho'] at ho;cases ho;rw [hd'] at hd;cases hd
theorem Inv.funs (I:Inv X pins σ H s):s.heap.FunFrames X.base X.outer:=by
 have all:∀(l:List Env),(∀b∈frs l,b∈X.fs)→X.s₀.heap.FunFrames X.base l→s.heap.FunFrames X.base l:=by
  intro l
  induction l with
  | nil=>intro _ _;trivial
  | cons env r ih =>
   intro hs hl
   obtain ⟨hk,⟨L,o,hf,hn,ho,hd⟩,hr⟩:=hl
   have hL:L∈X.fs:=hs L (by unfold frs;rw [filterMap_cons,hf];exact mem_cons_self)
   obtain ⟨sl,e⟩:=I.base.slot L o ho (I.ok.frf L hL) hL fun z=>I.ok.exfs L z hL
   exact ⟨hk,⟨L,_,hf,hn,e,hd⟩,ih (fun b hb=>hs b (by unfold frs;rw [filterMap_cons,hf];exact mem_cons_of_mem _ hb)) hr⟩
 exact all X.outer (fun _ hb=>hb) I.ok.funs
theorem Inv.stack (I:Inv X pins σ H s):s.heap.FunFrames X.base X.stack:=by
 rcases I.ok.stk with e | ⟨e,hf⟩
 ·rw [e];exact I.funs
 ·rw [e]
  obtain ⟨m,hn,_⟩:=I.loc
  refine .cons (by rw [I.ok.kind];decide) hf hn ?_ I.funs
  exact Heap.get?_none_of_le (le_trans I.ok.bsz I.ok.above)
theorem Inv.stkSub (I:Inv X pins σ H s):∀b∈frs X.stack,b∈X.env.locals::X.fs:=fun b hb=>by
 rcases I.ok.stk with e | ⟨e,hf⟩
 ·rw [e] at hb;exact mem_cons_of_mem _ hb
 ·rw [e] at hb
  unfold frs at hb
  rw [filterMap_cons,hf] at hb
  exact hb
theorem Inv.stkFree (I:Inv X pins σ H s):∀b∈frs X.stack,H b=none:=fun b hb=>by
 rcases List.mem_cons.mp (I.stkSub b hb) with e | hb
 ·rw [e];exact I.free
 ·obtain ⟨_,o,ho,_⟩:=I.ok.funs.mem hb
  exact I.base.free b o ho (I.ok.frf b hb) fun z=>I.ok.exfs b z hb
theorem Inv.step {g':Array GenState}{t':Nat}{d':Drawn}{ch:List Addr}(I:Inv X pins σ H s)
  (hch:∀b∈ch,(b∈X.ex∨X.s₀.heap.objs.size≤b)∧b≠X.env.locals∧(∀x c,X.env.cells.lookup x=some c→c≠b)∧∀p∈X.pn++pins,p.1≠b)
  (keep:∀b o,b≠X.env.locals→b∉X.fs→b∉ch→s.heap.get? b=some o→H b=none→h'.get? b=some o)
  (slot:∀b o,b≠X.env.locals→b∈X.fs→b∉ch→s.heap.get? b=some o→H b=none→∃sl,h'.get? b=some {o with slots:=sl}) (free:∀b o,b∉ch→s.heap.get? b=some o→H b=none→H' b=none)
  (there:∀b o,b∉ch→s.heap.get? b=some o→∃o',h'.get? b=some o')
  (tups:∀b xs,H b=some (.tup xs)→H' b=some (.tup xs)) (frzs:∀b o u,H b=some (.frz o u)→H' b=some (.frz o u)) (tbls:∀b p n,H b=some (.tbl p n)→H' b=some (.tbl p n))
  (ns:∀m,s.heap.Ns X.env.locals m→h'.Ns X.env.locals m) (hok:HOk X.prog X.w H' h') (hg:AllBare g') :
  Inv X pins σ H' {s with heap:=h',gens:=g',drawn:=d',toks:=t'}:=by
 have neL:∀b o,X.s₀.heap.get? b=some o→b≠X.env.locals:=fun b o e=>ne_of_lt (lt_of_lt_of_le (lt_size e) I.ok.above)
 have neC:∀b o,X.s₀.heap.get? b=some o→b∉X.ex→b∉ch:=fun b o e hx hb=>by
  rcases (hch b hb).1 with z | z
  ·exact hx z
  ·exact absurd (lt_of_lt_of_le (lt_size e) z) (lt_irrefl _)
 have cellK:∀x c,X.env.cells.lookup x=some c→∀v,s.heap.IsCell c v→h'.IsCell c v:=fun x c e v ⟨o,ho,hd⟩=>by
  have nch:c∉ch:=fun z=>(hch c z).2.2.1 x c e rfl
  by_cases hc:c∈X.fs
  ·obtain ⟨sl,q⟩:=slot c o (I.cne x c e) hc nch ho (I.freeC x c e)
   exact ⟨_,q,hd⟩
  ·exact ⟨o,keep c o (I.cne x c e) hc nch ho (I.freeC x c e),hd⟩
 refine ⟨I.ok,I.os,hg,⟨fun b o e n hb hx=>?_,fun b o e n hb hx=>?_,fun b o e n hx=>?_,fun b o e hx=>?_,fun b xs e=>tups b xs (I.base.tups b xs e),fun b o xs e=>frzs b o xs (I.base.frzs b o xs e),fun b p n e=>tbls b p n (I.base.tbls b p n e)⟩,?_,fun x c e=>?_,?_,fun x c e=>?_,fun p hp=>?_,hok,I.len⟩
 ·exact keep b o (neL b o e) hb (neC b o e hx) (I.base.keep b o e n hb hx) (I.base.free b o e n hx)
 ·obtain ⟨sl,e1⟩:=I.base.slot b o e n hb hx
  obtain ⟨sl',e2⟩:=slot b _ (neL b o e) hb (neC b o e hx) e1 (I.base.free b o e n hx)
  exact ⟨sl',e2⟩
 ·obtain ⟨o',e1⟩:=I.base.there b o e hx
  exact free b o' (neC b o e hx) e1 (I.base.free b o e n hx)
 ·obtain ⟨o',e1⟩:=I.base.there b o e hx
  exact there b o' (neC b o e hx) e1
 ·obtain ⟨m,hn,hl⟩:=I.loc
  refine ⟨m,ns m hn,fun i x v e1 e2 e3=>?_⟩
  obtain ⟨u,r,l⟩:=hl i x v e1 e2 e3
  refine ⟨u,r,?_⟩
  rcases l with l | ⟨k,c,e,z⟩
  ·exact .inl l
  ·exact .inr ⟨k,c,e,cellK x c e _ z⟩
 ·obtain ⟨v,z⟩:=I.cell x c e
  exact ⟨v,cellK x c e v z⟩
 ·obtain ⟨m,⟨o,_,_,ho,_⟩,_⟩:=I.loc
  exact free _ o (fun z=>(hch _ z).2.1 rfl) ho I.free
 ·obtain ⟨v,o,ho,hd⟩:=I.cell x c e
  exact free c o (fun z=>(hch c z).2.2.1 x c e rfl) ho (I.freeC x c e)
 ·obtain ⟨e,n,ne,nf,d⟩:=I.pin p hp
  have nch:p.1∉ch:=fun z=>(hch p.1 z).2.2.2 p hp rfl
  exact ⟨keep p.1 p.2 ne nf nch e n,free p.1 p.2 nch e n,ne,nf,d⟩
theorem Inv.un {t':Nat}(I:Inv X pins σ H s)(u:Un X.fs [] H H' s.heap h')(hok:HOk X.prog X.w H' h'):Inv X pins σ H' {s with heap:=h',toks:=t'}:=by
  obtain ⟨m,⟨o,es,ep,ho,r⟩,_⟩:=id I.loc
  obtain ⟨sl,hL⟩:=u.any ho I.free (by simp)
  exact I.step (g':=s.gens) (d':=s.drawn) (ch:=[]) (fun _ z=>nomatch z) (fun b o _ hb _ e n=>u.keep b o e n hb (by simp)) (fun b o _ hb _ e n=>u.slot b o e n hb (by simp)) (fun b o _ e n=>u.free b o e n (by simp)) (fun b o _ e=>u.there b o e (by simp)) u.tups u.frzs u.tbls (fun m' hm=>by
    obtain ⟨o',es',ep',ho',r'⟩:=hm
    rw [ho] at ho';cases ho'
    exact ⟨_,es',ep',hL,r'⟩) hok I.bare
theorem Inv.call {g':Array GenState}{t':Nat}{d':Drawn}{ch:List Addr}(I:Inv X pins σ H s)(u:Un (frs X.stack) ch H H' s.heap h')(hok:HOk X.prog X.w H' h')(hg:AllBare g')
    (hch:∀b∈ch,(b∈X.ex∨X.s₀.heap.objs.size≤b)∧b≠X.env.locals∧(∀x c,X.env.cells.lookup x=some c→c≠b)∧∀p∈X.pn++pins,p.1≠b) :
    Inv X pins σ H' {s with heap:=h',gens:=g',drawn:=d',toks:=t'}:=by
  obtain ⟨m,⟨o,es,ep,ho,r⟩,_⟩:=id I.loc
  obtain ⟨sl,hL⟩:=u.any ho I.free fun z=>(hch _ z).2.1 rfl
  exact I.step (ch:=ch) hch (fun b o hL hb hc e n=>u.keep b o e n (fun z=>(List.mem_cons.mp (I.stkSub b z)).elim hL hb) hc) (fun b o _ _ hc e n=>u.any e n hc) (fun b o hc e n=>u.free b o e n hc) (fun b o hc e=>u.there b o e hc) u.tups u.frzs u.tbls (fun m' hm=>by
    obtain ⟨o',es',ep',ho',r'⟩:=hm
    rw [ho] at ho';cases ho'
    exact ⟨_,es',ep',hL,r'⟩) hok hg
theorem Inv.turned {t':Nat}{it:Addr}(I:Inv X pins σ H s)(k:∀b o,b≠it→s.heap.get? b=some o→h'.get? b=some o)(hn:H it=none)(hL:it≠X.env.locals)
  (h1:it∈X.ex∨X.s₀.heap.objs.size≤it) (h2:∀x c,X.env.cells.lookup x=some c→c≠it) (h3:∀p∈X.pn++pins,p.1≠it):Inv X pins σ H {s with heap:=h',toks:=t'}:=by
 have nit:∀b u,H b=some u→b≠it:=fun b u e z=>by rw [z,hn] at e;cases e
 refine I.step (g':=s.gens) (d':=s.drawn) (ch:=[it]) (fun b hb=>?_) (fun b o _ _ hc e _=>k b o (fun z=>hc (by simp [z])) e) (fun b o _ _ hc e _=>⟨o.slots,k b o (fun z=>hc (by simp [z])) e⟩) (fun _ _ _ _ n=>n)
  (fun b o hc e=>⟨o,k b o (fun z=>hc (by simp [z])) e⟩) (fun _ _ e=>e) (fun _ _ _ e=>e) (fun _ _ _ e=>e) (fun m hm=>?_) (fun b u e=>?_) I.bare
 ·have e:b=it:=by simpa using hb
  subst e
  exact ⟨h1,hL,h2,h3⟩
 ·obtain ⟨o,es,ep,ho,r⟩:=hm
  exact ⟨o,es,ep,k _ o (Ne.symm hL) ho,r⟩
 ·refine (I.hok b u e).stay (fun c v hc q=>k c v ?_ q) (fun _ q=>q) (fun _ _ q=>q) fun _ _ _ q=>q
  rcases hc with z | z
  ·rw [z];exact nit b u e
  ·exact nit c _ z
theorem Inv.tok (I:Inv X pins σ H s)(t:Nat):Inv X pins σ H {s with toks:=t}:=I.un (h':=s.heap) (t':=t) Un.refl I.hok
theorem Inv.kept {t':Nat}(I:Inv X pins σ H s)(k:∀b u,s.heap.get? b=some u→h'.get? b=some u):Inv X pins σ H {s with heap:=h',toks:=t'}:=I.un (Un.kept k) (I.hok.kept k)
theorem Inv.laid {a:Addr}{o:HO}{t':Nat}(I:Inv X pins σ H s)(k:∀b u,s.heap.get? b=some u→h'.get? b=some u)(hp:s.heap.objs.size≤a)(new:Zei X.prog X.w (upd H a o) h' a o) :
  Inv X pins σ (upd H a o) {s with heap:=h',toks:=t'}:=I.un (Un.laid k hp (I.hok.fresh hp)) (I.hok.laid k hp new)
theorem Inv.write {x e:Addr}{o:HO}{t':Nat}(I:Inv X pins σ H s)(mu:Mut (H x))(he:e=x∨H e=some (.own x))(k:∀b u,b≠e→s.heap.get? b=some u→h'.get? b=some u)(heo:∃u,h'.get? e=some u)
  (new:Zei X.prog X.w (upd H x o) h' x o):Inv X pins σ (upd H x o) {s with heap:=h',toks:=t'}:=I.un (Un.write mu he k heo) (I.hok.write mu he k heo new)
theorem Inv.pins_of {pins':List (Addr×Obj)}(I:Inv X pins σ H s)(h:∀p∈pins',s.heap.get? p.1=some p.2∧H p.1=none∧p.1≠X.env.locals∧p.1∉X.fs∧∀v,p.2.data≠.cell v):Inv X pins' σ H s:=
 ⟨I.ok,I.os,I.bare,I.base,I.loc,I.cell,I.free,I.freeC,fun p hp=>(List.mem_append.mp hp).elim (fun z=>I.pin p (mem_append_left _ z)) (h p),I.hok,I.len⟩
theorem Zqy {N:List Str}(hN:N.Nodup){i j:Nat}{x:Str}(a:N[i]?=some x)(b:N[j]?=some x):i=j:=by
 obtain ⟨h1,e1⟩:=List.getElem?_eq_some_iff.mp a
 obtain ⟨h2,e2⟩:=List.getElem?_eq_some_iff.mp b
 exact (List.getElem_inj hN).mp (e1.trans e2.symm)
theorem Zml {M:Model}{A:Around}{E:Value→Shared→Prop}{i:Nat}{x:Str}{v:V}{u:Value}{Q:Unit→Shared→Prop}(I:Inv X pins σ H s)(hN:X.N.Nodup)(hi:X.N[i]?=some x)(hx:Loc X.env.scope x)(r:RelV v u)
  (h:∀s',Inv X pins (σ.set i (some v)) H s'→(∃a,Heap.SameBut a s.heap s'.heap∧(a=X.env.locals∨X.env.cells.lookup x=some a))→Q () s') (hf:autoParam (X.fn x=true∨X.env.scope.names.lookup x=some .local) aT0._auto_1):wpAny M A (storeName X.env x u) Q E s:=by
 obtain ⟨m,hn,hl⟩:=id I.loc
 have hcls:(X.env.scope.kind==.class||(X.env.scope.kind==.module&&X.env.locals != X.env.globals))=false:=by rw [I.ok.kind];rfl
 have hiσ:i<σ.length:=by rw [I.len];exact (List.getElem?_eq_some_iff.mp hi).1
 have cne:=I.cne
 have tracked:∀{a:Addr} {h':Heap},(∃o,s.heap.get? a=some o∧H a=none)→Heap.SameBut a s.heap h'→HOk X.prog X.w H h':=fun {a h'} ha hs b ob e=>by
  obtain ⟨_,_,hfree⟩:=ha
  refine (I.hok b ob e).stay (fun c w' hc q=>(hs.2 c ?_).trans q) (fun _ q=>q) (fun _ _ q=>q) fun _ _ _ q=>q
  rintro rfl
  rcases hc with rfl | hc
  ·rw [hfree] at e;cases e
  ·rw [hfree] at hc;cases hc
 rcases hx with hk | hk
 ·refine wpAny_storeName_local hk hn (fun h' hn' hs=>?_) hcls
  obtain ⟨oL,_,_,hoL,_⟩:=id hn
  refine h _ ⟨I.ok,I.os,I.bare,⟨fun b o e n hb hx=>?_,fun b o e n hb hx=>?_,I.base.free,fun b o e hx=>?_,I.base.tups,I.base.frzs,I.base.tbls⟩,⟨_,hn',fun j y v' e1 e2 e3=>?_⟩,fun y c e=>?_,I.free,I.freeC,fun p hp=>?_,tracked ⟨oL,hoL,I.free⟩ hs,by simpa using I.len⟩ ⟨_,hs,.inl rfl⟩
  ·exact (hs.2 b (ne_of_lt (lt_of_lt_of_le (lt_size e) I.ok.above))).trans (I.base.keep b o e n hb hx)
  ·obtain ⟨sl,e1⟩:=I.base.slot b o e n hb hx
   exact ⟨sl,(hs.2 b (ne_of_lt (lt_of_lt_of_le (lt_size e) I.ok.above))).trans e1⟩
  ·obtain ⟨o',e1⟩:=I.base.there b o e hx
   exact ⟨o',(hs.2 b (ne_of_lt (lt_of_lt_of_le (lt_size e) I.ok.above))).trans e1⟩
  ·by_cases hj:j=i
   ·subst hj
    rw [hi] at e1;cases e1
    rw [getElem?_set_self hiσ] at e2
    cases e2
    exact ⟨u,r,.inl ⟨hk,by simp⟩⟩
   ·rw [getElem?_set_ne (Ne.symm hj)] at e2
    obtain ⟨u',r',q⟩:=hl j y v' e1 e2 e3
    refine ⟨u',r',?_⟩
    rcases q with ⟨k,e⟩ | ⟨k,c,e,z⟩
    ·refine .inl ⟨k,?_⟩
     have:y≠x:=fun e=>hj (Zqy hN e1 (e▸hi))
     simp [this,e]
    ·exact .inr ⟨k,c,e,z.sameBut hs (cne y c e)⟩
  ·obtain ⟨w',z⟩:=I.cell y c e
   exact ⟨w',z.sameBut hs (cne y c e)⟩
  ·obtain ⟨e,n,ne,nf,d⟩:=I.pin p hp
   exact ⟨(hs.2 p.1 ne).trans e,n,ne,nf,d⟩
 ·have hfn:X.fn x=true:=by
   rcases hf with z | z
   ·exact z
   ·rw [z] at hk;cases hk
  obtain ⟨c,hc⟩:=I.ok.has x (.inl hk)
  obtain ⟨w',z⟩:=I.cell x c hc
  refine wpAny_storeName_cell I.ok.kind hk hc z (fun h' hc' hs=>?_)
  obtain ⟨oc,hoc,hocd⟩:=id z
  refine h {s with heap:=h'} ⟨I.ok,I.os,I.bare,⟨fun b o e n hb hx=>?_,fun b o e n hb hx=>?_,I.base.free,fun b o e hx=>?_,I.base.tups,I.base.frzs,I.base.tbls⟩,⟨m,hn.sameBut hs (Ne.symm (cne x c hc)),fun j y v' e1 e2 e3=>?_⟩,fun y c' e=>?_,I.free,I.freeC,fun p hp=>?_,tracked ⟨oc,hoc,I.freeC x c hc⟩ hs,by simpa using I.len⟩ ⟨c,hs,.inr hc⟩
  ·exact (hs.2 b (ne_of_lt (lt_of_lt_of_le (lt_size e) (I.ok.cab x c hfn hc)))).trans (I.base.keep b o e n hb hx)
  ·obtain ⟨sl,e1⟩:=I.base.slot b o e n hb hx
   exact ⟨sl,(hs.2 b (ne_of_lt (lt_of_lt_of_le (lt_size e) (I.ok.cab x c hfn hc)))).trans e1⟩
  ·obtain ⟨o',e1⟩:=I.base.there b o e hx
   exact ⟨o',(hs.2 b (ne_of_lt (lt_of_lt_of_le (lt_size e) (I.ok.cab x c hfn hc)))).trans e1⟩
  ·by_cases hj:j=i
   ·subst hj
    rw [hi] at e1;cases e1
    rw [getElem?_set_self hiσ] at e2
    cases e2
    exact ⟨u,r,.inr ⟨.inl hk,c,hc,hc'⟩⟩
   ·rw [getElem?_set_ne (Ne.symm hj)] at e2
    obtain ⟨u',r',q⟩:=hl j y v' e1 e2 e3
    refine ⟨u',r',?_⟩
    rcases q with q | ⟨k,c',e,z'⟩
    ·exact .inl q
    ·refine .inr ⟨k,c',e,z'.sameBut hs ?_⟩
     rintro rfl
     exact hj (Zqy hN e1 (I.ok.inj _ _ _ e hc▸hi))
  ·by_cases hcc:c'=c
   ·subst hcc;exact ⟨_,hc'⟩
   ·obtain ⟨w2,z2⟩:=I.cell y c' e
    exact ⟨w2,z2.sameBut hs hcc⟩
  ·obtain ⟨e,n,ne,nf,d⟩:=I.pin p hp
   refine ⟨(hs.2 p.1 ?_).trans e,n,ne,nf,d⟩
   intro q
   rw [q,hoc] at e
   have q':oc=p.2:=Option.some.inj e
   exact d w' (by rw [← q'];exact hocd)
theorem Zek {M:Model}{A:Around}{E:Value→Shared→Prop}{i:Nat}{x:Str}{v:V}{u:Value}{Q:Unit→Shared→Prop}(I:Inv X pins σ H s)(hN:X.N.Nodup)(hi:X.N[i]?=some x)(hx:Loc X.env.scope x)(r:RelV v u)
  (h:∀s',Inv X pins (σ.set i (some v)) H s'→Q () s') (hf:autoParam (X.fn x=true∨X.env.scope.names.lookup x=some .local) aT0._auto_1):wpAny M A (storeName X.env x u) Q E s:=
 Zml I hN hi hx r (fun s' I' _=>h s' I') hf
theorem Inv.call' {s':Shared}{ch:List Addr}(I:Inv X pins σ H s)(ho:s'.os=s.os)(u:Un (frs X.stack) ch H H' s.heap s'.heap)(hok:HOk X.prog X.w H' s'.heap)(hg:AllBare s'.gens)
  (hch:∀b∈ch,(b∈X.ex∨X.s₀.heap.objs.size≤b)∧b≠X.env.locals∧(∀x c,X.env.cells.lookup x=some c→c≠b)∧∀p∈X.pn++pins,p.1≠b):Inv X pins σ H' s':=by
 obtain ⟨h',g',d',t',o'⟩:=s'
 have e:o'=s.os:=ho
 subst e
 exact I.call (g':=g') (t':=t') (d':=d') u hok hg hch
end
noncomputable abbrev XK:=Value→Option Addr→Hp→Prop
noncomputable abbrev St:=List (Option V)
noncomputable abbrev VK:=V→Hp→Prop
noncomputable abbrev TE:=St→Hp→VK→Prop
noncomputable abbrev TT:=St→Hp→(Bool→Hp→Prop)→Prop
noncomputable abbrev TA:=St→Hp→(List V→Hp→Prop)→Prop
structure Ends where
 nx:St→Hp→Prop
 rt:VK
 bk:St→Hp→Prop:=fun _ _=>False
 ct:St→Hp→Prop:=fun _ _=>False
noncomputable abbrev TS:=Ends→St→Hp→Prop
def EP (X:Cx)(pins:List (Addr×Obj))(σ:St)(Q:VK)(u:Value)(s':Shared):Prop:=∃v H',Inv X pins σ H' s'∧RelV v u∧Q v H'
def TP (X:Cx)(pins:List (Addr×Obj))(σ:St)(Q:Bool→Hp→Prop)(b:Bool)(s':Shared):Prop:=∃H',Inv X pins σ H' s'∧Q b H'
def AP (X:Cx)(pins:List (Addr×Obj))(σ:St)(Q:List V→Hp→Prop)(us:List Value)(s':Shared):Prop:=∃vs H',Inv X pins σ H' s'∧Ys vs us∧Q vs H'
def SP (X:Cx)(pins:List (Addr×Obj))(D:Ends)(f:Flow)(s':Shared):Prop:=
 match f with
 | .next=>∃σ' H',Inv X pins σ' H' s'∧D.nx σ' H'
 | .brk=>∃σ' H',Inv X pins σ' H' s'∧D.bk σ' H'
 | .cont=>∃σ' H',Inv X pins σ' H' s'∧D.ct σ' H'
 | .ret u=>∃v σ' H',Inv X pins σ' H' s'∧RelV v u∧D.rt v H'
def PE (X:Cx)(e:Expr)(t:TE):Prop:=
 ∀(pins:List (Addr×Obj)) (s:Shared) (σ:St) (H:Hp) (Q:VK),Inv X pins σ H s→t σ H Q→wpAny (model X.prog X.w) X.A (eval e X.env) (EP X pins σ Q) X.xe s
def PT (X:Cx)(e:Expr)(t:TT):Prop:=
 ∀(pins:List (Addr×Obj)) (s:Shared) (σ:St) (H:Hp) (Q:Bool→Hp→Prop),Inv X pins σ H s→t σ H Q→wpAny (model X.prog X.w) X.A (isTrue e X.env (eval e X.env)) (TP X pins σ Q) X.xe s
def PW (X:Cx)(e:Expr)(t:TT):Prop:=
 ∀(whole:Sem Value) (pins:List (Addr×Obj)) (s:Shared) (σ:St) (H:Hp) (Q:Bool→Hp→Prop),Inv X pins σ H s→t σ H Q→wpAny (model X.prog X.w) X.A (isTrue e X.env whole) (TP X pins σ Q) X.xe s
theorem PW.pt {X:Cx}{e:Expr}{t:TT}(h:PW X e t):PT X e t:=h _
def PA (X:Cx)(es:List Expr)(t:TA):Prop:=
 ∀(pos:Pos) (pins:List (Addr×Obj)) (s:Shared) (σ:St) (H:Hp) (Q:List V→Hp→Prop),Inv X pins σ H s→t σ H Q→wpAny (model X.prog X.w) X.A (spliced (backTo pos (starEach es X.env))) (AP X pins σ Q) X.xe s
def PS (X:Cx)(st:Stmt)(t:TS):Prop:=
 ∀(pins:List (Addr×Obj)) (s:Shared) (σ:St) (H:Hp) (D:Ends),Inv X pins σ H s→t D σ H→wpAny (model X.prog X.w) X.A (exec st X.env) (SP X pins D) X.xe s
def PSs (X:Cx)(st:List Stmt)(t:TS):Prop:=
 ∀(pins:List (Addr×Obj)) (s:Shared) (σ:St) (H:Hp) (D:Ends),Inv X pins σ H s→t D σ H→wpAny (model X.prog X.w) X.A (execs st X.env) (SP X pins D) X.xe s
theorem thn {α:Type}{t:Sem α}{Q Q':α→Shared→Prop}{M:Model}{A:Around}{E:Value→Shared→Prop}{s:Shared}(h:wpAny M A t Q E s)(hQ:∀a s,Q a s→Q' a s):wpAny M A t Q' E s:=wpAny_mono h hQ fun _ _ x=>x
section
variable {X:Cx}
def Zue (i:Nat):TE:=fun σ H Q=>∃v,σ[i]?=some (some v)∧Q v H
def tC (v:V):TE:=fun _ H Q=>Q v H
theorem Xpp {i:Nat}{x:Str}{pos:Pos}(hN:X.N[i]?=some x)(hv:Vis X.env.scope x)(hd:(x==("__debug__":Str))=false:=by decide)(hcd:(x==("__classdict__":Str))=false:=by decide):PE X (.Name x pos) (Zue i):=by
 intro pins s σ H Q I h
 obtain ⟨v,e,h⟩:=h
 obtain ⟨m,hn,hl⟩:=I.loc
 obtain ⟨u,r,l⟩:=hl i x v hN e hv
 have fin:EP X pins σ Q u s:=⟨v,H,I,r,h⟩
 rcases l with ⟨hk,hm⟩ | ⟨hk,c,hc,hcell⟩
 ·exact wpAny_Name (wpAny_loadName_local I.ok.kind hk hn hm fin) hd
 ·rcases hk with hk | hk
  ·exact wpAny_Name (wpAny_loadName_cell I.ok.kind hk hc hcell fin) hd
  ·exact wpAny_Name (wpAny_loadName_free I.ok.kind hk hc hcell fin hcd) hd
theorem Xqy {i j pos}:PE X (.Constant (.int i) j pos) (tC (.int i)):=fun _ _ _ H _ I h=>wpAny_Constant_int ⟨.int i,H,I.tok _,⟨_,rfl⟩,h⟩
theorem pe_bl {b j pos}:PE X (.Constant (.bool b) j pos) (tC (.bl b)):=fun _ _ _ H _ I h=>Constant_bool ⟨.bl b,H,I,rfl,h⟩
theorem Xon {j pos}:PE X (.Constant .none j pos) (tC .non):=fun _ _ _ H _ I h=>Constant_none ⟨.non,H,I,rfl,h⟩
theorem Xpl {x j pos}:PE X (.Constant (.str x) j pos) (tC (.str x)):=fun _ _ _ H _ I h=>Calls.Constant_str ⟨.str x,H,I.tok _,⟨_,rfl⟩,h⟩
def Gl (X:Cx)(x:Str):Prop:=X.env.kindOf x=some .globalImplicit
theorem Xka {E:Value→Shared→Prop}{pins:List (Addr×Obj)}{s:Shared}{σ:St}{H:Hp}{x:Str}{u:Value}{pos:Pos}{Q:Value→Shared→Prop}(I:Inv X pins σ H s)(hg:Gl X x)(hm:X.mg x=some u)(h:Q u s)
  (hd:(x==("__debug__":Str))=false:=by decide):wpAny (model X.prog X.w) X.A (eval (.Name x pos) X.env) Q E s:=
 Calls.Name_function_global I.ok.kind hg (Calls.loadGlobal_global (by rw [I.ok.glob];exact I.mod.glob.keeps I.bk) hm h) hd
theorem Zgh {E:Value→Shared→Prop}{pins:List (Addr×Obj)}{s:Shared}{σ:St}{H:Hp}{x:Str}{u:Value}{pos:Pos}{Q:Value→Shared→Prop}(I:Inv X pins σ H s)(hg:Gl X x)(hm:X.mg x=none)(hv:bootBuiltins x=some u)(h:Q u s)
  (hn:x≠"__name__":=by decide) (hd:(x==("__debug__":Str))=false:=by decide):wpAny (model X.prog X.w) X.A (eval (.Name x pos) X.env) Q E s:=by
 obtain ⟨mb,h1,h2⟩:=I.mod.blt
 exact Calls.Name_function_global I.ok.kind hg (Calls.loadGlobal_builtin (by rw [I.ok.glob];exact I.mod.glob.keeps I.bk) hm (by rw [I.ok.blt];exact h1.keeps I.bk) ((h2 x hn).trans hv) h) hd
variable {a b:Expr}{ta tb:TE}{pos:Pos}
def tB (t:TE):TT:=fun σ H Q=>t σ H fun x H1=>∃c,x=.bl c∧Q c H1
theorem Xng {e:Expr}{t:TE}(h:PE X e t)(he:∀whole,isTrue e X.env whole=(do let v ← whole;standAt e.pos;holding [v] (truthy v)):=by intro _;rfl):PT X e (tB t):=by
 intro pins s σ H Q I hw
 refine isTrue_plain (thn (h pins s σ H _ I hw) fun v s1 hz9=>?_) (he _)
 obtain ⟨x,H1,I1,r1,q1⟩:=hz9
 obtain ⟨d,rfl,q⟩:=q1
 cases r1
 exact wpAny_truthy_bool ⟨H1,I1,q⟩
variable {tA tB':TT}{rest:List Expr}
def tAnd (t u:TT):TT:=fun σ H Q=>t σ H fun c H1=>if c=true then u σ H1 Q else Q false H1
def tOr (t u:TT):TT:=fun σ H Q=>t σ H fun c H1=>if c=true then Q true H1 else u σ H1 Q
def tNot (t:TT):TT:=fun σ H Q=>t σ H fun c H1=>Q (!c) H1
theorem Xjn (ha:PT X a tA):PW X (.BoolOp .And [a] pos) tA:=by
 intro wh pins s σ H Q I h
 refine isTrue_and (thn (ha pins s σ H Q I h) fun c s1 e=>?_)
 cases c with
 | true=>exact isTrue_and_nil e
 | false=>exact e
theorem Xpu (ha:PT X a tA):PW X (.BoolOp .Or [a] pos) tA:=by
 intro wh pins s σ H Q I h
 refine isTrue_or (thn (ha pins s σ H Q I h) fun c s1 e=>?_)
 cases c with
 | false=>exact isTrue_or_nil e
 | true=>exact e
theorem Xny (ha:PT X a tA)(hb:PW X (.BoolOp .And (b::rest) pos) tB'):PW X (.BoolOp .And (a::b::rest) pos) (tAnd tA tB'):=by
 intro wh pins s σ H Q I h
 refine isTrue_and (thn (ha pins s σ H _ I h) fun c s1 ⟨H1,I1,q1⟩=>?_)
 cases c with
 | true=>exact hb wh pins s1 σ H1 Q I1 q1
 | false=>exact ⟨H1,I1,q1⟩
theorem pw_or (ha:PT X a tA)(hb:PW X (.BoolOp .Or (b::rest) pos) tB'):PW X (.BoolOp .Or (a::b::rest) pos) (tOr tA tB'):=by
 intro wh pins s σ H Q I h
 refine isTrue_or (thn (ha pins s σ H _ I h) fun c s1 ⟨H1,I1,q1⟩=>?_)
 cases c with
 | true=>exact ⟨H1,I1,q1⟩
 | false=>exact hb wh pins s1 σ H1 Q I1 q1
theorem Xrw (ha:PT X a tA):PT X (.UnaryOp .Not a pos) (tNot tA):=by
 intro pins s σ H Q I h
 exact isTrue_not (ha pins s σ H (fun c H1=>Q (!c) H1) I h)
end
def SqL (K:Frag)(H:Hp)(a:Addr)(xs:List V):Prop:=
 Rd H a (.lst xs)∨
  ∃(o:Obj) (its:Array Value) (n:Nat),K.lookup a=some o∧o.cls=.type "list"∧o.dict=none∧o.data=.seq its n∧its.size≤sizeLine∧Ys xs its.toList
def SqT (K:Frag)(H:Hp)(a:Addr)(xs:List V):Prop:=
 Rd H a (.tup xs)∨
  ∃(o:Obj) (its:Array Value) (n:Nat),K.lookup a=some o∧o.cls=.type "tuple"∧o.data=.seq its n∧its.size≤sizeLine∧Ys xs its.toList
noncomputable def absV:Value→Option V
 | .none=>some .non
 | .bool b=>some (.bl b)
 | .int i _=>some (.int i)
 | .str x _=>some (.str x)
 | .bytes b _=>some (.byt b)
 | .float b _=>some (.flt b)
 | .ref a=>some (.ref a)
 | .type n=>some (.ty n)
 | _=>none
theorem RelV.abs {x:V}{u:Value}(r:RelV x u):absV u=some x:=by
 cases x with
 | non=>cases r;rfl
 | bl _=>cases r;rfl
 | int _=>obtain ⟨t,rfl⟩:=r;rfl
 | str _=>obtain ⟨t,rfl⟩:=r;rfl
 | byt _=>obtain ⟨t,rfl⟩:=r;rfl
 | flt _=>obtain ⟨t,rfl⟩:=r;rfl
 | ref _=>cases r;rfl
 | ty _=>cases r;rfl
theorem RelV.inj {x y:V}{u:Value}(r:RelV x u)(q:RelV y u):x=y:=Option.some.inj (r.abs.symm.trans q.abs)
theorem Ys.inj:∀{xs ys:List V} {us:List Value},Ys xs us→Ys ys us→xs=ys
 | _,_,_,.nil,.nil=>rfl
 | _,_,_,.cons r t,.cons r' t'=>by rw [r.inj r',Ys.inj t t']
section
variable {X:Cx}{pins:List (Addr×Obj)}{σ:St}{H:Hp}{s:Shared}{a:Addr}{xs ys:List V}
theorem SqL.of {K:Frag}(h:H a=some (.lst xs)):SqL K H a xs:=.inl (.inl h)
theorem SqT.of {K:Frag}(h:H a=some (.tup xs)):SqT K H a xs:=.inl (.inl h)
theorem Inv.list (I:Inv X pins σ H s)(h:SqL X.K H a xs):∃its:List Value,Ys xs its∧PlainL s.heap a its.toArray∧xs.length≤sizeLine:=by
 rcases h with h | ⟨o,its,n,hk,hc,hd,hs,hz,r⟩
 ·obtain ⟨z,its,n,r,e⟩:=h.ok I.hok
  exact ⟨its,r,⟨_,n,e,rfl,rfl,rfl⟩,z⟩
 ·refine ⟨its.toList,r,⟨o,n,I.kIn a o hk,hc,hd,by simpa using hs⟩,?_⟩
  have e:=r.length
  simp only [length_toList] at e
  omega
theorem Inv.tuple (I:Inv X pins σ H s)(h:SqT X.K H a xs):∃its:List Value,Ys xs its∧IsTup s.heap a its.toArray∧xs.length≤sizeLine:=by
 rcases h with h | ⟨o,its,n,hk,hc,hs,hz,r⟩
 ·obtain ⟨z,its,r,p⟩:=h.ok I.hok
  exact ⟨its,r,p,z⟩
 ·refine ⟨its.toList,r,⟨o,I.kIn a o hk,hc,n,by simpa using hs⟩,?_⟩
  have e:=r.length
  simp only [length_toList] at e
  omega
theorem Inv.list_inj (I:Inv X pins σ H s)(h:SqL X.K H a xs)(h':SqL X.K H a ys):xs=ys:=by
 obtain ⟨its,r,⟨o,n,e,_,_,d⟩,_⟩:=I.list h
 obtain ⟨its',r',⟨o',n',e',_,_,d'⟩,_⟩:=I.list h'
 rw [e] at e';cases e'
 rw [d] at d'
 injection d' with d1 _
 have:its=its':=by simpa using congrArg Array.toList d1
 subst this
 exact r.inj r'
end
noncomputable abbrev Cx.wish (X:Cx)(E:Value→Shared→Prop):Cx:={X with xe:=E}
noncomputable abbrev Cx.nox (X:Cx):Cx:=X.wish fun _ _=>False
theorem Cx.Ok.wish {X:Cx}(ok:X.Ok)(E:Value→Shared→Prop):(X.wish E).Ok:=
 ⟨ok.mod,ok.kind,ok.glob,ok.blt,ok.above,ok.inj,ok.has,ok.cab,ok.hd,ok.frames,ok.stk,ok.exf,ok.bs,ok.bsz,ok.noex,ok.exfs,ok.funs,ok.frf⟩
theorem Cx.Ok.unwish {X:Cx}{E:Value→Shared→Prop}(ok:(X.wish E).Ok):X.Ok:=
 ⟨ok.mod,ok.kind,ok.glob,ok.blt,ok.above,ok.inj,ok.has,ok.cab,ok.hd,ok.frames,ok.stk,ok.exf,ok.bs,ok.bsz,ok.noex,ok.exfs,ok.funs,ok.frf⟩
section
variable {X:Cx}{pins:List (Addr×Obj)}{σ:St}{H:Hp}{s:Shared}{E:Value→Shared→Prop}
theorem Inv.wish (I:Inv X pins σ H s)(E:Value→Shared→Prop):Inv (X.wish E) pins σ H s:=⟨I.ok.wish E,I.os,I.bare,I.base,I.loc,I.cell,I.free,I.freeC,I.pin,I.hok,I.len⟩
theorem Inv.unwish (I:Inv (X.wish E) pins σ H s):Inv X pins σ H s:=⟨I.ok.unwish,I.os,I.bare,I.base,I.loc,I.cell,I.free,I.freeC,I.pin,I.hok,I.len⟩
theorem SP.unwish {D:Ends}{f:Flow}{s':Shared}(h:SP (X.wish E) pins D f s'):SP X pins D f s':=by
 cases f with
 | next=>obtain ⟨σ',H',I,q⟩:=h;exact ⟨σ',H',I.unwish,q⟩
 | brk=>obtain ⟨σ',H',I,q⟩:=h;exact ⟨σ',H',I.unwish,q⟩
 | cont=>obtain ⟨σ',H',I,q⟩:=h;exact ⟨σ',H',I.unwish,q⟩
 | ret u=>obtain ⟨v,σ',H',I,r,q⟩:=h;exact ⟨v,σ',H',I.unwish,r,q⟩
theorem PSs.nox {st:List Stmt}{t:TS}(h:PSs X.nox st t):PSs X st t:=fun pins s σ H D I hw =>
 wpAny_mono (h pins s σ H D (I.wish _) hw) (fun _ _ q=>q.unwish) fun _ _ z=>False.elim z
end
section
variable {X:Cx}{st:Stmt}{rest:List Stmt}{t u:TS}{e:Expr}{te:TE}{pos:Pos}
def Zzy:TS:=fun D σ H=>D.nx σ H
def tSeq (t u:TS):TS:=fun D σ H=>t {D with nx:=u D} σ H
theorem Xkx:PSs X [] Zzy:=fun _ _ σ H _ I h=>wpAny_execs_nil ⟨σ,H,I,h⟩
theorem Xcg (h1:PS X st t)(h2:PSs X rest u):PSs X (st::rest) (tSeq t u):=by
 intro pins s σ H D I h
 refine wpAny_execs_cons (thn (h1 pins s σ H {D with nx:=u D} I h) fun f s1 q=>?_)
 cases f with
 | next =>
  obtain ⟨σ',H',I',q⟩:=q
  exact h2 pins s1 σ' H' D I' q
 | ret v=>exact q
 | brk=>exact q
 | cont=>exact q
theorem Xjw (h1:PS X st t):PSs X [st] t:=by
 intro pins s σ H D I h
 refine wpAny_execs_cons (thn (h1 pins s σ H D I h) fun f s1 q=>?_)
 cases f with
 | next=>exact wpAny_execs_nil q
 | ret v=>exact q
 | brk=>exact q
 | cont=>exact q
theorem Inv.quiet {pins:List (Addr×Obj)}{σ:St}{H:Hp}{s:Shared}(I:Inv X pins σ H s):interactive X.env=false:=by simp [interactive,I.ok.kind]
def Zom (te:TE):TS:=fun D σ H=>te σ H fun _ H1=>D.nx σ H1
theorem Xkf (he:PE X e te)(hs:swapsWith e none pos.line X.env=pure false:=by rfl):PS X (.Expr e pos) (Zom te):=by
 intro pins s σ H D I h
 exact wpAny_Expr_any (thn (he pins s σ H _ I h) fun v s1 ⟨x,H1,I1,r1,q1⟩=>⟨σ,H1,I1,q1⟩) I.quiet hs
def tRet (te:TE):TS:=fun D σ H=>te σ H D.rt
theorem Xqg (he:PE X e te):PS X (.Return (some e) pos) (tRet te):=by
 intro pins s σ H D I h
 exact wpAny_Return_some (thn (he pins s σ H _ I h) fun v s1 ⟨x,H1,I1,r1,q1⟩=>⟨x,σ,H1,I1,r1,q1⟩)
def tIfS (c:TT)(t u:TS):TS:=fun D σ H=>c σ H fun b H1=>if b=true then t D σ H1 else u D σ H1
theorem ps_if {c:Expr}{a b:List Stmt}{tc:TT}(hc:PT X c tc)(ha:PSs X a t)(hb:PSs X b u):PS X (.If c a b pos) (tIfS tc t u):=by
 intro pins s σ H D I h
 refine wpAny_If (thn (hc pins s σ H _ I h) fun d s1 ⟨H1,I1,q1⟩=>?_)
 cases d with
 | true=>exact ha pins s1 σ H1 D I1 q1
 | false=>exact hb pins s1 σ H1 D I1 q1
def Zrq:TS:=fun _ _ _=>False
theorem Xez:PS X st Zrq:=fun _ _ _ _ _ _ h=>h.elim
end
noncomputable abbrev TG:=V→St→Hp→(St→Hp→Prop)→Prop
noncomputable abbrev TGs:=List V→St→Hp→(St→Hp→Prop)→Prop
def PG (X:Cx)(target:Expr)(t:TG):Prop:=
 ∀(pins:List (Addr×Obj)) (s:Shared) (σ:St) (H:Hp) (v:V) (u:Value) (Q:St→Hp→Prop),Inv X pins σ H s→RelV v u→t v σ H Q→
  wpAny (model X.prog X.w) X.A (assign target X.env u) (fun _ s'=>∃σ' H',Inv X pins σ' H' s'∧Q σ' H') X.xe s
def PGs (X:Cx)(ts:List Expr)(t:TGs):Prop:=
 ∀(pins:List (Addr×Obj)) (s:Shared) (σ:St) (H:Hp) (vs:List V) (us:List Value) (Q:St→Hp→Prop),Inv X pins σ H s→Ys vs us→t vs σ H Q→
  wpAny (model X.prog X.w) X.A (assignInOrder ((assignEach ts X.env).map (·.2)) us) (fun _ s'=>∃σ' H',Inv X pins σ' H' s'∧Q σ' H') X.xe s
noncomputable abbrev TSet:=V→V→V→Hp→(Hp→Prop)→Prop
noncomputable abbrev TIp:=V→V→Hp→VK→Prop
def PIp (X:Cx)(op:Operator)(t:TIp):Prop:=
 ∀(pins:List (Addr×Obj)) (s:Shared) (σ:St) (H:Hp) (x y:V) (v u:Value) (Q:VK),Inv X pins σ H s→RelV x v→RelV y u→t x y H Q→
  wpAny (model X.prog X.w) X.A (inplaceOp op v u) (EP X pins σ Q) X.xe s
section
variable {X:Cx}{pos:Pos}
noncomputable def Zbx (i:Nat):TG:=fun v σ H Q=>Q (σ.set i (some v)) H
theorem Xlc {i:Nat}{x:Str}(hN:X.N.Nodup)(hi:X.N[i]?=some x)(hx:Loc X.env.scope x)(hf:autoParam (X.fn x=true∨X.env.scope.names.lookup x=some .local) aT0._auto_1):PG X (.Name x pos) (Zbx i):=by
 intro pins s σ H v u Q I r h
 exact wpAny_assign_Name (Zek I hN hi hx r (fun s' I'=>⟨_,H,I',h⟩) hf)
noncomputable def Zzu:TGs:=fun vs σ H Q=>vs=[]∧Q σ H
noncomputable def Zgy (t:TG)(u:TGs):TGs:=fun vs σ H Q=>∃v r,vs=v::r∧t v σ H fun σ' H'=>u r σ' H' Q
theorem Xjr:PGs X [] Zzu:=by
 intro pins s σ H vs us Q I r h
 obtain ⟨e,h⟩:=h
 subst e
 cases r
 exact assignInOrder_nil ⟨σ,H,I,h⟩
theorem Xbt {e:Expr}{es:List Expr}{t:TG}{u:TGs}(h1:PG X e t)(h2:PGs X es u)
  (hs:(assignEach (e::es) X.env).map (·.2)=assign e X.env::(assignEach es X.env).map (·.2):=by rfl):PGs X (e::es) (Zgy t u):=by
 intro pins s σ H vs us Q I r h
 obtain ⟨v,vr,e1,h⟩:=h
 subst e1
 cases r with
 | cons r rr =>
  rw [hs]
  refine assignInOrder_cons (thn (h1 pins s σ H _ _ _ I r h) fun _ s1 hz9=>?_)
  obtain ⟨σ1,H1,I1,q1⟩:=hz9
  exact h2 pins s1 σ1 H1 _ _ Q I1 rr q1
noncomputable def Zca (K:Frag)(n:Nat)(t:TGs):TG:=fun v σ H Q=>∃a xs,v=.ref a∧SqT K H a xs∧xs.length=n∧t xs σ H Q
theorem Xnp {es:List Expr}{k:Nat}{t:TGs}{n:Nat}(hc:X.calm=true)(h:PGs X es t)
  (hn:(assignEach es X.env).length=n:=by rfl) (hst:(assignEach es X.env).findIdx? (·.1)=none:=by rfl):PG X (.Tuple es k pos) (Zca X.K n t):=by
 intro pins s σ H v u Q I r hw
 obtain ⟨a,xs,e1,hq,hl,hw⟩:=hw
 subst e1
 cases r
 obtain ⟨its,rv,ht,hz⟩:=I.tuple hq
 refine assign_Tuple_tuple (I.ok.hd hc) ht (by simp [hn,← hl,rv.length]) hst fun h' hx=>?_
 have I1:Inv X pins σ H {s with heap:=h'}:=I.kept (t':=s.toks) fun b o e=>hx b o (ne_of_lt (lt_size e)) e
 exact h pins _ σ H xs _ Q I1 (by simpa using rv) hw
noncomputable def Zgt (to ti:TE)(t:TSet):TG:=fun v σ H Q=>to σ H fun o H1=>ti σ H1 fun i H2=>t o i v H2 fun H3=>Q σ H3
def Zuq (te:TE)(g:TG):TS:=fun D σ H=>te σ H fun x H1=>g x σ H1 D.nx
theorem Xqi {tg e:Expr}{te:TE}{g:TG}(he:PE X e te)(hg:PG X tg g)(hs:swapsWithSole [tg] e pos.line X.env=pure false:=by rfl)(hw:swappedStores [tg] e X.env=pure none:=by rfl)
  (h1:(assignEach [tg] X.env).map (·.2)=[assign tg X.env]:=by rfl):PS X (.Assign [tg] e pos) (Zuq te g):=by
 intro pins s σ H D I h
 refine wpAny_Assign_stores (thn (he pins s σ H _ I h) fun v s1 hz9=>?_) hs hw
 obtain ⟨x,H1,I1,r1,q1⟩:=hz9
 rw [h1]
 exact thn (hg pins s1 σ H1 x v _ I1 r1 q1) fun _ s2 q=>q
theorem Xoh {i:Nat}{x:Str}{e:Expr}{te:TE}{pos':Pos}(hN:X.N.Nodup)(hi:X.N[i]?=some x)(hx:Loc X.env.scope x)(he:PE X e te)(hs:swapsWith e (some (.Name x pos')) pos.line X.env=pure false:=by rfl)(hf:autoParam (X.fn x=true∨X.env.scope.names.lookup x=some .local) aT0._auto_1) :
  PS X (.Assign [.Name x pos'] e pos) (Zuq te (Zbx i)):=by
 intro pins s σ H D I h
 refine wpAny_Assign_Name (thn (he pins s σ H _ I h) fun v s1 hz9=>?_) hs
 obtain ⟨y,H1,I1,r1,q1⟩:=hz9
 exact Zek I1 hN hi hx r1 (fun s2 I2=>⟨_,H1,I2,q1⟩) hf
def tPar (i j:Nat)(ta:TA):TS:=fun D σ H=>ta σ H fun vs H1=>∃v w,vs=[v,w]∧D.nx ((σ.set i (some v)).set j (some w)) H1
theorem Xqm {i j:Nat}{x y:Str}{a b:Expr}{ta:TA}{px py pt:Pos}{kt k2 pt2}(hc:X.calm=true)(hN:X.N.Nodup)(hi:X.N[i]?=some x)(hj:X.N[j]?=some y)(hij:i≠j)
  (hx:X.env.scope.names.lookup x=some .local) (hy:X.env.scope.names.lookup y=some .local) (ha:PA X [a,b] ta)
  (hw:swappedStores [.Tuple [.Name x px,.Name y py] kt pt] (.Tuple [a,b] k2 pt2) X.env=pure (some [x,y]))
  (hs:swapsWithSole [.Tuple [.Name x px,.Name y py] kt pt] (.Tuple [a,b] k2 pt2) pos.line X.env=pure false:=by rfl) :
  PS X (.Assign [.Tuple [.Name x px,.Name y py] kt pt] (.Tuple [a,b] k2 pt2) pos) (tPar i j ta):=by
 intro pins s σ H D I h
 rw [exec_Assign_arm]
 refine wpAny_bind (wpAny_standAt ?_)
 rw [hs]
 refine wpAny_bind (wpAny_pure ?_)
 rw [if_neg (by decide)]
 refine wpAny_bind (Tuple_ (thn (ha _ pins s σ H _ I h) fun us s1 hz9=>?_))
 obtain ⟨vs,H1,I1,r1,q1⟩:=hz9
 obtain ⟨v,w,e1,q1⟩:=q1
 subst e1
 obtain ⟨u1,u2,rfl,rv,rw'⟩:∃u1 u2,us=[u1,u2]∧RelV v u1∧RelV w u2:=by
  cases r1 with
  | cons p q =>
   cases q with
   | cons p' q' =>
    cases q'
    exact ⟨_,_,rfl,p,p'⟩
 refine wpAny_newObj_type ?_ (by show 2≤sizeLine;decide)
 have I2:Inv X pins σ H1 {s1 with heap:=s1.heap.push {cls:=.type "tuple",data:=.seq [u1,u2].toArray}}:=I1.kept (t':=s1.toks) fun b o e=>get?_push_of_some _ e
 rw [hw]
 refine wpAny_bind (wpAny_pure ?_)
 show wpAny (model X.prog X.w) X.A (do rule "assign.swapped-stores";let items ← unpackItems (.ref s1.heap.objs.size) 2 none;assignInOrder [fun v=>bindName X.env y v,fun v=>bindName X.env x v] items.reverse;pure Flow.next) _ _ _
 refine wpAny_bind (wpAny_rule (wpAny_bind (unpackItems_tuple (items:=#[u1,u2]) (I.ok.hd hc) (IsTup.new s1.heap _) fun h' hx'=>?_)))
 have I3:=I2.kept (h':=h') (t':=s1.toks) fun b o e=>hx' b o (ne_of_lt (lt_size e)) e
 show wpAny _ _ (assignInOrder [fun v=>bindName X.env y v,fun v=>bindName X.env x v] [u2,u1] >>= fun _=>pure Flow.next) _ _ _
 refine wpAny_bind (assignInOrder_cons (wpAny_bindName (Zek I3 hN hj (.inl hy) rw' (fun s2 I4=>?_) (.inr hy))))
 refine assignInOrder_cons (wpAny_bindName (Zek I4 hN hi (.inl hx) rv (fun s3 I5=>assignInOrder_nil (wpAny_pure ?_)) (.inr hx)))
 rw [List.set_comm _ _ (Ne.symm hij)] at I5
 exact ⟨_,H1,I5,q1⟩
def tAug (i:Nat)(te:TE)(ti:TIp):TS:=fun D σ H=>∃x,σ[i]?=some (some x)∧te σ H fun y H1=>ti x y H1 fun z H2=>D.nx (σ.set i (some z)) H2
theorem Xnz {i:Nat}{x:Str}{e:Expr}{te:TE}{op:Operator}{ti:TIp}{pos':Pos}(hN:X.N.Nodup)(hi:X.N[i]?=some x)(hx:Loc X.env.scope x)(he:PE X e te)(ho:PIp X op ti)(hf:autoParam (X.fn x=true∨X.env.scope.names.lookup x=some .local) aT0._auto_1) :
  PS X (.AugAssign (.Name x pos') op e pos) (tAug i te ti):=by
 intro pins s σ H D I h
 obtain ⟨v,e1,h⟩:=h
 obtain ⟨m,hn,hl⟩:=I.loc
 have vis:Vis X.env.scope x:=by rcases hx with k | k;exact .inl k;exact .inr (.inl k)
 obtain ⟨u,r,l⟩:=hl i x v hi e1 vis
 refine wpAny_AugAssign_Name ?_
 have go:wpAny (model X.prog X.w) X.A (eval e X.env) (fun w s₂=>wpAny (model X.prog X.w) X.A (inplaceOp op u w) (fun r s₃=>wpAny (model X.prog X.w) X.A (storeName X.env x r) (fun _=>SP X pins D .next) X.xe s₃) X.xe s₂) X.xe s:=by
  refine thn (he pins s σ H _ I h) fun w s1 hz9=>?_
  obtain ⟨y,H1,I1,r1,q1⟩:=hz9
  refine thn (ho pins s1 σ H1 v y u w _ I1 r r1 q1) fun z s2 hz9=>?_
  obtain ⟨zv,H2,I2,r2,q2⟩:=hz9
  exact Zek I2 hN hi hx r2 (fun s3 I3=>⟨_,H2,I3,q2⟩) hf
 rcases l with ⟨hk,hm⟩ | ⟨hk,c,hc,hcell⟩
 ·exact wpAny_loadName_local I.ok.kind hk hn hm go
 ·rcases hk with hk | hk
  ·exact wpAny_loadName_cell I.ok.kind hk hc hcell go
  ·rcases hx with k | k
   ·have:X.env.scope.names.lookup x=some .free:=hk
    rw [k] at this;cases this
   ·have:X.env.scope.names.lookup x=some .free:=hk
    rw [k] at this;cases this
noncomputable def ipI (f:Int→Int→Int):TIp:=fun x y H Q=>∃i j,x=.int i∧y=.int j∧Q (.int (f i j)) H
theorem Xfm:PIp X .Sub (ipI fun i j=>i - j):=by
 intro pins s σ H x y v u Q I r1 r2 h
 obtain ⟨i,j,e1,e2,q⟩:=h
 subst e1;subst e2
 obtain ⟨t,rfl⟩:=r1
 obtain ⟨t',rfl⟩:=r2
 exact isub_int ⟨.int _,H,I.tok _,⟨_,rfl⟩,q⟩
def Zqh (c:TT)(tb:TS):TS:=fun D σ H=>∃W:Nat→St→Hp→Prop,(∃m,W m σ H)∧∀m σ H,W m σ H→
 c σ H fun b H1=>if b=true then ∃N:St→Hp→Prop,(∀σ' H',N σ' H'→∃m',m'<m∧W m' σ' H')∧tb {D with nx:=N,ct:=N,bk:=D.nx} σ H1 else D.nx σ H1
theorem Xcp {c:Expr}{body:List Stmt}{tc:TT}{tb:TS}(hp:PassesOwn (model X.prog X.w) X.A X.env X.xe)(hc:PT X c tc)(hb:PSs X body tb):PS X (.While c body [] pos) (Zqh tc tb):=by
 intro pins s σ H D I h
 obtain ⟨W,⟨m0,w0⟩,turn⟩:=h
 refine wpAny_While (codeAny_whileLoop (fun n s'=>∃σ' H',Inv X pins σ' H' s'∧W n σ' H') ?_ m0 ⟨σ,H,I,w0⟩)
 rintro n s1 ⟨σ1,H1,I1,w1⟩
 refine wpAny_passesOwn hp (thn (hc pins s1 σ1 H1 _ I1 (turn n σ1 H1 w1)) fun b s2 ⟨H2,I2,q2⟩=>?_)
 cases b with
 | true =>
  obtain ⟨N,hN,q2⟩:=q2
  rw [if_pos rfl]
  refine wpAny_passesOwn hp (thn (hb pins s2 σ1 H2 _ I2 q2) fun f s3 q3=>?_)
  cases f with
  | next =>
   obtain ⟨σ3,H3,I3,n3⟩:=q3
   obtain ⟨m',hm,w3⟩:=hN σ3 H3 n3
   exact ⟨m',hm,σ3,H3,I3,w3⟩
  | cont =>
   obtain ⟨σ3,H3,I3,n3⟩:=q3
   obtain ⟨m',hm,w3⟩:=hN σ3 H3 n3
   exact ⟨m',hm,σ3,H3,I3,w3⟩
  | brk=>exact q3
  | ret v=>exact q3
 | false =>
  rw [if_neg Bool.false_ne_true]
  exact wpAny_execs_nil ⟨σ1,H2,I2,q2⟩
end
structure It where
 go:Nat→Hp→Prop
 yld:Nat→Hp→V→Hp→Prop
 stop:Nat→Hp→Prop
def Zzp (X:Cx)(pins:List (Addr×Obj))(H:Hp)(b:Addr):Prop:=
 H b=none∧b≠X.env.locals∧b∉X.fs∧(b∈X.ex∨X.s₀.heap.objs.size≤b)∧(∀x c,X.env.cells.lookup x=some c→c≠b)∧∀p∈X.pn++pins,p.1≠b
theorem Inv.fpOk {X:Cx}{pins:List (Addr×Obj)}{σ:St}{H H':Hp}{s:Shared}{b:Addr}(I:Inv X pins σ H s)(hb:s.heap.objs.size≤b)(hn:H' b=none):Zzp X pins H' b:=by
 refine ⟨hn,ne_of_gt (lt_of_lt_of_le I.lt hb),I.nofs hb,.inr (le_trans I.sz hb),fun x c e z=>?_,fun p hp z=>?_⟩
 ·obtain ⟨v,q⟩:=I.cell x c e
  exact absurd (lt_of_lt_of_le q.lt (by rw [z];exact hb)) (lt_irrefl _)
 ·exact absurd (lt_of_lt_of_le (lt_size (I.pin p hp).1) (by rw [z];exact hb)) (lt_irrefl _)
structure Turn (P:Program)(w:World)(K:Frag)(tg:Expr)(J:It)(fp:List Addr)(it:Addr)(tn:Nat→Heap→Prop):Prop where
  mem:it∈fp
  obj:∀i h,tn i h→∀b∈fp,∃o,h.get? b=some o∧∀v,o.data≠.cell v
  keep:∀i h h',tn i h→(∀b∈fp,∀o,h.get? b=some o→h'.get? b=some o)→tn i h'
  item:∀(X:Cx),X.prog=P→X.w=w→X.K=K→X.calm=true→∀(i:Nat) (pins:List (Addr×Obj)) (s:Shared) (σ:St) (H:Hp) (E:Value→Shared→Prop),Inv X pins σ H s→(∀b∈fp,Zzp X pins H b)→tn i s.heap→J.go i H→
    wpAny (model P w) X.A (pyNext (.ref it)) (fun r s1=>∃u,r=some u∧
      wpAny (model P w) X.A (letOwnedTupleGo tg (.ref it) u) (fun _ s2=>∃x H',Inv X pins σ H' s2∧RelV x u∧J.yld i H x H'∧tn (i+1) s2.heap∧∀b∈fp,H' b=none) E s1) E s
  done:∀(X:Cx),X.prog=P→X.w=w→X.K=K→X.calm=true→∀(i:Nat) (pins:List (Addr×Obj)) (s:Shared) (σ:St) (H:Hp) (E:Value→Shared→Prop),Inv X pins σ H s→(∀b∈fp,Zzp X pins H b)→tn i s.heap→J.stop i H→
    wpAny (model P w) X.A (pyNext (.ref it)) (fun r s1=>r=none∧Inv X pins σ H s1) E s
  self:∀(A:Around) (i:Nat) (s:Shared) (Q:Value→Shared→Prop) (E:Value→Shared→Prop),tn i s.heap→Q (.ref it) s→wpAny (model P w) A (pyIter (.ref it)) Q E s
noncomputable abbrev TI:=St→Hp→(It→Hp→Prop)→Prop
def PIE (X:Cx)(pins:List (Addr×Obj))(σ:St)(tg:Expr)(R:It→Hp→Prop)(itv:Value)(s2:Shared):Prop:=
 ∃(it:Addr) (fp:List Addr) (tn:Nat→Heap→Prop) (J:It) (H':Hp),itv=.ref it∧Inv X pins σ H' s2∧Turn X.prog X.w X.K tg J fp it tn∧tn 0 s2.heap∧(∀b∈fp,Zzp X pins H' b)∧R J H'
def PI (X:Cx)(tg iter:Expr)(wi:TI):Prop:=
 ∀(pins:List (Addr×Obj)) (s:Shared) (σ:St) (H:Hp) (R:It→Hp→Prop),Inv X pins σ H s→wi σ H R→
  wpAny (model X.prog X.w) X.A (eval iter X.env) (fun v s1=>wpAny (model X.prog X.w) X.A (pyIter v) (PIE X pins σ tg R) X.xe s1) X.xe s
theorem Xrb {M:Model}{A:Around}{E:Value→Shared→Prop}{s:Shared}{tg:Expr}{it:Addr}{u:Value}{o:Obj}{n:String}{vs:Array Value}{Q:Unit→Shared→Prop}(ho:s.heap.get? it=some o)(hc:o.cls=.type n)(hd:o.data=.fields vs)
    (hn:["enumerate","zip","dict_itemiterator","dict_reverseitemiterator","odict_iterator","itertools.zip_longest","itertools.pairwise"].contains n=false) (hQ:Q () s):wpAny M A (letOwnedTupleGo tg (.ref it) u) Q E s:=by
  unfold letOwnedTupleGo
  cases tg<;>first
    | exact wpAny_pure hQ
    | (cases u<;>first
        | exact wpAny_pure hQ
        | (refine wpAny_bind (wpAny_load ho ?_)
           rw [hc,hd]
           show wpAny M A (if (["enumerate","zip","dict_itemiterator","dict_reverseitemiterator","odict_iterator","itertools.zip_longest","itertools.pairwise"].contains n&&vs[0]?==some (rawInt _))=true then _ else _) Q E s
           rw [if_neg (by intro h;rw [hn,Bool.false_and] at h;cases h)]
           exact wpAny_pure hQ))
noncomputable def Itl (K:Frag)(a:Addr):It:=
 ⟨fun i H=>∃xs x,SqL K H a xs∧xs[i]?=some x,fun i H x H'=>H'=H∧∀xs,SqL K H a xs→xs[i]?=some x,fun i H=>∃xs,SqL K H a xs∧xs.length≤i⟩
noncomputable def Itr (lo:Int)(n:Nat):It:=⟨fun i _=>i<n,fun i H x H'=>H'=H∧x=.int (lo+i),fun i _=>n≤i⟩
theorem Zyi {P:Program}{w:World}{K:Frag}{tg:Expr}(a it:Addr):Turn P w K tg (Itl K a) [it] it (fun i h=>h.IsListIter it a i) where
 mem:=by simp
 obj:=fun i h st b hb=>by
  have e:b=it:=by simpa using hb
  subst e
  obtain ⟨o,e,c,d⟩:=st
  exact ⟨o,e,fun v z=>by rw [d] at z;cases z⟩
 keep:=fun i h h' st k=>st.at fun o e=>k it (by simp) o e
 item:=by
  intro X hP hw hK hc i pins s σ H E I hf st hg
  subst hP hw hK
  obtain ⟨xs,x,hq,hx⟩:=hg
  obtain ⟨its,rv,p,hz⟩:=I.list hq
  obtain ⟨u,hu,ru⟩:=rv.get hx
  obtain ⟨f0,f1,f2,f3,f4,f5⟩:=hf it (by simp)
  refine wpAny_pyNext_list_item st p.isList (x:=u) (by simpa using hu) fun h' st' sb=>?_
  have I1:Inv X pins σ H {s with heap:=h'}:=I.turned (t':=s.toks) (fun b o hb e=>(sb.2 b hb).trans e) f0 f1 f3 f4 f5
  obtain ⟨o,e,c,d⟩:=id st'
  exact ⟨u,rfl,Xrb (s:={s with heap:=h'}) e c d (by decide) ⟨x,H,I1,ru,⟨rfl,fun ys hy=>by rw [I.list_inj hy hq];exact hx⟩,st',fun b hb=>(hf b hb).1⟩⟩
 done:=by
  intro X hP hw hK hc i pins s σ H E I hf st hg
  subst hP hw hK
  obtain ⟨xs,hq,hx⟩:=hg
  obtain ⟨its,rv,p,hz⟩:=I.list hq
  obtain ⟨f0,f1,f2,f3,f4,f5⟩:=hf it (by simp)
  have hl:=rv.length
  exact wpAny_pyNext_list_end (I.ok.hd hc) st p.isList (by simp;omega) fun h' eb=>⟨rfl,I.turned (t':=s.toks) (fun b o hb e=>eb b o hb e) f0 f1 f3 f4 f5⟩
 self:=fun _ _ _ _ _ st h=>wpAny_pyIter_listiter st h
theorem Ztf {P:Program}{w:World}{K:Frag}{tg:Expr}(it:Addr)(lo:Int)(n:Nat):Turn P w K tg (Itr lo n) [it] it (fun i h=>IsRangeIter h it (lo+(i:Nat)*1) ((n:Int) - (i:Nat)) 1) where
  mem:=by simp
  obj:=fun i h st b hb=>by
    have e:b=it:=by simpa using hb
    subst e
    exact ⟨_,st,fun v z=>by
      have z':Data.fields _=Data.cell v:=z
      cases z'⟩
  keep:=fun i h h' st k=>k it (by simp) _ st
  item:=by
    intro X hP hw hK hc i pins s σ H E I hf st hg
    subst hP hw hK
    obtain ⟨f0,f1,f2,f3,f4,f5⟩:=hf it (by simp)
    have W:=Walks.range (prog:=X.prog) (w:=X.w) (I.ok.hd hc) it lo 1 n
    refine W.item i s _ _ hg st fun v h' tk hv st' kk=>?_
    obtain ⟨t,rfl⟩:=hv
    have I1:Inv X pins σ H {s with heap:=h',toks:=tk}:=I.turned (fun b o hb e=>kk b o (by simpa using hb) e) f0 f1 f3 f4 f5
    refine ⟨_,rfl,Xrb (s:={s with heap:=h',toks:=tk}) (n:="range_iterator") st' rfl rfl (by decide) ⟨.int (lo+i),H,I1,⟨t,?_⟩,⟨rfl,rfl⟩,st',fun b hb=>(hf b hb).1⟩⟩
    rw [Int.mul_one]
  done:=by
    intro X hP hw hK hc i pins s σ H E I hf st hg
    subst hP hw hK
    obtain ⟨f0,f1,f2,f3,f4,f5⟩:=hf it (by simp)
    exact wpAny_pyNext_range_end (I.ok.hd hc) st (by have:n≤i:=hg;omega) fun h' eb=>⟨rfl,I.turned (t':=s.toks) (fun b o hb e=>eb b o hb e) f0 f1 f3 f4 f5⟩
  self:=fun _ _ _ _ _ st h=>wpAny_pyIter_rangeiter st h
section
variable {X:Cx}{tg:Expr}
noncomputable def Zzv (K:Frag)(tl:TE):TI:=fun σ H R=>tl σ H fun x H1=>∃a,x=.ref a∧(∃xs,SqL K H1 a xs)∧R (Itl K a) H1
theorem Xje {l:Expr}{tl:TE}(hl:PE X l tl):PI X tg l (Zzv X.K tl):=by
 intro pins s σ H R I h
 refine thn (hl pins s σ H _ I h) fun v s1 hz9=>?_
 obtain ⟨x,H1,I1,r1,q1⟩:=hz9
 obtain ⟨a,e,⟨xs,hq⟩,q⟩:=q1
 subst e
 cases r1
 obtain ⟨its,rv,p,hz⟩:=I1.list hq
 refine wpAny_pyIter_list p.isList ?_
 refine ⟨s1.heap.objs.size,[s1.heap.objs.size],_,_,H1,rfl,I1.kept (t':=s1.toks) fun b o e=>get?_push_of_some _ e,Zyi a _,⟨_,get?_push_size _ rfl,rfl,rfl⟩,fun b hb=>?_,q⟩
 have e:b=s1.heap.objs.size:=by simpa using hb
 subst e
 exact I1.fpOk (le_refl _) (I1.hok.fresh (le_refl _))
theorem Zrw {pins:List (Addr×Obj)}{σ:St}{H:Hp}{s:Shared}{R:It→Hp→Prop}{E:Value→Shared→Prop}{lo hi:Int}{t u v:Tok}{tk:Nat}(I:Inv X pins σ H s)(h1:-(2 ^ 62)≤lo)(h2:lo<2 ^ 62)(h3:-(2 ^ 62)≤hi)(h4:hi<2 ^ 62)
    (q:R (Itr lo (hi - lo).toNat) H):wpAny (model X.prog X.w) X.A (pyIter (.ref s.heap.objs.size)) (PIE X pins σ tg R) E {s with heap:=s.heap.push {cls:=.type "range",data:=.fields #[.int lo t,.int hi u,.int 1 v]},toks:=tk}:=by
  refine wpAny_pyIter_range (IsRange.new ..) (small_one h1 h2 h3 h4) ?_
  have I1:Inv X pins σ H {s with heap:=s.heap.push {cls:=.type "range",data:=.fields #[.int lo t,.int hi u,.int 1 v]},toks:=tk}:=I.kept fun b o e=>get?_push_of_some _ e
  refine ⟨(s.heap.push {cls:=.type "range",data:=.fields #[.int lo t,.int hi u,.int 1 v]}).objs.size,[(s.heap.push {cls:=.type "range",data:=.fields #[.int lo t,.int hi u,.int 1 v]}).objs.size],_,_,H,rfl,
    I1.kept (t':=tk) fun b o e=>get?_push_of_some _ e,Ztf _ lo (hi - lo).toNat,?_,fun b hb=>?_,q⟩
  · have e1:lo+((0:Nat):Int)*1=lo:=by simp
    have e2:(((hi - lo).toNat:Nat):Int) - ((0:Nat):Int)=Builtin.Range.rangeSize lo hi 1:=by rw [rangeSize_one];split<;>omega
    show IsRangeIter _ _ (lo+((0:Nat):Int)*1) ((((hi - lo).toNat:Nat):Int) - ((0:Nat):Int)) 1
    rw [e1,e2]
    exact get?_push_size _ rfl
  · have e:b=(s.heap.push {cls:=.type "range",data:=.fields #[.int lo t,.int hi u,.int 1 v]}).objs.size:=by simpa using hb
    subst e
    exact I1.fpOk (le_refl _) (I1.hok.fresh (le_refl _))
noncomputable def Xai (ta:TA):TI:=fun σ H R=>ta σ H fun vs H1=>∃j:Int,vs=[.int j]∧-(2 ^ 62)≤j∧j<2 ^ 62∧R (Itr 0 j.toNat) H1
noncomputable def Xds (ta:TA):TI:=fun σ H R=>ta σ H fun vs H1=>∃i j:Int,vs=[.int i,.int j]∧(-(2 ^ 62)≤i∧i<2 ^ 62∧-(2 ^ 62)≤j∧j<2 ^ 62)∧R (Itr i (j - i).toNat) H1
theorem Zzo {a:Expr}{ta:TA}{p pos:Pos}(hg:Gl X "range")(hm:X.mg "range"=none)(ha:PA X [a] ta)(hs:starEach [a] X.env=[(false,eval a X.env)]:=by rfl):PI X tg (.Call (.Name "range" p) [a] [] pos) (Xai ta):=by
 intro pins s σ H R I h
 refine Call_ (Zgh I hg hm boot_range (PyProof.Rows.callWith_type1 (thn (ha pos pins s σ H _ I h) fun us s1 hz9=>?_) hs rfl))
 obtain ⟨vs,H1,I1,r1,q1⟩:=hz9
 obtain ⟨j,e,q1,q2,q⟩:=q1
 subst e
 cases r1 with
 | cons r rr =>
  cases rr
  obtain ⟨t,rfl⟩:=r
  exact call_range_1 (Zrw I1 (by omega) (by omega) q1 q2 (by simpa using q))
theorem Zzj {a b:Expr}{ta:TA}{p pos:Pos}(hg:Gl X "range")(hm:X.mg "range"=none)(ha:PA X [a,b] ta)(hs:starEach [a,b] X.env=[(false,eval a X.env),(false,eval b X.env)]:=by rfl)(hs2:starEach [b] X.env=[(false,eval b X.env)]:=by rfl) :
  PI X tg (.Call (.Name "range" p) [a,b] [] pos) (Xds ta):=by
 intro pins s σ H R I h
 refine Call_ (Zgh I hg hm boot_range (PyProof.Rows.callWith_type1 (thn (ha pos pins s σ H _ I h) fun us s1 hz9=>?_) (by rw [hs,hs2]) (by rw [hs2];rfl)))
 obtain ⟨vs,H1,I1,r1,q1⟩:=hz9
 obtain ⟨i,j,e,⟨q1,q2,q3,q4⟩,q⟩:=q1
 subst e
 cases r1 with
 | cons r rr =>
  cases rr with
  | cons r' rr =>
   cases rr
   obtain ⟨t,rfl⟩:=r
   obtain ⟨t',rfl⟩:=r'
   exact call_range_2 (Zrw I1 q1 q2 q3 q4 q)
def tFor (wi:TI)(g:TG)(tb:TS):TS:=fun D σ H=>wi σ H fun J H1=>∃W:Nat→Nat→St→Hp→Prop,(∃m,W 0 m σ H1)∧∀i m σ H,W i m σ H→
 (J.stop i H∧D.nx σ H)∨(J.go i H∧∃N:St→Hp→Prop,(∀σ' H',N σ' H'→∃m',m'<m∧W (i+1) m' σ' H')∧∀x H',J.yld i H x H'→g x σ H' fun σ2 H2=>tb {D with nx:=N,ct:=N,bk:=D.nx} σ2 H2)
noncomputable def Zmr (fp:List Addr)(h:Heap):List (Addr×Obj):=fp.filterMap fun b=>(h.get? b).map fun o=>(b,o)
theorem Zdg {fp:List Addr}{h:Heap}{b:Addr}{o:Obj}(hb:b∈fp)(e:h.get? b=some o):(b,o)∈Zmr fp h:=List.mem_filterMap.mpr ⟨b,hb,by rw [e];rfl⟩
theorem Zus {fp:List Addr}{h:Heap}{p:Addr×Obj}(hp:p∈Zmr fp h):p.1∈fp∧h.get? p.1=some p.2:=by
 obtain ⟨b,hb,e⟩:=List.mem_filterMap.mp hp
 cases q:h.get? b with
 | none=>rw [q] at e;cases e
 | some o =>
  rw [q] at e
  have e':(b,o)=p:=Option.some.inj e
  subst e'
  exact ⟨hb,q⟩
theorem Inv.pinned {pins:List (Addr×Obj)}{σ:St}{H:Hp}{s:Shared}{fp:List Addr}(I:Inv X pins σ H s)(hf:∀b∈fp,Zzp X pins H b)(ho:∀b∈fp,∃o,s.heap.get? b=some o∧∀v,o.data≠.cell v):Inv X (pins++Zmr fp s.heap) σ H s:=
 I.pins_of fun p hp=>(List.mem_append.mp hp).elim (fun z=>I.pin p (mem_append_right _ z)) fun z=>by
  obtain ⟨hb,e⟩:=Zus z
  obtain ⟨f0,f1,f2,_⟩:=hf p.1 hb
  obtain ⟨o,e',d⟩:=ho p.1 hb
  rw [e] at e';cases e'
  exact ⟨e,f0,f1,f2,d⟩
theorem Inv.unpinned {pins pl:List (Addr×Obj)}{σ:St}{H:Hp}{s:Shared}(I:Inv X (pins++pl) σ H s):Inv X pins σ H s:=I.pins_of fun p hp=>I.pin p (mem_append_right _ (mem_append_left _ hp))
theorem Xpb {iter:Expr}{body:List Stmt}{wi:TI}{g:TG}{tb:TS}{pos:Pos}(hp:PassesOwn (model X.prog X.w) X.A X.env X.xe)(hc:X.calm=true)(hi:PI X tg iter wi)(hg:PG X tg g)(hb:PSs X body tb)
  (hs:∀x,foldedSetIterable iter X.env x=pure x:=by intro _;rfl):PS X (.For tg iter body [] pos) (tFor wi g tb):=by
 intro pins s σ H D I h
 refine wpAny_For (thn (hi pins s σ H _ I h) fun v s1 h1=>thn h1 fun itv s2 h2=>?_) hs
 obtain ⟨it,fp,tn,J,H2,e,I2,T,st2,f2,W,⟨m0,w0⟩,turn⟩:=h2
 subst e
 have stat:∀{H':Hp},(∀b∈fp,H' b=none)→∀b∈fp,Zzp X pins H' b:=fun hn b hb=>⟨hn b hb,(f2 b hb).2⟩
 refine codeAny_forLoop_any (fun n s'=>∃i σ' H',Inv X pins σ' H' s'∧tn i s'.heap∧(∀b∈fp,H' b=none)∧W i n σ' H') ?_ m0 ⟨0,σ,H2,I2,st2,fun b hb=>(f2 b hb).1,w0⟩
 rintro n s3 ⟨i,σ3,H3,I3,st3,fr3,w3⟩
 rcases turn i n σ3 H3 w3 with ⟨stop,qn⟩ | ⟨go,N,hN,step⟩
 ·refine wpAny_passesOwn hp (thn (T.done X rfl rfl rfl hc i pins s3 σ3 H3 X.xe I3 (stat fr3) st3 stop) fun r s4 ⟨hr,I4⟩=>?_)
  subst hr
  exact wpAny_execs_nil ⟨σ3,H3,I4,qn⟩
 ·refine wpAny_passesOwn hp (thn (T.item X rfl rfl rfl hc i pins s3 σ3 H3 X.xe I3 (stat fr3) st3 go) fun r s4 ⟨u,hr,h4⟩=>?_)
  subst hr
  refine wpAny_passesOwn hp (thn h4 fun _ s5 hz9=>?_)
  obtain ⟨x,H5,I5,r5,y5,st5,fr5⟩:=hz9
  have I5':=I5.pinned (stat fr5) (T.obj _ _ st5)
  refine wpAny_passesOwn hp (thn (hg _ s5 σ3 H5 x u _ I5' r5 (step x H5 y5)) fun _ s6 hz9=>?_)
  obtain ⟨σ6,H6,I6,q6⟩:=hz9
  refine wpAny_passesOwn hp (thn (hb _ s6 σ6 H6 _ I6 q6) fun f s7 q7=>?_)
  have again:∀{σ7:St} {H7:Hp},Inv X (pins++Zmr fp s5.heap) σ7 H7 s7→N σ7 H7→∃m,m<n∧∃i σ' H',Inv X pins σ' H' s7∧tn i s7.heap∧(∀b∈fp,H' b=none)∧W i m σ' H':=fun {σ7 H7} I7 n7=>by
   obtain ⟨m',hm,w7⟩:=hN σ7 H7 n7
   refine ⟨m',hm,i+1,σ7,H7,I7.unpinned,T.keep _ _ _ st5 fun b hb o e=>(I7.pin (b,o) (mem_append_right _ (mem_append_right _ (Zdg hb e)))).1,fun b hb=>?_,w7⟩
   obtain ⟨o,e,d⟩:=T.obj _ _ st5 b hb
   exact (I7.pin (b,o) (mem_append_right _ (mem_append_right _ (Zdg hb e)))).2.1
  cases f with
  | next=>obtain ⟨σ7,H7,I7,n7⟩:=q7;exact again I7 n7
  | cont=>obtain ⟨σ7,H7,I7,n7⟩:=q7;exact again I7 n7
  | brk=>obtain ⟨σ7,H7,I7,q7⟩:=q7;exact ⟨σ7,H7,I7.unpinned,q7⟩
  | ret v=>obtain ⟨x7,σ7,H7,I7,r7,q7⟩:=q7;exact ⟨x7,σ7,H7,I7.unpinned,r7,q7⟩
end
noncomputable abbrev R2:=V→V→Hp→VK→Prop
def OpR (X:Cx)(f:Value→Value→Sem Value)(r:R2):Prop:=
 ∀(pins:List (Addr×Obj)) (s:Shared) (σ:St) (H:Hp) (x y:V) (v u:Value) (Q:VK),Inv X pins σ H s→RelV x v→RelV y u→r x y H Q→
  wpAny (model X.prog X.w) X.A (f v u) (EP X pins σ Q) X.xe s
def UnR (X:Cx)(f:Value→Sem Value)(r:V→Hp→VK→Prop):Prop:=
 ∀(pins:List (Addr×Obj)) (s:Shared) (σ:St) (H:Hp) (x:V) (v:Value) (Q:VK),Inv X pins σ H s→RelV x v→r x H Q→
  wpAny (model X.prog X.w) X.A (f v) (EP X pins σ Q) X.xe s
def Zba (X:Cx)(f:Value)(r:List V→Hp→VK→Prop):Prop:=
 ∀(pins:List (Addr×Obj)) (s:Shared) (σ:St) (H:Hp) (xs:List V) (us:List Value) (Q:VK),Inv X pins σ H s→Ys xs us→r xs H Q→
  wpAny (model X.prog X.w) X.A (call f us) (EP X pins σ Q) X.xe s
def tOp (r:R2)(ta tb:TE):TE:=fun σ H Q=>ta σ H fun x H1=>tb σ H1 fun y H2=>r x y H2 Q
def tUn (r:V→Hp→VK→Prop)(ta:TE):TE:=fun σ H Q=>ta σ H fun x H1=>r x H1 Q
noncomputable def rI (C:Int→Int→Prop)(g:Int→Int→V):R2:=fun x y H Q=>∃i j,x=.int i∧y=.int j∧C i j∧Q (g i j) H
noncomputable def rI0 (g:Int→Int→V):R2:=fun x y H Q=>∃i j,x=.int i∧y=.int j∧Q (g i j) H
def rU (g:Int→V):V→Hp→VK→Prop:=fun x H Q=>∃i,x=.int i∧Q (g i) H
section
variable {X:Cx}{a b c:Expr}{ta tb tc:TE}{pos:Pos}
theorem binT (ha:PE X a ta)(hb:PE X b tb){pins:List (Addr×Obj)}{s:Shared}{σ:St}{H:Hp}{R:V→V→Hp→Prop}(I:Inv X pins σ H s)
  (h:ta σ H fun x H1=>tb σ H1 fun y H2=>R x y H2) {Q:Value→Shared→Prop} {f:Value→Value→Sem Value}
  (hf:∀v u s2 x y H2,Inv X pins σ H2 s2→RelV x v→RelV y u→R x y H2→wpAny (model X.prog X.w) X.A (f v u) Q X.xe s2) :
  wpAny (model X.prog X.w) X.A (eval a X.env) (fun v s₁=>wpAny (model X.prog X.w) X.A (eval b X.env) (fun u s₂=>wpAny (model X.prog X.w) X.A (f v u) Q X.xe s₂) X.xe s₁) X.xe s:=by
 refine thn (ha pins s σ H _ I h) fun v s1 hz9=>?_
 obtain ⟨x,H1,I1,r1,q1⟩:=hz9
 refine thn (hb pins s1 σ H1 _ I1 q1) fun u s2 hz9=>?_
 obtain ⟨y,H2,I2,r2,q2⟩:=hz9
 exact hf v u s2 x y H2 I2 r1 r2 q2
theorem pe_op {op:Operator}{r:R2}(ho:OpR X (binaryOp op) r)(ha:PE X a ta)(hb:PE X b tb):PE X (.BinOp a op b pos) (tOp r ta tb):=by
 intro pins s σ H Q I h
 exact wpAny_BinOp (binT ha hb I h fun v u s2 x y H2 I2 rx ry q=>ho pins s2 σ H2 x y v u Q I2 rx ry q)
theorem pe_un {op:UnaryOp}{r:V→Hp→VK→Prop}(ho:UnR X (unaryOp op) r)(ha:PE X a ta):PE X (.UnaryOp op a pos) (tUn r ta):=by
 intro pins s σ H Q I h
 exact UnaryOp_ (thn (ha pins s σ H _ I h) fun v s1 ⟨x,H1,I1,r1,q1⟩=>ho pins s1 σ H1 x v Q I1 r1 q1)
theorem opI {f:Value→Value→Sem Value}{C:Int→Int→Prop}{g:Int→Int→Int}
  (rule:∀(i j:Int) (t u:Tok) (s:Shared) (Q:Value→Shared→Prop) (E:Value→Shared→Prop),C i j→Q (.int (g i j) s.toks) {s with toks:=s.toks+1}→wpAny (model X.prog X.w) X.A (f (.int i t) (.int j u)) Q E s) :
  OpR X f (rI C fun i j=>.int (g i j)):=by
 intro pins s σ H x y v u Q I rx ry h
 obtain ⟨i,j,rfl,rfl,hc,q⟩:=h
 obtain ⟨t,rfl⟩:=rx
 obtain ⟨t',rfl⟩:=ry
 exact rule i j t t' s _ _ hc ⟨.int (g i j),H,I.tok _,⟨_,rfl⟩,q⟩
theorem opI0 {f:Value→Value→Sem Value}{g:Int→Int→Int}
  (rule:∀(i j:Int) (t u:Tok) (s:Shared) (Q:Value→Shared→Prop) (E:Value→Shared→Prop),Q (.int (g i j) s.toks) {s with toks:=s.toks+1}→wpAny (model X.prog X.w) X.A (f (.int i t) (.int j u)) Q E s) :
  OpR X f (rI0 fun i j=>.int (g i j)):=by
 intro pins s σ H x y v u Q I rx ry h
 obtain ⟨i,j,rfl,rfl,q⟩:=h
 obtain ⟨t,rfl⟩:=rx
 obtain ⟨t',rfl⟩:=ry
 exact rule i j t t' s _ _ ⟨.int (g i j),H,I.tok _,⟨_,rfl⟩,q⟩
theorem opB0 {f:Value→Value→Sem Value}{g:Int→Int→Bool}
  (rule:∀(i j:Int) (t u:Tok) (s:Shared) (Q:Value→Shared→Prop) (E:Value→Shared→Prop),Q (.bool (g i j)) s→wpAny (model X.prog X.w) X.A (f (.int i t) (.int j u)) Q E s) :
  OpR X f (rI0 fun i j=>.bl (g i j)):=by
 intro pins s σ H x y v u Q I rx ry h
 obtain ⟨i,j,rfl,rfl,q⟩:=h
 obtain ⟨t,rfl⟩:=rx
 obtain ⟨t',rfl⟩:=ry
 exact rule i j t t' s _ _ ⟨.bl (g i j),H,I,rfl,q⟩
def CPow (i j:Int):Prop:=0≤j∧j≤1000000∧i.natAbs<2 ^ 64
def Xmm (i j:Int):Prop:=(-(2 ^ 64)<i∧i<2 ^ 64)∨(-(2 ^ 64)<j∧j<2 ^ 64)
theorem Xmm.ok {i j:Int}(h:Xmm i j):IntMulOk i j:=by
 rcases h with ⟨h1,h2⟩ | ⟨h1,h2⟩
 ·exact .of_left (intBits_le_64 h1 h2)
 ·exact .of_right (intBits_le_64 h1 h2)
theorem Xps:OpR X (binaryOp .Add) (rI0 fun i j=>.int (i+j)):=opI0 fun _ _ _ _ _ _ _ q=>add_int q
theorem Zci:OpR X (binaryOp .Sub) (rI0 fun i j=>.int (i - j)):=opI0 fun _ _ _ _ _ _ _ q=>sub_int q
theorem Xrl:OpR X (binaryOp .Mult) (rI Xmm fun i j=>.int (i*j)):=opI fun _ _ _ _ _ _ _ hc q=>mul_int q hc.ok
theorem Zay:OpR X (binaryOp .Mod) (rI (fun _ j=>0<j) fun i j=>.int (i % j)):=opI fun i j _ _ _ _ _ hc q=>by
 have h1:(0:Int)<j:=hc
 exact mod_int' (by omega) (by rw [Int.fmod_eq_emod_of_nonneg i (by omega)];exact q)
theorem Zeq:OpR X (binaryOp .Pow) (rI CPow fun i j=>.int (i ^ j.toNat)):=opI fun _ _ _ _ _ _ _ hc q=>pow_int_small hc.1 hc.2.1 hc.2.2 q
theorem unI {f:Value→Sem Value}{g:Int→Int}
  (rule:∀(i:Int) (t:Tok) (s:Shared) (Q:Value→Shared→Prop) (E:Value→Shared→Prop),Q (.int (g i) s.toks) {s with toks:=s.toks+1}→wpAny (model X.prog X.w) X.A (f (.int i t)) Q E s) :
  UnR X f (rU fun i=>.int (g i)):=by
 intro pins s σ H x v Q I rx h
 obtain ⟨i,rfl,q⟩:=h
 obtain ⟨t,rfl⟩:=rx
 exact rule i t s _ _ ⟨.int (g i),H,I.tok _,⟨_,rfl⟩,q⟩
theorem Xrh:UnR X (unaryOp .USub) (rU fun i=>.int (-i)):=unI fun _ _ _ _ _ q=>neg_int q
end
noncomputable def scal:V→V→Bool
 | .non,.non=>true | .non,.int _=>true | .int _,.non=>true | .non,.bl _=>true | .bl _,.non=>true | .non,.str _=>true | .str _,.non=>true
 | .int _,.int _=>true | .bl _,.bl _=>true | .str _,.str _=>true | .byt _,.byt _=>true
 | .int _,.str _=>true | .str _,.int _=>true | .bl _,.str _=>true | .str _,.bl _=>true
 | _,_=>false
noncomputable def rEq:R2:=fun x y H Q=>scal x y=true∧Q (.bl (decide (x=y))) H
noncomputable def rNe:R2:=fun x y H Q=>scal x y=true∧Q (.bl (!decide (x=y))) H
theorem Zvp {i j:Int}:decide (V.int i=V.int j)=(i==j):=by
 rw [Bool.eq_iff_iff]
 simp
theorem Xfy {i j:Bool}:decide (V.bl i=V.bl j)=(i==j):=by
 rw [Bool.eq_iff_iff]
 simp
theorem Zxp {i j:Str}:decide (V.str i=V.str j)=(i==j):=by
 rw [Bool.eq_iff_iff]
 simp
theorem Zxb {i j:Array UInt8}:decide (V.byt i=V.byt j)=(i.toList==j.toList):=by
 rw [Bool.eq_iff_iff]
 cases i
 cases j
 simp
section
variable {X:Cx}{a b c:Expr}{ta tb tc:TE}{pos:Pos}
theorem Ya {pins:List (Addr×Obj)}{σ:St}{H:Hp}{s:Shared}{Q:VK}{k k':Bool}(I:Inv X pins σ H s)(q:Q (.bl k) H)(e:k=k'):EP X pins σ Q (.bool k') s:=by
 subst e
 exact ⟨.bl k,H,I,rfl,q⟩
theorem op_eq:OpR X (compareOp .Eq) rEq:=by
 intro pins s σ H x y v u Q I rx ry h
 obtain ⟨hs,q⟩:=h
 cases x with
 | non =>
  cases rx
  cases y with
  | non=>cases ry;exact PySem.EqNone.eq_none_none (Ya I q (by simp))
  | bl j=>cases ry;exact PySem.EqNone.eq_none_bool (Ya I q (by simp))
  | int j=>obtain ⟨t',rfl⟩:=ry;exact PySem.EqNone.eq_none_int (Ya I q (by simp))
  | str j=>obtain ⟨t',rfl⟩:=ry;exact PySem.EqNone.eq_none_str (Ya I q (by simp))
  | _=>exact absurd (show false=true from hs) Bool.false_ne_true
 | bl i =>
  cases rx
  cases y with
  | non=>cases ry;exact PySem.EqNone.eq_bool_none (Ya I q (by simp))
  | bl j=>cases ry;exact eq_bool (Ya I q Xfy)
  | str j=>obtain ⟨t',rfl⟩:=ry;exact PySem.EqMixed.eq_bool_str (Ya I q (by simp))
  | _=>exact absurd (show false=true from hs) Bool.false_ne_true
 | int i =>
  obtain ⟨t,rfl⟩:=rx
  cases y with
  | non=>cases ry;exact PySem.EqNone.eq_int_none (Ya I q (by simp))
  | int j=>obtain ⟨t',rfl⟩:=ry;exact eq_int (Ya I q Zvp)
  | str j=>obtain ⟨t',rfl⟩:=ry;exact PySem.EqMixed.eq_int_str (Ya I q (by simp))
  | _=>exact absurd (show false=true from hs) Bool.false_ne_true
 | str i =>
  obtain ⟨t,rfl⟩:=rx
  cases y with
  | non=>cases ry;exact PySem.EqNone.eq_str_none (Ya I q (by simp))
  | bl j=>cases ry;exact PySem.EqMixed.eq_str_bool (Ya I q (by simp))
  | int j=>obtain ⟨t',rfl⟩:=ry;exact PySem.EqMixed.eq_str_int (Ya I q (by simp))
  | str j=>obtain ⟨t',rfl⟩:=ry;exact eq_str (Ya I q Zxp)
  | _=>exact absurd (show false=true from hs) Bool.false_ne_true
 | byt i =>
  obtain ⟨t,rfl⟩:=rx
  cases y with
  | byt j=>obtain ⟨t',rfl⟩:=ry;exact PySem.W.eq_bytes (Ya I q Zxb)
  | _=>exact absurd (show false=true from hs) Bool.false_ne_true
 | _=>cases y<;>exact absurd (show false=true from hs) Bool.false_ne_true
theorem op_ne:OpR X (compareOp .NotEq) rNe:=by
 intro pins s σ H x y v u Q I rx ry h
 obtain ⟨hs,q⟩:=h
 cases x with
 | non =>
  cases rx
  cases y with
  | non=>cases ry;exact PySem.EqNone.ne_none_none (Ya I q (by simp))
  | bl j=>cases ry;exact PySem.EqNone.ne_none_bool (Ya I q (by simp))
  | int j=>obtain ⟨t',rfl⟩:=ry;exact PySem.EqNone.ne_none_int (Ya I q (by simp))
  | str j=>obtain ⟨t',rfl⟩:=ry;exact PySem.EqNone.ne_none_str (Ya I q (by simp))
  | _=>exact absurd (show false=true from hs) Bool.false_ne_true
 | bl i =>
  cases rx
  cases y with
  | non=>cases ry;exact PySem.EqNone.ne_bool_none (Ya I q (by simp))
  | bl j=>cases ry;exact ne_bool (Ya I q (congrArg not Xfy))
  | str j=>obtain ⟨t',rfl⟩:=ry;exact PySem.EqMixed.ne_bool_str (Ya I q (by simp))
  | _=>exact absurd (show false=true from hs) Bool.false_ne_true
 | int i =>
  obtain ⟨t,rfl⟩:=rx
  cases y with
  | non=>cases ry;exact PySem.EqNone.ne_int_none (Ya I q (by simp))
  | int j=>obtain ⟨t',rfl⟩:=ry;exact ne_int (Ya I q (congrArg not Zvp))
  | str j=>obtain ⟨t',rfl⟩:=ry;exact PySem.EqMixed.ne_int_str (Ya I q (by simp))
  | _=>exact absurd (show false=true from hs) Bool.false_ne_true
 | str i =>
  obtain ⟨t,rfl⟩:=rx
  cases y with
  | non=>cases ry;exact PySem.EqNone.ne_str_none (Ya I q (by simp))
  | bl j=>cases ry;exact PySem.EqMixed.ne_str_bool (Ya I q (by simp))
  | int j=>obtain ⟨t',rfl⟩:=ry;exact PySem.EqMixed.ne_str_int (Ya I q (by simp))
  | str j=>obtain ⟨t',rfl⟩:=ry;exact ne_str (Ya I q (congrArg not Zxp))
  | _=>exact absurd (show false=true from hs) Bool.false_ne_true
 | byt i =>
  obtain ⟨t,rfl⟩:=rx
  cases y with
  | byt j=>obtain ⟨t',rfl⟩:=ry;exact PySem.W.ne_bytes (Ya I q (congrArg not Zxb))
  | _=>exact absurd (show false=true from hs) Bool.false_ne_true
 | _=>cases y<;>exact absurd (show false=true from hs) Bool.false_ne_true
theorem Znx:OpR X (compareOp .Lt) (rI0 fun i j=>.bl (decide (i<j))):=opB0 fun _ _ _ _ _ _ _ q=>lt_int q
theorem Xrn:OpR X (compareOp .LtE) (rI0 fun i j=>.bl (decide (i≤j))):=opB0 fun _ _ _ _ _ _ _ q=>le_int q
theorem Zni:OpR X (compareOp .Gt) (rI0 fun i j=>.bl (decide (j<i))):=opB0 fun _ _ _ _ _ _ _ q=>gt_int q
theorem Xmw:OpR X (compareOp .Is) (fun x y H Q=>y=.non∧Q (.bl (decide (x=.non))) H):=by
 intro pins s σ H x y v u Q I rx ry h
 obtain ⟨rfl,q⟩:=h
 cases ry
 refine is_none_gen (Ya I q ?_)
 cases x<;>first
  | (cases rx;rfl)
  | (obtain ⟨t,rfl⟩:=rx;rfl)
theorem Xjc:OpR X (compareOp .IsNot) (fun x y H Q=>y=.non∧Q (.bl (!decide (x=.non))) H):=by
 intro pins s σ H x y v u Q I rx ry h
 obtain ⟨rfl,q⟩:=h
 cases ry
 refine isnot_none_gen (Ya I q ?_)
 cases x<;>first
  | (cases rx;rfl)
  | (obtain ⟨t,rfl⟩:=rx;rfl)
theorem OpR.or {f:Value→Value→Sem Value}{r r':R2}(h:OpR X f r)(h':OpR X f r'):OpR X f (fun x y H Q=>r x y H Q∨r' x y H Q):=by
 intro pins s σ H x y v u Q I rx ry q
 rcases q with q | q
 ·exact h pins s σ H x y v u Q I rx ry q
 ·exact h' pins s σ H x y v u Q I rx ry q
theorem Xp (b:Expr){op:CmpOp}(h:op≠.In:=by decide)(h2:op≠.NotIn:=by decide):behindInMarks op b=false:=by
 have e1:(op==CmpOp.In)=false:=by cases op<;>first | rfl | exact absurd rfl h
 have e2:(op==CmpOp.NotIn)=false:=by cases op<;>first | rfl | exact absurd rfl h2
 cases b<;>simp [behindInMarks,e1,e2]
theorem Xlp {op:CmpOp}{r:R2}(ho:OpR X (compareOp op) r)(ha:PE X a ta)(hb:PE X b tb)(hm:behindInMarks op b=false):PE X (.Compare a [op] [b] pos) (tOp r ta tb):=by
 intro pins s σ H Q I h
 exact wpAny_Compare1 (binT ha hb I h fun v u s2 x y H2 I2 rx ry q=>ho pins s2 σ H2 x y v u Q I2 rx ry q) hm
def Xba (t:TE):TT:=fun σ H Q=>t σ H fun x H'=>∃k,x=.bl k∧Q k H'
theorem Xly {op:CmpOp}{r:R2}(ho:OpR X (compareOp op) r)(ha:PE X a ta)(hb:PE X b tb)(hm:behindInMarks op b=false):PT X (.Compare a [op] [b] pos) (Xba (tOp r ta tb)):=by
  intro pins s σ H Q I h
  refine wpAny_isTrue_Compare1 (thn (ha pins s σ H _ I h) fun v s1 ⟨x,H1,I1,r1,q1⟩=>thn (hb pins s1 σ H1 _ I1 q1) fun u s2 ⟨y,H2,I2,r2,q2⟩ =>
    thn (ho pins s2 σ H2 x y v u _ I2 r1 r2 q2) fun c s3 ⟨z,H3,I3,r3,k,e,q3⟩=>?_) hm
  subst e
  cases r3
  exact wpAny_truthy_bool ⟨H3,I3,q3⟩
theorem Zme:(sizeLine:Nat)<2 ^ 63:=by rw [sizeLine_eq];decide
theorem Zto:OpR X (binaryOp .Add) (fun x y H Q=>∃i j,x=.str i∧y=.str j∧i.length+j.length≤sizeLine∧Q (.str (i++j)) H):=by
 intro pins s σ H x y v u Q I rx ry h
 obtain ⟨i,j,rfl,rfl,hz,q⟩:=h
 obtain ⟨t,rfl⟩:=rx
 obtain ⟨t',rfl⟩:=ry
 exact add_str (fun t' tk=>⟨.str (i++j),H,I.tok _,⟨_,rfl⟩,q⟩) hz
theorem vals1 {x:V}{us:List Value}(r:Ys [x] us):∃u,us=[u]∧RelV x u:=by
 cases r with
 | cons r1 r2=>cases r2;exact ⟨_,rfl,r1⟩
theorem vals2 {x y:V}{us:List Value}(r:Ys [x,y] us):∃u w',us=[u,w']∧RelV x u∧RelV y w':=by
 cases r with
 | cons r1 r2 =>
  cases r2 with
  | cons r3 r4=>cases r4;exact ⟨_,_,rfl,r1,r3⟩
theorem Zva (hc:X.calm=true):Zba X (.builtin "max") (fun xs H Q=>∃i j,xs=[.int i,.int j]∧Q (.int (if j > i then j else i)) H):=by
 intro pins s σ H xs us Q I r h
 obtain ⟨i,j,rfl,q⟩:=h
 obtain ⟨u,w',rfl,⟨t,rfl⟩,⟨t',rfl⟩⟩:=vals2 r
 refine max_two_ints (I.ok.hd hc) fun h' tk k=>⟨_,H,I.kept k,?_,q⟩
 by_cases hj:j > i
 ·rw [if_pos hj,if_pos hj];exact ⟨_,rfl⟩
 ·rw [if_neg hj,if_neg hj];exact ⟨_,rfl⟩
theorem Zyl (hc:X.calm=true):Zba X (.builtin "min") (fun xs H Q=>∃i j,xs=[.int i,.int j]∧Q (.int (if j<i then j else i)) H):=by
 intro pins s σ H xs us Q I r h
 obtain ⟨i,j,rfl,q⟩:=h
 obtain ⟨u,w',rfl,⟨t,rfl⟩,⟨t',rfl⟩⟩:=vals2 r
 refine min_two_ints (I.ok.hd hc) fun h' tk k=>⟨_,H,I.kept k,?_,q⟩
 by_cases hj:j<i
 ·rw [if_pos hj,if_pos hj];exact ⟨_,rfl⟩
 ·rw [if_neg hj,if_neg hj];exact ⟨_,rfl⟩
end
structure ObjM (h:Heap)(x dx C:Addr)(mA:Str→Option Value):Prop where
 obj:h.get? x=some (PySem.W.instObj C dx)
 ns:h.Ns1 dx mA
 ne:dx≠x
section
variable {prog:Program}{w:World}{A:Around}{E:Value→Shared→Prop}{s:Shared}{K:Frag}{x dx C f:Addr}{mA:Str→Option Value}{name:Str}{v:Value}
end
noncomputable def putF (f:Str)(v:V):List (Str×V)→List (Str×V)
 | []=>[(f,v)]
 | (g,x)::r=>if g=f then (g,v)::r else (g,x)::putF f v r
section
variable {P:Program}{w:World}{H H':Hp}{h h':Heap}{a C dx:Addr}{fs fs':List (Str×V)}
end
structure Cls (K:Frag)(C:Addr):Prop where
 pg:PySem.W.plainGet K C Str.empty=true
 hd:PySem.W.hasDictIn K C=true
 po:PySem.W.plainOver K C=true
 sa:findIn K (.ref C) "__setattr__"=some (some (.builtin "object.__setattr__"))
def Xnn (K:Frag)(C:Addr)(f:Str):Prop:=findIn K (.ref C) f=some none
structure Con (K:Frag)(C:Addr)(f:Str)(v:V)(u:Value):Prop where
 at_:findIn K (.ref C) f=some (some u)
 rel:RelV v u
 get:specialIn K u "__get__"=some none
 cp:PySem.W.copiedNames.contains f=false
structure Meth (K:Frag)(C:Addr)(m:Str)(f:Addr):Prop where
 at_:findIn K (.ref C) m=some (some (.ref f))
 fn:isFn K (.ref f)=true
 kp:keepIn K (.ref f)=true
section
variable {X:Cx}{pins:List (Addr×Obj)}{σ:St}{H:Hp}{s:Shared}{a C dx:Addr}{fs:List (Str×V)}{f:Str}{v:V}{A:Around}{E:Value→Shared→Prop}
end
def sFld (K:Frag)(ta tv:TE)(f:Str):TS:=fun D σ H=>tv σ H fun y H1=>ta σ H1 fun x H2=>∃a C dx fs,x=.ref a∧H2 a=some (.ins C dx fs)∧Cls K C∧Xnn K C f∧fs.length<1000∧
 D.nx σ (upd H2 a (.ins C dx (putF f y fs)))
section
variable {X:Cx}{o e value:Expr}{f:Str}{pos pos' tpos:Pos}{ta tv:TE}
end
section
variable {X:Cx}{pins:List (Addr×Obj)}{σ:St}{H:Hp}{s:Shared}{A:Around}{E:Value→Shared→Prop}{Q:Value→Shared→Prop}{c:Value}{b:Bool}
inductive TyOf (K:Frag)(H:Hp):V→Value→Prop where
 | non:TyOf K H .non (.type "NoneType")
 | bl (x:Bool):TyOf K H (.bl x) (.type "bool")
 | int (i:Int):TyOf K H (.int i) (.type "int")
 | str (x:Str):TyOf K H (.str x) (.type "str")
 | flt (x:UInt64):TyOf K H (.flt x) (.type "float")
 | lst {a:Addr} {xs:List V} (e:H a=some (.lst xs)):TyOf K H (.ref a) (.type "list")
 | frz {a:Addr} {o:Obj} {xs:List V} (e:H a=some (.frz o (.lst xs))):TyOf K H (.ref a) (.type "list")
 | tup {a:Addr} {xs:List V} (e:H a=some (.tup xs)):TyOf K H (.ref a) (.type "tuple")
 | dK {a:Addr} {kvs:List (Key×V)} (e:H a=some (.dK kvs)):TyOf K H (.ref a) (.type "dict")
 | dT {a:Addr} {kvs:List (List Key×V)} (e:H a=some (.dT kvs)):TyOf K H (.ref a) (.type "dict")
 | ins {a C dx:Addr} {fs:List (Str×V)} (e:H a=some (.ins C dx fs)) (cl:Cls K C) (ha:findIn K (.ref C) "__class__"=some (some (.builtin "object.__class__")))
   (hn:specialIn K (.builtin "object.__class__") "__get__"=some (some (.builtin "getset_descriptor.__get__"))) (htk:PySem.W.takesIn K (.builtin "object.__class__")=some true)
   (hm:PySem.W.mroIn K C (.type "object")=some true):TyOf K H (.ref a) (.ref C)
end
structure Zje (k:Nat)(A:Around):Prop where
 hd:A.handled=none
 dp:A.depth+3*k+5<recursionLimit
 un:A.units+16*k+200<cLine
 gd:A.guards=some []
theorem Zje.mono {j k:Nat}{A:Around}(r:Zje k A)(h:j≤k):Zje j A:=⟨r.hd,by have:=r.dp;omega,by have:=r.un;omega,r.gd⟩
theorem Zje.deeper {k:Nat}{A:Around}(r:Zje (k+1) A)(env:Env):Zje k (A.deeper env):=
 ⟨r.hd,by have:=r.dp;show A.depth+1+3*k+5<_;omega,by have:=r.un;show A.units+3+16*k+200<_;omega,r.gd⟩
theorem Zje.depth {k:Nat}{A:Around}(r:Zje k A):A.depth<recursionLimit:=by have:=r.dp;omega
theorem Zje.units {k:Nat}{A:Around}(r:Zje k A):A.units+64<cLine:=by have:=r.un;omega
def Zuh:TA:=fun _ H Q=>Q [] H
def Zgb (ta:TE)(tr:TA):TA:=fun σ H Q=>ta σ H fun x H1=>tr σ H1 fun xs H2=>Q (x::xs) H2
section
variable {X:Cx}{e:Expr}{es:List Expr}{te:TE}{t:TA}{pos:Pos}
theorem Zvd:PA X [] Zuh:=fun _ _ _ _ H Q I h=>Calls.spliced_nil ⟨[],H,I,.nil,h⟩
theorem Zpv (ha:PE X e te)(hr:PA X es t)(hs:starEach (e::es) X.env=(false,eval e X.env)::starEach es X.env:=by rfl):PA X (e::es) (Zgb te t):=by
 intro pos pins s σ H Q I h
 rw [hs]
 show wpAny _ _ (spliced ((false,eval e X.env)::backTo pos (starEach es X.env))) _ _ s
 refine Calls.spliced_cons (thn (ha pins s σ H _ I h) fun u s1 hz9=>?_)
 obtain ⟨x,H1,I1,r1,q1⟩:=hz9
 exact thn (hr pos pins s1 σ H1 _ I1 q1) fun us s2 ⟨xs,H2,I2,r2,q2⟩=>⟨x::xs,H2,I2,.cons r1 r2,q2⟩
def Xrc (t:TA):TE:=fun σ H Q=>t σ H fun xs H1=>xs.length≤sizeLine∧∀p,H1 p=none→Q (.ref p) (upd H1 p (.tup xs))
def Xmk (t:TA):TE:=fun σ H Q=>t σ H fun xs H1=>xs.length≤sizeLine∧∀p,H1 p=none→Q (.ref p) (upd H1 p (.lst xs))
theorem Xsd {x1}(h:PA X es t):PE X (.Tuple es x1 pos) (Xrc t):=by
 intro pins s σ H Q I hq
 refine wpAny_Tuple_spliced (thn (h pos pins s σ H _ I hq) fun us s1 ⟨xs,H1,I1,r,z,q⟩=>⟨by rw [← r.length];exact z,?_⟩)
 have hf:H1 s1.heap.objs.size=none:=I1.hok.fresh (le_refl _)
 refine ⟨.ref s1.heap.objs.size,upd H1 s1.heap.objs.size (.tup xs),I1.laid (t':=s1.toks) (fun b u e=>get?_push_of_some _ e) (le_refl _) ?_,rfl,q _ hf⟩
 exact ⟨z,us,r,⟨_,get?_push_size _ rfl,rfl,_,rfl⟩⟩
theorem Xqe (h:PA X es t):PE X (.List es pos) (Xmk t):=by
 intro pins s σ H Q I hq
 refine wpAny_List_spliced (thn (h pos pins s σ H _ I hq) fun us s1 ⟨xs,H1,I1,r,z,q⟩=>⟨by rw [← r.length];exact z,?_⟩)
 have hf:H1 s1.heap.objs.size=none:=I1.hok.fresh (le_refl _)
 refine ⟨.ref s1.heap.objs.size,upd H1 s1.heap.objs.size (.lst xs),I1.laid (t':=s1.toks) (fun b u e=>get?_push_of_some _ e) (le_refl _) ?_,rfl,q _ hf⟩
 exact ⟨z,us,0,r,get?_push_size _ rfl⟩
end
noncomputable abbrev Sp:=List V→Hp→VK→XK→Prop
noncomputable abbrev CXT:=List Env→Hp→Shared→XK→Value→Shared→Prop
structure Xpt (P:Program)(w:World)(K:Frag)(mg:Str→Option Value)(base:Heap)(A:Around)(outer:List Env)(s:Shared)(H:Hp):Prop where
 frames:A.frames=some outer
 mod:Mod K mg base
 bs:∀b o,base.get? b=some o→s.heap.get? b=some o∧H b=none
 bsz:base.objs.size≤s.heap.objs.size
 funs:s.heap.FunFrames base outer
 frf:∀b∈frs outer,H b=none
 hok:HOk P w H s.heap
 bare:AllBare s.gens
def CE (outer:List Env)(P:Program)(w:World)(H:Hp)(s:Shared)(Q:VK)(u:Value)(s':Shared):Prop:=
 ∃v H',s'.os=s.os∧AllBare s'.gens∧Un (frs outer) [] H H' s.heap s'.heap∧HOk P w H' s'.heap∧RelV v u∧Q v H'
def CR (CX:CXT)(outer:List Env)(P:Program)(w:World)(H:Hp)(s:Shared)(Q:VK)(E:XK)(r:Result)(s':Shared):Prop:=
 match r with
 | .ok (.ret u)=>CE outer P w H s Q u s'
 | .ok _=>False
 | .error e=>CX outer H s E e s'
structure Zan (P:Program)(w:World)(K:Frag)(mg:Str→Option Value)(base:Heap)(CX:CXT)(k:Nat)(f:Addr)(fd:FuncData)(ps:List Str)(sp:Sp):Prop where
 len:∀vs H Q E,sp vs H Q E→vs.length=ps.length
 run:∀(A:Around) (outer:List Env) (s:Shared) (H:Hp) (args:Args) (us:List Value) (vs:List V) (Q:VK) (E:XK),Zje k A→Xpt P w K mg base A outer s H→BindsTo s fd args (ps.zip us)→Ys vs us→sp vs H Q E→
  codeAny (model P w) A (.call (.ref f) args) (CR CX outer P w H s Q E) s
theorem Zan.imp {P:Program}{w:World}{K:Frag}{mg:Str→Option Value}{base:Heap}{CX:CXT}{k:Nat}{f:Addr}{fd:FuncData}{ps:List Str}{sp sp':Sp}(F:Zan P w K mg base CX k f fd ps sp)
  (h:∀vs H Q E,sp' vs H Q E→sp vs H Q E):Zan P w K mg base CX k f fd ps sp':=
 ⟨fun vs H Q E q=>F.len vs H Q E (h _ _ _ _ q),fun A outer s H args us vs Q E hr he hb hv hs=>F.run A outer s H args us vs Q E hr he hb hv (h _ _ _ _ hs)⟩
section
variable {X:Cx}{pins:List (Addr×Obj)}{σ:St}{H:Hp}{s s':Shared}
theorem Inv.env0 (I:Inv X pins σ H s):Xpt X.prog X.w X.K X.mg X.base X.A X.stack s H:=
 ⟨I.ok.frames,I.ok.mod,I.bs,le_trans I.ok.bsz I.sz,I.stack,I.stkFree,I.hok,I.bare⟩
theorem Inv.after {Q:VK}{u:Value}(I:Inv X pins σ H s)(h:CE X.stack X.prog X.w H s Q u s'):EP X pins σ Q u s':=by
 obtain ⟨v,H',os,bare,un,hok,r,q⟩:=h
 obtain ⟨hh,g,d,t,os'⟩:=s'
 obtain rfl:os'=s.os:=os
 exact ⟨v,H',I.call (h':=hh) (g':=g) (d':=d) (t':=t) (ch:=[]) un hok bare (fun b z=>absurd z (by simp)),r,q⟩
end
def Ztb (sp:Sp)(dvs:List V)(E:XK)(t:TA):TE:=fun σ H Q=>t σ H fun vs H1=>sp (vs++dvs) H1 Q E
def Binds (K:Frag)(fd:FuncData)(ps:List Str)(ds:List Value):Prop:=
 ∀(s:Shared) (us:List Value),K.In s.heap→(us++ds).length=ps.length→BindsTo s fd ⟨us,[]⟩ (ps.zip (us++ds))
theorem Binds.all {K:Frag}{fd:FuncData}{ps:List Str}(h:∀us:List Value,us.length=ps.length→bindArgs fd ⟨us,[]⟩=pure (ps.zip us)):Binds K fd ps []:=fun s us _ hl=>by
 rw [append_nil] at hl ⊢
 exact .of_eq (h us hl)
def Zjt (CX:CXT)(X:Cx)(E:XK):Prop:=∀(pins:List (Addr×Obj)) (σ:St) (H:Hp) (s:Shared) (e:Value) (s':Shared),Inv X pins σ H s→CX X.stack H s E e s'→X.xe e s'
section
variable {X:Cx}{CX:CXT}{k:Nat}{f C:Addr}{fd:FuncData}{ps:List Str}{sp:Sp}{dvs:List V}{ds:List Value}{E:XK}{x m:Str}{p pos apos:Pos}{e o:Expr}{es:List Expr}{ta:TE}{t:TA}
theorem Xsb {pins:List (Addr×Obj)}{σ:St}{H:Hp}{s:Shared}{Q:VK}{us:List Value}{vs:List V}(F:Zan X.prog X.w X.K X.mg X.base CX k f fd ps sp)(hr:Zje k X.A)(hb:Binds X.K fd ps ds)(hd:Ys dvs ds)(hx:Zjt CX X E)
  (I:Inv X pins σ H s) (r:Ys vs us) (h:sp (vs++dvs) H Q E):wpAny (model X.prog X.w) X.A (call (.ref f) us) (EP X pins σ Q) X.xe s:=by
 have r2:Ys (vs++dvs) (us++ds):=r.append hd
 have hl:(us++ds).length=ps.length:=by rw [← r2.length];exact F.len _ _ _ _ h
 refine wpAny_call (codeAny_mono (F.run X.A X.stack s H ⟨us,[]⟩ (us++ds) (vs++dvs) Q E hr I.env0 (hb s us I.kIn hl) r2 h) fun r s' hq=>?_)
 cases r with
 | error e=>exact hx pins σ H s e s' I hq
 | ok fl =>
  cases fl with
  | ret u=>exact I.after hq
  | next=>exact False.elim hq
  | brk=>exact False.elim hq
  | cont=>exact False.elim hq
theorem Xhn (F:Zan X.prog X.w X.K X.mg X.base CX k f fd ps sp)(hr:Zje k X.A)(hg:Gl X x)(hm:X.mg x=some (.ref f))(hk:keepIn X.K (.ref f)=true)(hb:Binds X.K fd ps ds)(hd:Ys dvs ds)(hx:Zjt CX X E)
  (ha:PA X (e::es) t) (hdb:(x==("__debug__":Str))=false:=by decide) (he:starEach (e::es) X.env=(false,eval e X.env)::starEach es X.env:=by rfl) (hpl:(backTo pos (starEach es X.env)).any (·.1)=false:=by rfl) :
  PE X (.Call (.Name x p) (e::es) [] pos) (Ztb sp dvs E t):=by
 intro pins s σ H Q I h
 refine wpAny_Call_Name_kw (Xka I hg hm ?_ hdb)
 refine PySem.W.callWith_K (h₀:=X.base) I.ok.mod.kin hk (thn (ha pos pins s σ H _ I h) fun us s1 ⟨vs,H1,I1,r,q⟩=>⟨I1.kIn,?_⟩) he hpl
 exact Xsb F hr hb hd hx I1 r q
structure Mk (K:Frag)(C f:Addr):Prop where
 makes:PySem.W.makesIn K C=true
 init:findIn K (.ref C) "__init__"=some (some (.ref f))
 fn:isFn K (.ref f)=true
 kp:keepIn K (.ref C)=true
end
def PK (X:Cx)(kws:List Keyword)(t:TA):Prop:=
 ∀(pos:Pos) (pins:List (Addr×Obj)) (s:Shared) (σ:St) (H:Hp) (Q:List V→Hp→Prop),Inv X pins σ H s→t σ H Q→wpAny (model X.prog X.w) X.A (evalAll ((backToKw pos (keywordEach kws X.env)).map (·.2))) (AP X pins σ Q) X.xe s
section
variable {X:Cx}{CX:CXT}{k:Nat}{f C:Addr}{fd:FuncData}{ps ks:List Str}{sp:Sp}{E:XK}{x m:Str}{p pos apos kpos:Pos}{e o:Expr}{es:List Expr}{kws:List Keyword}{te ta:TE}{t tk:TA}{nm:Option Str}
structure KBinds (K:Frag)(fd:FuncData)(ps ks:List Str)(g:List Value→List Value→List Value)(gV:List V→List V→List V):Prop where
 to:∀(s:Shared) (us ws:List Value),K.In s.heap→(g us ws).length=ps.length→BindsTo s fd ⟨us,ks.zip ws⟩ (ps.zip (g us ws))
 rel:∀{vs:List V} {us:List Value} {zs:List V} {ws:List Value},Ys vs us→Ys zs ws→Ys (gV vs zs) (g us ws)
variable {g:List Value→List Value→List Value}{gV:List V→List V→List V}
end
structure Xc (N P:List Str)(sc:Scope):Prop where
 kind:sc.kind=.function
 co:sc.isCoroutine=false
 gen:sc.isGenerator=false
 nd:N.Nodup
 pre:N.take P.length=P
 par:∀x∈P,sc.names.lookup x=some .local∨sc.names.lookup x=some .cell
 nofree:∀y∈sc.names,y.2≠.free
theorem Zmv {kindOf:Str→Option NameKind}{x:Str}:∀{binds:List (Str×Value)} {m:Str→Option Value},(∀v,(x,v)∉binds)→bindL kindOf binds m x=m x
 | [],_,_=>rfl
 | (n,v)::r,m,h=>by
  unfold bindL
  rw [Zmv fun w hw=>h w (mem_cons_of_mem _ hw)]
  split
  ·have:x≠n:=by rintro rfl;exact h v mem_cons_self
   simp [this]
  ·rfl
theorem Zms {kindOf:Str→Option NameKind}{x:Str}:∀{binds:List (Str×Value)} {m:Str→Option Value},(∀v,(x,v)∉binds)→bindC kindOf binds m x=m x
 | [],_,_=>rfl
 | (n,v)::r,m,h=>by
  unfold bindC
  rw [Zms fun w hw=>h w (mem_cons_of_mem _ hw)]
  split
  ·rfl
  ·have:x≠n:=by rintro rfl;exact h v mem_cons_self
   simp [this]
theorem Zob {kindOf:Str→Option NameKind}{x:Str}{v:Value}:∀{P:List Str} {vs:List Value} {i:Nat} {m:Str→Option Value},P.Nodup→P[i]?=some x→vs[i]?=some v→kindOf x=some .local→
  bindL kindOf (P.zip vs) m x=some v
 | [],_,_,_,_,h,_,_=>by simp at h
 | _::_,[],_,_,_,_,h,_=>by simp at h
 | p::P,w::vs,0,m,nd,h1,h2,hk=>by
  simp at h1 h2;subst h1;subst h2
  show bindL kindOf ((p,w)::P.zip vs) m p=_
  unfold bindL
  rw [Zmv fun v hv=>(List.nodup_cons.mp nd).1 (List.of_mem_zip hv).1,if_pos hk]
  simp
 | p::P,w::vs,i+1,m,nd,h1,h2,hk=>by
  show bindL kindOf ((p,w)::P.zip vs) m x=_
  unfold bindL
  exact Zob (i:=i) (List.nodup_cons.mp nd).2 (by simpa using h1) (by simpa using h2) hk
theorem Znj {kindOf:Str→Option NameKind}{x:Str}{v:Value}:∀{P:List Str} {vs:List Value} {i:Nat} {m:Str→Option Value},P.Nodup→P[i]?=some x→vs[i]?=some v→kindOf x≠some .local→
  bindC kindOf (P.zip vs) m x=some v
 | [],_,_,_,_,h,_,_=>by simp at h
 | _::_,[],_,_,_,_,h,_=>by simp at h
 | p::P,w::vs,0,m,nd,h1,h2,hk=>by
  simp at h1 h2;subst h1;subst h2
  show bindC kindOf ((p,w)::P.zip vs) m p=_
  unfold bindC
  rw [Zms fun v hv=>(List.nodup_cons.mp nd).1 (List.of_mem_zip hv).1,if_neg hk]
  simp
 | p::P,w::vs,i+1,m,nd,h1,h2,hk=>by
  show bindC kindOf ((p,w)::P.zip vs) m x=_
  unfold bindC
  exact Znj (i:=i) (List.nodup_cons.mp nd).2 (by simpa using h1) (by simpa using h2) hk
noncomputable def start (N:List Str)(vs:List V):St:=vs.map some++List.replicate (N.length - vs.length) none
noncomputable def Xfu (CX:CXT)(P:Program)(w:World)(K:Frag)(mg:Str→Option Value)(base:Heap)(N:List Str)(qual:Str)(scope:Scope)(f:Addr)(cd:Value)(A:Around)(outer:List Env)(s:Shared)(H:Hp)(E:XK):Cx where
 prog:=P
 w:=w
 K:=K
 mg:=mg
 base:=base
 A:=A.deeper (envOfC qual scope s.heap.objs.size f cd)
 N:=N
 s₀:=s
 H₀:=H
 env:=envOfC qual scope s.heap.objs.size f cd
 outer:=outer
 stack:=envOfC qual scope s.heap.objs.size f cd::outer
 ex:=[]
 calm:=true
 fn:=fun _=>true
 pn:=[]
 xe:=fun e s'=>wpAny (model P w) (A.deeper (envOfC qual scope s.heap.objs.size f cd)) (leaving (envOfC qual scope s.heap.objs.size f cd) e) (fun _ s''=>CX outer H s E e s'') (fun e' s''=>CX outer H s E e' s'') s'
theorem Zqc {sc:Scope}{n:Nat}{x:Str}(h:sc.names.lookup x=some .cell):∃c,(cellsFrom n sc.names []).lookup x=some c:=by
 have q:=PySem.W.cellsFrom_some sc.names n [] (.inl h)
 exact Option.isSome_iff_exists.mp q
theorem Zzf {CX:CXT}{P:Program}{w:World}{K:Frag}{mg:Str→Option Value}{base:Heap}{N ps:List Str}{qual:Str}{scope:Scope}{f:Addr}{cd:Value}{A:Around}{outer:List Env}{s s1:Shared}{H:Hp}{E:XK}{us:List Value}{vs:List V}
    (S:Xc N ps scope) (hd:A.handled=none) (e0:Xpt P w K mg base A outer s H) (hl:vs.length=ps.length) (r:Ys vs us)
    (x:InCallC s s.heap.objs.size (bindL (envOfC qual scope s.heap.objs.size f cd).kindOf (ps.zip us) fun _=>none) (cellsFrom (s.heap.objs.size+1) scope.names []) (bindC (envOfC qual scope s.heap.objs.size f cd).kindOf (ps.zip us) fun _=>none) s1) :
    Inv (Xfu CX P w K mg base N qual scope f cd A outer s H E) [] (start N vs) H s1:=by
  have hpl:ps.length≤N.length:=by have:=congrArg List.length S.pre;rw [length_take] at this;omega
  obtain ⟨h1,tk,rfl,hk⟩:=x.done
  have noA:∀b:Addr,b∉(Xfu CX P w K mg base N qual scope f cd A outer s H E).ex:=fun b z=>absurd (show b∈([]:List Addr) from z) (by simp)
  refine ⟨⟨e0.mod,S.kind,rfl,rfl,le_refl _,fun y z c h1 h2=>?_,fun y hy=>?_,fun y c _ h=>?_,fun _=>hd,Around.frames_deeper e0.frames,.inr ⟨rfl,rfl⟩,fun b z=>absurd z (noA b),e0.bs,e0.bsz,fun b _ _=>noA b,fun b z=>absurd z (noA b),e0.funs,e0.frf⟩,
    rfl,e0.bare,Un.kept hk,⟨_,x.toInCall.ns,fun i y v h1 h2 h3=>?_⟩,fun y c h=>⟨_,x.cell y c h⟩,e0.hok.fresh (le_refl _),fun y c h=>?_,fun p hp=>absurd (show p∈([]:List (Addr×Obj)) from hp) (by simp),e0.hok.kept hk,?_⟩
  · exact name_of_addr x.apart (PySem.mem_of_lookup h1) (PySem.mem_of_lookup h2)
  · have hy:scope.names.lookup y=some .cell∨scope.names.lookup y=some .free:=hy
    rcases hy with hy | hy
    · exact Zqc hy
    · exact absurd rfl (S.nofree _ (PySem.mem_of_lookup hy))
  · exact le_of_lt (x.above y c (PySem.mem_of_lookup h))
  · have hi:i<vs.length:=by
      unfold start at h2
      by_cases hi:i<vs.length
      · exact hi
      · rw [getElem?_append_right (by simpa using hi)] at h2
        rw [List.getElem?_replicate] at h2
        split at h2<;>cases h2
    have ha:vs[i]?=some v:=by
      unfold start at h2
      rw [getElem?_append_left (by simpa using hi),getElem?_map] at h2
      cases e:vs[i]? with
      | none=>rw [e] at h2;cases h2
      | some a=>rw [e] at h2;cases h2;rfl
    obtain ⟨u,hu,rv⟩:=r.get ha
    have hp:ps[i]?=some y:=by
      rw [← S.pre,List.getElem?_take_of_lt (by omega)];exact h1
    have ndP:ps.Nodup:=by rw [← S.pre];exact S.nd.sublist (List.take_sublist _ _)
    refine ⟨u,rv,?_⟩
    rcases S.par y (mem_of_getElem? hp) with k | k
    · exact .inl ⟨k,Zob ndP hp hu k⟩
    · obtain ⟨c,e⟩:=Zqc (n:=s.heap.objs.size+1) k
      refine .inr ⟨.inl k,c,e,?_⟩
      have q:=x.cell y c e
      rw [Znj ndP hp hu (by show scope.names.lookup y≠_;rw [k];decide)] at q
      exact q
  · exact e0.hok.fresh (le_of_lt (x.above y c (PySem.mem_of_lookup h)))
  · unfold start
    show _=N.length
    rw [length_append,length_map,List.length_replicate]
    omega
theorem fn_of {CX:CXT}{P:Program}{w:World}{K:Frag}{mg:Str→Option Value}{base:Heap}{k:Nat}{f:Addr}{name qual:Str}{params:Arguments}{body:List Stmt}{scope:Scope}{dV kV doc pm cdv ct oc:Value}{an od:Option Addr}
    {osl:Array (Option Value)} {N ps:List Str} {sp:Sp} (lk:K.lookup f=some ⟨oc,od,.func (fnOf name qual params body scope dV kV doc pm an cdv ct),osl⟩) (hcd:codeIn K cdv qual=true) (S:Xc N ps scope)
    (len:∀vs H Q E,sp vs H Q E→vs.length=ps.length)
    (hbody:∀(A:Around) (outer:List Env) (s:Shared) (H:Hp) (vs:List V) (Q:VK) (E:XK),Zje k (A.deeper (envOfC qual scope s.heap.objs.size f cdv))→sp vs H Q E→
      ∃t,PSs (Xfu CX P w K mg base N qual scope f cdv A outer s H E) body t∧t {nx:=fun _ H'=>Q .non H',rt:=Q} (start N vs) H) :
    Zan P w K mg base CX (k+1) f (fnOf name qual params body scope dV kV doc pm an cdv ct) ps sp:=by
  refine ⟨len,fun A outer s H args us vs Q E hr e0 hb r hsp=>?_⟩
  have hl:=len _ _ _ _ hsp
  have KX:K.In s.heap:=e0.mod.kin.keeps fun b o e=>(e0.bs b o e).1
  have lim:s.heap.NoLimit:=e0.mod.nolimit.keeps fun b o e=>(e0.bs b o e).1
  have hkind:∀y∈ps.zip us,scope.names.lookup y.1=some .local∨(scope.names.lookup y.1=some .cell∧((cellsFrom (s.heap.objs.size+1) scope.names []).lookup y.1).isSome=true):=fun ⟨n,v⟩ hy=>by
    rcases S.par n (List.of_mem_zip hy).1 with q | q
    · exact .inl q
    · exact .inr ⟨q,PySem.W.cellsFrom_some _ _ _ (.inl q)⟩
  refine codeAny_call_function hr.depth (KX _ _ lk) rfl S.co S.gen rfl (PySem.W.codeRec_of KX hcd) (hb _ _ _ _ ?_)
  refine wpAny_newFunctionEnv_cells S.kind hkind fun env he s1 x=>?_
  subst he
  refine ⟨lim.keeps x.toInCall.keep,codeAny_func ?_⟩
  obtain ⟨t,ht,hq⟩:=hbody A outer s H vs Q E (hr.deeper _) hsp
  have I:Inv (Xfu CX P w K mg base N qual scope f cdv A outer s H E) [] (start N vs) H s1:=Zzf S hr.hd e0 hl r x
  refine wpAny_mono (ht [] s1 (start N vs) H _ I hq) (fun fl s' hs=>?_) fun e s' hs=>hs
  have fin:∀{σ':St} {H':Hp} {v:V} {u:Value},Inv (Xfu CX P w K mg base N qual scope f cdv A outer s H E) [] σ' H' s'→RelV v u→Q v H'→CE outer P w H s Q u s':=
    fun {σ' H' v u} J rv q=>⟨v,H',J.os,J.bare,J.base,J.hok,rv,q⟩
  cases fl with
  | ret u =>
    obtain ⟨v,σ',H',J,rv,q⟩:=hs
    exact fin J rv q
  | next =>
    obtain ⟨σ',H',J,q⟩:=hs
    exact fin (v:=V.non) (u:=Value.none) J rfl q
  | brk =>
    obtain ⟨_,_,_,q⟩:=hs
    exact False.elim q
  | cont =>
    obtain ⟨_,_,_,q⟩:=hs
    exact False.elim q
section
variable {X:Cx}{x:Str}{p pos:Pos}{e:Expr}{es:List Expr}{t:TA}{id T:String}{r:List V→Hp→VK→Prop}
def tCB (r:List V→Hp→VK→Prop)(t:TA):TE:=fun σ H Q=>t σ H fun vs H1=>r vs H1 Q
theorem Xbj (hc:Zba X (.builtin id) r)(hg:Gl X x)(hm:X.mg x=none)(hv:bootBuiltins x=some (.builtin id))(ha:PA X (e::es) t)(hn:x≠"__name__":=by decide)(hdb:(x==("__debug__":Str))=false:=by decide)
  (he:starEach (e::es) X.env=(false,eval e X.env)::starEach es X.env:=by rfl) (hpl:(backTo pos (starEach es X.env)).any (·.1)=false:=by rfl):PE X (.Call (.Name x p) (e::es) [] pos) (tCB r t):=by
 intro pins s σ H Q I h
 refine wpAny_Call_Name_kw (Zgh I hg hm hv ?_ hn hdb)
 exact PyProof.Rows.callWith_builtin1 (thn (ha pos pins s σ H _ I h) fun us s1 ⟨vs,H1,I1,r1,q1⟩=>hc pins s1 σ H1 vs us Q I1 r1 q1) he hpl
theorem Zvr (hc:Zba X (.type T) r)(hg:Gl X x)(hm:X.mg x=none)(hv:bootBuiltins x=some (.type T))(ha:PA X (e::es) t)(hn:x≠"__name__":=by decide)(hdb:(x==("__debug__":Str))=false:=by decide)
  (he:starEach (e::es) X.env=(false,eval e X.env)::starEach es X.env:=by rfl) (hpl:(backTo pos (starEach es X.env)).any (·.1)=false:=by rfl):PE X (.Call (.Name x p) (e::es) [] pos) (tCB r t):=by
 intro pins s σ H Q I h
 refine wpAny_Call_Name_kw (Zgh I hg hm hv ?_ hn hdb)
 exact PyProof.Rows.callWith_type1 (thn (ha pos pins s σ H _ I h) fun us s1 ⟨vs,H1,I1,r1,q1⟩=>hc pins s1 σ H1 vs us Q I1 r1 q1) he hpl
end
end L2
namespace HT
open PySem PyProof.Rows
noncomputable def lexLt:List Int→List Int→Bool
 | [],[]=>false
 | [],_::_=>true
 | _::_,[]=>false
 | x::xs,y::ys=>if x=y then lexLt xs ys else decide (x<y)
section
open PySem.SeqAt
open PySem.AutoSeq1 (wpAny_loadPart')
open PySem.MeetsSeq PySem.MeetsSeq2 PySem.MeetsSeq3
variable {prog:Program}{w:World}{A:Around}{E:Value→Shared→Prop}{s:Shared}
noncomputable def sIx (n d:Nat):Option Int→Nat
 | none=>d
 | some v=>if v<0 then (v+(n:Int)).toNat else min v.toNat n
theorem clip_eq (v:Int)(n d:Nat):(if v<0 then max (v+(n:Int)) 0 else min v (n:Int))=((sIx n d (some v):Nat):Int):=by
 show (if v<0 then max (v+(n:Int)) 0 else min v (n:Int))=(((if v<0 then (v+(n:Int)).toNat else min v.toNat n):Nat):Int)
 by_cases hv:v<0
 ·simp only [if_pos hv];omega
 ·simp only [if_neg hv];omega
end
end HT
namespace L2
open PySem PySem.Spec PyProof.Rows
noncomputable abbrev TO:=St→Hp→(Option Int→Hp→Prop)→Prop
def PO (X:Cx)(e:Option Expr)(t:TO):Prop:=
 ∀(pins:List (Addr×Obj)) (s:Shared) (σ:St) (H:Hp) (Q:Option Int→Hp→Prop),Inv X pins σ H s→t σ H Q→
  wpAny (model X.prog X.w) X.A (evalPart e X.env) (fun u s'=>∃o H',Inv X pins σ H' s'∧IsPart u o∧Q o H') X.xe s
noncomputable def Zln:TO:=fun _ H Q=>Q none H
noncomputable def Xbc (t:TE):TO:=fun σ H Q=>t σ H fun x H1=>∃i,x=.int i∧Q (some i) H1
theorem intsAre_of {ns:List Int}:∀{us:List Value},Ys (ns.map V.int) us→IntsAre us ns:=by
 induction ns with
 | nil=>intro us r;rw [map_nil] at r;cases r;exact .nil
 | cons n ns ih =>
  intro us r
  rw [map_cons] at r
  cases r with
  | cons r1 r2 =>
   obtain ⟨t,e⟩:=r1
   subst e
   exact .cons n t (ih r2)
section
variable {X:Cx}{e:Expr}{te:TE}{lo hi:Option Expr}{tl th:TO}{pos p2:Pos}
theorem Xia:PO X none Zln:=by
 intro pins s σ H Q I h
 rw [evalPart_none]
 exact wpAny_pure ⟨none,H,I,.none,h⟩
theorem Xiq (h:PE X e te):PO X (some e) (Xbc te):=by
 intro pins s σ H Q I hw
 rw [evalPart_some]
 refine thn (h pins s σ H _ I hw) fun u s1 hz9=>?_
 obtain ⟨x,H1,I1,r1,q1⟩:=hz9
 obtain ⟨i,rfl,q⟩:=q1
 obtain ⟨t,rfl⟩:=r1
 exact ⟨some i,H1,I1,.int i t,q⟩
def SlR (X:Cx)(r:V→Option Int→Option Int→Hp→VK→Prop):Prop:=
 ∀(pins:List (Addr×Obj)) (s:Shared) (σ:St) (H:Hp) (x:V) (v vl vu:Value) (lo hi:Option Int) (sl:Addr) (Q:VK),Inv X pins σ H s→RelV x v→s.heap.IsSliceOf sl vl vu .none→IsPart vl lo→IsPart vu hi→r x lo hi H Q→
  ∃T id,typeLookup (.type T) "__getitem__"=pure (some (.builtin id))∧s.TypeIs v T∧wpAny (model X.prog X.w) X.A (getItem v (.ref sl)) (EP X pins σ Q) X.xe s
def tSl (r:V→Option Int→Option Int→Hp→VK→Prop)(te:TE)(tl th:TO):TE:=fun σ H Q=>te σ H fun x H1=>tl σ H1 fun l H2=>th σ H2 fun u H3=>r x l u H3 Q
theorem Xcs {r:V→Option Int→Option Int→Hp→VK→Prop}(hr:SlR X r)(he:PE X e te)(hl:PO X lo tl)(hu:PO X hi th):PE X (.Subscript e (.Slice lo hi none p2) pos) (tSl r te tl th):=by
 intro pins s σ H Q I h
 refine Subscript_ (thn (he pins s σ H _ I h) fun v s1 hz9=>?_)
 obtain ⟨x,H1,I1,r1,q1⟩:=hz9
 refine wpAny_Slice (thn (hl pins s1 σ H1 _ I1 q1) fun vl s2 ⟨l,H2,I2,pl,q2⟩=>thn (hu pins s2 σ H2 _ I2 q2) fun vu s3 ⟨u,H3,I3,pu,q3⟩=>?_)
 rw [evalPart_none]
 refine wpAny_pure ?_
 have I4:Inv X pins σ H3 {s3 with heap:=s3.heap.push {cls:=.type "slice",data:=.fields #[vl,vu,.none]}}:=I3.kept (t':=s3.toks) fun b ob q=>get?_push_of_some _ q
 obtain ⟨T,id,hT,ht,hg⟩:=hr pins {s3 with heap:=s3.heap.push {cls:=.type "slice",data:=.fields #[vl,vu,.none]}} σ H3 x v vl vu l u s3.heap.objs.size Q I4 r1 (Heap.IsSliceOf.new ..) pl pu q3
 show wpAny (model X.prog X.w) X.A (subscriptTail e (.Slice lo hi none p2) v (.ref s3.heap.objs.size)) (EP X pins σ Q) X.xe {s3 with heap:=s3.heap.push {cls:=.type "slice",data:=.fields #[vl,vu,.none]}}
 exact tail_any (ops:=[.ref s3.heap.objs.size,v]) ht hT hg (by with_unfolding_all rfl)
noncomputable def Xdh (xs:List V)(lo hi:Option Int):List V:=(xs.drop (HT.sIx xs.length 0 lo)).take (HT.sIx xs.length xs.length hi - HT.sIx xs.length 0 lo)
theorem Zpr (xs:List V)(lo hi:Option Int):(Xdh xs lo hi).length≤xs.length:=by
 unfold Xdh
 rw [length_take,length_drop]
 omega
end
noncomputable def ixN (n:Nat)(i:Int):Option Nat:=if 0≤i then (if i<n then some i.toNat else none) else if -(n:Int)≤i then some (i+n).toNat else none
noncomputable def atI {α:Type}(xs:List α)(i:Int):Option α:=(ixN xs.length i).bind fun j=>xs[j]?
theorem Zxn {n:Nat}{i:Int}{j:Nat}(h:ixN n i=some j):seqIndex? i n=some j∧j<n∧-(n:Int)≤i∧i<n:=by
 unfold ixN at h
 by_cases h0:0≤i
 ·rw [if_pos h0] at h
  by_cases h1:i<n
  ·rw [if_pos h1] at h
   have e:i.toNat=j:=Option.some.inj h
   exact ⟨by rw [seqIndex_of h0 h1,e],by omega,by omega,h1⟩
  ·rw [if_neg h1] at h;cases h
 ·rw [if_neg h0] at h
  by_cases h1:-(n:Int)≤i
  ·rw [if_pos h1] at h
   have e:(i+n).toNat=j:=Option.some.inj h
   exact ⟨by rw [seqIndex_neg (by omega) h1,e],by omega,h1,by omega⟩
  ·rw [if_neg h1] at h;cases h
theorem Zeb {α:Type}{xs:List α}{i:Int}{v:α}(h:atI xs i=some v):∃j,seqIndex? i xs.length=some j∧xs[j]?=some v∧j<xs.length∧-(xs.length:Int)≤i∧i<xs.length:=by
 unfold atI at h
 cases e:ixN xs.length i with
 | none=>rw [e] at h;cases h
 | some j =>
  rw [e] at h
  obtain ⟨h1,h2,h3,h4⟩:=Zxn e
  exact ⟨j,h1,h,h2,h3,h4⟩
def Zce (b:Expr):Prop:=∀o i,subscripted b false o i=operate [o,i] (getItem o i)
def IxR (X:Cx)(r:R2):Prop:=
 ∀(value slice:Expr) (pins:List (Addr×Obj)) (s:Shared) (σ:St) (H:Hp) (x y:V) (v u:Value) (Q:VK),Inv X pins σ H s→RelV x v→RelV y u→r x y H Q→
  subscripted slice false v u=operate [v,u] (getItem v u)→wpAny (model X.prog X.w) X.A (subscriptTail value slice v u) (EP X pins σ Q) X.xe s
def MtR (X:Cx)(id:String)(r:V→List V→Hp→VK→Prop):Prop:=
 ∀(pins:List (Addr×Obj)) (s:Shared) (σ:St) (H:Hp) (x:V) (xs:List V) (v:Value) (us:List Value) (Q:VK),Inv X pins σ H s→RelV x v→Ys xs us→r x xs H Q→
  wpAny (model X.prog X.w) X.A (call (.builtin id) (v::us)) (EP X pins σ Q) X.xe s
section
variable {X:Cx}{a b:Expr}{ta tb:TE}{pos:Pos}
theorem IxR.or {r r':R2}(h:IxR X r)(h':IxR X r'):IxR X (fun x y H Q=>r x y H Q∨r' x y H Q):=by
 intro value slice pins s σ H x y v u Q I rx ry q hs
 rcases q with q | q
 ·exact h value slice pins s σ H x y v u Q I rx ry q hs
 ·exact h' value slice pins s σ H x y v u Q I rx ry q hs
theorem pe_ix {r:R2}(hr:IxR X r)(ha:PE X a ta)(hb:PE X b tb)(hs:Zce b):PE X (.Subscript a b pos) (tOp r ta tb):=by
 intro pins s σ H Q I h
 exact Subscript_ (binT ha hb I h fun v u s2 x y H2 I2 rx ry q=>hr a b pins s2 σ H2 x y v u Q I2 rx ry q (hs _ _))
noncomputable def rIxL (K:Frag):R2:=fun x y H Q=>∃p xs i v,x=.ref p∧y=.int i∧SqL K H p xs∧atI xs i=some v∧Q v H
noncomputable def rIxT (K:Frag):R2:=fun x y H Q=>∃p xs i v,x=.ref p∧y=.int i∧SqT K H p xs∧atI xs i=some v∧Q v H
noncomputable def rIxS:R2:=fun x y H Q=>∃z i c,x=.str z∧y=.int i∧z.length≤sizeLine∧atI z.cps.toList i=some c∧Q (.str ⟨#[c]⟩) H
theorem Xlh:IxR X (rIxL X.K):=by
 intro value slice pins s σ H x y v u Q I rx ry h hs
 obtain ⟨p,xs,i,z,rfl,rfl,hq,he,q⟩:=h
 cases rx
 obtain ⟨t,rfl⟩:=ry
 obtain ⟨its,r,pl,hz⟩:=I.list hq
 obtain ⟨j,h1,h2,h3,h4,h5⟩:=Zeb he
 obtain ⟨w,ew,rw'⟩:=r.get h2
 have hl:=r.length
 have hn:=Zme
 have fin:EP X pins σ Q w s:=⟨z,H,I,rw',q⟩
 by_cases h0:0≤i
 ·have hj:i.toNat=j:=by
   rw [seqIndex_of h0 h5] at h1
   exact Option.some.inj h1
  exact item_listR pl.isList h0 (by omega) (by rw [hj];simpa using ew) fin hs
 ·have hj:(i+(its.toArray.size:Int)).toNat=j:=by
   rw [seqIndex_neg (by omega) h4] at h1
   rw [size_toArray,← hl]
   exact Option.some.inj h1
  exact subscriptTail_builtinR (x:=w) pl.isList.typeIs slot_list_getitem.lookup
   (wpAny_getItem_list_neg (Q:=fun r s'=>r=w∧EP X pins σ Q r s') pl.isList (by omega) (by rw [size_toArray]<;>omega) (by omega) (by rw [hj];simpa using ew) ⟨rfl,fin⟩) hs
theorem Xod:IxR X (rIxT X.K):=by
 intro value slice pins s σ H x y v u Q I rx ry h hs
 obtain ⟨p,xs,i,z,rfl,rfl,hq,he,q⟩:=h
 cases rx
 obtain ⟨t,rfl⟩:=ry
 obtain ⟨its,r,pl,hz⟩:=I.tuple hq
 obtain ⟨j,h1,h2,h3,h4,h5⟩:=Zeb he
 obtain ⟨w,ew,rw'⟩:=r.get h2
 have hl:=r.length
 have hn:=Zme
 have fin:EP X pins σ Q w s:=⟨z,H,I,rw',q⟩
 exact subscriptTail_builtinR (x:=w) pl.typeIs slot_tuple_getitem.lookup
  (getItem_tuple (j:=j) (Q:=fun r s'=>r=w∧EP X pins σ Q r s') pl (by omega) (by omega) (by rw [size_toArray,← hl];exact h1) (by simpa using ew) ⟨rfl,fin⟩) hs
theorem Xna:IxR X rIxS:=by
  intro value slice pins s σ H x y v u Q I rx ry h hs
  obtain ⟨z,i,c,rfl,rfl,hz,he,q⟩:=h
  obtain ⟨t,rfl⟩:=rx
  obtain ⟨t',rfl⟩:=ry
  obtain ⟨j,h1,h2,h3,h4,h5⟩:=Zeb he
  have hl:z.cps.toList.length=z.length:=by simp [Str.length]
  rw [hl] at h1 h4 h5
  have hn:=Zme
  exact tail_any (typeIs_str s z t) slot_str_getitem.lookup (getItem_str (c:=c) (by
    have e1:decide (i < -(2 ^ 63:Int))=false:=decide_eq_false (by omega)
    have e2:decide (i≥2 ^ 63)=false:=decide_eq_false (by omega)
    rw [e1,e2,Bool.or_false]) (by rw [h1];simpa using h2) ⟨.str ⟨#[c]⟩,H,I.tok _,⟨_,rfl⟩,q⟩) hs
noncomputable def rIx (K:Frag):R2:=fun x y H Q=>rIxL K x y H Q∨rIxT K x y H Q∨rIxS x y H Q
theorem Xpq:IxR X (rIx X.K):=Xlh.or (Xod.or Xna)
theorem Znk (lo hi:Option Int)(n:Nat):(sliceBounds lo hi none n).1=((HT.sIx n 0 lo:Nat):Int)∧(sliceBounds lo hi none n).2.1=((HT.sIx n n hi:Nat):Int)∧(sliceBounds lo hi none n).2.2=1:=by
 refine ⟨?_,?_,rfl⟩
 ·cases lo with
  | none=>simp [sliceBounds,HT.sIx]
  | some i =>
   simp only [sliceBounds,HT.sIx,Option.getD_none,show (1:Int) > 0 by decide,if_true]
   by_cases h:i<0
   ·simp only [h,if_true]<;>omega
   ·simp only [h,if_false]<;>omega
 ·cases hi with
  | none=>simp [sliceBounds,HT.sIx]
  | some i =>
   simp only [sliceBounds,HT.sIx,Option.getD_none,show (1:Int) > 0 by decide,if_true]
   by_cases h:i<0
   ·simp only [h,if_true]<;>omega
   ·simp only [h,if_false]<;>omega
theorem Zlj (its:List Value)(lo hi:Option Int):slicePick its.toArray lo hi none=((its.drop (HT.sIx its.length 0 lo)).take (HT.sIx its.length its.length hi - HT.sIx its.length 0 lo)).toArray:=by
 obtain ⟨h1,h2,h3⟩:=Znk lo hi its.toArray.size
 unfold slicePick
 rw [h1,h2,h3]
 simp only [sliceRange_one,pick_run,size_toArray]<;>rfl
def rSlL (K:Frag):V→Option Int→Option Int→Hp→VK→Prop:=fun x lo hi H Q=>∃a xs,x=.ref a∧SqL K H a xs∧∀p,H p=none→Q (.ref p) (upd H p (.lst (Xdh xs lo hi)))
theorem Xhr:SlR X (rSlL X.K):=by
 intro pins s σ H x v vl vu lo hi sl Q I rx hs pl pu h
 obtain ⟨a,xs,rfl,hx,q⟩:=h
 cases rx
 obtain ⟨its,r,ht,hz⟩:=I.list hx
 have hlen:=r.length
 refine ⟨"list",_,slot_list_getitem.lookup,ht.isList.typeIs,?_⟩
 refine wpAny_getItem_list_slice ht.isList hs pl pu .none (by simp) ?_ (by rw [size_toArray]<;>omega)
 rw [Zlj,← hlen]
 refine ⟨.ref s.heap.objs.size,_,I.laid (t':=s.toks) (o:=.lst (Xdh xs lo hi)) (fun b ob q=>get?_push_of_some _ q) (le_refl _) ?_,rfl,q _ (I.hok.fresh (le_refl _))⟩
 exact ⟨le_trans (Zpr xs lo hi) hz,_,0,(r.drop (HT.sIx xs.length 0 lo)).take (HT.sIx xs.length xs.length hi - HT.sIx xs.length 0 lo),get?_push_size _ rfl⟩
theorem Zmh:Zba X (.builtin "len") (fun xs H Q=>∃p ys,xs=[.ref p]∧(SqL X.K H p ys∨SqT X.K H p ys)∧Q (.int ys.length) H):=by
 intro pins s σ H xs us Q I r h
 obtain ⟨p,ys,rfl,hq,q⟩:=h
 obtain ⟨u,rfl,rx⟩:=vals1 r
 cases rx
 have hn:=Zme
 rcases hq with hq | hq
 ·obtain ⟨its,r',pl,hz⟩:=I.list hq
  have hlen:=r'.length
  exact Calls.call_len_list pl.isList (by simp only [size_toArray]<;>omega) ⟨.int ys.length,H,I.tok _,⟨s.toks+1,by rw [size_toArray,hlen]⟩,q⟩
 ·obtain ⟨its,r',pl,hz⟩:=I.tuple hq
  have hlen:=r'.length
  exact len_tuple pl (by simp only [size_toArray]<;>omega) ⟨.int ys.length,H,I.tok _,⟨s.toks+1,by rw [size_toArray,hlen]⟩,q⟩
theorem Zmd:Zba X (.builtin "len") (fun xs H Q=>∃z,xs=[.str z]∧z.length≤sizeLine∧Q (.int z.length) H):=by
 intro pins s σ H xs us Q I r h
 obtain ⟨z,rfl,hz,q⟩:=h
 obtain ⟨u,rfl,t,rfl⟩:=vals1 r
 have hn:=Zme
 exact len_str (by omega) ⟨.int z.length,H,I.tok _,⟨_,rfl⟩,q⟩
theorem Zba.or {f:Value}{r r':List V→Hp→VK→Prop}(h:Zba X f r)(h':Zba X f r'):Zba X f (fun xs H Q=>r xs H Q∨r' xs H Q):=by
 intro pins s σ H xs us Q I rs q
 rcases q with q | q
 ·exact h pins s σ H xs us Q I rs q
 ·exact h' pins s σ H xs us Q I rs q
theorem Znp:Zba X (.type "list") (fun xs H Q=>∃p ys,xs=[.ref p]∧(SqL X.K H p ys∨SqT X.K H p ys)∧∀l,H l=none→Q (.ref l) (upd H l (.lst ys))):=by
 intro pins s σ H xs us Q I r h
 obtain ⟨p,ys,rfl,hq,q⟩:=h
 obtain ⟨u,rfl,rx⟩:=vals1 r
 cases rx
 have fin:∀(its:List Value),Ys ys its→ys.length≤sizeLine→∀(h':Heap) (c':Nat),(∀b o',s.heap.get? b=some o'→h'.get? b=some o')→
   h'.get? s.heap.objs.size=some {cls:=.type "list",dict:=none,data:=.seq its.toArray c',slots:=#[]}→EP X pins σ Q (.ref s.heap.objs.size) {s with heap:=h'}:=fun its r' hz h' c' kp e =>
  ⟨.ref s.heap.objs.size,_,I.laid (t':=s.toks) kp (le_refl _) (show Zei X.prog X.w _ h' _ (.lst ys) from ⟨hz,its,c',r',e⟩),rfl,q _ (I.hok.fresh (le_refl _))⟩
 rcases hq with hq | hq
 ·obtain ⟨its,r',pl,hz⟩:=I.list hq
  have hlen:=r'.length
  obtain ⟨o,ho,hc,n,hd⟩:=pl.isList
  exact call_list_seq p (.inl rfl) ho hc hd (fun h' c' kp e=>fin its r' hz h' c' kp e) (by simp only [size_toArray]<;>omega)
 ·obtain ⟨its,r',pl,hz⟩:=I.tuple hq
  have hlen:=r'.length
  obtain ⟨o,ho,hc,n,hd⟩:=pl
  exact call_list_seq p (.inr rfl) ho hc hd (fun h' c' kp e=>fin its r' hz h' c' kp e) (by simp only [size_toArray]<;>omega)
def tyV (K:Frag)(T:String)(x:V)(H:Hp):Prop:=match x with
 | .str _=>T="str"
 | .int _=>T="int"
 | .ref p=>(T="list"∧∃xs,SqL K H p xs)∨(T="tuple"∧∃o,K.lookup p=some o∧o.cls=.type "tuple"∧o.dict=none)∨
   (T="dict"∧((∃kvs,H p=some (.dK kvs))∨∃kvs,H p=some (.dT kvs)))∨(T="set"∧∃S n,H p=some (.set S n))
 | _=>False
theorem Xnt {pins:List (Addr×Obj)}{σ:St}{H:Hp}{s:Shared}{T:String}{x:V}{v:Value}(I:Inv X pins σ H s)(r:RelV x v)(ty:tyV X.K T x H) :
  s.TypeIs v T∧∀a,v=.ref a→∃ob,s.heap.get? a=some ob∧ob.dict=none:=by
 cases x with
 | str z =>
  obtain ⟨t,rfl⟩:=r
  cases (show T="str" from ty)
  exact ⟨typeIs_str s z t,fun _ e=>nomatch e⟩
 | int i =>
  obtain ⟨t,rfl⟩:=r
  cases (show T="int" from ty)
  exact ⟨typeIs_int s i t,fun _ e=>nomatch e⟩
 | ref p =>
  cases r
  rcases ty with ⟨rfl,xs,hq⟩ | ⟨rfl,o,hk,hc,hd⟩ | ⟨rfl,hk⟩ | ⟨rfl,S,n,hk⟩
  ·obtain ⟨its,_,pl,_⟩:=I.list hq
   refine ⟨pl.isList.typeIs,fun a e=>?_⟩
   cases e
   obtain ⟨o,n,e,c,hd,_⟩:=pl
   exact ⟨o,e,hd⟩
  ·refine ⟨⟨o,I.kIn p o hk,hc⟩,fun a e=>?_⟩
   cases e
   exact ⟨o,I.kIn _ o hk,hd⟩
  ·have z:∃o,s.heap.get? p=some o∧o.ExactDict:=by
    rcases hk with ⟨kvs,hk⟩ | ⟨kvs,hk⟩
    ·obtain ⟨_,_,_,_,o,_,_,e,ex,_⟩:=I.hok p _ hk
     exact ⟨o,e,ex⟩
    ·obtain ⟨_,_,_,_,o,_,_,e,ex,_⟩:=I.hok p _ hk
     exact ⟨o,e,ex⟩
   obtain ⟨o,e,ex⟩:=z
   refine ⟨⟨o,e,ex.1⟩,fun a e2=>?_⟩
   cases e2
   exact ⟨o,e,ex.2.1⟩
  ·obtain ⟨o,_,_,_,e,ex,_⟩:=I.hok p _ hk
   refine ⟨⟨o,e,ex.1⟩,fun a e2=>?_⟩
   cases e2
   exact ⟨o,e,ex.2.1⟩
 | _=>exact False.elim ty
def tBM (K:Frag)(T:String)(r:V→List V→Hp→VK→Prop)(to:TE)(t:TA):TE:=fun σ H Q=>to σ H fun x H1=>tyV K T x H1∧t σ H1 fun xs H2=>r x xs H2 Q
variable {o e:Expr}{es:List Expr}{to:TE}{t:TA}{name:Str}{apos cpos:Pos}{T id:String}{r:V→List V→Hp→VK→Prop}
theorem pe_bm (pa:PlainAttrs T)(slot:Slot T name id)(hty:typeOf (.builtin id)=pure (.type "method_descriptor"))(hm:MtR X id r)(ho:PE X o to)(ha:PA X (e::es) t)
    (hbase:attributeBase o name X.env (eval o X.env)=eval o X.env:=by rfl)
    (hfew:((backTo cpos (starEach (e::es) X.env)).all (fun x=>!x.1)&&(backToKw cpos (keywordEach [] X.env)).all (fun x=>x.1.isSome)
      && decide ((e::es).length+([]:List Keyword).length+(if ([]:List Keyword).isEmpty then 0 else 1)<30))=true:=by rfl)
    (hline:(apos.endLine==cpos.line)=true:=by rfl) (hs:starEach (e::es) X.env=(false,eval e X.env)::starEach es X.env:=by rfl) (hplain:(backTo cpos (starEach es X.env)).any (·.1)=false:=by rfl) :
    PE X (.Call (.Attribute o name apos) (e::es) [] cpos) (tBM X.K T r to t):=by
  intro pins s σ H Q I h
  refine wpAny_Call_method_late hbase hfew hline rfl (thn (ho pins s σ H _ I h) fun v s1 hz9=>?_)
  obtain ⟨x,H1,I1,r1,ty,q1⟩:=hz9
  obtain ⟨h1,h2⟩:=Xnt I1 r1 ty
  refine ⟨T,id,pa,slot,hty,h1,h2,?_⟩
  have hA:=ha cpos pins s1 σ H1 _ I1 q1
  rw [hs] at hA ⊢
  refine Calls.callWith_builtin (by show (false||(backTo cpos (starEach es X.env)).any (·.1))=false;rw [hplain]<;>rfl) (Calls.evalArgs_plain ?_)
  exact thn hA fun us s2 ⟨vs,H2,I2,r2,q2⟩=>hm pins s2 σ H2 x vs v us Q I2 r1 r2 q2
end
def MtM (X:Cx)(id:String)(r:V→List V→Hp→VK→Prop):Prop:=
 ∀(pins:List (Addr×Obj)) (s:Shared) (σ:St) (H:Hp) (x:V) (xs:List V) (v:Value) (us:List Value) (Q:VK),Inv X pins σ H s→RelV x v→Ys xs us→r x xs H Q→
  wpAny (model X.prog X.w) X.A (call (.builtin id) (v::us)) (EP X pins σ Q) X.xe s
theorem Ys.one:∀{x:V} {us:List Value},Ys [x] us→∃u,us=[u]∧RelV x u
 | _,_,.cons r .nil=>⟨_,rfl,r⟩
theorem Ys.zero:∀{us:List Value},Ys [] us→us=[]
 | _,.nil=>rfl
theorem Ys.reverse {xs:List V}{us:List Value}(h:Ys xs us):Ys xs.reverse us.reverse:=by
 induction h with
 | nil=>exact .nil
 | cons r t ih=>rw [reverse_cons,reverse_cons];exact Ys.append ih (.cons r .nil)
theorem Ys.rep {xs:List V}{us:List Value}(h:Ys xs us):∀k:Nat,Ys (List.replicate k xs).flatten (List.replicate k us).flatten
 | 0=>.nil
 | k+1=>by
  rw [replicate_succ,replicate_succ,flatten_cons,flatten_cons]
  exact Ys.append h (Ys.rep h k)
theorem foldl_rep (its:List Value):∀(k:Nat) (acc:List Value),
  List.foldl (fun x1 x2=>x1++x2) acc.toArray (List.replicate k its.toArray)=(acc++(List.replicate k its).flatten).toArray
 | 0,acc=>by simp
 | k+1,acc=>by
  have e:acc.toArray++its.toArray=(acc++its).toArray:=by simp
  have e2:(acc++its)++(List.replicate k its).flatten=acc++(List.replicate (k+1) its).flatten:=by
   rw [replicate_succ,flatten_cons,append_assoc]
  rw [← e2,← foldl_rep its k (acc++its),← e,replicate_succ,foldl_cons]
section
variable {X:Cx}{pins:List (Addr×Obj)}{σ:St}{H:Hp}{s:Shared}{l b:Addr}{xs ys zs:List V}
theorem Inv.lset {its its':List Value}{n:Nat}{f:Array Value→Array Value}{t':Nat}(I:Inv X pins σ H s)(hH:H l=some (.lst xs))
  (e:s.heap.get? l=some {cls:=.type "list",data:=.seq its.toArray n}) (hf:f its.toArray=its'.toArray) (hv:Ys ys its') (hz:ys.length≤sizeLine) :
  Inv X pins σ (upd H l (.lst ys)) {s with heap:=s.heap.update l (Obj.mapSeq f),toks:=t'}:=by
 have q:=PySem.IsL.update e f
 rw [hf] at q
 refine I.write (x:=l) (e:=l) (by rw [hH];exact trivial) (.inl rfl) (fun b' u hb hu=>(get?_update_other s.heap (Obj.mapSeq f) (Ne.symm hb)).trans hu) ⟨_,q⟩ ?_
 exact ⟨hz,its',_,hv,q⟩
theorem Inv.lnew {its:List Value}{t':Nat}(I:Inv X pins σ H s)(hv:Ys ys its)(hz:ys.length≤sizeLine) :
  Inv X pins σ (upd H s.heap.objs.size (.lst ys)) {s with heap:=s.heap.push {cls:=.type "list",data:=.seq its.toArray},toks:=t'}:=
 I.laid (fun _ _ q=>get?_push_of_some _ q) (le_refl _) ⟨hz,its,0,hv,get?_push_size _ rfl⟩
theorem Inv.fresh (I:Inv X pins σ H s):H s.heap.objs.size=none:=I.hok.fresh (le_refl _)
theorem Inv.lstM (I:Inv X pins σ H s)(hH:H l=some (.lst xs)):xs.length≤sizeLine∧∃(its:List Value) (n:Nat),Ys xs its∧xs.length=its.length∧s.heap.get? l=some {cls:=.type "list",data:=.seq its.toArray n}:=by
 obtain ⟨z,its,n,r,e⟩:=I.hok l _ hH
 exact ⟨z,its,n,r,r.length,e⟩
theorem Zsp {n:Nat}(h:n≤sizeLine):Builtin.List.listTooLong n=false:=by
 unfold Builtin.List.listTooLong
 exact decide_eq_false (by omega)
end
section
variable {X:Cx}
def Ziy:V→List V→Hp→VK→Prop:=fun x vs H Q=>∃l xs y,x=.ref l∧vs=[y]∧H l=some (.lst xs)∧xs.length<sizeLine∧Q .non (upd H l (.lst (xs++[y])))
theorem Zlq:MtM X "list.append" Ziy:=by
 intro pins s σ H x vs v us Q I rx rv h
 obtain ⟨l,xs,y,rfl,rfl,hH,hz,q⟩:=h
 cases rx
 obtain ⟨u,rfl,ru⟩:=rv.one
 obtain ⟨z,its,n,r,hl,e⟩:=I.lstM hH
 refine call_meets F.slot_list_append ⟨_,e,rfl⟩ F.entry_list_append (F.args_list_append_2 _ _) (PySem.list_append l its.toArray n u (by rw [size_toArray];omega)) ⟨e,?_⟩
 refine ⟨.non,_,I.lset (its':=its++[u]) hH e (by simp) (r.append (.cons ru .nil)) ?_,rfl,q⟩
 rw [length_append,length_singleton]
 omega
def Zhq:V→List V→Hp→VK→Prop:=fun x vs H Q=>∃l b xs zs,x=.ref l∧vs=[.ref b]∧H l=some (.lst xs)∧H b=some (.lst zs)∧xs.length+zs.length≤sizeLine∧Q .non (upd H l (.lst (xs++zs)))
theorem Zut:MtM X "list.extend" Zhq:=by
 intro pins s σ H x vs v us Q I rx rv h
 obtain ⟨l,b,xs,zs,rfl,rfl,hH,hB,hz,q⟩:=h
 cases rx
 obtain ⟨u,rfl,ru⟩:=rv.one
 cases ru
 obtain ⟨z,its,n,r,hl,e⟩:=I.lstM hH
 obtain ⟨z2,its2,n2,r2,hl2,e2⟩:=I.lstM hB
 have hsz:its.toArray.size+its2.toArray.size≤sizeLine:=by rw [size_toArray,size_toArray];omega
 have hlong:¬(!its.toArray.isEmpty&&Builtin.List.listTooLong (its.toArray.size+its2.toArray.size))=true:=by
  rw [Zsp hsz,Bool.and_false]
  exact Bool.false_ne_true
 refine call_meets F.slot_list_extend ⟨_,e,rfl⟩ F.entry_list_extend (F.args_list_extend_2 _ _)
  (AutoSeq1.list_extend_list_list_0 l its.toArray n b its2.toArray n2 hlong (by rw [size_toArray];omega) (by omega)) ⟨e,e2,?_⟩
 refine ⟨.non,_,I.lset (its':=its++its2) hH e (by simp) (r.append r2) ?_,rfl,q⟩
 rw [length_append]
 omega
noncomputable def rCat:R2:=fun x y H Q=>∃l b xs zs,x=.ref l∧y=.ref b∧H l=some (.lst xs)∧H b=some (.lst zs)∧xs.length+zs.length≤sizeLine∧∀p,H p=none→Q (.ref p) (upd H p (.lst (xs++zs)))
theorem Xoa:OpR X (binaryOp .Add) rCat:=by
 intro pins s σ H x y v u Q I rx ry h
 obtain ⟨l,b,xs,zs,rfl,rfl,hH,hB,hz,q⟩:=h
 cases rx
 cases ry
 obtain ⟨z,its,n,r,hl,e⟩:=I.lstM hH
 obtain ⟨z2,its2,n2,r2,hl2,e2⟩:=I.lstM hB
 refine PySem.P.add_list e e2 ?_ (by rw [size_toArray,size_toArray];omega)
 have ea:its.toArray++its2.toArray=(its++its2).toArray:=by simp
 rw [ea]
 exact ⟨.ref _,_,I.lnew (t':=s.toks) (r.append r2) (by rw [length_append];omega),rfl,q _ I.fresh⟩
noncomputable def rRep:R2:=fun x y H Q=>∃l k xs,x=.ref l∧y=.int k∧H l=some (.lst xs)∧-(2 ^ 63)≤k∧k<2 ^ 63∧xs.length*k.toNat≤sizeLine∧
 ∀p,H p=none→Q (.ref p) (upd H p (.lst (List.replicate k.toNat xs).flatten))
theorem len_rep {α:Type}(xs:List α)(k:Nat):(List.replicate k xs).flatten.length=k*xs.length:=by
 induction k with
 | zero=>simp
 | succ k ih=>rw [replicate_succ,flatten_cons,length_append,ih,succ_mul,Nat.add_comm]
theorem Xnc:OpR X (binaryOp .Mult) rRep:=by
  intro pins s σ H x y v u Q I rx ry h
  obtain ⟨l,k,xs,rfl,rfl,hH,h1,h2,hz,q⟩:=h
  cases rx
  obtain ⟨t,rfl⟩:=ry
  obtain ⟨z,its,n,r,hl,e⟩:=I.lstM hH
  have hlen:its.toArray.size*k.toNat≤sizeLine:=by rw [size_toArray,← hl];exact hz
  have hcap:¬its.toArray.size*k.toNat > (2 ^ 63 - 1) / 8:=by
    have:(sizeLine:Nat)≤(2 ^ 63 - 1) / 8:=by decide
    omega
  have hfit:¬(!Builtin.List.listFitsIndex k)=true:=by
    rw [fitsIndex_both h1 h2]
    exact Bool.false_ne_true
  have hlong:¬Builtin.List.listTooLong (its.toArray.size*k.toNat)=true:=by
    rw [Zsp hlen]
    exact Bool.false_ne_true
  have hnew:List.foldl (fun x1 x2=>x1++x2) #[] (List.replicate (if its.toArray.isEmpty=true then 0 else k.toNat) its.toArray)=(List.replicate k.toNat its).flatten.toArray:=by
    have f0:∀m:Nat,List.foldl (fun x1 x2=>x1++x2) #[] (List.replicate m its.toArray)=(List.replicate m its).flatten.toArray:=fun m=>by
      have:=foldl_rep its m []
      rw [List.nil_append] at this
      exact this
    rw [f0]
    cases its with
    | nil=>simp
    | cons a r'=>rw [if_neg (by simp)]
  refine wpAny_binaryOp_repeat_ref (T:="list") (U:="int") (by decide) ⟨_,e,rfl⟩ (fun s'=>typeIs_int s' k t) noFill_list_mul F.fills_int_mul F.slot_int_rmul repeat_list F.slot_int_index.lookup
    (call_meets F.slot_int_rmul (typeIs_int s k t) F.entry_int_rmul (F.args_int_rmul_2 _ _) (int___rmul___int_list k t l its.toArray n)
      ⟨e,rfl,⟨_,e,rfl⟩,call_meets F.slot_list_mul ⟨_,e,rfl⟩ F.entry_list_mul (F.args_list_mul_2 _ _) (AutoListH.list___mul___list_int_3 l its.toArray n k t hfit hcap hlong) ⟨e,?_⟩⟩)
  rw [hnew]
  exact ⟨.ref _,_,I.lnew (t':=s.toks) (r.rep k.toNat) (by rw [len_rep,Nat.mul_comm];exact hz),rfl,q _ I.fresh⟩
variable {prog:Program}{w:World}{A:Around}{E:Value→Shared→Prop}{s:Shared}
set_option maxRecDepth 100000 in
end
end L2
namespace Att
open PySem PySem.W PySem.Calls PyProof.Rows
theorem Zij {P:Params}{h:Heap}:∀(ns:List Int) (vs:List Value),WellAll P h vs (ns.map WData.int)→IntsAre vs ns:=by
 intro ns
 induction ns with
 | nil =>
  intro vs w
  rw [map_nil] at w
  cases w
  exact .nil
 | cons n ns ih =>
  intro vs w
  rw [map_cons] at w
  cases w with
  | cons a b =>
   cases a
   exact .cons _ _ (ih _ b)
theorem Zxs {l:OpenLaw}{n:Nat}(hn:l.most=some n){P:Params}{h:Heap}{args:List WData}{vals:List Value}
  (hpre:l.row.toRowW.claim.pre args=true) (hwl:WellAll P h vals args) :
  ∃a vs ns,vals=[Value.ref a]∧args=[WData.list (ns.map WData.int)]∧h.get? a=some {cls:=.type "list",data:=.seq vs.toArray}∧IntsAre vs ns∧ns.length≤n:=by
 have hsh:WShape.hasAll [] args [.list .int]=true:=(pre_splitW hpre).1
 have hc:l.pre.holds [] {args:=args}=true:=(pre_splitW hpre).2
 obtain ⟨d,r,rfl,h1,h2⟩:=hasAllW_cons hsh
 obtain rfl:=hasAllW_nil h2
 obtain ⟨xs,rfl,h3⟩:=hasW_list h1
 obtain ⟨ns,rfl⟩:=items_int h3
 have hlen:ns.length≤n:=by
  unfold OpenLaw.pre at hc
  have h4:(WTm.not (.lt (.lit (.int (n:Int))) (.len (.arg 0)))).holds [] {args:=[.list (ns.map .int)]}=true:=by
   have h4:=(holds_andW hc).1
   rw [hn] at h4
   exact h4
  have h5:=condW_of h4 (w_not (w_lt w_lit (w_len_list (w_arg rfl))))
  rw [length_map] at h5
  refine Nat.le_of_not_lt fun q=>?_
  have q':(n:Int)<((ns.length:Nat):Int):=by omega
  first
   | (rw [decide_eq_true q'] at h5;exact absurd h5 (by decide))
   | (simp at h5;omega)
 cases hwl with
 | cons w1 w2 =>
  cases w2
  cases w1 with
  | list ho hall=>exact ⟨_,_,ns,rfl,rfl,ho,Zij ns _ hall,hlen⟩
theorem Zwb (l:OpenLaw)(args:List WData):l.row.toRowW.claim.post args (.bool true) args=true:=
 postW_of (r:=l.row.toRowW) (X:=(true==true))
  (show WShape.has [] (.bool true) .bool=true by first | rfl | decide | simp [WShape.has,WShape.arms,WShape.armsAll])
  (show (WTm.eq .res (.lit (.bool true))).value [] {args:=args,res:=some (.bool true),after:=args}=some (.bool (true==true)) from w_eq_bool (w_res rfl) w_lit) rfl
theorem attach_call {l:OpenLaw}{n:Nat}{q:Program}{loose:List Str}{XP:(Str→Option Value)→Heap→Prop}{YP:World→Heap→Prop}{d:DefRec}
    (hn:l.most=some n) (hdf:d.params.defaults=[])
    (call:∀(w:World) (s₀ s₁:Shared) (mg mb:Str→Option Value) (fa:Addr) (o:Obj) (pm cd doc:Value) (a:Addr) (vs:List Value) (ns:List Int),
      Ground q loose [] XP w s₀ mg mb s₁.heap→YP w s₁.heap→
      s₁.heap.get? fa=some o→o.data=.func (docDef d.name d.params d.body d.scope pm cd doc)→s₁.heap.CodeRec cd d.name→mg d.name=some (.ref fa)→
      s₁.heap.get? a=some {cls:=.type "list",data:=.seq vs.toArray}→IntsAre vs ns→ns.length≤n→s₁.gens=#[]→
      codeAny (model l.prog w) callerA (.call (.ref fa) ⟨[.ref a],[]⟩) (fun r s'=>r=.ok (.ret (.bool true))∧OldK s₁.heap s'.heap∧s'.os=s₁.os∧AllBare s'.gens) s₁) :
    WalkO q loose XP YP l.row.toRowW d [] (fun f vs=>PySem.call f vs):=by
  intro w s₀ s₁ mg mb G Y fa o pm cd doc dV kV ho hd hcd hD hmg hg args vals as hpre hlay hrd hwl hlo
  obtain rfl:dV=.none:=Dflts.none hD hdf
  obtain rfl:kV=.none:=Dflts.noKw hD
  obtain ⟨a,vs,ns,rfl,rfl,hobj,hints,hlen⟩:=Zxs hn hpre hwl
  refine enter_call (codeAny_mono (call w s₀ s₁ mg mb fa o pm cd doc a vs ns G Y ho (fd_plain hd) hcd hmg hobj hints hlen hg) fun r s' hq=>?_)
  obtain ⟨rfl,h2,h3,h4⟩:=hq
  exact ⟨.inl ⟨.bool true,.bool true,[],rfl,fun _=>rfl,.bool true,Zwb l _,fun _=>⟨List.Pairwise.nil,fun _ hm=>(nomatch hm)⟩⟩,h2,h3,h4⟩
section
variable {prog:Program}{w:World}{A:Around}{E:Value→Shared→Prop}{s:Shared}{K:Frag}
end
end Att
namespace L2
open PySem PySem.Spec PyProof.Rows
theorem Ziw:∀{vs:List Value} {ns:List Int},IntsAre vs ns→Ys (ns.map V.int) vs
 | _,_,.nil=>.nil
 | _,_,.cons n t h=>.cons ⟨t,rfl⟩ (Ziw h)
def Only (H:Hp):Prop:=∀b,H b=none∨∃o xs,H b=some (.frz o (.lst xs))
theorem Xev {P:Program}{w:World}{K:Frag}{mg mb:Str→Option Value}{CX:CXT}{k:Nat}{fa a:Addr}{fd:FuncData}{x:Str}{sp:Sp}{s₁:Shared}{vs:List Value}{ns:List Int}
    (KX:K.In s₁.heap) (hns:s₁.heap.Ns mainGlobals mg) (hb:s₁.heap.Ns builtinsNs mb) (hbb:∀x:Str,x≠"__name__"→mb x=bootBuiltins x) (hlim:s₁.heap.NoLimit) (hg:s₁.gens=#[])
    (ha:s₁.heap.get? a=some {cls:=.type "list",data:=.seq vs.toArray}) (hi:IntsAre vs ns) (hl:ns.length≤sizeLine) (hr:Zje k callerA)
    (F:∀base:Heap,K.In base→base.Ns mainGlobals mg→Zan P w K mg base CX k fa fd [x] sp) (hbind:∀(s:Shared) (u:Value),BindsTo s fd ⟨[u],[]⟩ [(x,u)])
    (hsp:∀H:Hp,Only H→SqL K H a (ns.map V.int)→sp [.ref a] H (fun v _=>v=.bl true) fun _ _ _=>False)
    (hCX:∀H e s',CX [] H s₁ (fun _ _ _=>False) e s'→False) :
    codeAny (model P w) callerA (.call (.ref fa) ⟨[.ref a],[]⟩) (fun r s'=>r=.ok (.ret (.bool true))∧OldK s₁.heap s'.heap∧s'.os=s₁.os∧AllBare s'.gens) s₁:=by
  have rv:=Ziw hi
  have lenV:=hi.length
  have core:∀H:Hp,Only H→SqL K H a (ns.map V.int)→HOk P w H s₁.heap→(∀b,H b≠none→b=a)→(H a≠none→K.lookup a=none)→
      codeAny (model P w) callerA (.call (.ref fa) ⟨[.ref a],[]⟩) (fun r s'=>r=.ok (.ret (.bool true))∧OldK s₁.heap s'.heap∧s'.os=s₁.os∧AllBare s'.gens) s₁:=by
    intro H hO hS hok hA hK
    have base_of:∀{b:Addr} {o:Obj},s₁.heap.get? b=some o→H b=none→(Xam s₁.heap H).get? b=some o:=fun e n=>Xbs e n
    have noA:∀{b:Addr} {o:Obj} {es:Array DictEntry} {ep:Nat},s₁.heap.get? b=some o→o.data=.dict es ep→H b=none:=fun {b o es ep} e d=>by
      cases q:H b with
      | none=>rfl
      | some u =>
        have e':b=a:=hA b (by rw [q];simp)
        subst e'
        rw [ha] at e;cases e
        have d':Data.seq vs.toArray _=Data.dict es ep:=d
        cases d'
    have nsK:∀{b:Addr} {m:Str→Option Value},s₁.heap.Ns b m→(Xam s₁.heap H).Ns b m:=fun {b m} ⟨o,es,ep,e,d,r⟩=>⟨o,es,ep,base_of e (noA e d),d,r⟩
    have hKb:K.In (Xam s₁.heap H):=fun b o e=>base_of (KX b o e) (by
      cases q:H b with
      | none=>rfl
      | some u =>
        have e':b=a:=hA b (by rw [q];simp)
        subst e'
        rw [hK (by rw [q];simp)] at e;cases e)
    have hM:Mod K mg (Xam s₁.heap H):=⟨hKb,nsK hns,⟨mb,nsK hb,hbb⟩,let ⟨mc,h1,h2⟩:=hlim;⟨mc,nsK h1,h2⟩⟩
    have e0:Xpt P w K mg (Xam s₁.heap H) callerA [] s₁ H:=⟨rfl,hM,fun b o e=>Xkl e,le_of_eq (Zwh _ _),trivial,fun b hb=>absurd (show b∈([]:List Addr) from hb) (by simp),hok,.of_eq hg⟩
    refine codeAny_mono ((F _ hKb (nsK hns)).run callerA [] s₁ H ⟨[.ref a],[]⟩ [.ref a] [.ref a] _ _ hr e0 (hbind s₁ (.ref a)) (.cons rfl .nil) (hsp H hO hS)) fun r s' h=>?_
    cases r with
    | error e=>exact (hCX H e s' h).elim
    | ok fl =>
      cases fl with
      | next=>exact False.elim h
      | brk=>exact False.elim h
      | cont=>exact False.elim h
      | ret u =>
        obtain ⟨v,H',os,bare,un,hok',r',q⟩:=h
        have q':v=.bl true:=q
        subst q'
        obtain rfl:u=Value.bool true:=r'
        refine ⟨rfl,OldK.of_keep fun b o e=>?_,os,bare⟩
        cases q:H b with
        | none=>exact un.keep b o e q (by intro z;exact absurd (show b∈([]:List Addr) from z) (by simp)) (by simp)
        | some u =>
          rcases hO b with z | ⟨ob,xs,z⟩
          · rw [q] at z;cases z
          · have z2:=un.frzs b ob _ z
            obtain ⟨e1,_⟩:=hok b _ z
            obtain ⟨e2,_⟩:=hok' b _ z2
            rw [e] at e1;cases e1
            exact e2
  cases hk:K.lookup a with
  | some o =>
    have e:=KX a o hk
    rw [ha] at e
    cases e
    refine core (fun _=>none) (fun _=>.inl rfl) (.inr ⟨_,vs.toArray,_,hk,rfl,rfl,rfl,by rw [size_toArray,lenV];exact hl,by simpa using rv⟩) (fun b u z=>by have z':(none:Option HO)=some u:=z;cases z') (fun b z=>absurd rfl z) fun z=>absurd rfl z
  | none =>
    refine core (fun b=>if b=a then some (.frz {cls:=.type "list",data:=.seq vs.toArray} (.lst (ns.map V.int))) else none) (fun b=>?_) (.inl (.inr ⟨{cls:=.type "list",data:=.seq vs.toArray},if_pos rfl⟩)) (fun b u z=>?_) (fun b z=>?_) fun _=>hk
    · by_cases hb:b=a
      · exact .inr ⟨_,_,if_pos hb⟩
      · exact .inl (if_neg hb)
    · by_cases hb:b=a
      · have z':=(if_pos hb).symm.trans z
        cases z'
        subst hb
        exact ⟨ha,by rw [length_map];exact hl,vs,_,rv,ha⟩
      · have z':=(if_neg hb).symm.trans z
        cases z'
    · by_cases hb:b=a
      · exact hb
      · exact absurd (if_neg hb) z
noncomputable abbrev KOf {K:Frag}{h:Heap}(_:K.In h):Frag:=K
theorem Xih {l:PySem.W.OpenLaw}{n k:Nat}{q:Program}{loose:List Str}{XP:(Str→Option Value)→Heap→Prop}{YP:World→Heap→Prop}{d:DefRec}{K:Params→Frag}{CX:World→CXT}{sp:World→Sp}{x:Str}
    (hn:l.most=some n) (hn2:n≤sizeLine) (hdf:d.params.defaults=[]) (hr:Zje k callerA)
    (hY:∀(w:World) (h:Heap),YP w h→(K w.params).In h)
    (F:∀(w:World) (mg:Str→Option Value) (fa:Addr) (h:Heap),(K w.params).In h→h.Ns mainGlobals mg→mg d.name=some (.ref fa)→
      ∃fd:FuncData,(∀(s:Shared) (u:Value),BindsTo s fd ⟨[u],[]⟩ [(x,u)])∧
        ∀base:Heap,(K w.params).In base→base.Ns mainGlobals mg→Zan l.prog w (K w.params) mg base (CX w) k fa fd [x] (sp w))
    (hsp:∀(w:World) (H:Hp) (a:Addr) (ns:List Int),ns.length≤n→Only H→SqL (K w.params) H a (ns.map V.int)→sp w [.ref a] H (fun v _=>v=.bl true) fun _ _ _=>False)
    (hCX:∀(w:World) (H:Hp) (s:Shared) (e:Value) (s':Shared),CX w [] H s (fun _ _ _=>False) e s'→False) :
    PySem.W.WalkO q loose XP YP l.row.toRowW d [] (fun f vs=>PySem.call f vs):=by
  refine Att.attach_call hn hdf fun w s₀ s₁ mg mb fa o pm cd doc a vs ns G Y ho hd hcd hmg hobj hints hlen hg=>?_
  have KX:=hY w _ Y
  obtain ⟨fd,hb,hF⟩:=F w mg fa _ KX G.T.g hmg
  exact Xev KX G.T.g G.T.b G.T.builtins G.T.nolimit hg hobj hints (le_trans hlen hn2) hr hF hb (fun H hO hS=>hsp w H a ns hlen hO hS) fun H e s'=>hCX w H s₁ e s'
noncomputable def Zcz (s:Stmt):Arguments:=match s with
 | .FunctionDef _ a _ _ _ _ _ _ _ _=>a
 | _=>{posonlyargs:=[],args:=[],vararg:=none,kwonlyargs:=[],kw_defaults:=[],kwarg:=none,defaults:=[]}
noncomputable def Zbc (s:Stmt):List Stmt:=match s with
 | .FunctionDef _ _ b _ _ _ _ _ _ _=>b
 | _=>[]
noncomputable def Zm (s:Stmt):Scope:=match s with
 | .FunctionDef _ _ _ _ _ _ sc _ _ _=>sc
 | _=>{kind:=.function,names:=[],isGenerator:=false,isCoroutine:=false}
noncomputable abbrev CX0:CXT:=fun _ _ _ _ _ _=>False
noncomputable abbrev E0:XK:=fun _ _ _=>False
theorem Xk {X:Cx}:Zjt CX0 X E0:=fun _ _ _ _ _ _ _ h=>h.elim
structure Fun (K:Frag)(x qual:Str)(st:Stmt)(f:Addr)(fd:FuncData):Prop where
 ex:∃(oc:Value) (od:Option Addr) (kV doc pm:Value) (an:Option Addr) (cdv ct:Value) (osl:Array (Option Value)),
  fd=fnOf x qual (Zcz st) (Zbc st) (Zm st) .none kV doc pm an cdv ct∧K.lookup f=some ⟨oc,od,.func fd,osl⟩∧codeIn K cdv qual=true
 kp:keepIn K (.ref f)=true
section
variable {P:Program}{w:World}{K:Frag}{mg:Str→Option Value}{base:Heap}
theorem Fun.ok {x qual:Str}{st:Stmt}{f:Addr}{fd:FuncData}{N ps:List Str}{k:Nat}{sp:Sp}(F:Fun K x qual st f fd)(S:Xc N ps (Zm st))(len:∀vs H Q E,sp vs H Q E→vs.length=ps.length)
    (hbody:∀(cdv:Value) (A:Around) (outer:List Env) (s:Shared) (H:Hp) (vs:List V) (Q:VK) (E:XK),Zje k (A.deeper (envOfC qual (Zm st) s.heap.objs.size f cdv))→sp vs H Q E→
      ∃t,PSs (Xfu CX0 P w K mg base N qual (Zm st) f cdv A outer s H E).nox (Zbc st) t∧t {nx:=fun _ H'=>Q .non H',rt:=Q} (start N vs) H):Zan P w K mg base CX0 (k+1) f fd ps sp:=by
  obtain ⟨oc,od,kV,doc,pm,an,cdv,ct,osl,rfl,lk,hcd⟩:=F.ex
  refine fn_of lk hcd S len fun A outer s H vs Q E hr hsp=>?_
  obtain ⟨t,h,q⟩:=hbody cdv A outer s H vs Q E hr hsp
  exact ⟨t,h.nox,q⟩
theorem Fun.binds {x qual:Str}{st:Stmt}{f:Addr}{fd:FuncData}{ps:List Str}(F:Fun K x qual st f fd)
  (h:∀(kV doc pm:Value) (an:Option Addr) (cdv ct:Value) (us:List Value),us.length=ps.length→bindArgs (fnOf x qual (Zcz st) (Zbc st) (Zm st) .none kV doc pm an cdv ct) ⟨us,[]⟩=pure (ps.zip us)):Binds K fd ps []:=by
 obtain ⟨oc,od,kV,doc,pm,an,cdv,ct,osl,rfl,lk,hcd⟩:=F.ex
 exact .all (h kV doc pm an cdv ct)
theorem Xy {x qual:Str}{st:Stmt}{f:Addr}{oc:Value}{od an:Option Addr}{osl:Array (Option Value)}{kV doc pm cdv ct:Value}(l:K.lookup f=some ⟨oc,od,.func (fnOf x qual (Zcz st) (Zbc st) (Zm st) .none kV doc pm an cdv ct),osl⟩)
  (c:codeIn K cdv qual=true) (k:keepIn K (.ref f)=true):Fun K x qual st f (fnOf x qual (Zcz st) (Zbc st) (Zm st) .none kV doc pm an cdv ct):=⟨⟨oc,od,kV,doc,pm,an,cdv,ct,osl,rfl,l,c⟩,k⟩
variable {X:Cx}
theorem pv (i:Nat){x:Str}{pos:Pos}(hN:X.N[i]?=some x:=by rfl)(hv:autoParam (Vis X.env.scope x) aT3._auto_1)(hd:(x==("__debug__":Str))=false:=by decide)
  (hcd:(x==("__classdict__":Str))=false:=by decide):PE X (.Name x pos) (Zue i):=Xpp hN hv hd hcd
end
def Yd (H H':Hp):Prop:=∀b o,H b=some o→H' b=some o
theorem Yd.refl (H:Hp):Yd H H:=fun _ _ h=>h
theorem Yd.trans {H H1 H2:Hp}(a:Yd H H1)(b:Yd H1 H2):Yd H H2:=fun c o h=>b c o (a c o h)
theorem Yd.free {H H':Hp}(e:Yd H H'){l:Addr}(h:H' l=Option.none):H l=Option.none:=by
 cases q:H l with
 | none=>rfl
 | some o =>
  rw [e l o q] at h
  cases h
theorem Zy {a b:Expr}{op:Operator}{pos:Pos}{es:List Expr}{env:Env}:starEach (.BinOp a op b pos::es) env=(false,eval (.BinOp a op b pos) env)::starEach es env:=rfl
theorem Zf {c:Const}{k:Nat}{pos:Pos}{es:List Expr}{env:Env}:starEach (.Constant c k pos::es) env=(false,eval (.Constant c k pos) env)::starEach es env:=rfl
theorem Za {x:Str}{pos:Pos}{es:List Expr}{env:Env}:starEach (.Name x pos::es) env=(false,eval (.Name x pos) env)::starEach es env:=rfl
theorem Xq {a b:Expr}{pos:Pos}{es:List Expr}{env:Env}:starEach (.Subscript a b pos::es) env=(false,eval (.Subscript a b pos) env)::starEach es env:=rfl
theorem Xa {a:Expr}{as:List Expr}{ks:List Keyword}{pos:Pos}{es:List Expr}{env:Env}:starEach (.Call a as ks pos::es) env=(false,eval (.Call a as ks pos) env)::starEach es env:=rfl
theorem Zcr {as:List Expr}{pos:Pos}{es:List Expr}{env:Env}:starEach (.List as pos::es) env=(false,eval (.List as pos) env)::starEach es env:=rfl
theorem Zbl {as:List Expr}{k:Nat}{pos:Pos}{es:List Expr}{env:Env}:starEach (.Tuple as k pos::es) env=(false,eval (.Tuple as k pos) env)::starEach es env:=rfl
theorem Zcq {a:Expr}{gs:List Comprehension}{sc:Scope}{pos:Pos}{es:List Expr}{env:Env}:starEach (.ListComp a gs sc pos::es) env=(false,eval (.ListComp a gs sc pos) env)::starEach es env:=rfl
theorem Jh {a b:Expr}{pos:Pos}:Zce (.Subscript a b pos):=fun _ _=>rfl
theorem Xu {x:Str}{pos:Pos}:Zce (.Name x pos):=fun _ _=>rfl
theorem Zj {c:Const}{k:Nat}{pos:Pos}:Zce (.Constant c k pos):=fun _ _=>rfl
theorem plain_bin {a b:Expr}{op:Operator}{pos:Pos}:Zce (.BinOp a op b pos):=fun _ _=>rfl
theorem Zab {a:Expr}{op:UnaryOp}{pos:Pos}:Zce (.UnaryOp op a pos):=fun _ _=>rfl
theorem Zjw {a:Expr}{es:List Expr}{ks:List Keyword}{pos:Pos}:Zce (.Call a es ks pos):=fun _ _=>rfl
noncomputable def Xdq:R2:=fun x y H Q=>rI0 (fun i j=>.int (i+j)) x y H Q∨(∃i j,x=.str i∧y=.str j∧i.length+j.length≤sizeLine∧Q (.str (i++j)) H)∨rCat x y H Q
noncomputable def Xec:R2:=fun x y H Q=>rI Xmm (fun i j=>.int (i*j)) x y H Q∨rRep x y H Q
def Xqb (_ j:Int):Prop:=0<j∧j<2 ^ 200
section
variable {X:Cx}
theorem Zw:OpR X (binaryOp .Add) Xdq:=Xps.or (Zto.or Xoa)
theorem Ym:OpR X (binaryOp .Mult) Xec:=Xrl.or Xnc
theorem log2_small {j:Int}(h1:0<j)(h2:j<2 ^ 200):j.natAbs.log2<9000:=by
 have h3:j.natAbs<2 ^ 200:=by omega
 exact lt_trans ((Nat.log2_lt (by omega)).mpr h3) (by decide)
theorem Zrr:OpR X (binaryOp .FloorDiv) (rI Xqb fun i j=>.int (i / j)):=opI fun i j _ _ _ _ _ hc q=>by
 have h1:(0:Int)<j:=hc.1
 have h2:j<2 ^ 200:=hc.2
 exact floordiv_int (by omega) (by rw [Int.fdiv_eq_ediv_of_nonneg i (by omega)];exact q) (.inl (PyProof.noPylong_of_log2 (log2_small h1 h2)))
end
mutual
inductive Dn (K:Frag)(H:Hp):V→PyData→Prop
 | non:Dn K H .non .none
 | bl (b:Bool):Dn K H (.bl b) (.bool b)
 | int (i:Int):Dn K H (.int i) (.int i)
 | str (x:Str):Dn K H (.str x) (.str x)
 | lst {a:Addr} {xs:List V} {ds:List PyData}:SqL K H a xs→DnA K H xs ds→Dn K H (.ref a) (.list ds)
 | tup {a:Addr} {xs:List V} {ds:List PyData}:SqT K H a xs→DnA K H xs ds→Dn K H (.ref a) (.tuple ds)
inductive DnA (K:Frag)(H:Hp):List V→List PyData→Prop
 | nil:DnA K H [] []
 | cons {x:V} {d:PyData} {xs:List V} {ds:List PyData}:Dn K H x d→DnA K H xs ds→DnA K H (x::xs) (d::ds)
end
section
variable {X:Cx}{pins:List (Addr×Obj)}{σ:St}{H:Hp}{s:Shared}
mutual
theorem Dn.reads (I:Inv X pins σ H s):∀{x:V} {d:PyData} {u:Value},Dn X.K H x d→RelV x u→∃as,Reads s.heap u d as
 | _,_,_,.non,r=>by cases (show _=Value.none from r);exact ⟨_,.none⟩
 | _,_,_,.bl b,r=>by cases (show _=Value.bool b from r);exact ⟨_,.bool b⟩
 | _,_,_,.int i,r=>by obtain ⟨t,q⟩:=(show ∃t,_=Value.int i t from r);cases q;exact ⟨_,.int i t⟩
 | _,_,_,.str x,r=>by obtain ⟨t,q⟩:=(show ∃t,_=Value.str x t from r);cases q;exact ⟨_,.str x t⟩
 | _,_,_,.lst (a:=a) h ra,r=>by
  cases (show _=Value.ref a from r)
  obtain ⟨its,rv,pl,_⟩:=I.list h
  obtain ⟨as,q⟩:=DnA.reads I ra rv
  obtain ⟨o,ho,hc,n,hd⟩:=pl.isList
  exact ⟨_,.list ho hc hd q⟩
 | _,_,_,.tup (a:=a) h ra,r=>by
  cases (show _=Value.ref a from r)
  obtain ⟨its,rv,pl,_⟩:=I.tuple h
  obtain ⟨as,q⟩:=DnA.reads I ra rv
  obtain ⟨o,ho,hc,n,hd⟩:=pl
  exact ⟨_,.tuple ho hc hd q⟩
theorem DnA.reads (I:Inv X pins σ H s):∀{xs:List V} {ds:List PyData} {us:List Value},DnA X.K H xs ds→Ys xs us→∃as,ReadsAll s.heap us ds as
 | _,_,_,.nil,.nil=>⟨_,.nil⟩
 | _,_,_,.cons h ra,.cons r rs=>by
  obtain ⟨as,q⟩:=Dn.reads I h r
  obtain ⟨bs,q'⟩:=DnA.reads I ra rs
  exact ⟨_,.cons q q'⟩
end
end
noncomputable def rEqD (K:Frag):R2:=fun x y H Q=>∃dx dy,Dn K H x dx∧Dn K H y dy∧SeqAt.shaped dx=true∧SeqAt.shaped dy=true∧Q (.bl (PyData.eqv dx dy)) H
noncomputable def rNeD (K:Frag):R2:=fun x y H Q=>∃dx dy,Dn K H x dx∧Dn K H y dy∧SeqAt.shaped dx=true∧SeqAt.shaped dy=true∧Q (.bl (!PyData.eqv dx dy)) H
noncomputable def Znl (K:Frag):R2:=fun x y H Q=>rEq x y H Q∨rEqD K x y H Q
noncomputable def Xmo (K:Frag):R2:=fun x y H Q=>rNe x y H Q∨rNeD K x y H Q
section
variable {X:Cx}
theorem Xop (hu:X.A.units+64<cLine):OpR X (compareOp .Eq) (rEqD X.K):=by
 intro pins s σ H x y v u Q I rx ry h
 obtain ⟨dx,dy,h1,h2,s1,s2,q⟩:=h
 obtain ⟨as,ra⟩:=h1.reads I rx
 obtain ⟨bs,rb⟩:=h2.reads I ry
 exact eq_dataH ra rb s1 s2 hu ⟨.bl _,H,I,rfl,q⟩
theorem Xqw (hu:X.A.units+64<cLine):OpR X (compareOp .NotEq) (rNeD X.K):=by
 intro pins s σ H x y v u Q I rx ry h
 obtain ⟨dx,dy,h1,h2,s1,s2,q⟩:=h
 obtain ⟨as,ra⟩:=h1.reads I rx
 obtain ⟨bs,rb⟩:=h2.reads I ry
 exact ne_dataH ra rb s1 s2 hu ⟨.bl _,H,I,rfl,q⟩
theorem Zaw (hu:X.A.units+64<cLine):OpR X (compareOp .Eq) (Znl X.K):=op_eq.or (Xop hu)
theorem Zqz (hu:X.A.units+64<cLine):OpR X (compareOp .NotEq) (Xmo X.K):=op_ne.or (Xqw hu)
end
def Zbi (K:Frag):List V→Hp→VK→Prop:=fun xs H Q=>(∃p ys,xs=[.ref p]∧(SqL K H p ys∨SqT K H p ys)∧Q (.int ys.length) H)∨∃z,xs=[.str z]∧z.length≤sizeLine∧Q (.int z.length) H
def Xgm (K:Frag):List V→Hp→VK→Prop:=fun xs H Q=>∃(p:Addr) (ns:List Int),xs=[.ref p]∧SqL K H p (ns.map V.int)∧Q (.int ns.sum) H
noncomputable def Zok (lo:Int)(n:Nat):List V:=(List.range n).map fun (k:Nat)=>V.int (lo+(k:Int))
def Zwy (K:Frag):List V→Hp→VK→Prop:=fun xs H Q=>(∃p ys,xs=[.ref p]∧(SqL K H p ys∨SqT K H p ys)∧∀l,H l=none→Q (.ref l) (upd H l (.lst ys)))∨
 ∃p i j,xs=[.ref p]∧H p=some (.rng i j)∧-(2 ^ 62)≤i∧i<2 ^ 62∧-(2 ^ 62)≤j∧j<2 ^ 62∧(j - i).toNat≤1000000∧∀l,H l=none→Q (.ref l) (upd H l (.lst (Zok i (j - i).toNat)))
section
variable {X:Cx}
theorem Xx:Zba X (.builtin "len") (Zbi X.K):=Zmh.or Zmd
theorem Zev (hc:X.calm=true):Zba X (.builtin "sum") (Xgm X.K):=by
 intro pins s σ H xs us Q I r h
 obtain ⟨p,ns,rfl,hq,q⟩:=h
 obtain ⟨u,rfl,rx⟩:=vals1 r
 cases rx
 obtain ⟨its,rv,pl,hz⟩:=I.list hq
 have hi:IntsAre its ns:=intsAre_of rv
 obtain ⟨xs,hxs⟩:=hi.allInts.items
 have hn:numsOf its.toArray.toList=ns:=by rw [show its.toArray.toList=its from rfl,hi.numsOf]
 have hl:=pl.isList
 rw [hxs] at hl hn
 rw [nums_intItems] at hn
 refine sum_intListG (I.ok.hd hc) hl fun h' tk t' hk=>⟨.int ns.sum,H,I.kept hk,⟨t',?_⟩,q⟩
 rw [preSum_eq,take_of_length_le (by simp),hn]
theorem Zkw (hc:X.calm=true):Zba X (.type "list") (fun xs H Q=>∃p i j,xs=[.ref p]∧H p=some (.rng i j)∧-(2 ^ 62)≤i∧i<2 ^ 62∧-(2 ^ 62)≤j∧j<2 ^ 62∧(j - i).toNat≤1000000∧
    ∀l,H l=none→Q (.ref l) (upd H l (.lst (Zok i (j - i).toNat)))):=by
  intro pins s σ H xs us Q I r h
  obtain ⟨p,i,j,rfl,hH,h1,h2,h3,h4,h5,q⟩:=h
  obtain ⟨u,rfl,rx⟩:=vals1 r
  cases rx
  obtain ⟨t,u,v,e⟩:=I.hok p _ hH
  have en:Builtin.Range.rangeSize i j 1=(((j - i).toNat:Nat):Int):=by rw [rangeSize_one];split<;>omega
  refine call_list_range (n:=(j - i).toNat) (I.ok.hd hc) e (small_one h1 h2 h3 h4) en (le_trans h5 (by decide)) fun h' tk acc' c' hk hg hit=>?_
  refine ⟨.ref s.heap.objs.size,_,I.laid (t':=tk) hk (le_refl _) (show Zei X.prog X.w _ h' _ (.lst (Zok i (j - i).toNat)) from ⟨?_,acc'.toList,c',?_,?_⟩),rfl,q _ I.fresh⟩
  · unfold Zok
    rw [length_map,length_range]
    exact le_trans h5 (by decide)
  · obtain ⟨hsz,hv⟩:=hit
    have key:∀(k:Nat) (l:List Value) (lo:Int),l.length=k→(∀(m:Nat) (v:Value),l[m]?=some v→∃t,v=Value.int (lo+(m:Int)) t)→Ys (Zok lo k) l:=by
      intro k
      induction k with
      | zero =>
        intro l lo hl _
        rw [List.length_eq_zero_iff.mp hl]
        exact .nil
      | succ k ih =>
        intro l lo hl hv
        cases l with
        | nil=>simp at hl
        | cons x l =>
          obtain ⟨t,e⟩:=hv 0 x (by simp)
          have er:Zok lo (k+1)=V.int lo::Zok (lo+1) k:=by
            unfold Zok
            rw [List.range_succ_eq_map,map_cons,map_map]
            congr 1
            · simp
            · apply map_congr_left
              intro m _
              show V.int (lo+((m+1:Nat):Int))=V.int (lo+1+(m:Int))
              congr 1
              omega
          rw [er]
          refine .cons ⟨t,?_⟩ (ih l (lo+1) (by simpa using hl) fun m v hm=>?_)
          · rw [e]
            congr 1
            simp
          · obtain ⟨t',e'⟩:=hv (m+1) v (by simpa using hm)
            refine ⟨t',?_⟩
            rw [e']
            congr 1
            omega
    refine key _ _ i (by simpa using hsz) fun m v hm=>?_
    obtain ⟨t,e⟩:=hv m v (by simpa using hm)
    exact ⟨t,by rw [e];congr 1;omega⟩
  · simpa using hg
theorem Zts (hc:X.calm=true):Zba X (.type "list") (Zwy X.K):=Znp.or (Zkw hc)
end
structure Def (P:Program)(w:World)(K:Frag)(mg:Str→Option Value)(base:Heap)(CX:CXT)(k:Nat)(x:Str)(ps:List Str)(sp:Sp):Prop where
 ex:∃f fd,mg x=some (.ref f)∧keepIn K (.ref f)=true∧Binds K fd ps []∧Zan P w K mg base CX k f fd ps sp
theorem Xaz {X:Cx}{CX:CXT}{k:Nat}{ps:List Str}{sp:Sp}{E:XK}{x:Str}{p pos:Pos}{e:Expr}{es:List Expr}{t:TA}(D:Def X.prog X.w X.K X.mg X.base CX k x ps sp)(hr:Zje k X.A)(hg:Gl X x)(hx:Zjt CX X E)
  (ha:PA X (e::es) t) (hdb:(x==("__debug__":Str))=false:=by decide) (he:starEach (e::es) X.env=(false,eval e X.env)::starEach es X.env:=by rfl) (hpl:(backTo pos (starEach es X.env)).any (·.1)=false:=by rfl) :
  PE X (.Call (.Name x p) (e::es) [] pos) (Ztb sp [] E t):=by
 obtain ⟨f,fd,m,kp,b,F⟩:=D.ex
 exact Xhn F hr hg m kp b .nil hx ha hdb he hpl
section
variable {σ:St}{H:Hp}{Q:VK}{D:Ends}{K:Frag}
theorem rd_I {C:Int→Int→Prop}{g:Int→Int→V}{i j:Int}(c:C i j)(q:Q (g i j) H):rI C g (.int i) (.int j) H Q:=⟨i,j,rfl,rfl,c,q⟩
theorem rd_I0 {g:Int→Int→V}{i j:Int}(q:Q (g i j) H):rI0 g (.int i) (.int j) H Q:=⟨i,j,rfl,rfl,q⟩
theorem rd_U {g:Int→V}{i:Int}(q:Q (g i) H):rU g (.int i) H Q:=⟨i,rfl,q⟩
theorem Xrr {i j:Int}(q:Q (.int (i+j)) H):Xdq (.int i) (.int j) H Q:=.inl ⟨i,j,rfl,rfl,q⟩
theorem Xom {i j:Int}(c:Xmm i j)(q:Q (.int (i*j)) H):Xec (.int i) (.int j) H Q:=.inl ⟨i,j,rfl,rfl,c,q⟩
theorem Xkd {sp:Sp}{E:XK}{t:TA}(q:t σ H fun vs H1=>sp vs H1 Q E):Ztb sp [] E t σ H Q:=by
 show t σ H fun vs H1=>sp (vs++[]) H1 Q E
 have e:(fun vs H1=>sp (vs++[]) H1 Q E)=fun vs H1=>sp vs H1 Q E:=by
  funext vs H1
  rw [append_nil]
 rw [e]
 exact q
theorem Xnu {p:Addr}{xs:List V}{i:Int}{v:V}(h:SqL K H p xs)(e:atI xs i=some v)(q:Q v H):rIx K (.ref p) (.int i) H Q:=.inl ⟨p,xs,i,v,rfl,rfl,h,e,q⟩
theorem Xms {p:Addr}{xs:List V}{i:Int}{v:V}(h:SqT K H p xs)(e:atI xs i=some v)(q:Q v H):rIx K (.ref p) (.int i) H Q:=.inr (.inl ⟨p,xs,i,v,rfl,rfl,h,e,q⟩)
theorem Zwu {p:Addr}{ys:List V}(h:SqL K H p ys)(q:Q (.int ys.length) H):Zbi K [.ref p] H Q:=.inl ⟨p,ys,rfl,.inl h,q⟩
theorem Xiv {p:Addr}{ys:List V}(h:SqT K H p ys)(q:Q (.int ys.length) H):Zbi K [.ref p] H Q:=.inl ⟨p,ys,rfl,.inr h,q⟩
theorem Xjj {z:Str}(h:z.length≤sizeLine)(q:Q (.int z.length) H):Zbi K [.str z] H Q:=.inr ⟨z,rfl,h,q⟩
theorem Xpw {l:Addr}{xs:List V}{y:V}(h:H l=some (.lst xs))(hz:xs.length<sizeLine)(q:Q .non (upd H l (.lst (xs++[y])))):Ziy (.ref l) [y] H Q:=⟨l,xs,y,rfl,rfl,h,hz,q⟩
theorem Xgy {a:Addr}{xs:List V}{lo hi:Option Int}(h:SqL K H a xs)(q:∀p,H p=none→Q (.ref p) (upd H p (.lst (Xdh xs lo hi)))):rSlL K (.ref a) lo hi H Q:=⟨a,xs,rfl,h,q⟩
theorem Xos {a b:Addr}{xs zs:List V}(h1:H a=some (.lst xs))(h2:H b=some (.lst zs))(hz:xs.length+zs.length≤sizeLine)(q:∀p,H p=none→Q (.ref p) (upd H p (.lst (xs++zs)))):Xdq (.ref a) (.ref b) H Q:=
 .inr (.inr ⟨a,b,xs,zs,rfl,rfl,h1,h2,hz,q⟩)
theorem Xpr {l:Addr}{k:Int}{xs:List V}(h:H l=some (.lst xs))(h1:-(2 ^ 63)≤k)(h2:k<2 ^ 63)(hz:xs.length*k.toNat≤sizeLine)(q:∀p,H p=none→Q (.ref p) (upd H p (.lst (List.replicate k.toNat xs).flatten))):Xec (.ref l) (.int k) H Q:=
 .inr ⟨l,k,xs,rfl,rfl,h,h1,h2,hz,q⟩
theorem Xnf {p:Addr}{ns:List Int}(h:SqL K H p (ns.map V.int))(q:Q (.int ns.sum) H):Xgm K [.ref p] H Q:=⟨p,ns,rfl,h,q⟩
theorem Xeu {p:Addr}{ys:List V}(h:SqL K H p ys)(q:∀l,H l=none→Q (.ref l) (upd H l (.lst ys))):Zwy K [.ref p] H Q:=.inl ⟨p,ys,rfl,.inl h,q⟩
theorem Xei {p:Addr}{i j:Int}(h:H p=some (.rng i j))(h1:-(2 ^ 62)≤i)(h2:i<2 ^ 62)(h3:-(2 ^ 62)≤j)(h4:j<2 ^ 62)(h5:(j - i).toNat≤1000000)(q:∀l,H l=none→Q (.ref l) (upd H l (.lst (Zok i (j - i).toNat)))):Zwy K [.ref p] H Q:=
 .inr ⟨p,i,j,rfl,h,h1,h2,h3,h4,h5,q⟩
end
structure QE (X:Cx)(e:Expr)(t:TE):Prop where
 out:PE X e t
structure QT (X:Cx)(e:Expr)(t:TT):Prop where
 out:PT X e t
structure QW (X:Cx)(e:Expr)(t:TT):Prop where
 out:PW X e t
structure QA (X:Cx)(es:List Expr)(t:TA):Prop where
 out:PA X es t
structure QO (X:Cx)(e:Option Expr)(t:TO):Prop where
 out:PO X e t
structure QG (X:Cx)(e:Expr)(t:TG):Prop where
 out:PG X e t
structure QGs (X:Cx)(es:List Expr)(t:TGs):Prop where
 out:PGs X es t
structure QI (X:Cx)(tg iter:Expr)(wi:TI):Prop where
 out:PI X tg iter wi
structure QS (X:Cx)(st:Stmt)(t:TS):Prop where
 out:PS X st t
structure QSs (X:Cx)(st:List Stmt)(t:TS):Prop where
 out:PSs X st t
section
variable {X:Cx}{a b c e st o tg iter:Expr}{rest es:List Expr}{ta tb tc te ts to:TE}{tA tB':TT}{t:TA}{pos p p2 apos cpos:Pos}
theorem Xni {i:Int}{j:Nat}:QE X (.Constant (.int i) j pos) (tC (.int i)):=⟨Xqy⟩
theorem qe_bl {i:Bool}{j:Nat}:QE X (.Constant (.bool i) j pos) (tC (.bl i)):=⟨pe_bl⟩
theorem Xow {j:Nat}:QE X (.Constant .none j pos) (tC .non):=⟨Xon⟩
theorem Xrk {x:Str}{j:Nat}:QE X (.Constant (.str x) j pos) (tC (.str x)):=⟨Xpl⟩
theorem qv (i:Nat){x:Str}(hN:X.N[i]?=some x:=by rfl)(hv:autoParam (Vis X.env.scope x) aT3._auto_1)(hd:(x==("__debug__":Str))=false:=by decide)
  (hcd:(x==("__classdict__":Str))=false:=by decide):QE X (.Name x pos) (Zue i):=⟨pv i hN hv hd hcd⟩
theorem qe_op {op:Operator}{r:R2}(ho:OpR X (binaryOp op) r)(ha:QE X a ta)(hb:QE X b tb):QE X (.BinOp a op b pos) (tOp r ta tb):=⟨pe_op ho ha.out hb.out⟩
theorem qe_un {op:UnaryOp}{r:V→Hp→VK→Prop}(ho:UnR X (unaryOp op) r)(ha:QE X a ta):QE X (.UnaryOp op a pos) (tUn r ta):=⟨pe_un ho ha.out⟩
theorem Xjv {op:CmpOp}{r:R2}(ho:OpR X (compareOp op) r)(ha:QE X a ta)(hb:QE X b tb)(hm:behindInMarks op b=false):QE X (.Compare a [op] [b] pos) (tOp r ta tb):=⟨Xlp ho ha.out hb.out hm⟩
theorem Xll {op:CmpOp}{r:R2}(ho:OpR X (compareOp op) r)(ha:QE X a ta)(hb:QE X b tb)(hm:behindInMarks op b=false):QT X (.Compare a [op] [b] pos) (Xba (tOp r ta tb)):=⟨Xly ho ha.out hb.out hm⟩
theorem Xnk (h:QE X e te)(he:∀whole,isTrue e X.env whole=(do let v ← whole;standAt e.pos;holding [v] (truthy v)):=by intro _;rfl):QT X e (tB te):=⟨Xng h.out he⟩
theorem Xpg (ha:QT X a tA):QT X (.UnaryOp .Not a pos) (tNot tA):=⟨Xrw ha.out⟩
theorem Xks (ha:QT X a tA):QW X (.BoolOp .And [a] pos) tA:=⟨Xjn ha.out⟩
theorem Xqv (ha:QT X a tA):QW X (.BoolOp .Or [a] pos) tA:=⟨Xpu ha.out⟩
theorem Xoz (ha:QT X a tA)(hb:QW X (.BoolOp .And (b::rest) pos) tB'):QW X (.BoolOp .And (a::b::rest) pos) (tAnd tA tB'):=⟨Xny ha.out hb.out⟩
theorem qw_or (ha:QT X a tA)(hb:QW X (.BoolOp .Or (b::rest) pos) tB'):QW X (.BoolOp .Or (a::b::rest) pos) (tOr tA tB'):=⟨pw_or ha.out hb.out⟩
theorem qt_w (h:QW X a tA):QT X a tA:=⟨h.out.pt⟩
theorem Zzg:QA X [] Zuh:=⟨Zvd⟩
theorem Zko (ha:QE X e te)(hr:QA X es t)(hs:starEach (e::es) X.env=(false,eval e X.env)::starEach es X.env):QA X (e::es) (Zgb te t):=⟨Zpv ha.out hr.out hs⟩
theorem Xfk {x1:Nat}(h:QA X es t):QE X (.Tuple es x1 pos) (Xrc t):=⟨Xsd h.out⟩
theorem Xge (h:QA X es t):QE X (.List es pos) (Xmk t):=⟨Xqe h.out⟩
theorem qe_ix {r:R2}(hr:IxR X r)(ha:QE X a ta)(hb:QE X b tb)(hs:Zce b):QE X (.Subscript a b pos) (tOp r ta tb):=⟨pe_ix hr ha.out hb.out hs⟩
theorem Xmd:QO X none Zln:=⟨Xia⟩
theorem Xko (h:QE X e te):QO X (some e) (Xbc te):=⟨Xiq h.out⟩
theorem Xes {r:V→Option Int→Option Int→Hp→VK→Prop}{lo hi:Option Expr}{tl th:TO}(hr:SlR X r)(he:QE X e te)(hl:QO X lo tl)(hu:QO X hi th):QE X (.Subscript e (.Slice lo hi none p2) pos) (tSl r te tl th):=⟨Xcs hr he.out hl.out hu.out⟩
theorem Xdp {CX:CXT}{k:Nat}{ps:List Str}{sp:Sp}{E:XK}{x:Str}(D:Def X.prog X.w X.K X.mg X.base CX k x ps sp)(hr:Zje k X.A)(hg:Gl X x)(hx:Zjt CX X E)
  (ha:QA X (e::es) t) (hdb:(x==("__debug__":Str))=false:=by decide) (he:starEach (e::es) X.env=(false,eval e X.env)::starEach es X.env:=by rfl) (hpl:(backTo pos (starEach es X.env)).any (·.1)=false:=by rfl) :
  QE X (.Call (.Name x p) (e::es) [] pos) (Ztb sp [] E t):=⟨Xaz D hr hg hx ha.out hdb he hpl⟩
theorem Xbx {x:Str}{id:String}{r:List V→Hp→VK→Prop}(hc:Zba X (.builtin id) r)(hg:Gl X x)(hm:X.mg x=none)(hv:bootBuiltins x=some (.builtin id))(ha:QA X (e::es) t)(hn:x≠"__name__":=by decide)(hdb:(x==("__debug__":Str))=false:=by decide)
  (he:starEach (e::es) X.env=(false,eval e X.env)::starEach es X.env:=by rfl) (hpl:(backTo pos (starEach es X.env)).any (·.1)=false:=by rfl):QE X (.Call (.Name x p) (e::es) [] pos) (tCB r t):=⟨Xbj hc hg hm hv ha.out hn hdb he hpl⟩
theorem Zze {x:Str}{T:String}{r:List V→Hp→VK→Prop}(hc:Zba X (.type T) r)(hg:Gl X x)(hm:X.mg x=none)(hv:bootBuiltins x=some (.type T))(ha:QA X (e::es) t)(hn:x≠"__name__":=by decide)(hdb:(x==("__debug__":Str))=false:=by decide)
  (he:starEach (e::es) X.env=(false,eval e X.env)::starEach es X.env:=by rfl) (hpl:(backTo pos (starEach es X.env)).any (·.1)=false:=by rfl):QE X (.Call (.Name x p) (e::es) [] pos) (tCB r t):=⟨Zvr hc hg hm hv ha.out hn hdb he hpl⟩
theorem Xmv {name:Str}{T id:String}{r:V→List V→Hp→VK→Prop}(pa:PlainAttrs T)(slot:Slot T name id)(hty:typeOf (.builtin id)=pure (.type "method_descriptor"))(hm:MtR X id r)(ho:QE X o to)(ha:QA X (e::es) t)
    (hbase:attributeBase o name X.env (eval o X.env)=eval o X.env:=by rfl)
    (hfew:((backTo cpos (starEach (e::es) X.env)).all (fun x=>!x.1)&&(backToKw cpos (keywordEach [] X.env)).all (fun x=>x.1.isSome)
      && decide ((e::es).length+([]:List Keyword).length+(if ([]:List Keyword).isEmpty then 0 else 1)<30))=true:=by rfl)
    (hline:(apos.endLine==cpos.line)=true:=by rfl) (hs:starEach (e::es) X.env=(false,eval e X.env)::starEach es X.env:=by rfl) (hplain:(backTo cpos (starEach es X.env)).any (·.1)=false:=by rfl) :
    QE X (.Call (.Attribute o name apos) (e::es) [] cpos) (tBM X.K T r to t):=⟨pe_bm pa slot hty hm ho.out ha.out hbase hfew hline hs hplain⟩
theorem Zoy {i:Nat}{x:Str}(hN:X.N.Nodup)(hi:X.N[i]?=some x)(hx:Loc X.env.scope x)(hf:autoParam (X.fn x=true∨X.env.scope.names.lookup x=some .local) aT0._auto_1):QG X (.Name x pos) (Zbx i):=⟨Xlc hN hi hx hf⟩
theorem Zye {k:Nat}{tt:TGs}{n:Nat}(hc:X.calm=true)(h:QGs X es tt)(hn:(assignEach es X.env).length=n:=by rfl)(hst:(assignEach es X.env).findIdx? (·.1)=none:=by rfl):QG X (.Tuple es k pos) (Zca X.K n tt):=⟨Xnp hc h.out hn hst⟩
theorem Zot:QGs X [] Zzu:=⟨Xjr⟩
theorem Zks {tt:TG}{u:TGs}(h1:QG X e tt)(h2:QGs X es u)(hs:(assignEach (e::es) X.env).map (·.2)=assign e X.env::(assignEach es X.env).map (·.2):=by rfl):QGs X (e::es) (Zgy tt u):=⟨Xbt h1.out h2.out hs⟩
theorem Xji (hl:QE X e te):QI X tg e (Zzv X.K te):=⟨Xje hl.out⟩
theorem Zwx (hg:Gl X "range")(hm:X.mg "range"=none)(ha:QA X [a] t)(hs:starEach [a] X.env=[(false,eval a X.env)]:=by rfl):QI X tg (.Call (.Name "range" p) [a] [] pos) (Xai t):=⟨Zzo hg hm ha.out hs⟩
theorem Zzm (hg:Gl X "range")(hm:X.mg "range"=none)(ha:QA X [a,b] t)(hs:starEach [a,b] X.env=[(false,eval a X.env),(false,eval b X.env)]:=by rfl)(hs2:starEach [b] X.env=[(false,eval b X.env)]:=by rfl):QI X tg (.Call (.Name "range" p) [a,b] [] pos) (Xds t):=⟨Zzj hg hm ha.out hs hs2⟩
variable {s1:Stmt}{ss body other:List Stmt}{u v:TS}{pos':Pos}
theorem Xhp:QSs X [] Zzy:=⟨Xkx⟩
theorem Xem (h1:QS X s1 u)(h2:QSs X ss v):QSs X (s1::ss) (tSeq u v):=⟨Xcg h1.out h2.out⟩
theorem Xkv (h1:QS X s1 u):QSs X [s1] u:=⟨Xjw h1.out⟩
theorem Xcr:QS X s1 Zrq:=⟨Xez⟩
theorem Zxu (he:QE X e te)(hs:swapsWith e none pos.line X.env=pure false:=by rfl):QS X (.Expr e pos) (Zom te):=⟨Xkf he.out hs⟩
theorem Xox (he:QE X e te):QS X (.Return (some e) pos) (tRet te):=⟨Xqg he.out⟩
theorem qs_if (hc:QT X c tA)(ha:QSs X body u)(hb:QSs X other v):QS X (.If c body other pos) (tIfS tA u v):=⟨ps_if hc.out ha.out hb.out⟩
theorem Xoi {g:TG}(he:QE X e te)(hg:QG X tg g)(hs:swapsWithSole [tg] e pos.line X.env=pure false:=by rfl)(hw:swappedStores [tg] e X.env=pure none:=by rfl)(h1:(assignEach [tg] X.env).map (·.2)=[assign tg X.env]:=by rfl):QS X (.Assign [tg] e pos) (Zuq te g):=⟨Xqi he.out hg.out hs hw h1⟩
theorem Xqj {i:Nat}{x:Str}(hN:X.N.Nodup)(hi:X.N[i]?=some x)(hx:Loc X.env.scope x)(he:QE X e te)(hs:swapsWith e (some (.Name x pos')) pos.line X.env=pure false:=by rfl)(hf:autoParam (X.fn x=true∨X.env.scope.names.lookup x=some .local) aT0._auto_1) :
  QS X (.Assign [.Name x pos'] e pos) (Zuq te (Zbx i)):=⟨Xoh hN hi hx he.out hs hf⟩
theorem Xnq {wi:TI}{g:TG}(hp:PassesOwn (model X.prog X.w) X.A X.env X.xe)(hc:X.calm=true)(hi:QI X tg iter wi)(hg:QG X tg g)(hb:QSs X body u)(hs:∀x,foldedSetIterable iter X.env x=pure x:=by intro _;rfl):QS X (.For tg iter body [] pos) (tFor wi g u):=⟨Xpb hp hc hi.out hg.out hb.out hs⟩
end
theorem Fun.okQ {P:Program}{w:World}{K:Frag}{mg:Str→Option Value}{base:Heap}{x qual:Str}{st:Stmt}{f:Addr}{fd:FuncData}{N ps:List Str}{k:Nat}{sp:Sp}(F:Fun K x qual st f fd)(S:Xc N ps (Zm st))(len:∀vs H Q E,sp vs H Q E→vs.length=ps.length)
    (hbody:∀(cdv:Value) (A:Around) (outer:List Env) (s:Shared) (H:Hp) (vs:List V) (Q:VK) (E:XK),Zje k (A.deeper (envOfC qual (Zm st) s.heap.objs.size f cdv))→sp vs H Q E→
      ∃t,QSs (Xfu CX0 P w K mg base N qual (Zm st) f cdv A outer s H E).nox (Zbc st) t∧t {nx:=fun _ H'=>Q .non H',rt:=Q} (start N vs) H):Zan P w K mg base CX0 (k+1) f fd ps sp:=
  F.ok S len fun cdv A outer s H vs Q E hr h=>by
    obtain ⟨t,ht,q⟩:=hbody cdv A outer s H vs Q E hr h
    exact ⟨t,ht.out,q⟩
@[reducible] noncomputable def Cx.blk (X:Cx)(N2:List Str)(x:Str)(sc:Scope)(cl:List (Str×Addr))(C:Addr)(s0:Shared)(H0:Hp)(fp:List Addr):Cx:=
 {X with N:=N2++[x],s₀:=s0,H₀:=H0,env:=compEnvC sc cl C X.env,outer:=X.stack,ex:=fp,fn:=fun _=>false,pn:=[],xe:=fun _ _=>False}
structure BlkOk (sc esc:Scope)(x:Str)(N N2:List Str):Prop where
 kind:sc.kind=.function
 cell:∀y∈sc.names,y.2≠.cell
 loc:∀y∈sc.names,y.2=.local→sc.names.lookup y.1=some .local
 own:sc.names.lookup x=some .local
 free:∀y∈sc.names,y.2=.free→esc.names.lookup y.1=some .cell∨esc.names.lookup y.1=some .free
 out:∀y∈N2,sc.names.lookup y≠some .local
 nd:N.Nodup
 nd2:N2.Nodup
 len:N2.length=N.length
 ren:∀p∈N.zip N2,p.2=p.1∨sc.names.lookup p.2=none
theorem lookup_mem {l:List (Str×NameKind)}{y:Str}{k:NameKind}(h:(y,k)∈l):l.lookup y≠none:=by
 induction l with
 | nil=>simp at h
 | cons p r ih =>
  obtain ⟨n,k'⟩:=p
  cases hy:y==n with
  | true=>rw [lookup_cons,hy];simp
  | false =>
   rw [lookup_cons,hy]
   rcases List.mem_cons.mp h with e | e
   ·cases e
    simp at hy
   ·exact ih e
noncomputable def Ja (cells:List (Str×Addr)):List (Str×NameKind)→List (Str×Addr)→List (Str×Addr)
 | [],cs=>cs
 | (n,k)::r,cs=>Ja cells r (if k=.free then (n,(cells.lookup n).getD 0)::cs else cs)
theorem Zdp {sc:Scope}{env:Env}(h:∀y∈sc.names,y.2=.free→∃c,env.cells.lookup y.1=some c):closureFor sc env=pure (Ja env.cells sc.names []):=by
  unfold closureFor
  generalize sc.names=l at h ⊢
  have key:∀(l:List (Str×NameKind)) (cs:List (Str×Addr)),(∀y∈l,y.2=.free→∃c,env.cells.lookup y.1=some c)→
      (forIn l cs fun (y:Str×NameKind) (r:List (Str×Addr))=>(do
        let (name,kind):=y
        if kind==.free then
          let c ← cellOf env name
          pure (ForInStep.yield ((name,c)::r))
        else pure (ForInStep.yield r):Sem (ForInStep (List (Str×Addr)))))=pure (Ja env.cells l cs):=by
    intro l
    induction l with
    | nil=>intro cs _;rfl
    | cons y r ih =>
      intro cs hy
      obtain ⟨n,k⟩:=y
      rw [List.forIn_cons]
      have hr:∀y∈r,y.2=.free→∃c,env.cells.lookup y.1=some c:=fun y h'=>hy y (mem_cons_of_mem _ h')
      by_cases hk:k=.free
      · subst hk
        obtain ⟨c,hc⟩:=hy _ mem_cons_self rfl
        have e:cellOf env n=pure c:=by unfold cellOf;rw [show env.cells.lookup n=some c from hc]
        simp only [beq_self_eq_true,if_true,e]
        rw [Ja,if_pos rfl,show env.cells.lookup n=some c from hc]
        exact ih _ hr
      · have hb:(k==NameKind.free)=false:=by simpa using hk
        rw [Ja,if_neg hk]
        simp only [hb,if_false,Bool.false_eq_true]
        exact ih _ hr
  have q:=key l [] h
  exact (congrArg (fun z:Sem (List (Str×Addr))=>z >>= fun r=>pure r) q).trans rfl
theorem Znd {cells:List (Str×Addr)}:∀{l:List (Str×NameKind)} {cs:List (Str×Addr)} {y:Str} {c:Addr},(∀z∈l,z.2=.free→∃c,cells.lookup z.1=some c)→(∀c,cs.lookup y=some c→cells.lookup y=some c)→
  (Ja cells l cs).lookup y=some c→cells.lookup y=some c
 | [],_,_,_,_,h0,h=>h0 _ h
 | (n,k)::r,cs,y,c,hl,h0,h=>by
  rw [Ja] at h
  refine Znd (l:=r) (fun z hz=>hl z (mem_cons_of_mem _ hz)) (fun c' hc'=>?_) h
  by_cases hk:k=.free
  ·rw [if_pos hk] at hc'
   obtain ⟨c0,e0⟩:=hl _ mem_cons_self hk
   cases hy:y==n with
   | true =>
    have e:y=n:=by simpa using hy
    subst e
    rw [lookup_cons,hy] at hc'
    have e1:(cells.lookup y).getD 0=c':=by simpa using hc'
    have e2:cells.lookup y=some c0:=e0
    rw [e2] at e1 ⊢
    simpa using e1
   | false =>
    rw [lookup_cons,hy] at hc'
    exact h0 _ hc'
  ·rw [if_neg hk] at hc'
   exact h0 _ hc'
theorem Zmo {cells:List (Str×Addr)}:∀{l:List (Str×NameKind)} {cs:List (Str×Addr)} {y:Str},(∃c,cs.lookup y=some c)→∃c,(Ja cells l cs).lookup y=some c
 | [],_,_,h=>h
 | (n,k)::r,cs,y,h=>by
  rw [Ja]
  refine Zmo ?_
  split
  ·cases hy:y==n with
   | true=>exact ⟨_,by rw [lookup_cons,hy]⟩
   | false=>rw [lookup_cons,hy];exact h
  ·exact h
theorem Zkk {cells:List (Str×Addr)}:∀{l:List (Str×NameKind)} {cs:List (Str×Addr)} {y:Str},(y,NameKind.free)∈l→∃c,(Ja cells l cs).lookup y=some c
 | (n,k)::r,cs,y,h=>by
  rw [Ja]
  rcases List.mem_cons.mp h with e | e
  ·cases e
   refine Zmo ?_
   rw [if_pos rfl]
   exact ⟨_,by rw [lookup_cons,beq_self_eq_true]⟩
  ·exact Zkk e
theorem Zcy {env:Env}:∀{names:List (Str×NameKind)} {y:Str} {k:NameKind},(∀z∈names,z.2≠.cell)→(k=.cell∨k=.free)→
  (names.map fun (n,k)=>if (k==NameKind.free&&env.scope.kind==.function&&env.kindOf n==some .cell) then (n,NameKind.cell) else (n,k)).lookup y=some k→(y,NameKind.free)∈names
 | [],_,_,_,_,hz=>by simp at hz
 | (n,k0)::r,y,k,hc,hk,h=>by
  rw [map_cons] at h
  cases hy:y==n with
  | true =>
   have e:y=n:=by simpa using hy
   subst e
   by_cases hf:k0=.free
   ·subst hf;exact mem_cons_self
   ·have hb:(k0==NameKind.free)=false:=by simpa using hf
    simp only [hb,Bool.false_and,Bool.false_eq_true,if_false,lookup_cons,beq_self_eq_true] at h
    have e1:k0=k:=by simpa using h
    subst e1
    rcases hk with z | z
    ·exact absurd z (hc _ mem_cons_self)
    ·exact absurd z hf
  | false =>
   refine mem_cons_of_mem _ (Zcy (env:=env) (k:=k) (fun z hz=>hc z (mem_cons_of_mem _ hz)) hk ?_)
   by_cases hc':(k0==NameKind.free&&env.scope.kind==.function&&env.kindOf n==some .cell)=true
   ·simp only [hc',if_true,lookup_cons,hy] at h
    exact h
   ·simp only [hc',Bool.false_eq_true,if_false,lookup_cons,hy] at h
    exact h
theorem Zid {env:Env}:∀{names:List (Str×NameKind)} {y:Str},
  (names.map fun (n,k)=>if (k==NameKind.free&&env.scope.kind==.function&&env.kindOf n==some .cell) then (n,NameKind.cell) else (n,k)).lookup y=some .local→names.lookup y=some .local
 | [],_,h=>by simp at h
 | (n,kn)::r,y,h=>by
  rw [map_cons] at h
  cases hy:y==n with
  | true =>
   rw [lookup_cons,hy]
   by_cases hc:(kn==NameKind.free&&env.scope.kind==.function&&env.kindOf n==some .cell)=true
   ·simp only [hc,if_true,lookup_cons,hy] at h
    cases h
   ·simp only [hc,Bool.false_eq_true,if_false,lookup_cons,hy] at h
    exact h
  | false =>
   rw [lookup_cons,hy]
   refine Zid (env:=env) ?_
   by_cases hc:(kn==NameKind.free&&env.scope.kind==.function&&env.kindOf n==some .cell)=true
   ·simp only [hc,if_true,lookup_cons,hy] at h
    exact h
   ·simp only [hc,Bool.false_eq_true,if_false,lookup_cons,hy] at h
    exact h
section
variable {s:Shared}{R:Result→Shared→Prop}{A:Around}{P:Program}{w:World}
noncomputable def Zvl (ifs:List Expr)(env:Env):Sem Bool:=forIn ifs true fun c r=>if r=true then do let ok ← isTrue c env (eval c env);pure (ForInStep.yield ok) else pure (ForInStep.yield r)
theorem Ztn {elt tg iter:Expr}{ifs:List Expr}{scope:Scope}{pos:Pos}{it ac:Value}{env:Env}(W:Nat→Shared→Prop)
    (turn:∀n s,W n s→wpAny (model P w) A (pyNext it) (fun r s₁=>match r with
      | none=>R (.ok .next) s₁
      | some v=>wpAny (model P w) A (letOwnedTupleGo tg it v) (fun _ s₁'=>wpAny (model P w) A (assign tg env v) (fun _ s₂ =>
          wpAny (model P w) A (Zvl ifs env) (fun ok s₃ =>
            if ok=true then wpAny (model P w) A (eval elt env) (fun z s₄ =>
              wpAny (model P w) A (call (.builtin "list.append") [ac,z]) (fun _ s₅=>∃m,m<n∧W m s₅) (fun _ _=>False) s₄) (fun _ _=>False) s₃
            else ∃m,m<n∧W m s₃) (fun _ _=>False) s₂) (fun _ _=>False) s₁') (fun _ _=>False) s₁) (fun _ _=>False) s)
    (n:Nat) (h:W n s) :
    codeAny (model P w) A (.compLoop (.ListComp elt [⟨tg,iter,ifs,0⟩] scope pos) 0 it ac env) R s:=by
  refine codeAny_loop rfl W (fun n s hI=>?_) n h
  show wpAny _ A ((compTurn (.ListComp elt [⟨tg,iter,ifs,0⟩] scope pos) 0 it ac env).onRaise (fun z=>do noteFrame z env;theTreesLotGoes z)) _ _ s
  refine wpAny_noted ?_
  rw [compTurn_list]
  refine wpAny_bind (wpAny_standAt (wpAny_bind (wpAny_mono (turn n s hI) (fun r s₁ h₁=>?_) fun _ _ h'=>h'.elim)))
  cases r with
  | none=>exact wpAny_pure h₁
  | some v =>
    refine wpAny_bind (wpAny_mono h₁ (fun _ s₁' h₁'=>?_) fun _ _ h'=>h'.elim)
    refine wpAny_bind (wpAny_mono h₁' (fun _ s₂ h₂=>wpAny_bind (wpAny_mono h₂ (fun ok s₃ h₃=>?_) fun _ _ h'=>h'.elim)) fun _ _ h'=>h'.elim)
    cases ok with
    | false=>exact wpAny_pure (And.intro rfl h₃)
    | true =>
      exact wpAny_bind (wpAny_bind (wpAny_mono h₃ (fun x s₄ h₄=>wpAny_bind (wpAny_mono h₄ (fun _ s₅ h₅=>wpAny_pure (wpAny_pure ⟨rfl,h₅⟩)) fun _ _ h'=>h'.elim)) fun _ _ h'=>h'.elim))
end
def PIf (X:Cx)(ifs:List Expr)(t:TT):Prop:=
 ∀(pins:List (Addr×Obj)) (s:Shared) (σ:St) (H:Hp) (Q:Bool→Hp→Prop),Inv X pins σ H s→t σ H Q→wpAny (model X.prog X.w) X.A (Zvl ifs X.env) (TP X pins σ Q) X.xe s
def tYes:TT:=fun _ H Q=>Q true H
theorem Xkn {X:Cx}:PIf X [] tYes:=fun _ _ _ H _ I h=>wpAny_pure ⟨H,I,h⟩
theorem Xhs {X:Cx}{c:Expr}{t:TT}(h:PT X c t):PIf X [c] t:=fun pins s σ H Q I hw=>wpAny_tests_one (h pins s σ H Q I hw)
section
variable {X:Cx}{elt iter:Expr}{x:Str}{px pos:Pos}{ifs:List Expr}{sc:Scope}{N2:List Str}{wi:TI}{tc:TT}{te:TE}
end
structure QIf (X:Cx)(ifs:List Expr)(t:TT):Prop where
 out:PIf X ifs t
section
variable {X:Cx}{elt iter c:Expr}{x:Str}{px pos:Pos}{ifs:List Expr}{sc esc:Scope}{N N2:List Str}{wi:TI}{tc:TT}{te:TE}
theorem Xid:QIf X [] tYes:=⟨Xkn⟩
theorem Xhi (h:QT X c tc):QIf X [c] tc:=⟨Xhs h.out⟩
end
section
variable {K:Frag}{a D:Addr}{xs:List V}{tc:TT}{te:TE}{σ:St}{H:Hp}{Q:VK}{R:Hp→Prop}
end
@[reducible] noncomputable def Cx.blkN (X:Cx)(N2 xs:List Str)(sc:Scope)(cl:List (Str×Addr))(C:Addr)(s0:Shared)(H0:Hp)(fp:List Addr):Cx:=
 {X with N:=N2++xs,s₀:=s0,H₀:=H0,env:=compEnvC sc cl C X.env,outer:=X.stack,ex:=fp,fn:=fun _=>false,pn:=[],xe:=fun _ _=>False}
structure Xgp (sc esc:Scope)(xs N N2:List Str):Prop where
 kind:sc.kind=.function
 cell:∀y∈sc.names,y.2≠.cell
 loc:∀y∈sc.names,y.2=.local→sc.names.lookup y.1=some .local
 free:∀y∈sc.names,y.2=.free→esc.names.lookup y.1=some .cell∨esc.names.lookup y.1=some .free
 out:∀y∈N2,sc.names.lookup y≠some .local
 nd:N.Nodup
 len:N2.length=N.length
 ren:∀p∈N.zip N2,p.2=p.1∨sc.names.lookup p.2=none
def Zii (k:Nat)(g:TG)(wi:TI)(tc:TT)(te:TE):TE:=fun σ H Q=>wi σ H fun J H1=>∀D,H1 D=none→∃W:Nat→Nat→Hp→Prop,(∃m,W 0 m (upd H1 D (.lst [])))∧∀i m H,W i m H→
  (J.stop i H∧Q (.ref D) H)∨(J.go i H∧∃N:Hp→Prop,(∀H',N H'→∃m',m'<m∧W (i+1) m' H')∧∀x H',J.yld i H x H'→∀os:St,os.length=k→g x (σ++os) H' fun σ' Hg=>(∃os',os'.length=k∧σ'=σ++os')∧tc σ' Hg fun b H2 =>
    if b=true then te σ' H2 fun v H3=>∃ys,H3 D=some (.lst ys)∧ys.length<sizeLine∧N (upd H3 D (.lst (ys++[v])))
    else N H2)
section
variable {X:Cx}{elt iter tg:Expr}{xs:List Str}{pos:Pos}{g:TG}{ifs:List Expr}{sc:Scope}{N2:List Str}{wi:TI}{tc:TT}{te:TE}
theorem Ztj {pins:List (Addr×Obj)}{σ:St}{H:Hp}{s s1:Shared}{fp:List Addr}{h':Heap}{m:Str→Option Value}{tk:Nat}(B:Xgp sc X.env.scope xs X.N N2)(I:Inv X pins σ H s)(hf:∀b∈fp,Zzp X pins H b)
    (hfl:∀b∈fp,b<s.heap.objs.size) (hn:h'.Ns s.heap.objs.size m) (hk:∀b o,s.heap.get? b=some o→h'.get? b=some o) (e1:s1={s with heap:=h',toks:=tk}) :
    Inv (X.blkN N2 xs sc (Ja X.env.cells sc.names []) s.heap.objs.size s H fp) [] (σ++List.replicate xs.length none) H s1:=by
  subst e1
  have hcl:∀y∈sc.names,y.2=.free→∃c,X.env.cells.lookup y.1=some c:=fun y hy hf=>I.ok.has y.1 (B.free y hy hf)
  have look:∀y c,(Ja X.env.cells sc.names []).lookup y=some c→X.env.cells.lookup y=some c:=fun y c h=>Znd hcl (fun _ z=>by simp at z) h
  have isfree:∀y,(relabel sc X.env).names.lookup y=some .cell∨(relabel sc X.env).names.lookup y=some .free→(y,NameKind.free)∈sc.names:=fun y hy=>by
    rcases hy with hy | hy
    · exact Zcy (env:=X.env) B.cell (.inl rfl) hy
    · exact Zcy (env:=X.env) B.cell (.inr rfl) hy
  refine ⟨⟨I.ok.mod,B.kind,I.ok.glob,I.ok.blt,le_refl _,fun y z c h1 h2=>I.ok.inj y z c (look y c h1) (look z c h2),fun y hy=>Zkk (isfree y hy),fun _ _ h=>(by cases h),I.ok.hd,I.ok.frames,.inl rfl,fun b hb=>?_,fun b o e=>?_,le_trans I.ok.bsz I.sz,fun b o e hb=>?_,fun b hb hs=>?_,I.stack,I.stkFree⟩,
    rfl,I.bare,Un.kept hk,⟨_,hn,fun i y v h1 h2 h3=>?_⟩,fun y c h=>?_,I.hok.fresh (le_refl _),fun y c h=>I.freeC y c (look y c h),fun p hp=>absurd (show p∈([]:List (Addr×Obj)) from hp) (by simp),I.hok.kept hk,?_⟩
  · exact ⟨ne_of_lt (hfl b hb),fun y c h=>(hf b hb).2.2.2.2.1 y c (look y c h)⟩
  · exact I.bs b o e
  · rcases (hf b hb).2.2.2.1 with z | z
    · exact I.ok.noex b o e z
    · exact absurd (lt_of_lt_of_le (lt_size e) (le_trans I.ok.bsz z)) (lt_irrefl _)
  · rcases List.mem_cons.mp (I.stkSub b hs) with z | z
    · exact (hf b hb).2.1 z
    · exact (hf b hb).2.2.1 z
  · have hlen:=I.len
    have hl2:=B.len
    have h1:(N2++xs)[i]?=some y:=h1
    have h2:(σ++List.replicate xs.length none)[i]?=some (some v):=h2
    have hi:i<X.N.length:=by
      by_cases hi:i<X.N.length
      · exact hi
      · rw [getElem?_append_right (by omega)] at h2
        have hm:=mem_of_getElem? h2
        rw [List.mem_replicate] at hm
        exact absurd hm.2 (by intro z;cases z)
    rw [getElem?_append_left (by omega)] at h1
    rw [getElem?_append_left (by omega)] at h2
    have h3':(relabel sc X.env).names.lookup y=some .cell∨(relabel sc X.env).names.lookup y=some .free:=by
      rcases h3 with z | z
      · exact absurd (Zid (env:=X.env) z) (B.out y (mem_of_getElem? h1))
      · exact z
    have hfr:=isfree y h3'
    have h1:X.N[i]?=some y:=by
      obtain ⟨z,hz⟩:∃z,X.N[i]?=some z:=⟨X.N[i],getElem?_eq_getElem hi⟩
      rcases B.ren (z,y) (mem_of_getElem? (List.getElem?_zip_eq_some.mpr ⟨hz,h1⟩)) with e | e
      · rw [hz,show y=z from e]
      · exact absurd e (lookup_mem hfr)
    obtain ⟨m3,hn3,hl3⟩:=I.loc
    have hv:X.env.scope.names.lookup y=some .cell∨X.env.scope.names.lookup y=some .free:=B.free (y,.free) hfr rfl
    obtain ⟨u,ru,lk⟩:=hl3 i y v h1 h2 (.inr hv)
    refine ⟨u,ru,.inr ⟨h3',?_⟩⟩
    rcases lk with ⟨k1,_⟩ | ⟨k1,c,ec,zc⟩
    · rcases hv with q | q
      · rw [show X.env.kindOf y=X.env.scope.names.lookup y from rfl,q] at k1
        cases k1
      · rw [show X.env.kindOf y=X.env.scope.names.lookup y from rfl,q] at k1
        cases k1
    · obtain ⟨c',e'⟩:=Zkk (cells:=X.env.cells) (cs:=[]) hfr
      have e2:=look y c' e'
      rw [ec] at e2
      cases e2
      obtain ⟨o,ho,hd⟩:=zc
      exact ⟨c,e',o,hk _ _ ho,hd⟩
  · obtain ⟨v,o,ho,hd⟩:=I.cell y c (look y c h)
    exact ⟨v,o,hk _ _ ho,hd⟩
  · show (σ++List.replicate xs.length none).length=(N2++xs).length
    rw [length_append,length_append,I.len,B.len,List.length_replicate]
theorem Zqb {pins:List (Addr×Obj)}{σ:St}{H2:Hp}{s2:Shared}{it:Addr}{fp:List Addr}{tn:Nat→Heap→Prop}{J:It}{Q:VK}{E:Value→Shared→Prop}{RR:Value→Addr→Result→Shared→Prop}(hc:X.calm=true)(B:Xgp sc X.env.scope xs X.N N2)
    (hg:∀cl C s0 H0 fp,PG (X.blkN N2 xs sc cl C s0 H0 fp) tg g) (ht:∀cl C s0 H0 fp,PIf (X.blkN N2 xs sc cl C s0 H0 fp) ifs tc) (he:∀cl C s0 H0 fp,PE (X.blkN N2 xs sc cl C s0 H0 fp) elt te)
    (I2:Inv X pins σ H2 s2) (T:Turn X.prog X.w X.K tg J fp it tn) (st2:tn 0 s2.heap) (f2:∀b∈fp,Zzp X pins H2 b)
    (hw:∀D,H2 D=none→∃W:Nat→Nat→Hp→Prop,(∃m,W 0 m (upd H2 D (.lst [])))∧∀i m H,W i m H→
      (J.stop i H∧Q (.ref D) H)∨(J.go i H∧∃N:Hp→Prop,(∀H',N H'→∃m',m'<m∧W (i+1) m' H')∧∀x H',J.yld i H x H'→∀os:St,os.length=xs.length→g x (σ++os) H' fun σ' Hg=>(∃os',os'.length=xs.length∧σ'=σ++os')∧tc σ' Hg fun b H2 =>
        if b=true then te σ' H2 fun v H3=>∃ys,H3 D=some (.lst ys)∧ys.length<sizeLine∧N (upd H3 D (.lst (ys++[v])))
        else N H2))
    (fin:∀(D C:Addr) (H':Hp) (s':Shared) (m:Str→Option Value),Inv X pins σ H' s'→s'.heap.Ns C m→Zzp X pins H' C→Q (.ref D) H'→RR (.ref D) C (.ok .next) s') :
    wpAny (model X.prog X.w) X.A (newList []) (fun acc s₃=>wpAny (model X.prog X.w) X.A (newFunctionEnv sc X.env.globals (Ja X.env.cells sc.names []) [] X.env.qual none .none (some X.env)) (fun cenv s₄ =>
      codeAny (model X.prog X.w) X.A (.compStart (.ListComp elt [⟨tg,iter,ifs,0⟩] sc pos) 0 (.ref it) acc {cenv with scope:=relabel sc X.env}) (RR acc cenv.locals) s₄) E s₃) E s2:=by
  refine wpAny_newObj_type (wpAny_newFunctionEnv B.cell (by intro y hy;simp at hy) (fun h₁ hns₁ hsb₁=>?_) B.kind)
  have hD:H2 s2.heap.objs.size=none:=I2.fresh
  obtain ⟨W,⟨m0,w0⟩,turn⟩:=hw _ hD
  have I3:Inv X pins σ (upd H2 s2.heap.objs.size (.lst [])) {s2 with heap:=s2.heap.push {cls:=.type "list",data:=.seq ([]:List Value).toArray}}:=I2.lnew (its:=[]) (t':=s2.toks) .nil (zero_le _)
  have fne:∀b∈fp,b<s2.heap.objs.size:=fun b hb=>by
    obtain ⟨o,ho,_⟩:=T.obj _ _ st2 b hb
    exact lt_size ho
  generalize hs3:({s2 with heap:=s2.heap.push {cls:=.type "list",data:=.seq ([]:List Value).toArray}}:Shared)=s3 at I3
  have hs3h:s3.heap=s2.heap.push {cls:=.type "list",data:=.seq ([]:List Value).toArray}:=by rw [← hs3]
  have f3:∀b∈fp,Zzp X pins (upd H2 s2.heap.objs.size (.lst [])) b:=fun b hb=>⟨by rw [Yz (ne_of_lt (fne b hb))];exact (f2 b hb).1,(f2 b hb).2⟩
  have fl3:∀b∈fp,b<s3.heap.objs.size:=fun b hb=>by
    rw [hs3h,size_push]
    exact lt_succ_of_lt (fne b hb)
  have keep3:∀b o,s3.heap.get? b=some o→h₁.get? b=some o:=fun b o e=>by
    rw [hs3h] at e
    refine hsb₁.extBut b o ?_ (get?_push_of_some _ e)
    exact ne_of_lt (lt_size e)
  have hns3:h₁.Ns s3.heap.objs.size (fun z=>([]:List (Str×Value)).reverse.lookup z):=by
    rw [hs3h]
    exact hns₁
  have I4:=Ztj (xs:=xs) (sc:=sc) (s1:={s3 with heap:=h₁,toks:=s3.toks+([]:List (Str×Value)).length}) B I3 f3 fl3 hns3 keep3 rfl
  have st4:tn 0 h₁:=T.keep _ _ _ st2 fun b hb o e=>keep3 b o (by rw [hs3h];exact get?_push_of_some _ e)
  have stat:∀{H':Hp},(∀b∈fp,H' b=none)→∀b∈fp,Zzp (X.blkN N2 xs sc (Ja X.env.cells sc.names []) s3.heap.objs.size s3 (upd H2 s2.heap.objs.size (.lst [])) fp) [] H' b:=fun hn b hb =>
    ⟨hn b hb,(I4.ok.exf b hb).1,I4.ok.exfs b hb,.inl hb,(I4.ok.exf b hb).2,fun p hp=>absurd (show p∈([]:List (Addr×Obj)) from hp) (by simp)⟩
  have loop:∀s4:Shared,s4={s3 with heap:=h₁,toks:=s3.toks+([]:List (Str×Value)).length}→
      codeAny (model X.prog X.w) X.A (.compLoop (.ListComp elt [⟨tg,iter,ifs,0⟩] sc pos) 0 (.ref it) (.ref s2.heap.objs.size) (compEnvC sc (Ja X.env.cells sc.names []) s3.heap.objs.size X.env)) (RR (.ref s2.heap.objs.size) s3.heap.objs.size) s4:=by
    rintro s4 rfl
    refine Ztn (fun n s'=>∃(i:Nat) (o:St) (H':Hp),o.length=xs.length∧Inv (X.blkN N2 xs sc (Ja X.env.cells sc.names []) s3.heap.objs.size s3 (upd H2 s2.heap.objs.size (.lst [])) fp) [] (σ++o) H' s'∧tn i s'.heap∧(∀b∈fp,H' b=none)∧W i n H') ?_ m0
      ⟨0,List.replicate xs.length none,_,by simp,I4,st4,fun b hb=>(f3 b hb).1,w0⟩
    rintro n s5 ⟨i,o,H5,ol5,I5,st5,fr5,w5⟩
    rcases turn i n H5 w5 with ⟨stop,qn⟩ | ⟨go,N,hN,step⟩
    · refine thn (T.done (X.blkN N2 xs sc (Ja X.env.cells sc.names []) s3.heap.objs.size s3 (upd H2 s2.heap.objs.size (.lst [])) fp) rfl rfl rfl hc i [] s5 (σ++o) H5 _ I5 (stat fr5) st5 stop) fun r s6 ⟨hr,I6⟩=>?_
      subst hr
      obtain ⟨m6,hn6,_⟩:=I6.loc
      refine fin _ _ H5 s6 m6 ?_ hn6 (I3.fpOk (le_refl _) I6.free) qn
      exact I3.call' (ch:=fp) I6.os I6.base I6.hok I6.bare fun b hb=>⟨(f3 b hb).2.2.2.1,(f3 b hb).2.1,(f3 b hb).2.2.2.2.1,(f3 b hb).2.2.2.2.2⟩
    · refine thn (T.item (X.blkN N2 xs sc (Ja X.env.cells sc.names []) s3.heap.objs.size s3 (upd H2 s2.heap.objs.size (.lst [])) fp) rfl rfl rfl hc i [] s5 (σ++o) H5 _ I5 (stat fr5) st5 go) fun r s6 ⟨u,hr,h6⟩=>?_
      subst hr
      refine thn h6 fun _ s7 hz9=>?_
      obtain ⟨v,H7,I7,r7,y7,st7,fr7⟩:=hz9
      have I7':=I7.pinned (stat fr7) (T.obj _ _ st7)
      refine thn (hg _ _ _ _ _ _ s7 _ H7 v u _ I7' r7 (step v H7 y7 o ol5)) fun _ s8 ⟨σ8,H8,I8,⟨os',ol8,e8⟩,q8⟩=>?_
      subst e8
      have again:∀{H9:Hp} {s9:Shared},Inv (X.blkN N2 xs sc (Ja X.env.cells sc.names []) s3.heap.objs.size s3 (upd H2 s2.heap.objs.size (.lst [])) fp) ([]++Zmr fp s7.heap) (σ++os') H9 s9→N H9→
          ∃m,m<n∧∃(i:Nat) (o:St) (H':Hp),o.length=xs.length∧Inv (X.blkN N2 xs sc (Ja X.env.cells sc.names []) s3.heap.objs.size s3 (upd H2 s2.heap.objs.size (.lst [])) fp) [] (σ++o) H' s9∧tn i s9.heap∧(∀b∈fp,H' b=none)∧W i m H':=fun {H9 s9} I9 n9=>by
        obtain ⟨m',hm,w9⟩:=hN H9 n9
        refine ⟨m',hm,i+1,os',H9,ol8,I9.unpinned,T.keep _ _ _ st7 fun b hb o e=>(I9.pin (b,o) (mem_append_right _ (mem_append_right _ (Zdg hb e)))).1,fun b hb=>?_,w9⟩
        obtain ⟨o,e,d⟩:=T.obj _ _ st7 b hb
        exact (I9.pin (b,o) (mem_append_right _ (mem_append_right _ (Zdg hb e)))).2.1
      refine thn (ht _ _ _ _ _ _ s8 _ H8 _ I8 q8) fun ok s9 ⟨H9,I9,q9⟩=>?_
      cases ok with
      | false =>
        rw [if_neg Bool.false_ne_true] at q9 ⊢
        exact again I9 q9
      | true =>
        rw [if_pos rfl] at q9 ⊢
        refine thn (he _ _ _ _ _ _ s9 _ H9 _ I9 q9) fun ue s10 hz9=>?_
        obtain ⟨ve,H10,I10,r10,ys,hy,hz,q10⟩:=hz9
        refine thn (Zlq _ s10 _ H10 (.ref s2.heap.objs.size) [ve] (.ref s2.heap.objs.size) [ue] (fun _ H'=>N H') I10 rfl (.cons r10 .nil) ⟨_,ys,ve,rfl,rfl,hy,hz,q10⟩) fun _ s11 hz9=>?_
        obtain ⟨_,H11,I11,_,q11⟩:=hz9
        exact again I11 q11
  have fin':codeAny (model X.prog X.w) X.A (.compStart (.ListComp elt [⟨tg,iter,ifs,0⟩] sc pos) 0 (.ref it) (.ref s2.heap.objs.size) (compEnvC sc (Ja X.env.cells sc.names []) s3.heap.objs.size X.env)) (RR (.ref s2.heap.objs.size) s3.heap.objs.size) {s3 with heap:=h₁,toks:=s3.toks+([]:List (Str×Value)).length}:=
    codeAny_compStart_list (loop _ rfl) (T.self _ 0 _ _ _ st4 (loop _ rfl))
  exact fin'
theorem Xew (hc:X.calm=true)(B:Xgp sc X.env.scope xs X.N N2)(hi:PI X tg iter wi)(hg:∀cl C s0 H0 fp,PG (X.blkN N2 xs sc cl C s0 H0 fp) tg g)(ht:∀cl C s0 H0 fp,PIf (X.blkN N2 xs sc cl C s0 H0 fp) ifs tc)(he:∀cl C s0 H0 fp,PE (X.blkN N2 xs sc cl C s0 H0 fp) elt te)
  (hs:∀v,foldedSetIterable iter X.env v=pure v:=by intro _;rfl):PE X (.ListComp elt [⟨tg,iter,ifs,0⟩] sc pos) (Zii xs.length g wi tc te):=by
 intro pins s σ H Q I h
 rw [eval_ListComp]
 have hcl:∀y∈sc.names,y.2=.free→∃c,X.env.cells.lookup y.1=some c:=fun y hy hf=>I.ok.has y.1 (B.free y hy hf)
 refine wpAny_comprehension_free (use:=none) rfl hs (Zdp hcl) B.kind B.loc (thn (hi pins s σ H _ I h) fun v s1 h1=>thn h1 fun itv s2 h2=>?_)
 obtain ⟨it,fp,tn,J,H2,e,I2,T,st2,f2,hw⟩:=h2
 subst e
 refine Zqb (RR:=fun acc C=>compPost (model X.prog X.w) X.A X.xe none (EP X pins σ Q) acc C) hc B hg ht he I2 T st2 f2 hw ?_
 intro D C H' s' m I' hn hC q
 obtain ⟨c0,c1,c2,c3,c4,c5⟩:=hC
 refine ⟨m,hn,fun h'' hs''=>⟨.ref D,H',?_,rfl,q⟩⟩
 exact I'.turned (t':=s'.toks) (fun b o hb e=>hs''.extBut b o hb e) c0 c1 c3 c4 c5
theorem Xbv {i:Nat}{y:Str}{py spos:Pos}(hc:X.calm=true)(B:Xgp sc X.env.scope xs X.N N2)(hi:PI X tg iter wi)(hg:∀cl C s0 H0 fp,PG (X.blkN N2 xs sc cl C s0 H0 fp) tg g)(ht:∀cl C s0 H0 fp,PIf (X.blkN N2 xs sc cl C s0 H0 fp) ifs tc)(he:∀cl C s0 H0 fp,PE (X.blkN N2 xs sc cl C s0 H0 fp) elt te)
    (hy:X.N[i]?=some y) (hl:X.env.scope.names.lookup y=some .local) (hsw:swapsWith (.ListComp elt [⟨tg,iter,ifs,0⟩] sc pos) (some (.Name y py)) spos.line X.env=pure true:=by rfl)
    (hs:∀v,foldedSetIterable iter X.env v=pure v:=by intro _;rfl):PS X (.Assign [.Name y py] (.ListComp elt [⟨tg,iter,ifs,0⟩] sc pos) spos) (Zuq (Zii xs.length g wi tc te) (Zbx i)):=by
  intro pins s σ H D I h
  have hx:=exec_Assign_Name_used (env:=X.env) _ _ _ _ hsw
  rw [hx]
  refine wpAny_bind (wpAny_standAt ?_)
  refine wpAny_bind ?_
  show wpAny _ X.A (do let _ ← comprehension (.ListComp elt [⟨tg,iter,ifs,0⟩] sc pos) sc X.env _ (newList []) false (eval iter X.env) (some (assign (.Name y py) X.env))) _ _ s
  have hcl:∀y∈sc.names,y.2=.free→∃c,X.env.cells.lookup y.1=some c:=fun y hy hf=>I.ok.has y.1 (B.free y hy hf)
  refine wpAny_bind (wpAny_mono (wpAny_comprehension_free (use:=some (assign (.Name y py) X.env)) (Q:=fun _ s'=>SP X pins D .next s') rfl hs (Zdp hcl) B.kind B.loc
    (thn (hi pins s σ H _ I h) fun v s1 h1=>thn h1 fun itv s2 h2=>?_)) (fun _ s' hq=>wpAny_pure (wpAny_pure hq)) fun _ _ e=>e)
  obtain ⟨it,fp,tn,J,H2,e,I2,T,st2,f2,hw⟩:=h2
  subst e
  refine Zqb (Q:=fun v H1=>Zbx i v σ H1 D.nx) (RR:=fun acc C=>compPost (model X.prog X.w) X.A X.xe (some (assign (.Name y py) X.env)) (fun _ s'=>SP X pins D .next s') acc C) hc B hg ht he I2 T st2 f2 hw ?_
  intro E C H' s' m I' hn hC q
  obtain ⟨c0,c1,c2,c3,c4,c5⟩:=hC
  show wpAny _ X.A (assign (.Name y py) X.env (.ref E)) _ _ _
  refine wpAny_assign_Name (Zml (v:=.ref E) I' B.nd hy (.inl hl) rfl (fun s8 I8 ⟨a,sb,ha⟩=>?_) (.inr hl))
  have hCa:C≠a:=by
    rcases ha with z | z
    · rw [z];exact c1
    · exact fun z'=>c4 _ _ z z'.symm
  refine ⟨m,hn.sameBut sb hCa,fun h'' hs''=>⟨_,H',?_,q⟩⟩
  exact I8.turned (t':=s8.toks) (fun b o hb e=>hs''.extBut b o hb e) c0 c1 c3 c4 c5
end
section
variable {X:Cx}{elt iter c tg:Expr}{xs:List Str}{pos:Pos}{ifs:List Expr}{sc esc:Scope}{N N2:List Str}{wi:TI}{tc:TT}{te:TE}{g:TG}
theorem Xbd (esc:Scope)(N N2 xs:List Str)(B:Xgp sc esc xs N N2)(hi:QI X tg iter wi)(hg:∀cl C s0 H0 fp,QG (X.blkN N2 xs sc cl C s0 H0 fp) tg g)(ht:∀cl C s0 H0 fp,QIf (X.blkN N2 xs sc cl C s0 H0 fp) ifs tc)(he:∀cl C s0 H0 fp,QE (X.blkN N2 xs sc cl C s0 H0 fp) elt te)
  (hesc:X.env.scope=esc:=by rfl) (hN:X.N=N:=by rfl) (hc:X.calm=true:=by rfl) (hs:∀v,foldedSetIterable iter X.env v=pure v:=by intro _;rfl):QE X (.ListComp elt [⟨tg,iter,ifs,0⟩] sc pos) (Zii xs.length g wi tc te):=by
 subst hesc hN
 exact ⟨Xew hc B hi.out (fun cl C s0 H0 fp=>(hg cl C s0 H0 fp).out) (fun cl C s0 H0 fp=>(ht cl C s0 H0 fp).out) (fun cl C s0 H0 fp=>(he cl C s0 H0 fp).out) hs⟩
theorem Xaw {i:Nat}{y:Str}{py spos:Pos}(esc:Scope)(N N2 xs:List Str)(B:Xgp sc esc xs N N2)(hy:N[i]?=some y)(hl:esc.names.lookup y=some .local)(hi:QI X tg iter wi)(hg:∀cl C s0 H0 fp,QG (X.blkN N2 xs sc cl C s0 H0 fp) tg g)(ht:∀cl C s0 H0 fp,QIf (X.blkN N2 xs sc cl C s0 H0 fp) ifs tc)(he:∀cl C s0 H0 fp,QE (X.blkN N2 xs sc cl C s0 H0 fp) elt te)
  (hesc:X.env.scope=esc:=by rfl) (hN:X.N=N:=by rfl) (hc:X.calm=true:=by rfl) (hsw:swapsWith (.ListComp elt [⟨tg,iter,ifs,0⟩] sc pos) (some (.Name y py)) spos.line X.env=pure true:=by rfl)
  (hs:∀v,foldedSetIterable iter X.env v=pure v:=by intro _;rfl):QS X (.Assign [.Name y py] (.ListComp elt [⟨tg,iter,ifs,0⟩] sc pos) spos) (Zuq (Zii xs.length g wi tc te) (Zbx i)):=by
 subst hesc hN
 exact ⟨Xbv hc B hi.out (fun cl C s0 H0 fp=>(hg cl C s0 H0 fp).out) (fun cl C s0 H0 fp=>(ht cl C s0 H0 fp).out) (fun cl C s0 H0 fp=>(he cl C s0 H0 fp).out) hy hl hsw hs⟩
end
theorem Zyo (bt:Nat→Nat→Bool):∀k,argBest bt k≤k
 | 0=>le_refl _
 | k+1=>by
  rw [argBest]
  have:=Zyo bt k
  split<;>omega
theorem Zsi (val:Nat→Int):∀k j,j≤k→val j≤val (argBest (fun i j=>decide (val i > val j)) k)
 | 0,j,h=>by
  have e:j=0:=by omega
  subst e
  exact Int.le_refl _
 | k+1,j,h=>by
  have ih:=Zsi val k
  rw [argBest]
  by_cases c:val (k+1) > val (argBest (fun i j=>decide (val i > val j)) k)
  ·rw [if_pos (by simpa using c)]
   by_cases e:j=k+1
   ·subst e;exact Int.le_refl _
   ·have:=ih j (by omega)
    omega
  ·rw [if_neg (by simpa using c)]
   by_cases e:j=k+1
   ·subst e
    omega
   ·exact ih j (by omega)
def Xqp (K:Frag):List V→Hp→VK→Prop:=fun xs H Q=>∃p ns,xs=[.ref p]∧SqL K H p (ns.map V.int)∧ns≠[]∧∀m,m∈ns→(∀n∈ns,n≤m)→Q (.int m) H
def Zxq (K:Frag):List V→Hp→VK→Prop:=fun xs H Q=>(∃i j,xs=[.int i,.int j]∧Q (.int (if j > i then j else i)) H)∨Xqp K xs H Q
section
variable {X:Cx}
theorem Zyz (hc:X.calm=true):Zba X (.builtin "max") (Xqp X.K):=by
 intro pins s σ H xs us Q I r h
 obtain ⟨p,ns,rfl,hq,hne,q⟩:=h
 obtain ⟨u,rfl,rx⟩:=vals1 r
 cases rx
 obtain ⟨its,rv,pl,hz⟩:=I.list hq
 have hi:IntsAre its ns:=intsAre_of rv
 obtain ⟨xs,hxs⟩:=hi.allInts.items
 have hn:numsOf its.toArray.toList=ns:=by rw [show its.toArray.toList=its from rfl,hi.numsOf]
 have hl:=pl.isList
 rw [hxs] at hl hn
 rw [nums_intItems] at hn
 have hsz:xs.size=ns.length:=by rw [← hn];simp
 have h0:0<ns.length:=List.length_pos_iff.mpr hne
 have val:∀i,i<ns.length→numAt xs i=ns.getD i 0:=fun i hi=>by
  rw [← hn]
  have:i<xs.size:=by omega
  simp [numAt,List.getD,this]
 refine max_intList (I.ok.hd hc) hl (by omega) fun v h' tk hv hk=>?_
 obtain ⟨tk',rfl⟩:=intItems_at hv
 have hb:=Zyo (fun i j=>decide (numAt xs i > numAt xs j)) (xs.size - 1)
 have hlt:argBest (fun i j=>decide (numAt xs i > numAt xs j)) (xs.size - 1)<ns.length:=by omega
 refine ⟨.int (numAt xs (argBest (fun i j=>decide (numAt xs i > numAt xs j)) (xs.size - 1))),H,I.kept hk,⟨tk',rfl⟩,q _ ?_ fun n hn'=>?_⟩
 ·rw [val _ hlt]
  have e:ns.getD (argBest (fun i j=>decide (numAt xs i > numAt xs j)) (xs.size - 1)) 0=ns[argBest (fun i j=>decide (numAt xs i > numAt xs j)) (xs.size - 1)]:=by simp [List.getD,hlt]
  rw [e]
  exact getElem_mem hlt
 ·obtain ⟨j,hj,e⟩:=List.mem_iff_getElem.mp hn'
  have q1:=Zsi (numAt xs) (xs.size - 1) j (by omega)
  rw [val j hj] at q1
  have e2:ns.getD j 0=ns[j]:=by simp [List.getD,hj]
  rw [e2,e] at q1
  exact q1
theorem Zzr (hc:X.calm=true):Zba X (.builtin "max") (Zxq X.K):=(Zva hc).or (Zyz hc)
variable {σ:St}{H:Hp}{Q:VK}{D:Ends}{K:Frag}
theorem Xkb {i j:Int}(q:Q (.int (if j > i then j else i)) H):Zxq K [.int i,.int j] H Q:=.inl ⟨i,j,rfl,q⟩
theorem Xit {p:Addr}{ns:List Int}(h:SqL K H p (ns.map V.int))(hne:ns≠[])(q:∀m,m∈ns→(∀n∈ns,n≤m)→Q (.int m) H):Zxq K [.ref p] H Q:=.inr ⟨p,ns,rfl,h,hne,q⟩
variable {a b c e o i':Expr}{to ti te:TE}{tc:TT}{pos p2 apos cpos:Pos}{body:List Stmt}{tb:TS}
theorem Xak (hp:PassesOwn (model X.prog X.w) X.A X.env X.xe)(hc:QT X c tc)(hb:QSs X body tb):QS X (.While c body [] pos) (Zqh tc tb):=⟨Xcp hp hc.out hb.out⟩
theorem Xpx {i:Nat}{x:Str}{op:Operator}{tp:TIp}{pos':Pos}(hN:X.N.Nodup)(hi:X.N[i]?=some x)(hx:Loc X.env.scope x)(he:QE X e te)(ho:PIp X op tp)(hf:autoParam (X.fn x=true∨X.env.scope.names.lookup x=some .local) aT0._auto_1) :
  QS X (.AugAssign (.Name x pos') op e pos) (tAug i te tp):=⟨Xnz hN hi hx he.out ho hf⟩
end
theorem Xkz:typeLookup (.type "list_reverseiterator") "__len__"=pure none:=by rw [typeLookup_type,builtinLookup_eq_fast];kernel_rfl
theorem Xbl:typeLookup (.type "list_reverseiterator") "__length_hint__"=pure (some (.builtin "list_reverseiterator.__length_hint__")):=by rw [typeLookup_type,builtinLookup_eq_fast];kernel_rfl
section
variable {s:Shared}{E:Value→Shared→Prop}{A:Around}{P:Program}{w:World}
theorem Zzw {it l:Addr}{i:Int}{Q:Bool→Shared→Prop}(hit:s.heap.IsRevIter it l i)(h:Q false s):wpAny (model P w) A (Builtin.List.listLengthHint (.ref it)) Q E s:=by
 delta Builtin.List.listLengthHint
 refine wpAny_bind (wpAny_specialOf hit.typeIs Xkz ?_)
 refine wpAny_ite_split (fun z=>absurd z (by decide +kernel)) fun _=>?_
 refine wpAny_ite_split (fun z=>absurd z (by decide +kernel)) fun _=>?_
 refine wpAny_bind (wpAny_specialOf hit.typeIs Xbl ?_)
 generalize hid:("list_reverseiterator.__length_hint__":String)=id0
 wp_delta
 rw [show splitId id0=some ("list_reverseiterator","__length_hint__") from by subst hid;decide +kernel]
 subst hid
 refine wpAny_bind (wpAny_isInstance (T:="list_reverseiterator") (b:=true) hit.typeIs (by rw [isSubtype_type];kernel_rfl) ?_)
 refine wpAny_ite_split (fun z=>absurd z (by decide)) fun _=>?_
 refine wpAny_ite_split (fun _=>?_) fun z=>absurd (by decide +kernel) z
 refine wpAny_ite_split (fun z=>absurd z (by decide +kernel)) fun _=>?_
 exact wpAny_pure h
theorem Zsy {R:Result→Shared→Prop}{it l:Addr}{items:Array Value}(hh:A.handled=none)(hit:s.heap.IsRevIter it l ((items.size:Int) - 1))(hl:s.heap.IsList l items)(hne:l≠it)(hn:items.size≤sizeLine)(S:Addr)(res:Value)(c₀:Nat)
    (hN:s.heap.get? S=some {cls:=.type "list",data:=.seq #[] c₀}) (hSi:S≠it) (hSl:S≠l)
    (hR:∀h' tk acc' c',(∀b o,b≠S→b≠it→s.heap.get? b=some o→h'.get? b=some o)→h'.get? S=some {cls:=.type "list",dict:=none,data:=.seq acc' c',slots:=#[]}→
      ItemsOf (fun i v=>items[items.size - 1 - i]?=some v) acc' items.size→R (.ok (.ret res)) {s with heap:=h',toks:=tk}) :
    wpAny (model P w) A.in1 (Builtin.List.listExtendWith (.ref S) (.ref it) res)
      (fun fi s1=>match fi with | .done fl=>R (.ok fl) s1 | .again cd=>cd.quiet=true∧codeAny (model P w) A cd R s1) (fun ev s1=>R (.error ev) s1) s:=by
  have W:=(Walks.listRev (prog:=P) (w:=w) (A:=A.in1) hh it l hne items).toS
  have key:codeAny (model P w) A (.builtin "list.extend.loop" ⟨[.ref S,.ref it,res],[]⟩) R s:=by
    refine codeAny_extend_loopS W hn S (by simp [hSi,hSl]) res items.size 0 s #[] c₀ rfl (zero_le _) ⟨zero_le _,by simpa using hit,hl⟩ hN (ItemsOf.nil _) fun s' acc' c' hm hN1 hacc=>?_
    rw [Moved.eq_with hm]
    exact hR s'.heap s'.toks acc' c' (fun b o hb hbi e=>hm.heap b o (by simp [hb,hbi]) e) hN1 hacc
  delta Builtin.List.listExtendWith
  refine wpAny_bind (wpAny_typeOf (T:="list_reverseiterator") hit.typeIs ?_)
  have h1:Builtin.List.listSameRef (.ref S) (.ref it)=false:=by simp [Builtin.List.listSameRef,hSi]
  have h2:(Value.type "list_reverseiterator"==Value.type "list")=false:=by decide
  have h3:(Value.type "list_reverseiterator"==Value.type "tuple")=false:=by decide
  simp only [h1,h2,h3,Bool.or_false,if_false,Bool.false_eq_true]
  refine wpAny_bind (wpAny_pyIter_revIter hit ?_)
  refine wpAny_bind (wpAny_holding (Zzw hit ?_))
  exact wpAny_ite_split (fun z=>absurd z (by decide +kernel)) (fun _=>wpAny_pure ⟨plainId_quiet F.plain_extend_loop _,key⟩)
theorem Zkl {Q:Value→Shared→Prop}{it l:Addr}{items:Array Value}(hh:A.handled=none)(hit:s.heap.IsRevIter it l ((items.size:Int) - 1))(hl:s.heap.IsList l items)(hne:l≠it)(hn:items.size≤sizeLine)
    (hQ:∀h' tk acc' c',(∀b o,b≠it→s.heap.get? b=some o→h'.get? b=some o)→h'.get? s.heap.objs.size=some {cls:=.type "list",dict:=none,data:=.seq acc' c',slots:=#[]}→
      ItemsOf (fun i v=>items[items.size - 1 - i]?=some v) acc' items.size→Q (.ref s.heap.objs.size) {s with heap:=h',toks:=tk}) :
    wpAny (model P w) A (call (.type "list") [.ref it]) Q E s:=by
  have hit0:=hit
  obtain ⟨oi,hoi,_⟩:=id hit
  obtain ⟨ol,hol,_⟩:=id hl
  have hi:it<s.heap.objs.size:=lt_size hoi
  have hLl:l<s.heap.objs.size:=lt_size hol
  refine callType_codes (Q₁:=fun ob z=>ob=.ref s.heap.objs.size∧z={s with heap:=s.heap.push {cls:=.type "list",data:=.seq #[]}}) F.called_list (F.typeCall_list_1 _) F.entry_list_init
    (code_list_new _ ⟨rfl,rfl⟩) fun ob z h1=>?_
  obtain ⟨rfl,rfl⟩:=h1
  have hN:(s.heap.push {cls:=.type "list",data:=.seq #[]}).get? s.heap.objs.size=some {cls:=.type "list",data:=.seq #[]}:=get?_push_size _ rfl
  refine ⟨⟨_,hN,rfl⟩,F.args_list_init_2 _ _,?_⟩
  show wpAny _ _ (do let old ← Builtin.List.listItems (.ref s.heap.objs.size);Builtin.List.listUpdate (.ref s.heap.objs.size) (fun _=>#[]);letGo old.toList.reverse;Builtin.List.listExtendWith (.ref s.heap.objs.size) (.ref it) .none) _ _ _
  refine wpAny_bind ?_
  unfold Builtin.List.listItems
  refine wpAny_bind (wpAny_seqItems hN rfl (wpAny_pure ?_))
  show wpAny _ _ (updateSeq s.heap.objs.size (fun _=>#[]) >>= fun _=>letGo (#[]:Array Value).toList.reverse >>= fun _=>Builtin.List.listExtendWith (.ref s.heap.objs.size) (.ref it) .none) _ _ _
  refine wpAny_bind (wpAny_updateSeq hN rfl ?_)
  have hN2:=Heap.get?_update_self (Obj.mapSeq (fun _=>(#[]:Array Value))) hN rfl
  have oth:∀b o,b≠s.heap.objs.size→s.heap.get? b=some o→((s.heap.push {cls:=.type "list",data:=.seq #[]}).update s.heap.objs.size (Obj.mapSeq (fun _=>(#[]:Array Value)))).get? b=some o:=
    fun b o hb e=>(get?_update_other _ _ (Ne.symm hb)).trans (get?_push_of_some _ e)
  refine wpAny_bind (wpAny_letGo ?_)
  refine Zsy (A:=A.in1) hh (hit0.at fun o e=>oth it o (ne_of_lt hi) e) (hl.at fun o e=>oth l o (ne_of_lt hLl) e) hne hn _ .none _ hN2 (ne_of_gt hi) (ne_of_gt hLl) fun h' tk acc' c' hk hN1 hacc=>?_
  exact ⟨rfl,hQ h' tk acc' c' (fun b o hb e=>hk b o (ne_of_lt (lt_size e)) hb (oth b o (ne_of_lt (lt_size e)) e)) hN1 hacc⟩
end
section
variable {X:Cx}{e:Expr}{te:TE}{p p' pos pos':Pos}
def Xbg (K:Frag)(te:TE):TE:=fun σ H Q=>Zgb te Zuh σ H fun vs H1=>∃a xs,vs=[.ref a]∧SqL K H1 a xs∧∀r,H1 r=none→Q (.ref r) (upd H1 r (.lst xs.reverse))
theorem Xmc (hc:X.calm=true)(hg:Gl X "list")(hm:X.mg "list"=none)(hg':Gl X "reversed")(hm':X.mg "reversed"=none)(he:PE X e te)(hs2:starEach [e] X.env=(false,eval e X.env)::starEach [] X.env) :
  PE X (.Call (.Name "list" p) [.Call (.Name "reversed" p') [e] [] pos'] [] pos) (Xbg X.K te):=by
 intro pins s σ H Q I h
 refine wpAny_Call_Name_kw (Zgh I hg hm boot_list ?_ (by decide) (by decide))
 refine PyProof.Rows.callWith_type1 ?_ Xa rfl
 rw [Xa]
 show wpAny _ _ (spliced ((false,eval (.Call (.Name "reversed" p') [e] [] pos') X.env)::backTo pos (starEach [] X.env))) _ _ s
 refine Calls.spliced_cons ?_
 refine wpAny_Call_Name_kw (Zgh I hg' hm' boot_reversed ?_ (by decide) (by decide))
 refine PyProof.Rows.callWith_type1 (thn (Zpv he Zvd hs2 pos' pins s σ H _ I h) fun us s1 hz9=>?_) hs2 rfl
 obtain ⟨vs,H1,I1,r1,q1⟩:=hz9
 obtain ⟨a,xs,rfl,hq,q⟩:=q1
 obtain ⟨u,rfl,rx⟩:=vals1 r1
 cases rx
 obtain ⟨its,rv,pl,hz⟩:=I1.list hq
 have hlen:=rv.length
 have hl:=pl.isList
 obtain ⟨oa,hoa,_⟩:=id hl
 have ha:a<s1.heap.objs.size:=lt_size hoa
 refine call_reversed_list hl (Calls.spliced_nil ?_)
 refine Zkl (it:=s1.heap.objs.size) (l:=a) (items:=its.toArray) (I1.ok.hd hc) ⟨_,get?_push_size _ rfl,rfl,rfl⟩ (hl.push _) (ne_of_lt ha) (by rw [size_toArray];omega) fun h' tk acc' c' hk hN1 hacc=>?_
 have hsz:(s1.heap.push (revObj a ((its.toArray.size:Int) - 1))).objs.size=s1.heap.objs.size+1:=size_push ..
 have hle:s1.heap.objs.size≤(s1.heap.push (revObj a ((its.toArray.size:Int) - 1))).objs.size:=by rw [hsz];exact le_succ _
 have hk1:∀b o,s1.heap.get? b=some o→h'.get? b=some o:=fun b o e=>hk b o (ne_of_lt (lt_size e)) (get?_push_of_some _ e)
 have hrev:acc'.toList=its.reverse:=by
  obtain ⟨h1,h2⟩:=hacc
  have h0:acc'.size=its.length:=h1.trans (size_toArray ..)
  refine List.ext_getElem? fun j=>?_
  by_cases hj:j<its.length
  ·have hj':j<acc'.size:=by omega
   have e1:=h2 j acc'[j] (Array.getElem?_eq_getElem hj')
   have e2:its.toArray[its.toArray.size - 1 - j]?=its[its.length - 1 - j]?:=by simp
   rw [getElem?_toList,Array.getElem?_eq_getElem hj',List.getElem?_reverse hj,← e2]
   exact e1.symm
  ·rw [getElem?_eq_none (by simp;omega),getElem?_eq_none (by simp;omega)]
 refine ⟨.ref _,_,I1.laid (o:=.lst xs.reverse) (t':=tk) hk1 hle ?_,rfl,q _ (I1.hok.fresh hle)⟩
 refine ⟨by rw [length_reverse];exact hz,acc'.toList,c',?_,?_⟩
 ·rw [hrev]
  exact rv.reverse
 ·rw [hN1]
theorem Xjd (hg:Gl X "list")(hm:X.mg "list"=none)(hg':Gl X "reversed")(hm':X.mg "reversed"=none)(he:QE X e te)(hs2:starEach [e] X.env=(false,eval e X.env)::starEach [] X.env)(hc:X.calm=true:=by rfl) :
  QE X (.Call (.Name "list" p) [.Call (.Name "reversed" p') [e] [] pos'] [] pos) (Xbg X.K te):=⟨Xmc hc hg hm hg' hm' he.out hs2⟩
variable {σ:St}{H:Hp}{Q:VK}{K:Frag}
end
section
variable {X:Cx}
theorem truths {prog:Program}{w:World}{A:Around}{bs:List Bool}{its:List Value}(rv:Ys (bs.map V.bl) its):TruthOf prog w A (fun i v=>its.toArray[i]?=some v) (fun i=>bs.getD i false):=by
  intro i v s Q E hv hQ
  have hl:=rv.length
  rw [length_map] at hl
  have hv':its[i]?=some v:=by simpa using hv
  have hi:i<its.length:=(List.getElem?_eq_some_iff.mp hv').1
  obtain ⟨u,e,ru⟩:=rv.get (i:=i) (x:=V.bl (bs.getD i false)) (by
    rw [getElem?_map,getElem?_eq_getElem (by omega)]
    simp [List.getD,show i<bs.length by omega])
  rw [hv'] at e
  cases e
  cases (show v=Value.bool (bs.getD i false) from ru)
  exact wpAny_truthy_bool hQ
variable {H:Hp}{Q:VK}{K:Frag}
end
noncomputable def rIsA (neg:Bool):R2:=fun x y H Q=>(y=.non∧Q (.bl (if neg then !decide (x=.non) else decide (x=.non))) H)∨∃b c,x=.bl b∧y=.bl c∧Q (.bl (if neg then !(b==c) else b==c)) H
section
variable {X:Cx}
theorem Xft:OpR X (compareOp .Is) (rIsA false):=by
 intro pins s σ H x y v u Q I rx ry h
 rcases h with ⟨rfl,q⟩ | ⟨b,c,rfl,rfl,q⟩
 ·exact Xmw pins s σ H x .non v u Q I rx ry ⟨rfl,q⟩
 ·cases (show v=Value.bool b from rx)
  cases (show u=Value.bool c from ry)
  refine wpAny_is_plain (by cases b<;>cases c<;>rfl) ⟨.bl (b==c),H,I,?_,q⟩
  cases b<;>cases c<;>rfl
theorem Zvj:OpR X (compareOp .IsNot) (rIsA true):=by
 intro pins s σ H x y v u Q I rx ry h
 rcases h with ⟨rfl,q⟩ | ⟨b,c,rfl,rfl,q⟩
 ·exact Xjc pins s σ H x .non v u Q I rx ry ⟨rfl,q⟩
 ·cases (show v=Value.bool b from rx)
  cases (show u=Value.bool c from ry)
  refine wpAny_isNot_plain (by cases b<;>cases c<;>rfl) ⟨.bl (!(b==c)),H,I,?_,q⟩
  cases b<;>cases c<;>rfl
variable {H:Hp}{Q:VK}{K:Frag}
end
noncomputable def Dk {α:Type}:Sem α→Prop
 | .pure _=>True
 | .raise _=>True
 | .unsupported _=>True
 | .finish _=>True
 | .rule _ k=>Dk (k ())
 | .at _ k=>Dk (k ())
 | .load _ _ k=>∀o,Dk (k o)
 | .update _ _ f k=>(∀o:Obj,o.isFreed=false→(f o).isFreed=false∧(f o).dict=o.dict)∧Dk (k ())
 | .alloc _ k=>∀a,Dk (k a)
 | .loadIfAlive _ k=>∀o,Dk (k o)
 | .point _ k=>Dk (k ())
 | .fresh k=>∀a,Dk (k a)
 | .ask k=>∀a,Dk (k a)
 | .choose _ _ k=>∀a,Dk (k a)
 | .os _ _ k=>∀a,Dk (k a)
 | .handled _ k=>∀a,Dk (k a)
 | .stack k=>∀a,Dk (k a)
 | .thread k=>∀a,Dk (k a)
 | .register _ _=>False
 | .call ..=>False
 | .newGen ..=>False
 | .genState ..=>False
 | .resume ..=>False
 | .yield ..=>False
 | .fork ..=>False
 | .await ..=>False
section
variable {X:Cx}{pins:List (Addr×Obj)}{σ:St}{H H':Hp}{s:Shared}{h':Heap}
end
section
variable {X:Cx}{pins:List (Addr×Obj)}{σ:St}{H:Hp}{s:Shared}
structure Kept (X:Cx)(own:List Addr)(h h':Heap):Prop where
 st:(hideAll h (own++frs X.stack)).StaysIn h'
 fr:h'.FunFrames (hideAll h (own++frs X.stack)) X.stack
 up:h.UpToSlots h'
end
noncomputable abbrev bmV:List Value:=[.type "ValueError",.type "Exception",.type "BaseException",.type "object"]
section
variable {X:Cx}{pins:List (Addr×Obj)}{σ:St}{H:Hp}{s:Shared}
noncomputable def exO (e:Addr)(cls:Value)(dx:Option Addr):HO:=.ext fun h=>∃o vs,h.get? e=some o∧o.cls=cls∧o.data=.fields vs∧o.dict=dx
noncomputable abbrev Cx.hand (X:Cx)(e:Addr):Cx:={X with A:=X.A.mark (some (.ref e)),calm:=false,xe:=fun _ _=>False}
end
end L2
namespace L2
open PySem PySem.Spec
section
variable {prog:Program}{w:World}{A:Around}{E:Value→Shared→Prop}{h:Heap}{g:Array GenState}{d:Drawn}{t:Nat}{os:OsState}{a C:Addr}{o:Obj}{vs:Array Value}
open PySem.W (Looks)
end
end L2
namespace L2
open PySem PySem.Spec PyProof.Rows
noncomputable abbrev TJ:=St→Hp→(Hp→Prop)→Prop
def PJ (X:Cx)(es:List Expr)(t:TJ):Prop:=
 ∀(out:Str) (pins:List (Addr×Obj)) (s:Shared) (σ:St) (H:Hp) (Q:VK),Inv X pins σ H s→out.length+2000*es.length≤sizeLine→t σ H (fun H1=>∀z,Q (.str z) H1)→
  wpAny (model X.prog X.w) X.A (joinParts out (evalEach es X.env)) (EP X pins σ Q) X.xe s
structure QJ (X:Cx)(es:List Expr)(t:TJ):Prop where
 out:PJ X es t
section
variable {X:Cx}{a b e:Expr}{es:List Expr}{te:TE}{t:TJ}{pos:Pos}
end
end L2
namespace L2
open PySem PySem.Spec PyProof.Rows
open PySem.W (Looks)
structure ErrIn (K:Frag)(C:Addr):Prop where
 exc:PySem.W.excIn K C bmV "ValueError.__new__"=true
 ty:typeIn K (.ref C)=some (.type "type")
 cl:∃c,clsIn K C=some c
 ga:findIn K (.ref C) "__getattribute__"=some (some (.builtin "BaseException.__getattribute__"))
 ge:findIn K (.ref C) "__getattr__"=some none
 lk:findIn K (.ref C) "__class__"=some (some (.builtin "object.__class__"))
 so:subIn K (.ref C) (.type "object")=some true
 sb:subIn K (.ref C) (.type "BaseException")=some true
 se:subIn K (.ref C) (.ref C)=some true
section
variable {K:Frag}{C D e:Addr}{b:Bool}
structure ErrK (K:Frag)(C:Addr):Prop where
 ob:∃dd cd sl,K.lookup C=some ⟨.type "type",dd,.cls cd,sl⟩
 ty:typeIn K (.ref C)=some (.type "type")
 cl:∃c,clsIn K C=some c
 ga:findIn K (.ref C) "__getattribute__"=some (some (.builtin "BaseException.__getattribute__"))
 ge:findIn K (.ref C) "__getattr__"=some none
 lk:findIn K (.ref C) "__class__"=some (some (.builtin "object.__class__"))
 so:subIn K (.ref C) (.type "object")=some true
 sb:subIn K (.ref C) (.type "BaseException")=some true
 se:subIn K (.ref C) (.ref C)=some true
variable {X:Cx}
end
section
variable {σ:St}{H:Hp}{Q:VK}{D:Ends}{K:Frag}
variable {X:Cx}{a b c d:Expr}{ta tb tc td:TE}{pos:Pos}
end
section
variable {X:Cx}{e:Expr}{es:List Expr}{t:TA}{np cpos pos hpos:Pos}
end
end L2
namespace L2
open PySem PySem.Spec PyProof.Rows
structure Pl (n:Nat)(x:Str):Prop where
 len:x.length≤n
 asc:∀c∈x.cps.toList,c<128
section
variable {X:Cx}{e:Expr}{te:TE}{pos:Pos}
end
section
variable {κ:Type}[DecidableEq κ]
noncomputable def putK (kvs:List (κ×V))(k:κ)(v:V):List (κ×V):=
 if (kvs.any fun kv=>decide (kv.1=k))=true then kvs.map (fun kv=>if kv.1=k then (kv.1,v) else kv) else kvs++[(k,v)]
end
section
variable {P:Program}{w:World}{H:Hp}{h:Heap}{a:Addr}
end
def DPut (H:Hp)(a:Addr)(y v:V)(H':Hp):Prop:=
 (∃kvs k,H a=some (.dK kvs)∧y=kV k∧kvs.length<sizeLine∧H'=upd H a (.dK (putK kvs k v)))∨
 ∃kvs k b,H a=some (.dT kvs)∧y=.ref b∧H b=some (.tup (k.map kV))∧kvs.length<sizeLine∧H'=upd H a (.dT (putK kvs k v))
section
variable {X:Cx}{pins:List (Addr×Obj)}{σ:St}{H:Hp}{s:Shared}{a:Addr}{y v:V}{u r:Value}{o:Option V}{A:Around}{E:Value→Shared→Prop}
end
section
variable {X:Cx}{pins:List (Addr×Obj)}{σ:St}{H:Hp}{s:Shared}{a:Addr}{kvs:List (Key×V)}{k:Key}{u:Value}{A:Around}{E:Value→Shared→Prop}
end
def sDPut (td ty tv:TE):TS:=fun D σ H=>tv σ H fun v H1=>td σ H1 fun x H2=>ty σ H2 fun y H3=>∃a H4,x=.ref a∧DPut H3 a y v H4∧D.nx σ H4
section
variable {X:Cx}{o i e value:Expr}{pos pos' tpos:Pos}{td ty tv:TE}
end
noncomputable def Xrj:List (TE×TE)→St→Hp→(List (V×V)→Hp→Prop)→Prop
 | [],_,H,Q=>Q [] H
 | (tk,tv)::r,σ,H,Q=>tk σ H fun x H1=>tv σ H1 fun y H2=>Xrj r σ H2 fun ps H3=>Q ((x,y)::ps) H3
structure M1 (X:Cx)(o:Expr)(m:Str)(apos:Pos)(e:Expr)(cpos:Pos):Prop where
  base:attributeBase o m X.env (eval o X.env)=eval o X.env
  few:((backTo cpos (starEach [e] X.env)).all (fun x=>!x.1)&&(backToKw cpos (keywordEach [] X.env)).all (fun x=>x.1.isSome)
    && decide (([e]:List Expr).length+([]:List Keyword).length+(if ([]:List Keyword).isEmpty then 0 else 1)<30))=true
  line:(apos.endLine==cpos.line)=true
  trees:backTo cpos (starEach [e] X.env)=[(false,eval e X.env)]
structure M2 (X:Cx)(o:Expr)(m:Str)(apos:Pos)(e f:Expr)(cpos:Pos):Prop where
  base:attributeBase o m X.env (eval o X.env)=eval o X.env
  few:((backTo cpos (starEach [e,f] X.env)).all (fun x=>!x.1)&&(backToKw cpos (keywordEach [] X.env)).all (fun x=>x.1.isSome)
    && decide (([e,f]:List Expr).length+([]:List Keyword).length+(if ([]:List Keyword).isEmpty then 0 else 1)<30))=true
  line:(apos.endLine==cpos.line)=true
  trees:backTo cpos (starEach [e,f] X.env)=[(false,eval e X.env),(false,eval f X.env)]
section
variable {X:Cx}{pins:List (Addr×Obj)}{σ:St}{H:Hp}{s:Shared}{a:Addr}{y d:V}{u r:Value}{o:Option V}{A:Around}{E:Value→Shared→Prop}
end
section
variable {X:Cx}{o e f:Expr}{apos cpos:Pos}{td ty tx:TE}
variable {pins:List (Addr×Obj)}{σ:St}{H:Hp}{s:Shared}{a:Addr}{kvs:List (Key×V)}{A:Around}{E:Value→Shared→Prop}
end
section
variable {X:Cx}{pins:List (Addr×Obj)}{σ:St}{H:Hp}{s:Shared}{a:Addr}{y:V}{u:Value}{A:Around}{E:Value→Shared→Prop}
end
end L2
namespace Dl
open PySem
set_option genInjectivity true in
inductive D where
 | non
 | bl (b:Bool)
 | int (i:Int)
 | str (x:Str)
 | lst (xs:List D)
 | tup (xs:List D)
 | scr (ns:List Int)
 | rng (lo hi:Int)
 | exc (c:String) (f:Option Int)
 | obj (c:String) (ns:List Str) (xs:List D)
 | dct (ks:List (Int ⊕ Str)) (xs:List D)
 | dtt (ks:List (List (Int ⊕ Str))) (xs:List D)
 deriving Inhabited
set_option genInjectivity true in
inductive R (α:Type) where
 | ok (a:α)
 | err (c:String) (f:Option Int)
 | bad
noncomputable abbrev Env:=List (Option D)
set_option genInjectivity true in
inductive Fl where
 | nx (ρ:Env)
 | ret (d:D)
 | brk (ρ:Env)
 | cnt (ρ:Env)
noncomputable def R.bind {α β:Type}:R α→(α→R β)→R β
 | .ok a,f=>f a
 | .err c x,_=>.err c x
 | .bad,_=>.bad
@[simp] theorem Zzl {α β:Type}(a:α)(f:α→R β):(R.ok a).bind f=f a:=(rfl)
@[simp] theorem bind_err {α β:Type}(c:String)(x:Option Int)(f:α→R β):(R.err c x:R α).bind f=.err c x:=(rfl)
@[simp] theorem bind_bad {α β:Type}(f:α→R β):(R.bad:R α).bind f=.bad:=(rfl)
noncomputable abbrev FE:=Env→R D
noncomputable abbrev FT:=Env→R Bool
noncomputable abbrev FA:=Env→R (List D)
noncomputable abbrev FO:=Env→R (Option Int)
noncomputable abbrev FS:=Env→R Fl
noncomputable def fC (d:D):FE:=fun _=>.ok d
noncomputable def fV (i:Nat):FE:=fun ρ=>match ρ[i]? with
 | some (some d)=>.ok d
 | _=>.bad
noncomputable def oR {α:Type}:Option α→R α
 | some a=>.ok a
 | none=>.bad
@[simp] theorem oR_some {α:Type}(a:α):oR (some a)=.ok a:=(rfl)
@[simp] theorem oR_none {α:Type}:(oR (none:Option α))=.bad:=(rfl)
noncomputable def f1 (g:D→Option D)(a:FE):FE:=fun ρ=>(a ρ).bind fun x=>oR (g x)
noncomputable def f2 (g:D→D→Option D)(a b:FE):FE:=fun ρ=>(a ρ).bind fun x=>(b ρ).bind fun y=>oR (g x y)
noncomputable def Zu:FA:=fun _=>.ok []
noncomputable def Zd (a:FE)(r:FA):FA:=fun ρ=>(a ρ).bind fun x=>(r ρ).bind fun xs=>.ok (x::xs)
noncomputable def fA (g:List D→Option D)(a:FA):FE:=fun ρ=>(a ρ).bind fun xs=>oR (g xs)
noncomputable def Zx (F:List D→R D)(a:FA):FE:=fun ρ=>(a ρ).bind F
noncomputable abbrev lim:Nat:=1000000
noncomputable def Jy (xs:List D):Option D:=if xs.length≤lim then some (.lst xs) else none
noncomputable def Zca (xs:List D):Option D:=if xs.length≤lim then some (.tup xs) else none
mutual
noncomputable def flat:D→Bool
 | .lst _=>false
 | .tup xs=>Yw xs
 | .non=>true
 | .bl _=>true
 | .int _=>true
 | .str _=>true
 | .scr _=>true
 | .rng _ _=>true
 | .exc _ _=>true
 | .obj _ _ _=>false
 | .dct _ _=>false
 | .dtt _ _=>false
noncomputable def Yw:List D→Bool
 | []=>true
 | x::xs=>flat x&&Yw xs
end
noncomputable def Xr (d:D):Option D:=if flat d then some d else none
noncomputable def Jk:D→D→Option D
 | .int i,.int j=>some (.int (i+j))
 | .str x,.str y=>if x.length+y.length≤lim then some (.str (x++y)) else none
 | .lst xs,.lst ys=>if xs.length+ys.length≤lim∧Yw xs∧Yw ys then some (.lst (xs++ys)) else none
 | _,_=>none
noncomputable def gAddI:D→D→Option D
 | .int i,.int j=>some (.int (i+j))
 | _,_=>none
noncomputable def Zgt:D→D→Option D
 | .int i,.int j=>some (.int (i - j))
 | _,_=>none
noncomputable def short (i:Int):Bool:=decide (-(2 ^ 64)<i)&&decide (i<2 ^ 64)
noncomputable def Zco:D→D→Option D
 | .int i,.int j=>if short i||short j then some (.int (i*j)) else none
 | .lst xs,.int k=>if k≤1000000∧xs.length*k.toNat≤lim∧-1000000≤k∧Yw xs then some (.lst (List.replicate k.toNat xs).flatten) else none
 | _,_=>none
noncomputable def Zhe:D→D→Option D
 | .int i,.int j=>if 0<j then some (.int (i % j)) else none
 | _,_=>none
noncomputable def Xmi:D→D→Option D
 | .int i,.int j=>if 0<j∧j<2 ^ 200 then some (.int (i / j)) else none
 | _,_=>none
noncomputable def Zjv:D→D→Option D
 | .int i,.int j=>if 0≤j∧j≤1000000∧i.natAbs<2 ^ 64 then some (.int (i ^ j.toNat)) else none
 | _,_=>none
noncomputable def Zod:D→Option D
 | .int i=>some (.int (-i))
 | _=>none
noncomputable def gLt:D→D→Option D
 | .int i,.int j=>some (.bl (decide (i<j)))
 | _,_=>none
noncomputable def gLe:D→D→Option D
 | .int i,.int j=>some (.bl (decide (i≤j)))
 | _,_=>none
noncomputable def gGt:D→D→Option D
 | .int i,.int j=>some (.bl (decide (j<i)))
 | _,_=>none
noncomputable def gGe:D→D→Option D
 | .int i,.int j=>some (.bl (decide (j≤i)))
 | _,_=>none
mutual
noncomputable def dep:D→Nat
 | .lst xs=>Zoe xs+1
 | .tup xs=>Zoe xs+1
 | .scr _=>100
 | .rng _ _=>100
 | .exc _ _=>100
 | .obj _ _ _=>100
 | .dct _ _=>100
 | .dtt _ _=>100
 | .non=>0
 | .bl _=>0
 | .int _=>0
 | .str _=>0
noncomputable def Zoe:List D→Nat
 | []=>0
 | x::xs=>max (dep x) (Zoe xs)
end
mutual
noncomputable def eqv:D→D→Bool
 | .non,.non=>true
 | .bl a,.bl b=>a==b
 | .bl a,.int j=>(if a then 1 else 0)==j
 | .int i,.bl b=>i==(if b then 1 else 0)
 | .int i,.int j=>i==j
 | .str x,.str y=>x==y
 | .lst xs,.lst ys=>Xjo xs ys
 | .tup xs,.tup ys=>Xjo xs ys
 | _,_=>false
noncomputable def Xjo:List D→List D→Bool
 | [],[]=>true
 | x::xs,y::ys=>eqv x y&&Xjo xs ys
 | _,_=>false
end
noncomputable def gEq (a b:D):Option D:=if dep a≤20∧dep b≤20 then some (.bl (eqv a b)) else none
noncomputable def gNe (a b:D):Option D:=if dep a≤20∧dep b≤20 then some (.bl (!eqv a b)) else none
noncomputable def Zjn:D→Bool
 | .non=>true
 | _=>false
noncomputable def gIs (x:D):D→Option D
 | .non=>some (.bl (Zjn x))
 | .bl c=>match x with
  | .bl b=>some (.bl (b==c))
  | _=>none
 | _=>none
noncomputable def Zke (x:D):D→Option D
 | .non=>some (.bl (!Zjn x))
 | .bl c=>match x with
  | .bl b=>some (.bl (!(b==c)))
  | _=>none
 | _=>none
noncomputable def ixD (n:Nat)(i:Int):Option Nat:=if 0≤i then (if i<n then some i.toNat else none) else if -(n:Int)≤i then some (i+n).toNat else none
noncomputable def atD {α:Type}(xs:List α)(i:Int):Option α:=(ixD xs.length i).bind fun j=>xs[j]?
noncomputable def Zzs (n d:Nat):Option Int→Nat
 | none=>d
 | some v=>if v<0 then (max (v+(n:Int)) 0).toNat else min v.toNat n
noncomputable def cut {α:Type}(xs:List α)(lo hi:Option Int):List α:=(xs.drop (Zzs xs.length 0 lo)).take (Zzs xs.length xs.length hi - Zzs xs.length 0 lo)
noncomputable def gIx:D→D→Option D
 | .lst xs,.int i=>(atD xs i)
 | .tup xs,.int i=>(atD xs i)
 | .scr ns,.int i=>((atD ns i).map D.int)
 | .str z,.int i=>if z.length≤lim then ((atD z.cps.toList i).map fun c=>D.str ⟨#[c]⟩) else none
 | _,_=>none
noncomputable def gIxL (x y:D):Option D:=match x with
 | .lst _=>gIx x y
 | _=>none
noncomputable def Znq:FO:=fun _=>.ok none
noncomputable def Zic (a:FE):FO:=fun ρ=>(a ρ).bind fun d=>match d with
 | .int i=>.ok (some i)
 | _=>.bad
noncomputable def fSl (g:D→Option Int→Option Int→Option D)(a:FE)(l h:FO):FE:=fun ρ=>(a ρ).bind fun x=>(l ρ).bind fun lo=>(h ρ).bind fun hi=>oR (g x lo hi)
noncomputable def gSl:D→Option Int→Option Int→Option D
 | .lst xs,lo,hi=>if Yw xs then some (.lst (cut xs lo hi)) else none
 | .scr ns,lo,hi=>some (.lst ((cut ns lo hi).map D.int))
 | _,_,_=>none
noncomputable def plain (n:Nat)(z:Str):Bool:=decide (z.length≤n)&&z.cps.toList.all (fun c=>decide (c<128))
noncomputable def Zha:D→Option D
 | .lst xs=>if Yw xs then some (.lst xs.reverse) else none
 | _=>none
noncomputable def intsOf:List D→Option (List Int)
 | []=>some []
 | .int i::r=>(intsOf r).map (i::·)
 | _::_=>none
noncomputable def bools:List D→Option (List Bool)
 | []=>some []
 | .bl i::r=>(bools r).map (i::·)
 | _::_=>none
noncomputable def Zbh:List D→Option D
 | [.lst xs]=>some (.int xs.length)
 | [.tup xs]=>some (.int xs.length)
 | [.scr xs]=>some (.int xs.length)
 | [.str z]=>if z.length≤lim then some (.int z.length) else none
 | _=>none
noncomputable def Zud:List D→Option D
 | [.lst xs]=>(intsOf xs).bind fun ns=>some (.int ns.sum)
 | _=>none
noncomputable def Xbr:List Int→Int
 | []=>0
 | x::r=>r.foldl max x
noncomputable def Xph:List D→Option D
 | [.int i,.int j]=>some (.int (if j > i then j else i))
 | [.lst xs]=>(intsOf xs).bind fun ns=>if ns=[] then none else some (.int (Xbr ns))
 | _=>none
noncomputable def Xml:List D→Option D
 | [.int i,.int j]=>some (.int (if j<i then j else i))
 | _=>none
noncomputable def Zdt (lo:Int)(n:Nat):List D:=(List.range n).map fun (k:Nat)=>D.int (lo+(k:Int))
noncomputable def Zxf:List D→Option D
 | [.lst xs]=>if Yw xs then some (.lst xs) else none
 | [.tup xs]=>if Yw xs then some (.lst xs) else none
 | [.rng i j]=>if -1000000000≤i∧i≤1000000000∧-1000000000≤j∧j≤1000000000∧(j - i).toNat≤lim then some (.lst (Zdt i (j - i).toNat)) else none
 | _=>none
noncomputable def Xqc:List D→Option D
 | [.lst xs]=>some (.lst xs)
 | _=>none
noncomputable def Xmj (c:String):D→Option D
 | .non=>some (.bl false)
 | .bl _=>some (.bl (c=="bool"||c=="int"))
 | .int _=>some (.bl (c=="int"))
 | .str _=>some (.bl (c=="str"))
 | .lst _=>some (.bl (c=="list"))
 | .tup _=>some (.bl (c=="tuple"))
 | _=>none
noncomputable def cE (a:FE):FT:=fun ρ=>(a ρ).bind fun d=>match d with
 | .bl b=>.ok b
 | _=>.bad
noncomputable def Xmr (a:FT):FT:=fun ρ=>(a ρ).bind fun b=>.ok (!b)
noncomputable def Xix (a b:FT):FT:=fun ρ=>(a ρ).bind fun x=>if x then b ρ else .ok false
noncomputable def cOr (a b:FT):FT:=fun ρ=>(a ρ).bind fun x=>if x then .ok true else b ρ
noncomputable def fAnd (a b:FE):FE:=fun ρ=>(a ρ).bind fun x=>match x with
 | .bl true=>b ρ
 | .bl false=>.ok (.bl false)
 | _=>.bad
noncomputable def fOr (a b:FE):FE:=fun ρ=>(a ρ).bind fun x=>match x with
 | .bl true=>.ok (.bl true)
 | .bl false=>b ρ
 | _=>.bad
noncomputable def gNot:D→Option D
 | .bl b=>some (.bl (!b))
 | _=>none
noncomputable def fIf (c:FT)(a b:FE):FE:=fun ρ=>(c ρ).bind fun x=>if x then a ρ else b ρ
noncomputable def Xnd (g g':D→D→Option D)(a b c:FE):FE:=fun ρ=>(a ρ).bind fun x=>(b ρ).bind fun y=>(oR (g x y)).bind fun z=>match z with
 | .bl true=>(c ρ).bind fun w=>oR (g' y w)
 | .bl false=>.ok (.bl false)
 | _=>.bad
noncomputable abbrev FB:=D→Env→R Env
noncomputable def Xb (i:Nat):FB:=fun d ρ=>.ok (ρ.set i (some d))
noncomputable def Zlo:List D→Env→R Env
 | [],ρ=>.ok ρ
 | _,_=>.bad
noncomputable def Jt (b:FB)(r:List D→Env→R Env):List D→Env→R Env
 | d::ds,ρ=>(b d ρ).bind fun ρ'=>r ds ρ'
 | _,_=>.bad
noncomputable def Zls (r:List D→Env→R Env):FB:=fun d ρ=>match d with
 | .tup ds=>r ds ρ
 | _=>.bad
noncomputable def R.calm {α:Type}:R α→R α
 | .ok a=>.ok a
 | .err _ _=>.bad
 | .bad=>.bad
@[simp] theorem calm_ok {α:Type}(a:α):(R.ok a).calm=.ok a:=(rfl)
noncomputable def Zck (k:Nat)(b:FB)(c:FT)(e:FE)(ρ:Env):List D→R (List D)
 | []=>.ok []
 | x::xs=>(b x (ρ++List.replicate k none)).calm.bind fun ρ1=>(c ρ1).bind fun t=>if t then (e ρ1).bind fun y=>(Zck k b c e ρ xs).bind fun ys=>.ok (y::ys) else Zck k b c e ρ xs
noncomputable def Zoc:FT:=fun _=>.ok true
noncomputable abbrev FI:=Env→R (List D)
noncomputable def Zah (a:FE):FI:=fun ρ=>(a ρ).bind fun d=>match d with
 | .lst xs=>if xs.length≤lim then .ok xs else .bad
 | .scr ns=>if ns.length≤lim then .ok (ns.map D.int) else .bad
 | _=>.bad
noncomputable def jTup (a:FE):FI:=fun ρ=>(a ρ).bind fun d=>match d with
 | .tup xs=>if xs.length≤lim then .ok xs else .bad
 | _=>.bad
noncomputable def Zjj (a:FA):FI:=fun ρ=>(a ρ).bind fun ds=>match ds with
 | [.int j]=>if -1000000000≤j∧j≤1000000 then .ok (Zdt 0 j.toNat) else .bad
 | _=>.bad
noncomputable def Zmi (a:FA):FI:=fun ρ=>(a ρ).bind fun ds=>match ds with
 | [.int i,.int j]=>if -1000000000≤i∧i≤1000000000∧-1000000000≤j∧j≤1000000000∧(j - i).toNat≤lim then .ok (Zdt i (j - i).toNat) else .bad
 | _=>.bad
noncomputable def sortI (ns:List Int):List Int:=ns.mergeSort fun a b=>decide (a≤b)
noncomputable def Zcl (n k:Nat)(it:FI)(b:FB)(c:FT)(e:FE):FE:=fun ρ=>if ρ.length=n then (it ρ).bind fun xs=>(Zck k b c e ρ xs).calm.bind fun ys=>.ok (.lst ys) else .bad
noncomputable def sNx:FS:=fun ρ=>.ok (.nx ρ)
noncomputable def Zmq:FS:=fun _=>.bad
noncomputable def Xw (a b:FS):FS:=fun ρ=>(a ρ).bind fun fl=>match fl with
 | .nx ρ'=>b ρ'
 | fl=>.ok fl
noncomputable def Yr (i:Nat)(e:FE):FS:=fun ρ=>(e ρ).bind fun d=>.ok (.nx (ρ.set i (some d)))
noncomputable def Zac (e:FE):FS:=fun ρ=>(e ρ).bind fun d=>.ok (.ret d)
noncomputable def sIf (c:FT)(a b:FS):FS:=fun ρ=>(c ρ).bind fun x=>if x then a ρ else b ρ
noncomputable def Zjp (i:Nat)(e:FE):FS:=fun ρ=>match ρ[i]? with
 | some (some (.lst xs))=>(e ρ).bind fun d=>if xs.length<lim then .ok (.nx (ρ.set i (some (.lst (xs++[d]))))) else .bad
 | _=>.bad
noncomputable def Xho (i:Nat)(e:FE):FS:=fun ρ=>match ρ[i]? with
 | some (some (.lst xs))=>(e ρ).bind fun d=>match d with
  | .lst ys=>if xs.length+ys.length≤lim then .ok (.nx (ρ.set i (some (.lst (xs++ys))))) else .bad
  | _=>.bad
 | _=>.bad
noncomputable def Xgd (i:Nat)(g:D→D→Option D)(e:FE):FS:=fun ρ=>match ρ[i]? with
 | some (some x)=>(e ρ).bind fun y=>(oR (g x y)).bind fun z=>.ok (.nx (ρ.set i (some z)))
 | _=>.bad
noncomputable def updP (f:List D→Option (List D)):List Int→D→Option D
 | [],.lst xs=>(f xs).map D.lst
 | n::r,.lst xs=>(ixD xs.length n).bind fun j=>xs[j]?.bind fun d=>(updP f r d).map fun d'=>D.lst (xs.set j d')
 | n::r,.tup xs=>(ixD xs.length n).bind fun j=>xs[j]?.bind fun d=>(updP f r d).map fun d'=>D.tup (xs.set j d')
 | _,_=>none
noncomputable def addL (d:D)(xs:List D):Option (List D):=if xs.length<lim then some (xs++[d]) else none
noncomputable def Xpn (i j:Nat)(c:FT)(r:D)(e:FE)(ρ:Env):List D→List D→R Fl
 | dn,[]=>.ok (.nx ((ρ.set i (some (.lst dn))).set j none))
 | dn,x::rest=>(c ((ρ.set i (some (.lst (dn++x::rest)))).set j (some x))).bind fun b=>if b then .ok (.ret r) else
   (e ((ρ.set i (some (.lst (dn++x::rest)))).set j (some x))).calm.bind fun v=>match updP (addL v) [] x with
    | some x'=>Xpn i j c r e ρ (dn++[x']) rest
    | none=>.bad
noncomputable def Xay (e:FE)(b:FB):FS:=fun ρ=>(e ρ).bind fun d=>(b d ρ).calm.bind fun ρ'=>.ok (.nx ρ')
noncomputable def Zcm (b:FB)(s:FS):List D→Env→R Fl
 | [],ρ=>.ok (.nx ρ)
 | x::xs,ρ=>(b x ρ).calm.bind fun ρ1=>(s ρ1).bind fun fl=>match fl with
  | .nx ρ2=>Zcm b s xs ρ2
  | .cnt ρ2=>Zcm b s xs ρ2
  | .brk ρ2=>.ok (.nx ρ2)
  | .ret d=>.ok (.ret d)
noncomputable def Zjo (it:FI)(b:FB)(s:FS):FS:=fun ρ=>(it ρ).bind fun xs=>Zcm b s xs ρ
noncomputable def Zbz (c:FT)(s:FS):Nat→Env→R Fl
 | 0,_=>.bad
 | n+1,ρ=>(c ρ).bind fun b=>if b then (s ρ).bind fun fl=>match fl with
  | .nx ρ2=>Zbz c s n ρ2
  | .cnt ρ2=>Zbz c s n ρ2
  | .brk ρ2=>.ok (.nx ρ2)
  | .ret d=>.ok (.ret d)
  else .ok (.nx ρ)
noncomputable def Znm (n:Nat)(c:FT)(s:FS):FS:=fun ρ=>Zbz c s n ρ
noncomputable def Xpj (c:String)(words:FA):FS:=fun ρ=>(words ρ).bind fun _=>.err c none
noncomputable def strsOf:List D→Option (List Str)
 | []=>some []
 | .str i::r=>(strsOf r).map (i::·)
 | _::_=>none
noncomputable def Xry:D→D→Option D
 | .str s,.lst ds=>(strsOf ds).bind fun ts=>if (ts.map (·.length)).sum+ts.length*s.length≤lim then some (.str (Str.join s ts)) else none
 | _,_=>none
noncomputable def fJoin (a b:FE):FE:=fun ρ=>(a ρ).bind fun x=>match x with
 | .str s=>(b ρ).bind fun y=>oR (Xry (.str s) y)
 | _=>.bad
noncomputable def pickM (N:Nat)(c:String)(x:Option Int):List (List (String×Bool)×Option Nat×FS)→R Fl
  | []=>.bad
  | z::r=>match z.1.lookup c with
    | some true=>(match z.2.1 with
      | some i=>(z.2.2 ((List.replicate N none).set i (some (.exc c x)))).calm.bind fun fl=>match fl with
        | .nx _=>.ok (.nx (List.replicate N none))
        | .brk _=>.ok (.brk (List.replicate N none))
        | .cnt _=>.ok (.cnt (List.replicate N none))
        | .ret d=>.ok (.ret d)
      | none=>(z.2.2 (List.replicate N none)).calm)
    | some false=>pickM N c x r
    | none=>.bad
noncomputable def Zjl:D→D→Option D
 | .int i,.int j=>if i.natAbs<2 ^ 4000∧j.natAbs<2 ^ 4000 then some (.int (i*j)) else none
 | _,_=>none
noncomputable def fIx (f:Str):List Str→Option Nat
 | []=>none
 | g::r=>if g=f then some 0 else (fIx f r).map (·+1)
noncomputable def putO (c:String)(f:Str)(d:D):D→Option D
 | .obj c' ns xs=>if c'=c∧ns.length<100 then match fIx f ns with
   | some j=>some (.obj c' ns (xs.set j d))
   | none=>some (.obj c' (ns++[f]) (xs++[d]))
  else none
 | _=>none
noncomputable def sFld (i:Nat)(c:String)(f:Str)(e:FE):FS:=fun ρ=>(e ρ).bind fun d=>match ρ[i]? with
 | some (some o)=>(oR (putO c f d o)).bind fun o'=>.ok (.nx (ρ.set i (some o')))
 | _=>.bad
noncomputable abbrev FM:=Env→R (D×Env)
noncomputable abbrev FMT:=Env→R (Bool×Env)
noncomputable def run (N:Nat)(b:FS)(ds:List D):R D:=(b (ds.map some++List.replicate (N - ds.length) none)).bind fun fl=>match fl with
 | .nx _=>.ok .non
 | .ret d=>.ok d
 | _=>.bad
noncomputable def keyD:D→Option (Int ⊕ Str)
 | .int i=>some (.inl i)
 | .str x=>some (.inr x)
 | _=>none
noncomputable def dHas (ks:List (Int ⊕ Str))(k:Int ⊕ Str):Bool:=ks.any fun j=>decide (j=k)
noncomputable def dPut (ks:List (Int ⊕ Str))(xs:List D)(k:Int ⊕ Str)(d:D):D:=if dHas ks k then .dct ks (List.zipWith (fun j x=>if j=k then d else x) ks xs) else .dct (ks++[k]) (xs++[d])
noncomputable def sDPut (i:Nat)(k e:FE):FS:=fun ρ=>(e ρ).bind fun d=>match ρ[i]? with
 | some (some (.dct ks xs))=>(k ρ).bind fun z=>match keyD z with
  | some q=>if flat d=true∧Yw xs=true∧ks.length<lim then .ok (.nx (ρ.set i (some (dPut ks xs q d)))) else .bad
  | none=>.bad
 | _=>.bad
noncomputable def catO:Str→List D→Option D
 | out,[]=>some (.str out)
 | out,.str y::r=>if y.length≤2000 then catO (out++y) r else none
 | _,_=>none
noncomputable def Xgx (c:Nat):List Nat→List (List Nat)
 | []=>[[]]
 | x::r=>if x=c then []::Xgx c r else match Xgx c r with
  | []=>[[x]]
  | w::ws=>(x::w)::ws
noncomputable def unR (p:List Nat):Option (List Nat):=if p.getLast?=some 32 then some p.dropLast else none
noncomputable def unL:List Nat→Option (List Nat)
 | []=>none
 | x::r=>if x=32 then some r else none
noncomputable def unP:List Nat→List (List Nat)→Option (List (List Nat))
 | p,[]=>some [p]
 | p,q::r=>(unR p).bind fun w=>(unL q).bind fun q'=>(unP q' r).bind fun ws=>some (w::ws)
noncomputable def keysD:List D→Option (List (Int ⊕ Str))
 | []=>some []
 | d::r=>(keyD d).bind fun k=>(keysD r).bind fun ks=>some (k::ks)
noncomputable def tAt:List (List (Int ⊕ Str))→List D→List (Int ⊕ Str)→Option D
 | j::ks,x::xs,k=>if j=k then some x else tAt ks xs k
 | _,_,_=>none
noncomputable abbrev Pc:=Int×Str
noncomputable def sLt (x y:Str):Bool:=decide (x.cps.toList<y.cps.toList)
noncomputable def pcLt (p q:Pc):Bool:=if p.1=q.1 then (if p.2=q.2 then false else sLt p.2 q.2) else decide (p.1<q.1)
noncomputable def Xne:List Pc→List Pc→Bool
 | [],[]=>false
 | [],_::_=>true
 | _::_,[]=>false
 | p::c,q::d=>if p=q then Xne c d else pcLt p q
noncomputable def insC (c:List Pc):List (List Pc)→List (List Pc)
 | []=>[c]
 | d::r=>if Xne c d=true then c::d::r else d::insC c r
noncomputable def sortC:List (List Pc)→List (List Pc)
 | []=>[]
 | c::r=>insC c (sortC r)
noncomputable def pcOf:D→Option Pc
 | .tup [.int i,.str z]=>some (i,z)
 | _=>none
noncomputable def Xqn:List D→Option (List Pc)
 | []=>some []
 | d::r=>(pcOf d).bind fun p=>(Xqn r).bind fun ps=>some (p::ps)
noncomputable def ctOf:D→Option (List Pc)
 | .lst ds=>Xqn ds
 | _=>none
noncomputable def ctsOf:List D→Option (List (List Pc))
 | []=>some []
 | d::r=>(ctOf d).bind fun c=>(ctsOf r).bind fun cs=>some (c::cs)
noncomputable def aVars:List Nat→FA
 | []=>Zu
 | j::r=>Zd (fV j) (aVars r)
noncomputable def keyLs (fb:FE)(fr:Env):List D→R (List Int)
 | []=>.ok []
 | x::r=>(fb (some x::fr)).calm.bind fun k=>match k with
  | .int k=>(keyLs fb fr r).bind fun ks=>.ok (k::ks)
  | _=>.bad
noncomputable def goP:List Int→D→Option D
 | [],d=>some d
 | n::r,.lst xs=>(ixD xs.length n).bind fun j=>xs[j]?.bind (goP r)
 | n::r,.tup xs=>(ixD xs.length n).bind fun j=>xs[j]?.bind (goP r)
 | _,_=>none
noncomputable def Xkg (i j:Nat)(path:List Int)(e:FE)(ρ:Env):Nat→Nat→D→R Fl
 | _,0,d=>.ok (.nx ((ρ.set i (some d)).set j none))
 | k,m+1,d=>match goP path d with
  | some (.lst _)=>(e ((ρ.set i (some d)).set j none)).calm.bind fun v=>match updP (addL v) (path++[(k:Int)]) d with
   | some d'=>Xkg i j path e ρ (k+1) m d'
   | none=>.bad
  | _=>.bad
noncomputable def dAt:List (Int ⊕ Str)→List D→Int ⊕ Str→Option D
 | j::ks,x::xs,k=>if j=k then some x else dAt ks xs k
 | _,_,_=>none
noncomputable def intsK:List (Int ⊕ Str)→Option (List Int)
 | []=>some []
 | .inl i::r=>(intsK r).map (i::·)
 | .inr _::_=>none
noncomputable def dFilt (g:D→D→Option D)(ks:List (Int ⊕ Str))(xs:List D)(z:D):List Int→R (List D)
 | []=>.ok []
 | j::js=>(oR (dAt ks xs (.inl j))).bind fun x=>(oR (g x z)).bind fun t=>match t with
  | .bl b=>(dFilt g ks xs z js).bind fun r=>.ok (if b then .int j::r else r)
  | _=>.bad
noncomputable abbrev Pr:=Int×(Int ⊕ Str)
noncomputable def kLt:Int ⊕ Str→Int ⊕ Str→Bool
 | .inl a,.inl b=>decide (a<b)
 | .inr a,.inr b=>sLt a b
 | _,_=>false
noncomputable def Zee (p q:Pr):Bool:=if p.1=q.1 then kLt p.2 q.2 else decide (p.1<q.1)
noncomputable def Xdd (c:Pr):List Pr→List Pr
 | []=>[c]
 | d::r=>if Zee c d=true then c::d::r else d::Xdd c r
noncomputable def Zhu:List Pr→List Pr
 | []=>[]
 | c::r=>Xdd c (Zhu r)
noncomputable def kdD:Int ⊕ Str→D
 | .inl i=>.int i
 | .inr x=>.str x
noncomputable def prD (p:Pr):D:=.tup [.int p.1,kdD p.2]
noncomputable def Zvt:D→Option Pr
 | .tup [.int i,.int j]=>some (i,.inl j)
 | .tup [.int i,.str z]=>some (i,.inr z)
 | _=>none
noncomputable def Znc:List D→Option (List Pr)
 | []=>some []
 | d::r=>(Zvt d).bind fun c=>(Znc r).bind fun cs=>some (c::cs)
noncomputable def Zuw:List D→Option D
 | [.lst ds]=>(Znc ds).bind fun cs=>if cs.length≤100000∧((cs.all fun p=>p.2.isLeft)=true∨(cs.all fun p=>p.2.isRight)=true) then some (.lst ((Zhu cs).map prD)) else none
 | _=>none
noncomputable def forT (i j:Nat)(fc:FT)(b:Bool)(ρ:Env):List (List (Int ⊕ Str))→R Fl
 | []=>.ok (.nx (ρ.set j none))
 | k::r=>(fc ((ρ.set i none).set j (some (.tup (k.map kdD))))).calm.bind fun t=>if t=true then .ok (.ret (.bl b)) else forT i j fc b ρ r
noncomputable def Zdl (ks:List Int)(k:Int):List Int:=if k∈ks then ks else ks++[k]
noncomputable def Yl (ks:List Int):List Int→List Int
 | []=>ks
 | n::ns=>Yl (Zdl ks n) ns
noncomputable def Zkc:D→Option D
 | .lst ds=>(intsOf ds).bind fun ns=>if ns.length<64 then some (.lst ((sortI (Yl [] ns)).map D.int)) else none
 | _=>none
end Dl
namespace L2
open PySem PySem.Spec PyProof.Rows
open Dl (D R FE FT FA FO FS FI FB Fl)
def FzL (K:Frag)(H:Hp)(a:Addr)(xs:List V):Prop:=
 (∃o,H a=some (.frz o (.lst xs)))∨∃(o:Obj) (its:Array Value) (n:Nat),K.lookup a=some o∧o.cls=.type "list"∧o.dict=none∧o.data=.seq its n∧its.size≤sizeLine∧Ys xs its.toList
theorem FzL.sq {K:Frag}{H:Hp}{a:Addr}{xs:List V}(h:FzL K H a xs):SqL K H a xs:=by
 rcases h with ⟨o,h⟩ | h
 ·exact .inl (.inr ⟨o,h⟩)
 ·exact .inr h
noncomputable def fnm (c:String):Str:=if c="TooMany" then "most" else "at"
def FOk (H:Hp)(c:String)(f:Option Int)(dx:Option Addr):Prop:=match f with
 | none=>True
 | some i=>∃d,dx=some d∧H d=some (.xd [(fnm c,.int i)])
section
variable (K:Frag)(C:String→Addr)
mutual
noncomputable def Rp (H:Hp):D→V→List Addr→Prop
 | .non,v,A=>v=.non∧A=[]
 | .bl b,v,A=>v=.bl b∧A=[]
 | .int i,v,A=>v=.int i∧A=[]
 | .str x,v,A=>v=.str x∧PyData.strOk x=true∧A=[]
 | .lst ds,v,A=>∃a xs B,v=.ref a∧H a=some (.lst xs)∧RpA H ds xs B∧A=a::B
 | .tup ds,v,A=>∃a xs,v=.ref a∧H a=some (.tup xs)∧RpA H ds xs A
 | .scr ns,v,A=>∃a,v=.ref a∧FzL K H a (ns.map V.int)∧A=[]
 | .rng lo hi,v,A=>∃a,v=.ref a∧H a=some (.rng lo hi)∧A=[]
 | .exc c f,v,A=>∃e dx,v=.ref e∧H e=some (exO e (.ref (C c)) dx)∧FOk H c f dx∧A=[]
 | .obj c ns ds,v,A=>∃a dx xs B,v=.ref a∧H a=some (.ins (C c) dx (ns.zip xs))∧ns.length=ds.length∧RpA H ds xs B∧A=a::B
 | .dct ks ds,v,A=>∃a xs B,v=.ref a∧H a=some (.dK (ks.zip xs))∧ks.length=ds.length∧RpA H ds xs B∧A=a::B
 | .dtt ks ds,v,A=>∃a xs B,v=.ref a∧H a=some (.dT (ks.zip xs))∧ks.length=ds.length∧RpA H ds xs B∧A=a::B
noncomputable def RpA (H:Hp):List D→List V→List Addr→Prop
 | [],xs,A=>xs=[]∧A=[]
 | d::ds,xs,A=>∃x r B B',xs=x::r∧Rp H d x B∧RpA H ds r B'∧A=B++B'
end
end
section
variable {K:Frag}{C:String→Addr}{H H' H1 H2:Hp}
inductive IsM:HO→Prop where
 | lst {xs:List V}:IsM (.lst xs)
 | ins {C dx:Addr} {fs:List (Str×V)}:IsM (.ins C dx fs)
 | dct {kvs:List (Key×V)}:IsM (.dK kvs)
 | dtt {kvs:List (List Key×V)}:IsM (.dT kvs)
def Ext (W:Addr→Prop)(H H':Hp):Prop:=∀b o,H b=some o→H' b=some o∨(W b∧IsM o)
theorem Ext.same (h:Yd H H'):Ext (fun _=>False) H H':=fun b o q=>.inl (h b o q)
mutual
theorem Rp.ext {W:Addr→Prop}(h:Ext W H H'):∀{d:D} {v:V} {A:List Addr},(∀a∈A,¬W a)→Rp K C H d v A→Rp K C H' d v A
 | .non,_,_,_,r=>r
 | .bl _,_,_,_,r=>r
 | .int _,_,_,_,r=>r
 | .str _,_,_,_,r=>r
 | .lst ds,v,A,hw,r=>by
  obtain ⟨a,xs,B,e1,e2,e3,e4⟩:=r
  subst e4
  refine ⟨a,xs,B,e1,?_,RpA.ext h (fun b hb=>hw b (.tail _ hb)) e3,rfl⟩
  rcases h a _ e2 with q | ⟨q,_⟩
  ·exact q
  ·exact absurd q (hw a (.head _))
 | .tup ds,v,A,hw,r=>by
  obtain ⟨a,xs,e1,e2,e3⟩:=r
  refine ⟨a,xs,e1,?_,RpA.ext h hw e3⟩
  rcases h a _ e2 with q | ⟨_,q⟩
  ·exact q
  ·cases q
 | .scr ns,v,A,_,r=>by
  obtain ⟨a,e1,e2,e3⟩:=r
  refine ⟨a,e1,?_,e3⟩
  rcases e2 with ⟨o,e2⟩ | e2
  ·rcases h a _ e2 with q | ⟨_,q⟩
   ·exact .inl ⟨o,q⟩
   ·cases q
  ·exact .inr e2
 | .rng lo hi,v,A,_,r=>by
  obtain ⟨a,e1,e2,e3⟩:=r
  refine ⟨a,e1,?_,e3⟩
  rcases h a _ e2 with q | ⟨_,q⟩
  ·exact q
  ·cases q
 | .exc c f,v,A,_,r=>by
  obtain ⟨a,dx,e1,e2,e3,e4⟩:=r
  refine ⟨a,dx,e1,?_,?_,e4⟩
  ·rcases h a _ e2 with q | ⟨_,q⟩
   ·exact q
   ·cases q
  ·cases f with
   | none=>trivial
   | some i =>
    obtain ⟨d,z1,z2⟩:=e3
    refine ⟨d,z1,?_⟩
    rcases h d _ z2 with q | ⟨_,q⟩
    ·exact q
    ·cases q
 | .obj c ns ds,v,A,hw,r=>by
  obtain ⟨a,dx,xs,B,e1,e2,e0,e3,e4⟩:=r
  subst e4
  refine ⟨a,dx,xs,B,e1,?_,e0,RpA.ext h (fun b hb=>hw b (.tail _ hb)) e3,rfl⟩
  rcases h a _ e2 with q | ⟨q,_⟩
  ·exact q
  ·exact absurd q (hw a (.head _))
 | .dct ks ds,v,A,hw,r=>by
  obtain ⟨a,xs,B,e1,e2,e0,e3,e4⟩:=r
  subst e4
  refine ⟨a,xs,B,e1,?_,e0,RpA.ext h (fun b hb=>hw b (.tail _ hb)) e3,rfl⟩
  rcases h a _ e2 with q | ⟨q,_⟩
  ·exact q
  ·exact absurd q (hw a (.head _))
 | .dtt ks ds,v,A,hw,r=>by
  obtain ⟨a,xs,B,e1,e2,e0,e3,e4⟩:=r
  subst e4
  refine ⟨a,xs,B,e1,?_,e0,RpA.ext h (fun b hb=>hw b (.tail _ hb)) e3,rfl⟩
  rcases h a _ e2 with q | ⟨q,_⟩
  ·exact q
  ·exact absurd q (hw a (.head _))
theorem RpA.ext {W:Addr→Prop}(h:Ext W H H'):∀{ds:List D} {vs:List V} {A:List Addr},(∀a∈A,¬W a)→RpA K C H ds vs A→RpA K C H' ds vs A
 | [],_,_,_,r=>r
 | d::ds,vs,A,hw,r=>by
  obtain ⟨x,l,B,B',e1,e2,e3,e4⟩:=r
  subst e4
  exact ⟨x,l,B,B',e1,Rp.ext h (fun a ha=>hw a (mem_append_left _ ha)) e2,RpA.ext h (fun a ha=>hw a (mem_append_right _ ha)) e3,rfl⟩
end
theorem Rp.same (h:Yd H H'){d:D}{v:V}{A:List Addr}(r:Rp K C H d v A):Rp K C H' d v A:=r.ext (Ext.same h) (fun _ _ q=>q)
theorem RpA.same (h:Yd H H'){d:List D}{v:List V}{A:List Addr}(r:RpA K C H d v A):RpA K C H' d v A:=r.ext (Ext.same h) (fun _ _ q=>q)
def Agree (W:List Addr)(H Hb:Hp):Prop:=(∀a∈W,Hb a=H a)∧∀b o,H b=some o→¬IsM o→Hb b=some o
theorem Agree.ext {W:List Addr}(h:Agree W H H'):Ext (fun a=>a∉W) H H':=fun b o q=>by
 by_cases hb:b∈W
 ·exact .inl ((h.1 b hb).trans q)
 ·by_cases ho:IsM o
  ·exact .inr ⟨hb,ho⟩
  ·exact .inl (h.2 b o q ho)
theorem RpA.agree {W:List Addr}(h:Agree W H H'){ds:List D}{vs:List V}{A:List Addr}(hA:∀a∈A,a∈W)(r:RpA K C H ds vs A):RpA K C H' ds vs A:=r.ext h.ext fun a ha z=>z (hA a ha)
mutual
theorem Rp.isl:∀{d:D} {v:V} {A:List Addr},Rp K C H d v A→∀a∈A,∃o,H a=some o∧IsM o
 | .non,_,_,r,a,ha=>by rw [r.2] at ha;cases ha
 | .bl _,_,_,r,a,ha=>by rw [r.2] at ha;cases ha
 | .int _,_,_,r,a,ha=>by rw [r.2] at ha;cases ha
 | .str _,_,_,r,a,ha=>by rw [r.2.2] at ha;cases ha
 | .lst ds,_,_,r,a,ha=>by
  obtain ⟨b,xs,B,e1,e2,e3,e4⟩:=r
  rw [e4] at ha
  rcases List.mem_cons.mp ha with z | z
  ·rw [z];exact ⟨_,e2,.lst⟩
  ·exact RpA.isl e3 a z
 | .tup ds,_,_,r,a,ha=>by
  obtain ⟨b,xs,e1,e2,e3⟩:=r
  exact RpA.isl e3 a ha
 | .scr _,_,_,r,a,ha=>by obtain ⟨_,_,_,e⟩:=r;rw [e] at ha;cases ha
 | .rng _ _,_,_,r,a,ha=>by obtain ⟨_,_,_,e⟩:=r;rw [e] at ha;cases ha
 | .exc _ _,_,_,r,a,ha=>by obtain ⟨_,_,_,_,_,e⟩:=r;rw [e] at ha;cases ha
 | .obj c ns ds,_,_,r,a,ha=>by
  obtain ⟨b,dx,xs,B,e1,e2,e0,e3,e4⟩:=r
  rw [e4] at ha
  rcases List.mem_cons.mp ha with z | z
  ·rw [z];exact ⟨_,e2,.ins⟩
  ·exact RpA.isl e3 a z
 | .dct ks ds,_,_,r,a,ha=>by
  obtain ⟨b,xs,B,e1,e2,e0,e3,e4⟩:=r
  rw [e4] at ha
  rcases List.mem_cons.mp ha with z | z
  ·rw [z];exact ⟨_,e2,.dct⟩
  ·exact RpA.isl e3 a z
 | .dtt ks ds,_,_,r,a,ha=>by
  obtain ⟨b,xs,B,e1,e2,e0,e3,e4⟩:=r
  rw [e4] at ha
  rcases List.mem_cons.mp ha with z | z
  ·rw [z];exact ⟨_,e2,.dtt⟩
  ·exact RpA.isl e3 a z
theorem RpA.isl:∀{ds:List D} {vs:List V} {A:List Addr},RpA K C H ds vs A→∀a∈A,∃o,H a=some o∧IsM o
 | [],_,_,r,a,ha=>by rw [r.2] at ha;cases ha
 | d::ds,_,_,r,a,ha=>by
  obtain ⟨x,l,B,B',e1,e2,e3,e4⟩:=r
  rw [e4] at ha
  rcases List.mem_append.mp ha with z | z
  ·exact Rp.isl e2 a z
  ·exact RpA.isl e3 a z
end
mutual
theorem Rp.flat:∀{d:D} {v:V} {A:List Addr},Dl.flat d=true→Rp K C H d v A→A=[]
 | .non,_,_,_,r=>r.2
 | .bl _,_,_,_,r=>r.2
 | .int _,_,_,_,r=>r.2
 | .str _,_,_,_,r=>r.2.2
 | .lst _,_,_,h,_=>by simp [Dl.flat] at h
 | .tup ds,_,_,h,r=>by
  obtain ⟨b,xs,e1,e2,e3⟩:=r
  exact RpA.flat (by simpa [Dl.flat] using h) e3
 | .scr _,_,_,_,r=>by obtain ⟨_,_,_,e⟩:=r;exact e
 | .rng _ _,_,_,_,r=>by obtain ⟨_,_,_,e⟩:=r;exact e
 | .exc _ _,_,_,_,r=>by obtain ⟨_,_,_,_,_,e⟩:=r;exact e
 | .obj _ _ _,_,_,h,_=>by simp [Dl.flat] at h
 | .dct _ _,_,_,h,_=>by simp [Dl.flat] at h
 | .dtt _ _,_,_,h,_=>by simp [Dl.flat] at h
theorem RpA.flat:∀{ds:List D} {vs:List V} {A:List Addr},Dl.Yw ds=true→RpA K C H ds vs A→A=[]
 | [],_,_,_,r=>r.2
 | d::ds,_,_,h,r=>by
  obtain ⟨x,l,B,B',e1,e2,e3,e4⟩:=r
  simp only [Dl.Yw,Bool.and_eq_true] at h
  rw [e4,Rp.flat h.1 e2,RpA.flat h.2 e3]
  rfl
end
theorem RpA.len:∀{ds:List D} {vs:List V} {A:List Addr},RpA K C H ds vs A→vs.length=ds.length
 | [],_,_,r=>by rw [r.1];rfl
 | d::ds,_,_,r=>by
  obtain ⟨x,l,B,B',e1,e2,e3,e4⟩:=r
  rw [e1,length_cons,length_cons,RpA.len e3]
theorem RpA.get:∀{ds:List D} {vs:List V} {A:List Addr} {i:Nat} {d:D},RpA K C H ds vs A→ds[i]?=some d→∃v B,vs[i]?=some v∧Rp K C H d v B∧∀a∈B,a∈A
 | [],_,_,_,_,_,h=>by simp at h
 | d::ds,_,_,0,_,r,h=>by
  obtain ⟨x,l,B,B',e1,e2,e3,e4⟩:=r
  simp only [List.getElem?_cons_zero,Option.some.injEq] at h
  subst h e1 e4
  exact ⟨x,B,rfl,e2,fun a ha=>mem_append_left _ ha⟩
 | d::ds,_,_,i+1,_,r,h=>by
  obtain ⟨x,l,B,B',e1,e2,e3,e4⟩:=r
  simp only [List.getElem?_cons_succ] at h
  obtain ⟨v,B2,q1,q2,q3⟩:=RpA.get e3 h
  subst e1 e4
  exact ⟨v,B2,by simpa using q1,q2,fun a ha=>mem_append_right _ (q3 a ha)⟩
theorem RpA.get':∀{ds:List D} {vs:List V} {A:List Addr} {i:Nat} {v:V},RpA K C H ds vs A→vs[i]?=some v→∃d B,ds[i]?=some d∧Rp K C H d v B∧∀a∈B,a∈A:=fun {ds vs A i v} r h=>by
 have hl:=r.len
 have hi:i<ds.length:=by
  have:=(List.getElem?_eq_some_iff.mp h).1
  omega
 obtain ⟨v',B,q1,q2,q3⟩:=r.get (getElem?_eq_getElem hi)
 rw [h] at q1
 cases q1
 exact ⟨_,B,getElem?_eq_getElem hi,q2,q3⟩
theorem RpA.app:∀{ds es:List D} {vs ws:List V} {A B:List Addr},RpA K C H ds vs A→RpA K C H es ws B→RpA K C H (ds++es) (vs++ws) (A++B)
 | [],_,_,_,_,_,r,q=>by
  obtain ⟨e1,e2⟩:=r
  subst e1 e2
  exact q
 | d::ds,_,_,_,_,_,r,q=>by
  obtain ⟨x,l,B,B',e1,e2,e3,e4⟩:=r
  subst e1 e4
  exact ⟨x,_,B,_,rfl,e2,RpA.app e3 q,append_assoc ..⟩
theorem RpA.one {d:D}{v:V}{A:List Addr}(r:Rp K C H d v A):RpA K C H [d] [v] A:=⟨v,[],A,[],rfl,r,⟨rfl,rfl⟩,(append_nil _).symm⟩
theorem RpA.flatRev {ds:List D}{vs:List V}{A:List Addr}:Dl.Yw ds=true→RpA K C H ds vs A→RpA K C H ds.reverse vs.reverse []:=by
 intro h r
 induction ds generalizing vs A with
 | nil=>rw [r.1];exact ⟨rfl,rfl⟩
 | cons d ds ih =>
  obtain ⟨x,l,B,B',e1,e2,e3,e4⟩:=r
  simp only [Dl.Yw,Bool.and_eq_true] at h
  have z:=Rp.flat h.1 e2
  subst e1 z
  rw [reverse_cons,reverse_cons]
  exact (ih h.2 e3).app (RpA.one e2)
theorem RpA.flatDrop {ds:List D}{vs:List V}{A:List Addr}:Dl.Yw ds=true→RpA K C H ds vs A→∀n,RpA K C H (ds.drop n) (vs.drop n) []:=by
 intro h r n
 induction ds generalizing vs A n with
 | nil=>rw [r.1];simp;exact ⟨rfl,rfl⟩
 | cons d ds ih =>
  have r0:=r
  obtain ⟨x,l,B,B',e1,e2,e3,e4⟩:=r
  cases n with
  | zero =>
   have z:=RpA.flat h r0
   subst z
   exact r0
  | succ n =>
   simp only [Dl.Yw,Bool.and_eq_true] at h
   subst e1
   exact ih h.2 e3 n
theorem RpA.flatTake {ds:List D}{vs:List V}{A:List Addr}:Dl.Yw ds=true→RpA K C H ds vs A→∀n,RpA K C H (ds.take n) (vs.take n) []:=by
 intro h r n
 induction ds generalizing vs A n with
 | nil=>rw [r.1];simp;exact ⟨rfl,rfl⟩
 | cons d ds ih =>
  obtain ⟨x,l,B,B',e1,e2,e3,e4⟩:=r
  simp only [Dl.Yw,Bool.and_eq_true] at h
  have z:=Rp.flat h.1 e2
  subst e1 z
  cases n with
  | zero=>exact ⟨rfl,rfl⟩
  | succ n=>exact ⟨x,_,[],_,rfl,e2,ih h.2 e3 n,rfl⟩
theorem Ztk {ds:List D}(h:Dl.Yw ds=true):∀n,Dl.Yw (ds.drop n)=true:=by
 intro n
 induction ds generalizing n with
 | nil=>simp;rfl
 | cons d ds ih =>
  cases n with
  | zero=>exact h
  | succ n =>
   simp only [Dl.Yw,Bool.and_eq_true] at h
   exact ih h.2 n
theorem RpA.ints {ns:List Int}:RpA K C H (ns.map D.int) (ns.map V.int) []:=by
 induction ns with
 | nil=>exact ⟨rfl,rfl⟩
 | cons n ns ih=>exact ⟨_,_,[],[],rfl,⟨rfl,rfl⟩,ih,rfl⟩
theorem RpA.ofInts:∀{ds:List D} {vs:List V} {A:List Addr} {ns:List Int},RpA K C H ds vs A→Dl.intsOf ds=some ns→vs=ns.map V.int
 | [],_,_,ns,r,h=>by
  simp only [Dl.intsOf,Option.some.injEq] at h
  rw [r.1,← h]
  rfl
 | d::ds,_,_,ns,r,h=>by
  obtain ⟨x,l,B,B',e1,e2,e3,e4⟩:=r
  cases d<;>simp only [Dl.intsOf] at h<;>try cases h
  obtain ⟨ms,h1,h2⟩:=Option.map_eq_some_iff.mp h
  rw [e1,e2.1,RpA.ofInts e3 h1,← h2]
  rfl
mutual
noncomputable def toPy:D→PyData
 | .non=>.none
 | .bl b=>.bool b
 | .int i=>.int i
 | .str x=>.str x
 | .lst ds=>.list (Zgz ds)
 | .tup ds=>.tuple (Zgz ds)
 | .scr _=>.none
 | .rng _ _=>.none
 | .exc _ _=>.none
 | .obj _ _ _=>.none
 | .dct _ _=>.none
 | .dtt _ _=>.none
noncomputable def Zgz:List D→List PyData
 | []=>[]
 | d::ds=>toPy d::Zgz ds
end
mutual
theorem Rp.dn:∀{d:D} {v:V} {A:List Addr} {n:Nat},Dl.dep d≤n→n<100→Rp K C H d v A→Dn K H v (toPy d)∧(toPy d).canLay0=true∧(toPy d).depth=Dl.dep d
 | .non,_,_,_,_,_,r=>by rw [r.1];exact ⟨.non,rfl,rfl⟩
 | .bl _,_,_,_,_,_,r=>by rw [r.1];exact ⟨.bl _,rfl,rfl⟩
 | .int _,_,_,_,_,_,r=>by rw [r.1];exact ⟨.int _,rfl,rfl⟩
 | .str _,_,_,_,_,_,r=>by rw [r.1];exact ⟨.str _,by simpa [toPy,PyData.canLay0] using r.2.1,by simp [toPy,PyData.depth,Dl.dep]⟩
 | .lst ds,_,_,n,h,hn,r=>by
  obtain ⟨a,xs,B,e1,e2,e3,e4⟩:=r
  simp only [Dl.dep] at h
  obtain ⟨q1,q2,q3⟩:=RpA.dn (n:=n) (by omega) hn e3
  rw [e1]
  exact ⟨.lst (SqL.of e2) q1,by simpa [toPy,PyData.canLay0] using q2,by simp [toPy,PyData.depth,Dl.dep,q3]⟩
 | .tup ds,_,_,n,h,hn,r=>by
  obtain ⟨a,xs,e1,e2,e3⟩:=r
  simp only [Dl.dep] at h
  obtain ⟨q1,q2,q3⟩:=RpA.dn (n:=n) (by omega) hn e3
  rw [e1]
  exact ⟨.tup (SqT.of e2) q1,by simpa [toPy,PyData.canLay0] using q2,by simp [toPy,PyData.depth,Dl.dep,q3]⟩
 | .scr _,_,_,n,h,hn,_=>by simp only [Dl.dep] at h;omega
 | .rng _ _,_,_,n,h,hn,_=>by simp only [Dl.dep] at h;omega
 | .exc _ _,_,_,n,h,hn,_=>by simp only [Dl.dep] at h;omega
 | .obj _ _ _,_,_,n,h,hn,_=>by simp only [Dl.dep] at h;omega
 | .dct _ _,_,_,n,h,hn,_=>by simp only [Dl.dep] at h;omega
 | .dtt _ _,_,_,n,h,hn,_=>by simp only [Dl.dep] at h;omega
theorem RpA.dn:∀{ds:List D} {vs:List V} {A:List Addr} {n:Nat},Dl.Zoe ds≤n→n<100→RpA K C H ds vs A→DnA K H vs (Zgz ds)∧PyData.canLayAll0 (Zgz ds)=true∧PyData.depthAll (Zgz ds)=Dl.Zoe ds
 | [],_,_,_,_,_,r=>by rw [r.1];exact ⟨.nil,rfl,rfl⟩
 | d::ds,_,_,n,h,hn,r=>by
  obtain ⟨x,l,B,B',e1,e2,e3,e4⟩:=r
  simp only [Dl.Zoe] at h
  obtain ⟨q1,q2,q3⟩:=Rp.dn (n:=n) (by omega) hn e2
  obtain ⟨p1,p2,p3⟩:=RpA.dn (n:=n) (by omega) hn e3
  rw [e1]
  exact ⟨.cons q1 p1,by simp [Zgz,PyData.canLayAll0,q2,p2],by simp [Zgz,PyData.depthAll,Dl.Zoe,q3,p3]⟩
end
mutual
theorem Zyk:∀{d e:D},Dl.dep d<100→Dl.dep e<100→PyData.eqv (toPy d) (toPy e)=Dl.eqv d e
 | .non,e,_,h=>by cases e<;>first | rfl | exact absurd h (lt_irrefl 100)
 | .bl _,e,_,h=>by cases e<;>first | rfl | exact absurd h (lt_irrefl 100)
 | .int _,e,_,h=>by cases e<;>first | rfl | exact absurd h (lt_irrefl 100)
 | .str _,e,_,h=>by cases e<;>first | rfl | exact absurd h (lt_irrefl 100)
 | .lst ds,e,h1,h=>by
  cases e with
  | lst es=>exact Zps (Nat.lt_of_succ_lt h1) (Nat.lt_of_succ_lt h)
  | _=>rfl
 | .tup ds,e,h1,h=>by
  cases e with
  | tup es=>exact Zps (Nat.lt_of_succ_lt h1) (Nat.lt_of_succ_lt h)
  | _=>rfl
 | .scr _,_,h,_=>absurd h (lt_irrefl 100)
 | .rng _ _,_,h,_=>absurd h (lt_irrefl 100)
 | .exc _ _,_,h,_=>absurd h (lt_irrefl 100)
 | .obj _ _ _,_,h,_=>absurd h (lt_irrefl 100)
 | .dct _ _,_,h,_=>absurd h (lt_irrefl 100)
 | .dtt _ _,_,h,_=>absurd h (lt_irrefl 100)
theorem Zps:∀{d e:List D},Dl.Zoe d<100→Dl.Zoe e<100→PyData.eqvAll (Zgz d) (Zgz e)=Dl.Xjo d e
 | [],[],_,_=>rfl
 | [],_::_,_,_=>rfl
 | _::_,[],_,_=>rfl
 | d::ds,e::es,h1,h=>by
  have a1:Dl.dep d<100∧Dl.Zoe ds<100:=Nat.max_lt.mp h1
  have a2:Dl.dep e<100∧Dl.Zoe es<100:=Nat.max_lt.mp h
  show (PyData.eqv (toPy d) (toPy e)&&PyData.eqvAll (Zgz ds) (Zgz es))=(Dl.eqv d e&&Dl.Xjo ds es)
  rw [Zyk a1.1 a2.1,Zps a1.2 a2.2]
end
end
noncomputable abbrev Yk:=Dl.Env
section
variable (K:Frag)(C:String→Addr)
structure Xf (H0 Hb H:Hp)(Γ Δ:List Nat)(σ:St)(ρ:Yk)(A:Nat→List Addr):Prop where
 s0:Yd H0 Hb
 same:Yd Hb H
 len:σ.length=ρ.length
 rep:∀i d,ρ[i]?=some (some d)→∃v,σ[i]?=some (some v)∧Rp K C H d v (A i)
 nil:∀i,(∀d,ρ[i]?≠some (some d))→A i=[]
 loc:∀i∈Γ,∀a∈A i,H0 a=none
 top:∀i∈Γ,∀a r,A i=a::r→Hb a=none∧a∉r∧∀j,j≠i→a∉A j
 deep:∀i∈Δ,(A i).Nodup∧(∀j,j≠i→∀a∈A i,a∉A j)∧∀a∈A i,Hb a=none
def InS (A:Nat→List Addr)(S:List (Nat×Bool))(a:Addr):Prop:=∃p∈S,if p.2=true then a∈(A p.1).tail else a∈A p.1
def Res (m:Nat)(S:List (Nat×Bool))(H:Hp)(A:Nat→List Addr)(d:D)(v:V)(H':Hp):Prop:=
 ∃B,Rp K C H' d v B∧(∀a∈B,H a=none∨InS A S a)∧(m=1→∀a r,B=a::r→H a=none∧a∉r)∧(m=2→B.Nodup)
def ResA (m:Nat)(S:List (Nat×Bool))(H:Hp)(A:Nat→List Addr)(ds:List D)(vs:List V)(H':Hp):Prop:=
 ∃B,RpA K C H' ds vs B∧(∀a∈B,H a=none∨InS A S a)∧(m=2→B.Nodup)
def EC (E:XK)(c:String)(x:Option Int)(H:Hp):Prop:=∀dx,FOk H c x dx→E (.ref (C c)) dx H
def Yj {α:Type}(r:R α)(ok:α→Prop)(er:String→Option Int→Prop):Prop:=match r with
 | .ok a=>ok a
 | .err c x=>er c x
 | .bad=>False
def EOk (E:XK)(Γ Δ:List Nat)(m:Nat)(S:List (Nat×Bool))(t:TE)(f:FE):Prop:=∀(H0 Hb H:Hp) (σ:St) (ρ:Yk) (A:Nat→List Addr) (Q:VK),Xf K C H0 Hb H Γ Δ σ ρ A→
 Yj (f ρ) (fun d=>∀v H',Yd H H'→Res K C m S H A d v H'→Q v H') (fun c x=>∀H',Yd H H'→EC C E c x H')→t σ H Q
def AOk (E:XK)(Γ Δ:List Nat)(m:Nat)(S:List (Nat×Bool))(t:TA)(f:FA):Prop:=∀(H0 Hb H:Hp) (σ:St) (ρ:Yk) (A:Nat→List Addr) (Q:List V→Hp→Prop),Xf K C H0 Hb H Γ Δ σ ρ A→
 Yj (f ρ) (fun d=>∀v H',Yd H H'→ResA K C m S H A d v H'→Q v H') (fun c x=>∀H',Yd H H'→EC C E c x H')→t σ H Q
def TOk (E:XK)(Γ Δ:List Nat)(t:TT)(f:FT):Prop:=∀(H0 Hb H:Hp) (σ:St) (ρ:Yk) (A:Nat→List Addr) (Q:Bool→Hp→Prop),Xf K C H0 Hb H Γ Δ σ ρ A→
 Yj (f ρ) (fun b=>∀H',Yd H H'→Q b H') (fun c x=>∀H',Yd H H'→EC C E c x H')→t σ H Q
def OOk (E:XK)(Γ Δ:List Nat)(t:TO)(f:FO):Prop:=∀(H0 Hb H:Hp) (σ:St) (ρ:Yk) (A:Nat→List Addr) (Q:Option Int→Hp→Prop),Xf K C H0 Hb H Γ Δ σ ρ A→
 Yj (f ρ) (fun b=>∀H',Yd H H'→Q b H') (fun c x=>∀H',Yd H H'→EC C E c x H')→t σ H Q
def Zlw (E:XK)(mr:Nat)(Γl Δl Γ' Δ':List Nat)(H0 Hb:Hp)(D:Ends)(r:R Fl):Prop:=Yj r (fun fl=>match fl with
    | .nx ρ'=>∀σ' H' A',Xf K C H0 Hb H' Γ' Δ' σ' ρ' A'→D.nx σ' H'
    | .ret d=>∀v H',Yd H0 H'→Res K C mr [] H0 (fun _=>[]) d v H'→D.rt v H'
    | .brk ρ'=>∀σ' H' A',Xf K C H0 Hb H' Γl Δl σ' ρ' A'→D.bk σ' H'
    | .cnt ρ'=>∀σ' H' A',Xf K C H0 Hb H' Γl Δl σ' ρ' A'→D.ct σ' H')
  (fun c x=>∀H',Yd H0 H'→EC C E c x H')
def SOk (E:XK)(mr:Nat)(Γl Δl Γ Δ Γ' Δ':List Nat)(t:TS)(f:FS):Prop:=∀(H0 Hb H:Hp) (σ:St) (ρ:Yk) (A:Nat→List Addr) (D:Ends),Xf K C H0 Hb H Γ Δ σ ρ A→
 Zlw K C E mr Γl Δl Γ' Δ' H0 Hb D (f ρ)→t D σ H
end
section
variable {K:Frag}{C:String→Addr}{E:XK}{Γ Δ Γ' Δ' Γ1 Δ1 Γl Δl:List Nat}{m m1 m2 mr:Nat}{S S1 S2:List (Nat×Bool)}
theorem Xf.mono {H0 Hb H H':Hp}{σ:St}{ρ:Yk}{A:Nat→List Addr}(h:Xf K C H0 Hb H Γ Δ σ ρ A)(g:Yd H H'):Xf K C H0 Hb H' Γ Δ σ ρ A:=
 ⟨h.s0,h.same.trans g,h.len,fun i d e=>let ⟨v,q1,q2⟩:=h.rep i d e;⟨v,q1,q2.same g⟩,h.nil,h.loc,h.top,h.deep⟩
theorem Xf.weak {H0 Hb H:Hp}{σ:St}{ρ:Yk}{A:Nat→List Addr}(h:Xf K C H0 Hb H Γ Δ σ ρ A)(h1:∀i∈Γ',i∈Γ)(h2:∀i∈Δ',i∈Δ):Xf K C H0 Hb H Γ' Δ' σ ρ A:=
 ⟨h.s0,h.same,h.len,h.rep,h.nil,fun i hi=>h.loc i (h1 i hi),fun i hi=>h.top i (h1 i hi),fun i hi=>h.deep i (h2 i hi)⟩
theorem Xf.is {H0 Hb H:Hp}{σ:St}{ρ:Yk}{A:Nat→List Addr}(h:Xf K C H0 Hb H Γ Δ σ ρ A){j:Nat}{a:Addr}(ha:a∈A j):∃o,H a=some o∧IsM o:=by
 by_cases q:∃d,ρ[j]?=some (some d)
 ·obtain ⟨d,q⟩:=q
  obtain ⟨v,_,r⟩:=h.rep j d q
  exact r.isl a ha
 ·rw [h.nil j fun d e=>q ⟨d,e⟩] at ha
  cases ha
theorem Xf.ne {H0 Hb H:Hp}{σ:St}{ρ:Yk}{A:Nat→List Addr}(h:Xf K C H0 Hb H Γ Δ σ ρ A){j:Nat}{a:Addr}(ha:a∈A j)(hn:H a=none):False:=by
 obtain ⟨xs,q,_⟩:=h.is ha
 rw [q] at hn
 cases hn
theorem InS.mem {A:Nat→List Addr}{a:Addr}(h:InS A S a):∃p∈S,a∈A p.1:=by
 obtain ⟨p,hp,q⟩:=h
 refine ⟨p,hp,?_⟩
 split at q
 ·exact List.mem_of_mem_tail q
 ·exact q
theorem InS.mono {A:Nat→List Addr}{a:Addr}(h:InS A S1 a)(hs:∀p∈S1,p∈S2):InS A S2 a:=let ⟨p,hp,q⟩:=h;⟨p,hs p hp,q⟩
theorem Yj.imp {α:Type}{r:R α}{ok ok':α→Prop}{er er':String→Option Int→Prop}(h:Yj r ok er)(h1:∀a,ok a→ok' a)(h2:∀c x,er c x→er' c x):Yj r ok' er':=by
 cases r with
 | ok a=>exact h1 a h
 | err c x=>exact h2 c x h
 | bad=>exact h
theorem Yj.bind {α β:Type}{r:R α}{g:α→R β}{ok:β→Prop}{er:String→Option Int→Prop}(h:Yj (r.bind g) ok er):Yj r (fun a=>Yj (g a) ok er) er:=by
 cases r with
 | ok a=>exact h
 | err c x=>exact h
 | bad=>exact h
theorem Res.flat {H H':Hp}{A:Nat→List Addr}{d:D}{v:V}(r:Rp K C H' d v []):Res K C m S H A d v H':=⟨[],r,fun _ h=>(nomatch h),fun _ _ _ e=>(nomatch e),fun _=>nodup_nil⟩
theorem Xdm {d:D}{v:V}(h:∀H,Rp K C H d v []):EOk K C E Γ Δ 2 [] (tC v) (Dl.fC d):=fun _ _ H _ _ _ _ _ p=>p v H (Yd.refl _) (Res.flat (h H))
theorem Xqf {i:Nat}{ρ:Yk}{ok:D→Prop}{er:String→Option Int→Prop}(h:Yj (Dl.fV i ρ) ok er):∃d,ρ[i]?=some (some d)∧ok d:=by
 unfold Dl.fV at h
 split at h
 ·rename_i d e
  exact ⟨d,e,h⟩
 ·exact h.elim
theorem eok_v {i:Nat}:EOk K C E Γ Δ 0 [(i,false)] (Zue i) (Dl.fV i):=fun H0 Hb H σ ρ A Q I p=>by
 obtain ⟨d,e,p⟩:=Xqf p
 obtain ⟨v,e1,r⟩:=I.rep i d e
 exact ⟨v,e1,p v H (Yd.refl _) ⟨A i,r,fun a ha=>.inr ⟨(i,false),.head _,ha⟩,(fun z=>nomatch z),(fun z=>nomatch z)⟩⟩
theorem Xnw {i:Nat}(hi:i∈Δ):EOk K C E Γ Δ 2 [(i,false)] (Zue i) (Dl.fV i):=fun H0 Hb H σ ρ A Q I p=>by
 obtain ⟨d,e,p⟩:=Xqf p
 obtain ⟨v,e1,r⟩:=I.rep i d e
 exact ⟨v,e1,p v H (Yd.refl _) ⟨A i,r,fun a ha=>.inr ⟨(i,false),.head _,ha⟩,(fun z=>nomatch z),fun _=>(I.deep i hi).1⟩⟩
theorem Xcn {t:TE}{f:FE}(h:EOk K C E Γ Δ m S t f):EOk K C E Γ Δ 2 [] t (Dl.f1 Dl.Xr f):=fun H0 Hb H σ ρ A Q I p =>
  h H0 Hb H σ ρ A Q I (p.bind.imp (fun d q v H' g r=>by
    unfold Dl.Xr at q
    split at q
    · rename_i hf
      obtain ⟨B,r1,_⟩:=r
      have e:=r1.flat hf
      subst e
      exact q v H' g (Res.flat r1)
    · exact q.elim) fun _ _ q=>q)
theorem Res.later {H0 H1 H2 H3:Hp}{A:Nat→List Addr}{d:D}{v:V}(g1:Yd H0 H1)(g2:Yd H2 H3)(r:Res K C m S H1 A d v H2):Res K C m S H0 A d v H3:=by
 obtain ⟨B,r1,r2,r3,r4⟩:=r
 exact ⟨B,r1.same g2,fun a ha=>(r2 a ha).imp (fun h=>g1.free h) id,fun hm a l e=>⟨g1.free (r3 hm a l e).1,(r3 hm a l e).2⟩,r4⟩
theorem Res.new {H H':Hp}{A:Nat→List Addr}{d:D}{v:V}{B:List Addr}(r:Rp K C H' d v B)(h1:B.Nodup)(h2:∀a∈B,H a=none):Res K C m S H A d v H':=
 ⟨B,r,fun a ha=>.inl (h2 a ha),fun _ a l e=>by subst e;exact ⟨h2 a (.head _),(List.nodup_cons.mp h1).1⟩,fun _=>h1⟩
theorem Zhx {α:Type}{o:Option α}{ok:α→Prop}{er:String→Option Int→Prop}(h:Yj (Dl.oR o) ok er):∃a,o=some a∧ok a:=by
 cases o with
 | none=>exact h.elim
 | some a=>exact ⟨a,rfl,h⟩
def GOk (K:Frag)(C:String→Addr)(r:R2)(g:D→D→Option D):Prop:=
 ∀(H:Hp) (x y d:D) (vx vy:V) (Bx By:List Addr) (Q:VK),Rp K C H x vx Bx→Rp K C H y vy By→g x y=some d→(∀v H' B,Yd H H'→Rp K C H' d v B→B.Nodup→(∀a∈B,H a=none)→Q v H')→r vx vy H Q
def GAk (K:Frag)(C:String→Addr)(r:List V→Hp→VK→Prop)(g:List D→Option D):Prop:=
 ∀(H:Hp) (xs:List D) (d:D) (vs:List V) (Bx:List Addr) (Q:VK),RpA K C H xs vs Bx→g xs=some d→(∀v H' B,Yd H H'→Rp K C H' d v B→B.Nodup→(∀a∈B,H a=none)→Q v H')→r vs H Q
theorem Zyb {r:R2}{g:D→D→Option D}{ta tb:TE}{fa fb:FE}(hg:GOk K C r g)(ha:EOk K C E Γ Δ m1 S1 ta fa)(hb:EOk K C E Γ Δ m2 S2 tb fb):EOk K C E Γ Δ 2 [] (tOp r ta tb) (Dl.f2 g fa fb):=
  fun H0 Hb H σ ρ A Q I p=>ha H0 Hb H σ ρ A _ I (p.bind.imp (fun x q vx H1 g1 r1=>hb H0 Hb H1 σ ρ A _ (I.mono g1) (q.bind.imp (fun y q vy H2 g2 r2=>by
    obtain ⟨d,e,q⟩:=Zhx q
    obtain ⟨Bx,r1,_⟩:=r1
    obtain ⟨By,r2,_⟩:=r2
    exact hg H2 x y d vx vy Bx By Q (r1.same g2) r2 e fun v H' B g3 r3 h1 h2=>q v H' (g1.trans (g2.trans g3)) (Res.new r3 h1 fun a ha=>(g1.trans g2).free (h2 a ha))) fun c x q H' g'=>q H' (g1.trans g'))) fun c x q H' g'=>q H' g')
theorem Xrv {r:V→Hp→VK→Prop}{g:D→Option D}{ta:TE}{fa:FE}(hg:∀(H:Hp) (x d:D) (vx:V) (Bx:List Addr) (Q:VK),Rp K C H x vx Bx→g x=some d→(∀v H' B,Yd H H'→Rp K C H' d v B→B.Nodup→(∀a∈B,H a=none)→Q v H')→r vx H Q)
    (ha:EOk K C E Γ Δ m1 S1 ta fa):EOk K C E Γ Δ 2 [] (tUn r ta) (Dl.f1 g fa):=
  fun H0 Hb H σ ρ A Q I p=>ha H0 Hb H σ ρ A _ I (p.bind.imp (fun x q vx H1 g1 r1=>by
    obtain ⟨d,e,q⟩:=Zhx q
    obtain ⟨Bx,r1,_⟩:=r1
    exact hg H1 x d vx Bx Q r1 e fun v H' B g3 r3 h1 h2=>q v H' (g1.trans g3) (Res.new r3 h1 fun a ha=>g1.free (h2 a ha))) fun c x q H' g'=>q H' g')
theorem Jl {α:Type}{d:α}{P:Prop}(e:(none:Option α)=some d):P:=nomatch e
theorem Zwo {F:List D→Option D}(hn:F []=none)(hc:∀x y r,F (x::y::r)=none):∀{ds:List D} {d:D},F ds=some d→∃x,ds=[x]
 | [],_,e=>Jl (hn.symm.trans e)
 | [x],_,_=>⟨x,rfl⟩
 | x::y::r,_,e=>Jl ((hc x y r).symm.trans e)
theorem Xhj {ds:List D}{y d:D}(e:Dl.gIx (.lst ds) y=some d):∃i,y=.int i∧atI ds i=some d:=by
 cases y with
 | int i=>exact ⟨i,rfl,e⟩
 | _=>exact Jl e
theorem Xjy {ds:List D}{y d:D}(e:Dl.gIx (.tup ds) y=some d):∃i,y=.int i∧atI ds i=some d:=by
 cases y with
 | int i=>exact ⟨i,rfl,e⟩
 | _=>exact Jl e
theorem Xjz {ns:List Int}{y d:D}(e:Dl.gIx (.scr ns) y=some d):∃i,y=.int i∧(atI ns i).map D.int=some d:=by
 cases y with
 | int i=>exact ⟨i,rfl,e⟩
 | _=>exact Jl e
theorem Xki {z:Str}{y d:D}(e:Dl.gIx (.str z) y=some d):∃i,y=.int i∧z.length≤Dl.lim∧(atI z.cps.toList i).map (fun c=>D.str ⟨#[c]⟩)=some d:=by
 cases y with
 | int i =>
  have e':(if z.length≤Dl.lim then ((Dl.atD z.cps.toList i).map fun c=>D.str ⟨#[c]⟩) else none)=some d:=e
  by_cases h:z.length≤Dl.lim
  ·rw [if_pos h] at e'
   exact ⟨i,rfl,h,e'⟩
  ·rw [if_neg h] at e'
   exact Jl e'
 | _=>exact Jl e
theorem Xro {x y d:D}(e:Dl.gIx x y=some d):∃i,y=.int i∧((∃ds,x=.lst ds∧atI ds i=some d)∨(∃ds,x=.tup ds∧atI ds i=some d)∨(∃ns,x=.scr ns∧(atI ns i).map D.int=some d)∨∃z,x=.str z∧z.length≤Dl.lim∧(atI z.cps.toList i).map (fun c=>D.str ⟨#[c]⟩)=some d):=by
 cases x with
 | lst ds=>exact (Xhj e).imp fun _ h=>⟨h.1,.inl ⟨ds,rfl,h.2⟩⟩
 | tup ds=>exact (Xjy e).imp fun _ h=>⟨h.1,.inr (.inl ⟨ds,rfl,h.2⟩)⟩
 | scr ns=>exact (Xjz e).imp fun _ h=>⟨h.1,.inr (.inr (.inl ⟨ns,rfl,h.2⟩))⟩
 | str z=>exact (Xki e).imp fun _ h=>⟨h.1,.inr (.inr (.inr ⟨z,rfl,h.2⟩))⟩
 | _=>exact Jl e
theorem Zvf {α β:Type}{ds:List α}{xs:List β}{i:Int}{d:α}{v:β}{j:Nat}(hl:xs.length=ds.length)(e:atI ds i=some d)(h1:seqIndex? i ds.length=some j)(hv:xs[j]?=some v):atI xs i=some v:=by
 unfold atI at e ⊢
 rw [hl]
 cases hx:ixN ds.length i with
 | none=>rw [hx] at e;cases e
 | some k =>
  obtain ⟨z1,_⟩:=Zxn hx
  rw [h1] at z1
  cases z1
  exact hv
theorem Xmx {H:Hp}{x y d:D}{vx vy:V}{Bx By:List Addr}{Q:VK}(rx:Rp K C H x vx Bx)(ry:Rp K C H y vy By)(e:Dl.gIx x y=some d)(q:∀v B,Rp K C H d v B→(∀a∈B,a∈Bx)→((∃ds,x=.lst ds)→∀a∈B,a∈Bx.tail)→Q v H):rIx K vx vy H Q:=by
 obtain ⟨i,rfl,h⟩:=Xro e
 cases ry.1
 rcases h with ⟨ds,rfl,e'⟩ | ⟨ds,rfl,e'⟩ | ⟨ns,rfl,e'⟩ | ⟨z,rfl,hz,e'⟩
 ·obtain ⟨a,xs,B,rfl,e2,e3,rfl⟩:=rx
  obtain ⟨j,h1,h2,_⟩:=Zeb e'
  obtain ⟨v,B',q1,q2,q3⟩:=e3.get h2
  exact Xnu (SqL.of e2) (v:=v) (Zvf e3.len e' h1 q1) (q v B' q2 (fun a ha=>.tail _ (q3 a ha)) fun _ a ha=>q3 a ha)
 ·obtain ⟨a,xs,rfl,e2,e3⟩:=rx
  obtain ⟨j,h1,h2,_⟩:=Zeb e'
  obtain ⟨v,B',q1,q2,q3⟩:=e3.get h2
  exact Xms (SqT.of e2) (v:=v) (Zvf e3.len e' h1 q1) (q v B' q2 q3 fun z=>by obtain ⟨_,z⟩:=z;cases z)
 ·obtain ⟨a,rfl,e2,rfl⟩:=rx
  obtain ⟨n,h1,rfl⟩:=Option.map_eq_some_iff.mp e'
  obtain ⟨j,h2,h3,_⟩:=Zeb h1
  exact .inl ⟨a,ns.map V.int,i,.int n,rfl,rfl,e2.sq,Zvf (length_map _) h1 h2 (by rw [getElem?_map,h3];rfl),q (.int n) [] ⟨rfl,rfl⟩ (fun _ h=>(nomatch h)) fun _ _ h=>(nomatch h)⟩
 ·obtain ⟨rfl,e2,rfl⟩:=rx
  obtain ⟨c,h1,rfl⟩:=Option.map_eq_some_iff.mp e'
  refine .inr (.inr ⟨z,i,c,rfl,rfl,le_trans hz (by decide),h1,q _ [] ⟨rfl,?_,rfl⟩ (fun _ h=>(nomatch h)) fun _ _ h=>(nomatch h)⟩)
  obtain ⟨j,_,h3,_⟩:=Zeb h1
  have hm:c∈z.cps:=Array.mem_toList_iff.mp (mem_of_getElem? h3)
  have ho:z.cps.all (·<0x110000)=true:=e2
  have:=(Array.all_eq_true_iff_forall_mem.mp ho) c hm
  unfold PyData.strOk
  simpa using this
theorem Xqh {ta tb:TE}{fa fb:FE}(ha:EOk K C E Γ Δ m1 S1 ta fa)(hb:EOk K C E Γ Δ m2 S2 tb fb):EOk K C E Γ Δ 0 S1 (tOp (rIx K) ta tb) (Dl.f2 Dl.gIx fa fb):=
  fun H0 Hb H σ ρ A Q I p=>ha H0 Hb H σ ρ A _ I (p.bind.imp (fun x q vx H1 g1 r1=>hb H0 Hb H1 σ ρ A _ (I.mono g1) (q.bind.imp (fun y q vy H2 g2 r2=>by
    obtain ⟨d,e,q⟩:=Zhx q
    obtain ⟨Bx,r1,r1',_⟩:=r1
    obtain ⟨By,r2,_⟩:=r2
    exact Xmx (r1.same g2) r2 e fun v B r3 h _=>q v H2 (g1.trans g2) ⟨B,r3,fun a ha=>r1' a (h a ha),(fun z=>nomatch z),(fun z=>nomatch z)⟩) fun c x q H' g'=>q H' (g1.trans g'))) fun c x q H' g'=>q H' g')
noncomputable def gIxL (x y:D):Option D:=match x with
 | .lst _=>Dl.gIx x y
 | _=>none
end
section
variable {K:Frag}{C:String→Addr}{E:XK}{Γ Δ:List Nat}{m m1 m2 m3 mr:Nat}{S S1 S2 S3:List (Nat×Bool)}{H:Hp}{Q:VK}
theorem sameNew {H:Hp}{p:Addr}(h:H p=none)(o:HO):Yd H (upd H p o):=fun b u q=>by rw [Yz (Yy q h)];exact q
noncomputable abbrev Out (K:Frag)(C:String→Addr)(H:Hp)(d:D)(Q:VK):Prop:=∀v H' B,Yd H H'→Rp K C H' d v B→B.Nodup→(∀a∈B,H a=none)→Q v H'
theorem Out.flat {d:D}{v:V}(q:Out K C H d Q)(r:Rp K C H d v []):Q v H:=q v H [] (Yd.refl _) r nodup_nil (fun _ h=>nomatch h)
theorem Out.lst {ds:List D}{vs:List V}{p:Addr}(q:Out K C H (.lst ds) Q)(r:RpA K C H ds vs [])(hp:H p=none):Q (.ref p) (upd H p (.lst vs)):=
 q _ _ [p] (sameNew hp _) ⟨p,vs,[],rfl,Jz,r.same (sameNew hp _),rfl⟩ (by simp) (fun a ha=>by rw [List.mem_singleton.mp ha];exact hp)
theorem Zcu {n:Nat}(h:n≤Dl.lim):n≤sizeLine:=le_trans h (by decide)
theorem Zqt {n:Nat}(h:n<Dl.lim):n<sizeLine:=lt_of_lt_of_le h (by decide)
theorem Zuy {x y:Str}(h1:PyData.strOk x=true)(h2:PyData.strOk y=true):PyData.strOk (x++y)=true:=by
 unfold PyData.strOk at *
 show (x.cps++y.cps).all _=true
 rw [Array.all_append,h1,h2]
 rfl
theorem RpA.nil:RpA K C H [] [] []:=⟨rfl,rfl⟩
theorem RpA.flat' {ds:List D}{vs:List V}{A:List Addr}(h:Dl.Yw ds=true)(r:RpA K C H ds vs A):RpA K C H ds vs []:=by
 have e:=RpA.flat h r
 subst e
 exact r
theorem RpA.rep {ds:List D}{vs:List V}(r:RpA K C H ds vs []):∀n,RpA K C H (List.replicate n ds).flatten (List.replicate n vs).flatten []
 | 0=>RpA.nil
 | n+1=>by
  rw [replicate_succ,replicate_succ,flatten_cons,flatten_cons]
  exact r.app (RpA.rep r n)
theorem Zv:GOk K C Xdq Dl.Jk:=by
 intro H x y d vx vy Bx By Q rx ry e q
 unfold Dl.Jk at e
 split at e
 ·cases e
  obtain ⟨rfl,_⟩:=rx
  obtain ⟨rfl,_⟩:=ry
  exact Xrr (Out.flat q ⟨rfl,rfl⟩)
 ·split at e
  ·rename_i hz
   cases e
   obtain ⟨rfl,h1,_⟩:=rx
   obtain ⟨rfl,h2,_⟩:=ry
   exact .inr (.inl ⟨_,_,rfl,rfl,Zcu hz,Out.flat q ⟨rfl,Zuy h1 h2,rfl⟩⟩)
  ·cases e
 ·split at e
  ·rename_i hz
   cases e
   obtain ⟨a,xs,B,rfl,e2,e3,_⟩:=rx
   obtain ⟨a',xs',B',rfl,e2',e3',_⟩:=ry
   obtain ⟨hz,f1,f2⟩:=hz
   refine Xos e2 e2' (by rw [e3.len,e3'.len];exact Zcu hz) fun p hp=>?_
   exact Out.lst q ((e3.flat' f1).app (e3'.flat' f2)) hp
  ·cases e
 ·cases e
theorem Zsq {g:Int→Int→D}{gv:Int→Int→V}{f:D→D→Option D}(hf:∀x y d,f x y=some d→∃i j,x=.int i∧y=.int j∧d=g i j)(hr:∀H i j,Rp K C H (g i j) (gv i j) []):GOk K C (rI0 gv) f:=by
 intro H x y d vx vy Bx By Q rx ry e q
 obtain ⟨i,j,rfl,rfl,rfl⟩:=hf x y d e
 obtain ⟨rfl,_⟩:=rx
 obtain ⟨rfl,_⟩:=ry
 exact rd_I0 (Out.flat q (hr H i j))
theorem Xhu {Cd:Int→Int→Prop}{g:Int→Int→D}{gv:Int→Int→V}{f:D→D→Option D}(hf:∀x y d,f x y=some d→∃i j,x=.int i∧y=.int j∧d=g i j∧Cd i j)(hr:∀H i j,Rp K C H (g i j) (gv i j) []):GOk K C (rI Cd gv) f:=by
 intro H x y d vx vy Bx By Q rx ry e q
 obtain ⟨i,j,rfl,rfl,rfl,hc⟩:=hf x y d e
 obtain ⟨rfl,_⟩:=rx
 obtain ⟨rfl,_⟩:=ry
 exact rd_I hc (Out.flat q (hr H i j))
theorem rpI {i:Int}:Rp K C H (.int i) (.int i) []:=⟨rfl,rfl⟩
theorem rpB {i:Bool}:Rp K C H (.bl i) (.bl i) []:=⟨rfl,rfl⟩
theorem Zal:GOk K C (rI0 fun i j=>.int (i - j)) Dl.Zgt:=Zsq (fun x y d e=>by unfold Dl.Zgt at e;split at e<;>cases e;exact ⟨_,_,rfl,rfl,rfl⟩) fun _ _ _=>rpI
theorem Zgl:GOk K C (rI0 fun i j=>.bl (decide (i<j))) Dl.gLt:=Zsq (fun x y d e=>by unfold Dl.gLt at e;split at e<;>cases e;exact ⟨_,_,rfl,rfl,rfl⟩) fun _ _ _=>rpB
theorem Xfl:GOk K C (rI0 fun i j=>.bl (decide (i≤j))) Dl.gLe:=Zsq (fun x y d e=>by unfold Dl.gLe at e;split at e<;>cases e;exact ⟨_,_,rfl,rfl,rfl⟩) fun _ _ _=>rpB
theorem Zgq:GOk K C (rI0 fun i j=>.bl (decide (j<i))) Dl.gGt:=Zsq (fun x y d e=>by unfold Dl.gGt at e;split at e<;>cases e;exact ⟨_,_,rfl,rfl,rfl⟩) fun _ _ _=>rpB
theorem Ji:GOk K C (rI (fun _ j=>0<j) fun i j=>.int (i % j)) Dl.Zhe:=Xhu (fun x y d e=>by
  unfold Dl.Zhe at e
  split at e
  · split at e
    · rename_i h;cases e;exact ⟨_,_,rfl,rfl,rfl,h⟩
    · cases e
  · cases e) fun _ _ _=>rpI
theorem Zvx:GOk K C (rI Xqb fun i j=>.int (i / j)) Dl.Xmi:=Xhu (fun x y d e=>by
  unfold Dl.Xmi at e
  split at e
  · split at e
    · rename_i h;cases e;exact ⟨_,_,rfl,rfl,rfl,h⟩
    · cases e
  · cases e) fun _ _ _=>rpI
theorem Zcf:GOk K C (rI CPow fun i j=>.int (i ^ j.toNat)) Dl.Zjv:=Xhu (fun x y d e=>by
  unfold Dl.Zjv at e
  split at e
  · split at e
    · rename_i h;cases e;exact ⟨_,_,rfl,rfl,rfl,h⟩
    · cases e
  · cases e) fun _ _ _=>rpI
theorem Zzi {i j:Int}(h:(Dl.short i||Dl.short j)=true):Xmm i j:=by
 unfold Dl.short at h
 simp only [Bool.or_eq_true,Bool.and_eq_true,decide_eq_true_eq] at h
 exact h
theorem Yo:GOk K C Xec Dl.Zco:=by
 intro H x y d vx vy Bx By Q rx ry e q
 unfold Dl.Zco at e
 split at e
 ·split at e
  ·rename_i h
   cases e
   obtain ⟨rfl,_⟩:=rx
   obtain ⟨rfl,_⟩:=ry
   exact Xom (Zzi h) (Out.flat q rpI)
  ·cases e
 ·split at e
  ·rename_i h
   cases e
   obtain ⟨a,xs,B,rfl,e2,e3,_⟩:=rx
   obtain ⟨rfl,_⟩:=ry
   obtain ⟨h1,h2,h3,h4⟩:=h
   refine Xpr e2 (by omega) (by omega) (by rw [e3.len];exact Zcu h2) fun p hp=>?_
   exact Out.lst q ((e3.flat' h4).rep _) hp
  ·cases e
 ·cases e
theorem Zeo {d:D}{v:V}{A:List Addr}(h:Dl.dep d≤20)(r:Rp K C H d v A):Dn K H v (toPy d)∧SeqAt.shaped (toPy d)=true:=by
 obtain ⟨q1,q2,q3⟩:=r.dn h (by decide)
 refine ⟨q1,?_⟩
 unfold SeqAt.shaped
 rw [q2,q3]
 simp only [Bool.true_and,decide_eq_true_eq]
 omega
theorem Zax:GOk K C (Znl K) Dl.gEq:=by
 intro H x y d vx vy Bx By Q rx ry e q
 unfold Dl.gEq at e
 split at e
 ·rename_i h
  cases e
  obtain ⟨a1,a2⟩:=Zeo h.1 rx
  obtain ⟨b1,b2⟩:=Zeo h.2 ry
  refine .inr ⟨_,_,a1,b1,a2,b2,?_⟩
  rw [Zyk (by omega) (by omega)]
  exact Out.flat q rpB
 ·cases e
theorem Zss:GOk K C (Xmo K) Dl.gNe:=by
 intro H x y d vx vy Bx By Q rx ry e q
 unfold Dl.gNe at e
 split at e
 ·rename_i h
  cases e
  obtain ⟨a1,a2⟩:=Zeo h.1 rx
  obtain ⟨b1,b2⟩:=Zeo h.2 ry
  refine .inr ⟨_,_,a1,b1,a2,b2,?_⟩
  rw [Zyk (by omega) (by omega)]
  exact Out.flat q rpB
 ·cases e
theorem Zse {x:D}{v:V}{B:List Addr}(r:Rp K C H x v B):decide (v=.non)=Dl.Zjn x:=by
 cases x
 ·rw [r.1];rfl
 ·rw [r.1];rfl
 ·rw [r.1];rfl
 ·rw [r.1];rfl
 ·obtain ⟨a,xs,B,rfl,_⟩:=r;rfl
 ·obtain ⟨a,xs,rfl,_⟩:=r;rfl
 ·obtain ⟨a,rfl,_⟩:=r;rfl
 ·obtain ⟨a,rfl,_⟩:=r;rfl
 ·obtain ⟨a,dx,rfl,_⟩:=r;rfl
 ·obtain ⟨a,dx,xs,B,rfl,_⟩:=r;rfl
 ·obtain ⟨a,xs,B,rfl,_⟩:=r;rfl
 ·obtain ⟨a,xs,B,rfl,_⟩:=r;rfl
theorem Xgq:GOk K C (rIsA false) Dl.gIs:=by
 intro H x y d vx vy Bx By Q rx ry e q
 unfold Dl.gIs at e
 split at e
 ·cases e
  refine .inl ⟨ry.1,?_⟩
  simp only [Bool.false_eq_true,if_false]
  rw [Zse rx]
  exact Out.flat q rpB
 ·split at e
  ·cases e
   obtain ⟨rfl,_⟩:=rx
   obtain ⟨rfl,_⟩:=ry
   exact .inr ⟨_,_,rfl,rfl,by simp only [Bool.false_eq_true,if_false];exact Out.flat q rpB⟩
  ·cases e
 ·cases e
theorem Zmu:GOk K C (rIsA true) Dl.Zke:=by
 intro H x y d vx vy Bx By Q rx ry e q
 unfold Dl.Zke at e
 split at e
 ·cases e
  refine .inl ⟨ry.1,?_⟩
  simp only [if_true]
  rw [Zse rx]
  exact Out.flat q rpB
 ·split at e
  ·cases e
   obtain ⟨rfl,_⟩:=rx
   obtain ⟨rfl,_⟩:=ry
   exact .inr ⟨_,_,rfl,rfl,by simp only [if_true];exact Out.flat q rpB⟩
  ·cases e
 ·cases e
theorem Xlt:AOk K C E Γ Δ 2 [] Zuh Dl.Zu:=fun _ _ H _ _ _ _ _ p=>p [] H (Yd.refl _) ⟨[],RpA.nil,(fun _ h=>nomatch h),fun _=>nodup_nil⟩
theorem InS.left {A:Nat→List Addr}{a:Addr}(h:InS A S1 a):InS A (S1++S2) a:=h.mono fun _ hp=>mem_append_left _ hp
theorem InS.right {A:Nat→List Addr}{a:Addr}(h:InS A S2 a):InS A (S1++S2) a:=h.mono fun _ hp=>mem_append_right _ hp
theorem Xbp {te:TE}{t:TA}{fe:FE}{f:FA}(he:EOk K C E Γ Δ m1 S1 te fe)(ha:AOk K C E Γ Δ m2 S2 t f):AOk K C E Γ Δ 0 (S1++S2) (Zgb te t) (Dl.Zd fe f):=
  fun H0 Hb H σ ρ A Q I p=>he H0 Hb H σ ρ A _ I (p.bind.imp (fun x q vx H1 g1 r1=>ha H0 Hb H1 σ ρ A _ (I.mono g1) (q.bind.imp (fun ys q vs H2 g2 r2=>by
    obtain ⟨Bx,r1,r1',_⟩:=r1
    obtain ⟨By,r2,r2',_⟩:=r2
    exact q _ H2 (g1.trans g2) ⟨Bx++By,⟨vx,vs,Bx,By,rfl,r1.same g2,r2,rfl⟩,fun a h=>(List.mem_append.mp h).elim (fun h=>(r1' a h).imp id InS.left) (fun h=>(r2' a h).imp (fun h=>g1.free h) InS.right),(fun z=>nomatch z)⟩)
    fun c x q H' g'=>q H' (g1.trans g'))) fun c x q H' g'=>q H' g')
theorem Zyg {te:TE}{t:TA}{fe:FE}{f:FA}(he:EOk K C E Γ Δ 2 S1 te fe)(ha:AOk K C E Γ Δ 2 S2 t f)(h1:∀p∈S1,p.1∈Δ:=by decide)(h2:∀p∈S1,∀q∈S2,p.1≠q.1:=by decide):AOk K C E Γ Δ 2 (S1++S2) (Zgb te t) (Dl.Zd fe f):=
  fun H0 Hb H σ ρ A Q I p=>he H0 Hb H σ ρ A _ I (p.bind.imp (fun x q vx H1 g1 r1=>ha H0 Hb H1 σ ρ A _ (I.mono g1) (q.bind.imp (fun ys q vs H2 g2 r2=>by
    obtain ⟨Bx,r1,r1',_,n1⟩:=r1
    obtain ⟨By,r2,r2',n2⟩:=r2
    refine q _ H2 (g1.trans g2) ⟨Bx++By,⟨vx,vs,Bx,By,rfl,r1.same g2,r2,rfl⟩,fun a h=>(List.mem_append.mp h).elim (fun h=>(r1' a h).imp id InS.left) (fun h=>(r2' a h).imp (fun h=>g1.free h) InS.right),fun _=>?_⟩
    refine List.nodup_append.mpr ⟨n1 rfl,n2 rfl,fun a ha b hb e=>?_⟩
    subst e
    rcases r2' a hb with z | z
    · obtain ⟨xs,w,_⟩:=r1.isl a ha
      rw [w] at z
      cases z
    · obtain ⟨p2,hp2,z⟩:=z.mem
      rcases r1' a ha with w | w
      · exact I.ne z w
      · obtain ⟨p1,hp1,w⟩:=w.mem
        exact (I.deep p1.1 (h1 p1 hp1)).2.1 p2.1 (fun e=>h2 p1 hp1 p2 hp2 e.symm) a w z)
    fun c x q H' g'=>q H' (g1.trans g'))) fun c x q H' g'=>q H' g')
theorem Xhy {t:TA}{f:FA}(ha:AOk K C E Γ Δ 2 S t f):EOk K C E Γ Δ 2 S (Xmk t) (Dl.fA Dl.Jy f):=
  fun H0 Hb H σ ρ A Q I p=>ha H0 Hb H σ ρ A _ I (p.bind.imp (fun ds q vs H1 g1 r1=>by
    obtain ⟨d,e,q⟩:=Zhx q
    unfold Dl.Jy at e
    split at e
    · rename_i hz
      cases e
      obtain ⟨B,r1,r1',n1⟩:=r1
      refine ⟨by rw [r1.len];exact Zcu hz,fun p hp=>?_⟩
      have g2:=sameNew hp (.lst vs)
      refine q _ _ (g1.trans g2) ⟨p::B,⟨p,vs,B,rfl,Jz,r1.same g2,rfl⟩,fun a ha=>?_,(fun z=>nomatch z),fun _=>List.nodup_cons.mpr ⟨fun h=>?_,n1 rfl⟩⟩
      · rcases List.mem_cons.mp ha with z | z
        · rw [z];exact .inl (g1.free hp)
        · exact r1' a z
      · obtain ⟨xs,w,_⟩:=r1.isl p h
        rw [w] at hp
        cases hp
    · cases e) fun c x q H' g'=>q H' g')
theorem Xeb {t:TA}{f:FA}(ha:AOk K C E Γ Δ m S t f):EOk K C E Γ Δ 1 S (Xmk t) (Dl.fA Dl.Jy f):=
  fun H0 Hb H σ ρ A Q I p=>ha H0 Hb H σ ρ A _ I (p.bind.imp (fun ds q vs H1 g1 r1=>by
    obtain ⟨d,e,q⟩:=Zhx q
    unfold Dl.Jy at e
    split at e
    · rename_i hz
      cases e
      obtain ⟨B,r1,r1',n1⟩:=r1
      refine ⟨by rw [r1.len];exact Zcu hz,fun p hp=>?_⟩
      have g2:=sameNew hp (.lst vs)
      refine q _ _ (g1.trans g2) ⟨p::B,⟨p,vs,B,rfl,Jz,r1.same g2,rfl⟩,fun a ha=>?_,fun _ a r e=>?_,(fun z=>nomatch z)⟩
      · rcases List.mem_cons.mp ha with z | z
        · rw [z];exact .inl (g1.free hp)
        · exact r1' a z
      · cases e
        refine ⟨g1.free hp,fun h=>?_⟩
        obtain ⟨xs,w,_⟩:=r1.isl p h
        rw [w] at hp
        cases hp
    · cases e) fun c x q H' g'=>q H' g')
theorem Zvm (hm:m=0∨m=2){t:TA}{f:FA}(ha:AOk K C E Γ Δ m S t f):EOk K C E Γ Δ m S (Xrc t) (Dl.fA Dl.Zca f):=
  fun H0 Hb H σ ρ A Q I p=>ha H0 Hb H σ ρ A _ I (p.bind.imp (fun ds q vs H1 g1 r1=>by
    obtain ⟨d,e,q⟩:=Zhx q
    unfold Dl.Zca at e
    split at e
    · rename_i hz
      cases e
      obtain ⟨B,r1,r1',n1⟩:=r1
      refine ⟨by rw [r1.len];exact Zcu hz,fun p hp=>?_⟩
      have g2:=sameNew hp (.tup vs)
      exact q _ _ (g1.trans g2) ⟨B,⟨p,vs,rfl,Jz,r1.same g2⟩,r1',(fun z=>by omega),n1⟩
    · cases e) fun c x q H' g'=>q H' g')
theorem Xfp {r:List V→Hp→VK→Prop}{g:List D→Option D}{t:TA}{f:FA}(hg:GAk K C r g)(ha:AOk K C E Γ Δ m S t f):EOk K C E Γ Δ 2 [] (tCB r t) (Dl.fA g f):=
  fun H0 Hb H σ ρ A Q I p=>ha H0 Hb H σ ρ A _ I (p.bind.imp (fun ds q vs H1 g1 r1=>by
    obtain ⟨d,e,q⟩:=Zhx q
    obtain ⟨B,r1,_⟩:=r1
    exact hg H1 ds d vs B Q r1 e fun v H' B' g2 r2 h1 h2=>q v H' (g1.trans g2) (Res.new r2 h1 fun a ha=>g1.free (h2 a ha))) fun c x q H' g'=>q H' g')
theorem RpA.one' {d:D}{vs:List V}{A:List Addr}(r:RpA K C H [d] vs A):∃v,vs=[v]∧Rp K C H d v A:=by
 obtain ⟨x,l,B,B',e1,e2,e3,e4⟩:=r
 obtain ⟨e5,e6⟩:=e3
 subst e1 e4 e5 e6
 rw [append_nil]
 exact ⟨x,rfl,e2⟩
theorem RpA.two' {d e:D}{vs:List V}{A:List Addr}(r:RpA K C H [d,e] vs A):∃v w B B',vs=[v,w]∧Rp K C H d v B∧Rp K C H e w B':=by
 obtain ⟨x,l,B,B',e1,e2,e3,e4⟩:=r
 obtain ⟨w,e5,e6⟩:=e3.one'
 subst e1 e5
 exact ⟨x,w,B,B',rfl,e2,e6⟩
theorem Yu:GAk K C (Zbi K) Dl.Zbh:=by
 intro H xs d vs B Q r e q
 obtain ⟨x,rfl⟩:=Zwo (F:=Dl.Zbh) rfl (fun x _ _=>by cases x<;>rfl) e
 obtain ⟨v,rfl,r1⟩:=r.one'
 cases x with
 | lst xs =>
  cases (show some (D.int xs.length)=some d from e)
  obtain ⟨a,ys,B,rfl,e2,e3,_⟩:=r1
  refine Zwu (SqL.of e2) ?_
  rw [e3.len]
  exact Out.flat q rpI
 | tup xs =>
  cases (show some (D.int xs.length)=some d from e)
  obtain ⟨a,ys,rfl,e2,e3⟩:=r1
  refine Xiv (SqT.of e2) ?_
  rw [e3.len]
  exact Out.flat q rpI
 | scr xs =>
  cases (show some (D.int xs.length)=some d from e)
  obtain ⟨a,rfl,e2,_⟩:=r1
  refine Zwu e2.sq ?_
  rw [length_map]
  exact Out.flat q rpI
 | str z =>
  have e:(if z.length≤Dl.lim then some (D.int z.length) else none)=some d:=e
  by_cases hz:z.length≤Dl.lim
  ·rw [if_pos hz] at e
   cases e
   obtain ⟨rfl,_⟩:=r1
   exact Xjj (Zcu hz) (Out.flat q rpI)
  ·rw [if_neg hz] at e
   exact Jl e
 | _=>exact Jl e
theorem Zir:GAk K C (Xgm K) Dl.Zud:=by
 intro H xs d vs B Q r e q
 obtain ⟨x,rfl⟩:=Zwo (F:=Dl.Zud) rfl (fun x _ _=>by cases x<;>rfl) e
 obtain ⟨v,rfl,r1⟩:=r.one'
 cases x with
 | lst xs =>
  obtain ⟨ns,h1,h2⟩:=Option.bind_eq_some_iff.mp e
  cases h2
  obtain ⟨a,ys,B,rfl,e2,e3,_⟩:=r1
  have h:=e3.ofInts h1
  subst h
  exact Xnf (SqL.of e2) (Out.flat q rpI)
 | _=>exact Jl e
theorem Zvn (x:Int):∀(r:List Int),(r.foldl max x=x∨r.foldl max x∈r)∧x≤r.foldl max x∧∀y∈r,y≤r.foldl max x:=by
 intro r
 induction r generalizing x with
 | nil=>simp
 | cons y r ih =>
  obtain ⟨h1,h2,h3⟩:=ih (max x y)
  rw [foldl_cons]
  refine ⟨?_,by omega,fun z hz=>?_⟩
  ·rcases h1 with h | h
   ·rw [h]
    by_cases hxy:x≤y
    ·right;rw [Int.max_eq_right hxy];exact .head _
    ·left;omega
   ·right;exact .tail _ h
  ·rcases List.mem_cons.mp hz with e | e
   ·omega
   ·exact h3 z e
theorem Zyj {ns:List Int}(h:ns≠[]):Dl.Xbr ns∈ns∧∀n∈ns,n≤Dl.Xbr ns:=by
 cases ns with
 | nil=>exact absurd rfl h
 | cons x r =>
  obtain ⟨h1,h2,h3⟩:=Zvn x r
  show r.foldl max x∈x::r∧∀n∈x::r,n≤r.foldl max x
  refine ⟨?_,fun n hn=>?_⟩
  ·rcases h1 with e | e
   ·rw [e];exact .head _
   ·exact .tail _ e
  ·rcases List.mem_cons.mp hn with e | e
   ·omega
   ·exact h3 n e
theorem Xma:GAk K C (Zxq K) Dl.Xph:=by
 intro H xs d vs B Q r e q
 unfold Dl.Xph at e
 split at e
 ·cases e
  obtain ⟨v,w,B,B',rfl,r1,r2⟩:=r.two'
  obtain ⟨rfl,_⟩:=r1
  obtain ⟨rfl,_⟩:=r2
  exact Xkb (Out.flat q rpI)
 ·obtain ⟨ns,h1,h2⟩:=Option.bind_eq_some_iff.mp e
  split at h2
  ·cases h2
  ·rename_i hne
   cases h2
   obtain ⟨v,rfl,r1⟩:=r.one'
   obtain ⟨a,ys,B,rfl,e2,e3,_⟩:=r1
   have h:=e3.ofInts h1
   subst h
   obtain ⟨s1,s2⟩:=Zyj hne
   refine Xit (SqL.of e2) hne fun mm h1 h2=>?_
   have e:mm=Dl.Xbr ns:=Int.le_antisymm (s2 mm h1) (h2 _ s1)
   rw [e]
   exact Out.flat q rpI
 ·cases e
def Xff:List V→Hp→VK→Prop:=fun xs H Q=>∃i j,xs=[.int i,.int j]∧Q (.int (if j<i then j else i)) H
theorem Zlu {X:Cx}(hc:X.calm=true):Zba X (.builtin "min") Xff:=Zyl hc
theorem Zxc:GAk K C Xff Dl.Xml:=by
 intro H xs d vs B Q r e q
 unfold Dl.Xml at e
 split at e
 ·cases e
  obtain ⟨v,w,B,B',rfl,r1,r2⟩:=r.two'
  obtain ⟨rfl,_⟩:=r1
  obtain ⟨rfl,_⟩:=r2
  exact ⟨_,_,rfl,Out.flat q rpI⟩
 ·cases e
theorem RpA.rng {lo:Int}{n:Nat}:RpA K C H (Dl.Zdt lo n) (Zok lo n) []:=by
 unfold Dl.Zdt Zok
 generalize List.range n=l
 induction l with
 | nil=>exact RpA.nil
 | cons k l ih=>exact ⟨_,_,[],[],rfl,rpI,ih,rfl⟩
theorem Xcx:GAk K C (Zwy K) Dl.Zxf:=by
 intro H xs d vs B Q r e q
 obtain ⟨x,rfl⟩:=Zwo (F:=Dl.Zxf) rfl (fun x _ _=>by cases x<;>rfl) e
 obtain ⟨v,rfl,r1⟩:=r.one'
 cases x with
 | lst xs =>
  have e:(if Dl.Yw xs then some (D.lst xs) else none)=some d:=e
  split at e
  ·rename_i hf
   cases e
   obtain ⟨a,ys,B,rfl,e2,e3,_⟩:=r1
   exact Xeu (SqL.of e2) fun l hl=>Out.lst q (e3.flat' hf) hl
  ·exact Jl e
 | tup xs =>
  have e:(if Dl.Yw xs then some (D.lst xs) else none)=some d:=e
  split at e
  ·rename_i hf
   cases e
   obtain ⟨a,ys,rfl,e2,e3⟩:=r1
   exact .inl ⟨a,ys,rfl,.inr (SqT.of e2),fun l hl=>Out.lst q (e3.flat' hf) hl⟩
  ·exact Jl e
 | rng i j =>
  have e:(if -1000000000≤i∧i≤1000000000∧-1000000000≤j∧j≤1000000000∧(j - i).toNat≤Dl.lim then some (D.lst (Dl.Zdt i (j - i).toNat)) else none)=some d:=e
  split at e
  ·rename_i hf
   cases e
   obtain ⟨a,rfl,e2,_⟩:=r1
   obtain ⟨h1,h2,h3,h4,h5⟩:=hf
   exact Xei e2 (by omega) (by omega) (by omega) (by omega) h5 fun l hl=>Out.lst q RpA.rng hl
  ·exact Jl e
 | _=>exact Jl e
theorem Xef:OOk K C E Γ Δ Zln Dl.Znq:=fun _ _ H _ _ _ _ _ p=>p H (Yd.refl _)
theorem Xet {t:TE}{f:FE}(h:EOk K C E Γ Δ m S t f):OOk K C E Γ Δ (Xbc t) (Dl.Zic f):=fun H0 Hb H σ ρ A Q I p=>h H0 Hb H σ ρ A _ I (p.bind.imp (fun d q v H' g r=>by
  obtain ⟨B,r,_⟩:=r
  cases d with
  | int i =>
    obtain ⟨rfl,_⟩:=r
    exact ⟨i,rfl,q H' g⟩
  | _=>exact q.elim) fun c x q H' g'=>q H' g')
theorem Zrd (n d:Nat)(o:Option Int):Dl.Zzs n d o=HT.sIx n d o:=by
 cases o with
 | none=>rfl
 | some v =>
  have h:=HT.clip_eq v n d
  show (if v<0 then (max (v+(n:Int)) 0).toNat else min v.toNat n)=_
  by_cases hv:v<0
  ·rw [if_pos hv] at h ⊢
   omega
  ·rw [if_neg hv] at h ⊢
   omega
theorem RpA.cut {ds:List D}{vs:List V}{A:List Addr}(h:Dl.Yw ds=true)(r:RpA K C H ds vs A)(lo hi:Option Int):RpA K C H (Dl.cut ds lo hi) (Xdh vs lo hi) []:=by
 unfold Dl.cut Xdh
 rw [Zrd,Zrd,r.len]
 exact (r.flatDrop h _).flatTake (Ztk h _) _
theorem Xeh (ns:List Int)(lo hi:Option Int):Xdh (ns.map V.int) lo hi=(Dl.cut ns lo hi).map V.int:=by
 unfold Dl.cut Xdh
 rw [Zrd,Zrd,length_map,map_take,map_drop]
theorem Xno {ta:TE}{tl th:TO}{fa:FE}{fl fh:FO}(ha:EOk K C E Γ Δ m S ta fa)(hl:OOk K C E Γ Δ tl fl)(hh:OOk K C E Γ Δ th fh):EOk K C E Γ Δ 2 [] (tSl (rSlL K) ta tl th) (Dl.fSl Dl.gSl fa fl fh):=
  fun H0 Hb H σ ρ A Q I p=>ha H0 Hb H σ ρ A _ I (p.bind.imp (fun x q vx H1 g1 r1=>hl H0 Hb H1 σ ρ A _ (I.mono g1) (q.bind.imp (fun lo q H2 g2=>hh H0 Hb H2 σ ρ A _ (I.mono (g1.trans g2)) (q.bind.imp (fun hi q H3 g3=>by
    obtain ⟨d,e,q⟩:=Zhx q
    obtain ⟨B,r1,_⟩:=r1
    have r1:=r1.same (g2.trans g3)
    have g13:=g1.trans (g2.trans g3)
    have out:Out K C H3 d Q:=fun v H' B g4 r h1 h2=>q v H' (g13.trans g4) (Res.new r h1 fun a ha=>g13.free (h2 a ha))
    unfold Dl.gSl at e
    split at e
    · split at e
      · rename_i hf
        cases e
        obtain ⟨a,ys,B,rfl,e2,e3,_⟩:=r1
        exact Xgy (SqL.of e2) fun p hp=>Out.lst out (e3.cut hf _ _) hp
      · cases e
    · cases e
      obtain ⟨a,rfl,e2,_⟩:=r1
      refine Xgy e2.sq fun p hp=>?_
      rw [Xeh]
      exact Out.lst out RpA.ints hp
    · cases e) fun c x q H' g'=>q H' ((g1.trans g2).trans g'))) fun c x q H' g'=>q H' (g1.trans g'))) fun c x q H' g'=>q H' g')
theorem Xdj {ta:TE}{fa:FE}(ha:EOk K C E Γ Δ m1 S1 ta fa):EOk K C E Γ Δ 2 [] (Xbg K ta) (Dl.f1 Dl.Zha fa):=
  fun H0 Hb H σ ρ A Q I p=>ha H0 Hb H σ ρ A _ I (p.bind.imp (fun x q vx H1 g1 r1=>by
    obtain ⟨d,e,q⟩:=Zhx q
    obtain ⟨Bx,r1,_⟩:=r1
    have out:Out K C H1 d Q:=fun v H' B g4 r h1 h2=>q v H' (g1.trans g4) (Res.new r h1 fun a ha=>g1.free (h2 a ha))
    unfold Dl.Zha at e
    split at e
    · split at e
      · rename_i hf
        cases e
        obtain ⟨a,ys,B,rfl,e2,e3,_⟩:=r1
        exact ⟨a,ys,rfl,SqL.of e2,fun p hp=>Out.lst out (RpA.flatRev hf e3) hp⟩
      · cases e
    · cases e) fun c x q H' g'=>q H' g')
end
section
variable {K:Frag}{C:String→Addr}{E:XK}{Γ Δ Γ' Δ' Γ1 Δ1 Γl Δl:List Nat}{m m1 m2 m3 mr:Nat}{S S1 S2 S3:List (Nat×Bool)}{H:Hp}{Q:VK}
theorem Xgv {t:TE}{f:FE}(h:EOk K C E Γ Δ m S t f):∀(H0 Hb H:Hp) (σ:St) (ρ:Yk) (A:Nat→List Addr) (Q:Bool→Hp→Prop),Xf K C H0 Hb H Γ Δ σ ρ A→
    Yj (Dl.cE f ρ) (fun b=>∀H',Yd H H'→Q b H') (fun c x=>∀H',Yd H H'→EC C E c x H')→t σ H fun x H'=>∃k,x=.bl k∧Q k H':=fun H0 Hb H σ ρ A Q I p=>h H0 Hb H σ ρ A _ I (p.bind.imp (fun d q v H' g r=>by
  obtain ⟨B,r,_⟩:=r
  cases d with
  | bl b =>
    obtain ⟨rfl,_⟩:=r
    exact ⟨b,rfl,q H' g⟩
  | _=>exact q.elim) fun c x q H' g'=>q H' g')
theorem Xav {t:TE}{f:FE}(h:EOk K C E Γ Δ m S t f):TOk K C E Γ Δ (Xba t) (Dl.cE f):=Xgv h
theorem tok_B {t:TE}{f:FE}(h:EOk K C E Γ Δ m S t f):TOk K C E Γ Δ (tB t) (Dl.cE f):=Xgv h
theorem Xkk {t:TT}{f:FT}(h:TOk K C E Γ Δ t f):TOk K C E Γ Δ (tNot t) (Dl.Xmr f):=fun H0 Hb H σ ρ A Q I p=>h H0 Hb H σ ρ A _ I (p.bind.imp (fun b q H' g=>q H' g) fun c x q H' g'=>q H' g')
theorem Xhb {t u:TT}{f g:FT}(h:TOk K C E Γ Δ t f)(h':TOk K C E Γ Δ u g):TOk K C E Γ Δ (tAnd t u) (Dl.Xix f g):=fun H0 Hb H σ ρ A Q I p=>h H0 Hb H σ ρ A _ I (p.bind.imp (fun b q H' g'=>by
  cases b with
  | true=>exact h' H0 Hb H' σ ρ A Q (I.mono g') (Yj.imp q (fun b q H2 g2=>q H2 (g'.trans g2)) fun c x q H2 g2=>q H2 (g'.trans g2))
  | false=>exact q H' g') fun c x q H' g'=>q H' g')
theorem Xob {t u:TT}{f g:FT}(h:TOk K C E Γ Δ t f)(h':TOk K C E Γ Δ u g):TOk K C E Γ Δ (tOr t u) (Dl.cOr f g):=fun H0 Hb H σ ρ A Q I p=>h H0 Hb H σ ρ A _ I (p.bind.imp (fun b q H' g'=>by
  cases b with
  | false=>exact h' H0 Hb H' σ ρ A Q (I.mono g') (Yj.imp q (fun b q H2 g2=>q H2 (g'.trans g2)) fun c x q H2 g2=>q H2 (g'.trans g2))
  | true=>exact q H' g') fun c x q H' g'=>q H' g')
theorem Xjl:TOk K C E Γ Δ tYes Dl.Zoc:=fun _ _ H _ _ _ _ _ p=>p H (Yd.refl _)
noncomputable def spD (K:Frag)(C:String→Addr)(n mr:Nat)(F:List D→R D):Sp:=fun vs H Q E=>∃ds B,ds.length=n∧RpA K C H ds vs B∧
 Yj (F ds) (fun d=>∀v H',Yd H H'→Res K C mr [] H (fun _=>[]) d v H'→Q v H') (fun c x=>∀H',Yd H H'→EC C E c x H')
theorem InS.none {A:Nat→List Addr}{a:Addr}(h:InS A [] a):False:=by
 obtain ⟨p,hp,_⟩:=h
 cases hp
theorem Res.reA {H H':Hp}{A A':Nat→List Addr}{d:D}{v:V}(r:Res K C m [] H A d v H'):Res K C m S H A' d v H':=by
 obtain ⟨B,r1,r2,r3,r4⟩:=r
 exact ⟨B,r1,fun a ha=>(r2 a ha).imp id fun h=>h.none.elim,r3,r4⟩
theorem Xel {n:Nat}{F:List D→R D}{t:TA}{f:FA}(ha:AOk K C E Γ Δ m S t f)(hn:∀ρ ds,f ρ=.ok ds→ds.length=n):EOk K C E Γ Δ mr [] (Ztb (spD K C n mr F) [] E t) (Dl.Zx F f):=
  fun H0 Hb H σ ρ A Q I p=>Xkd (ha H0 Hb H σ ρ A _ I (by
    have p':=p.bind
    cases e:f ρ with
    | bad=>rw [e] at p';exact p'
    | err c x=>rw [e] at p';exact p'
    | ok ds =>
      rw [e] at p'
      intro vs H1 g1 r1
      obtain ⟨B,r1,_⟩:=r1
      exact ⟨ds,B,hn ρ ds e,r1,Yj.imp p' (fun d q v H' g2 r=>q v H' (g1.trans g2) ((r.later g1 (Yd.refl _)).reA)) fun c x q H' g'=>q H' (g1.trans g')⟩))
theorem Xlu (ρ:Yk)(ds:List D)(h:Dl.Zu ρ=.ok ds):ds.length=0:=by cases h;rfl
theorem Zrz {n:Nat}{fe:FE}{f:FA}(hf:∀ρ ds,f ρ=.ok ds→ds.length=n)(ρ:Yk)(ds:List D)(h:Dl.Zd fe f ρ=.ok ds):ds.length=n+1:=by
 unfold Dl.Zd at h
 cases e:fe ρ with
 | ok x =>
  rw [e] at h
  cases e':f ρ with
  | ok xs =>
   rw [e'] at h
   cases h
   rw [length_cons,hf ρ xs e']
  | err c x=>rw [e'] at h;cases h
  | bad=>rw [e'] at h;cases h
 | err c x=>rw [e] at h;cases h
 | bad=>rw [e] at h;cases h
def Goes (K:Frag)(C:String→Addr)(J:It)(ds:List D)(Hb:Hp):Prop:=∀H2,Yd Hb H2→(∀i,i<ds.length→J.go i H2)∧(∀i,ds.length≤i→J.stop i H2)∧
 ∀i x H3,i<ds.length→J.yld i H2 x H3→Yd H2 H3∧∃d B,ds[i]?=some d∧Rp K C H3 d x B∧∀a∈B,Hb a≠none
def IOk (K:Frag)(C:String→Addr)(E:XK)(Γ Δ:List Nat)(S:List (Nat×Bool))(wi:TI)(f:FI):Prop:=∀(H0 Hb H:Hp) (σ:St) (ρ:Yk) (A:Nat→List Addr) (Rr:It→Hp→Prop),Xf K C H0 Hb H Γ Δ σ ρ A→
  Yj (f ρ) (fun ds=>∀J H' W,Yd H H'→(∀a∈W,(∃o,H' a=some o∧IsM o)∧(H a=none∨InS A S a))→ds.length≤Dl.lim→
    (∀Hc,Agree W H' Hc→Goes K C J ds Hc)→Rr J H') (fun c x=>∀H',Yd H H'→EC C E c x H')→wi σ H Rr
theorem Zyh {J:It}{ds:List D}{vs:List V}{B:List Addr}{Hc:Hp}(r:RpA K C Hc ds vs B)(h:∀H2,Yd Hc H2→(∀i,i<vs.length→J.go i H2)∧(∀i,vs.length≤i→J.stop i H2)∧∀i x H3,J.yld i H2 x H3→H3=H2∧(i<vs.length→vs[i]?=some x)):Goes K C J ds Hc:=fun H2 g=>by
 obtain ⟨h1,h2,h3⟩:=h H2 g
 have hl:=r.len
 refine ⟨fun i hi=>h1 i (by omega),fun i hi=>h2 i (by omega),fun i x H3 hi y=>?_⟩
 obtain ⟨e,y2⟩:=h3 i x H3 y
 subst e
 obtain ⟨d,Bd,q1,q2,q3⟩:=r.get' (y2 (by omega))
 refine ⟨Yd.refl _,d,Bd,q1,q2.same g,fun a ha z=>?_⟩
 obtain ⟨xs,e,_⟩:=q2.isl a ha
 rw [e] at z
 cases z
theorem Zmb {a:Addr}{ds:List D}{vs:List V}{B:List Addr}{Hc:Hp}(r:RpA K C Hc ds vs B)(h:∀H2,Yd Hc H2→SqL K H2 a vs):Goes K C (Itl K a) ds Hc:=Zyh r fun H2 g=>by
 have q:=h H2 g
 exact ⟨fun i hi=>⟨vs,vs[i],q,by simp [hi]⟩,fun i hi=>⟨vs,q,hi⟩,fun i x H3 y=>⟨y.1,fun _=>y.2 vs q⟩⟩
theorem Zsk {lo:Int}{n:Nat}{Hc:Hp}:Goes K C (Itr lo n) (Dl.Zdt lo n) Hc:=Zyh (vs:=Zok lo n) RpA.rng fun H2 _=>by
 have hl:(Zok lo n).length=n:=by simp [Zok]
 refine ⟨fun i hi=>by rw [hl] at hi;exact hi,fun i hi=>by rw [hl] at hi;exact hi,fun i x H3 y=>⟨y.1,fun hi=>?_⟩⟩
 rw [hl] at hi
 rw [y.2]
 simp [Zok,hi]
theorem FzL.keep {a:Addr}{xs:List V}{H Hb:Hp}(h:FzL K H a xs)(hk:∀b o,H b=some o→¬IsM o→Hb b=some o):FzL K Hb a xs:=by
 rcases h with ⟨o,h⟩ | h
 ·exact .inl ⟨o,hk a _ h (fun z=>by cases z)⟩
 ·exact .inr h
theorem FzL.same {a:Addr}{xs:List V}{H Hb:Hp}(h:FzL K H a xs)(g:Yd H Hb):FzL K Hb a xs:=h.keep fun b o q _=>g b o q
theorem Zzz {t:TE}{f:FE}(h:EOk K C E Γ Δ m S t f):IOk K C E Γ Δ S (Zzv K t) (Dl.Zah f):=fun H0 Hb H σ ρ A Rr I p=>h H0 Hb H σ ρ A _ I (p.bind.imp (fun d q v H' g r=>by
  obtain ⟨B,r,r',_⟩:=r
  cases d with
  | lst ds =>
    obtain ⟨a,xs,B',rfl,e2,e3,e4⟩:=r
    subst e4
    simp only at q
    split at q
    · rename_i hl
      refine ⟨a,rfl,⟨xs,SqL.of e2⟩,q _ H' (a::B') g (fun b hb=>?_) hl fun Hc h1=>Zmb (e3.agree h1 fun b hb=>.tail _ hb) fun H2 g2=>SqL.of (g2 _ _ ((h1.1 a (.head _)).trans e2))⟩
      rcases List.mem_cons.mp hb with z | z
      · rw [z]
        exact ⟨⟨_,e2,.lst⟩,r' a (.head _)⟩
      · exact ⟨e3.isl b z,r' b (.tail _ z)⟩
    · exact q.elim
  | scr ns =>
    obtain ⟨a,rfl,e2,_⟩:=r
    simp only at q
    split at q
    · rename_i hl
      exact ⟨a,rfl,⟨_,e2.sq⟩,q _ H' [] g (fun b hb=>nomatch hb) (by rw [length_map];exact hl) fun Hc h2=>Zmb RpA.ints fun H2 g2=>((e2.keep h2.2).same g2).sq⟩
    · exact q.elim
  | _=>exact q.elim) fun c x q H' g'=>q H' g')
theorem Zsh (lo:Int)(n:Nat):(Dl.Zdt lo n).length=n:=by simp [Dl.Zdt]
theorem Xal {t:TA}{f:FA}(h:AOk K C E Γ Δ m S t f):IOk K C E Γ Δ [] (Xai t) (Dl.Zjj f):=fun H0 Hb H σ ρ A Rr I p=>h H0 Hb H σ ρ A _ I (p.bind.imp (fun ds q vs H' g r=>by
  obtain ⟨B,r,_⟩:=r
  split at q
  · split at q
    · rename_i hl
      obtain ⟨v,rfl,r1⟩:=r.one'
      obtain ⟨rfl,_⟩:=r1
      exact ⟨_,rfl,by omega,by omega,q _ H' [] g (fun b hb=>nomatch hb) (by rw [Zsh];show _≤1000000;omega) fun Hc _=>Zsk⟩
    · exact q.elim
  · exact q.elim) fun c x q H' g'=>q H' g')
theorem Xdg {t:TA}{f:FA}(h:AOk K C E Γ Δ m S t f):IOk K C E Γ Δ [] (Xds t) (Dl.Zmi f):=fun H0 Hb H σ ρ A Rr I p=>h H0 Hb H σ ρ A _ I (p.bind.imp (fun ds q vs H' g r=>by
  obtain ⟨B,r,_⟩:=r
  split at q
  · split at q
    · rename_i hl
      obtain ⟨v,w,B,B',rfl,r1,r2⟩:=r.two'
      obtain ⟨rfl,_⟩:=r1
      obtain ⟨rfl,_⟩:=r2
      obtain ⟨h1,h2,h3,h4,h5⟩:=hl
      exact ⟨_,_,rfl,⟨by omega,by omega,by omega,by omega⟩,q _ H' [] g (fun b hb=>nomatch hb) (by rw [Zsh];exact h5) fun Hc _=>Zsk⟩
    · exact q.elim
  · exact q.elim) fun c x q H' g'=>q H' g')
theorem Xca {J:It}{ds:List D}{Hc H:Hp}{Dd:Addr}{k:Nat}{g:TG}{tc:TT}{te:TE}{σ:St}{Rr:Hp→Prop}(go:Goes K C J ds Hc)(Pv:Nat→Hp→Prop)(h0:Pv 0 (upd H Dd (.lst [])))(hb:∀i H,Pv i H→Yd Hc H)
    (hs:∀i d x B H H3,ds[i]?=some d→Pv i H→Yd H H3→Rp K C H3 d x B→(∀a∈B,Hc a≠none)→∀os:St,os.length=k→g x (σ++os) H3 fun σ' Hg=>(∃os',os'.length=k∧σ'=σ++os')∧tc σ' Hg fun b H2=>if b=true then te σ' H2 fun v H3=>∃ys,H3 Dd=some (.lst ys)∧ys.length<sizeLine∧Pv (i+1) (upd H3 Dd (.lst (ys++[v]))) else Pv (i+1) H2)
    (hd:∀H,Pv ds.length H→Rr H) :
    ∃W:Nat→Nat→Hp→Prop,(∃m,W 0 m (upd H Dd (.lst [])))∧∀i m H,W i m H→
      (J.stop i H∧Rr H)∨(J.go i H∧∃N:Hp→Prop,(∀H',N H'→∃m',m'<m∧W (i+1) m' H')∧∀x H',J.yld i H x H'→∀os:St,os.length=k→g x (σ++os) H' fun σ' Hg=>(∃os',os'.length=k∧σ'=σ++os')∧tc σ' Hg fun b H2 =>
        if b=true then te σ' H2 fun v H3=>∃ys,H3 Dd=some (.lst ys)∧ys.length<sizeLine∧N (upd H3 Dd (.lst (ys++[v])))
        else N H2):=by
  refine ⟨fun i m H=>m=ds.length - i∧i≤ds.length∧Pv i H,⟨ds.length,by simp,zero_le _,h0⟩,?_⟩
  rintro i m H1 ⟨rfl,hi,p⟩
  obtain ⟨g1,g2,g3⟩:=go H1 (hb i H1 p)
  by_cases hlt:i<ds.length
  · refine .inr ⟨g1 i hlt,Pv (i+1),fun H' p'=>⟨ds.length - (i+1),by omega,rfl,hlt,p'⟩,fun x H' y=>?_⟩
    obtain ⟨e,d,B,y1,y2,y3⟩:=g3 i x H' hlt y
    exact hs i d x B H1 H' y1 p e y2 y3
  · have e:i=ds.length:=by omega
    subst e
    exact .inl ⟨g2 _ (le_refl _),hd H1 p⟩
theorem Xjf {J:It}{ds:List D}{Hc H:Hp}{g:TG}{tb:TS}{Dd:Ends}{σ:St}(go:Goes K C J ds Hc)(Pv:Nat→St→Hp→Prop)(h0:Pv 0 σ H)(hb:∀i σ H,Pv i σ H→Yd Hc H)
  (hs:∀i d x B σ H H3,ds[i]?=some d→Pv i σ H→Yd H H3→Rp K C H3 d x B→(∀a∈B,Hc a≠none)→g x σ H3 fun σ2 H2=>tb {Dd with nx:=Pv (i+1),ct:=Pv (i+1),bk:=Dd.nx} σ2 H2) (hd:∀σ H,Pv ds.length σ H→Dd.nx σ H) :
  ∃W:Nat→Nat→St→Hp→Prop,(∃m,W 0 m σ H)∧∀i m σ H,W i m σ H→
   (J.stop i H∧Dd.nx σ H)∨(J.go i H∧∃N:St→Hp→Prop,(∀σ' H',N σ' H'→∃m',m'<m∧W (i+1) m' σ' H')∧∀x H',J.yld i H x H'→g x σ H' fun σ2 H2=>tb {Dd with nx:=N,ct:=N,bk:=Dd.nx} σ2 H2):=by
 refine ⟨fun i m σ H=>m=ds.length - i∧i≤ds.length∧Pv i σ H,⟨ds.length,by simp,zero_le _,h0⟩,?_⟩
 rintro i m σ H1 ⟨rfl,hi,p⟩
 obtain ⟨g1,g2,g3⟩:=go H1 (hb i σ H1 p)
 by_cases hlt:i<ds.length
 ·refine .inr ⟨g1 i hlt,Pv (i+1),fun σ' H' p'=>⟨ds.length - (i+1),by omega,rfl,hlt,p'⟩,fun x H' y=>?_⟩
  obtain ⟨e,d,B,y1,y2,y3⟩:=g3 i x H' hlt y
  exact hs i d x B σ H1 H' y1 p e y2 y3
 ·have e:i=ds.length:=by omega
  subst e
  exact .inl ⟨g2 _ (le_refl _),hd σ H1 p⟩
theorem Xf.more {H0 Hb H:Hp}{σ:St}{ρ:Yk}{A:Nat→List Addr}(I:Xf K C H0 Hb H Γ Δ σ ρ A)(os:St):Xf K C H H H [] [] (σ++os) (ρ++List.replicate os.length none) A:=by
 refine ⟨Yd.refl _,Yd.refl _,by rw [length_append,length_append,I.len,List.length_replicate],fun i e h=>?_,fun i h=>?_,(fun _ h=>nomatch h),(fun _ h=>nomatch h),(fun _ h=>nomatch h)⟩
 ·by_cases hi:i<ρ.length
  ·rw [getElem?_append_left hi] at h
   obtain ⟨w,q1,q2⟩:=I.rep i e h
   refine ⟨w,?_,q2⟩
   rw [getElem?_append_left (by rw [I.len];exact hi)]
   exact q1
  ·rw [getElem?_append_right (by omega)] at h
   have hm:=mem_of_getElem? h
   rw [List.mem_replicate] at hm
   exact absurd hm.2 (by intro z;cases z)
 ·refine I.nil i fun e h'=>h e ?_
  rw [getElem?_append_left (List.getElem?_eq_some_iff.mp h').1]
  exact h'
def NOk (K:Frag)(C:String→Addr)(n k:Nat)(g:TG)(b:FB):Prop:=∀(H:Hp) (σ os:St) (ρ:Yk) (A:Nat→List Addr) (d:D) (v:V) (B:List Addr) (Rr:St→Hp→Prop),σ.length=n→os.length=k→Xf K C H H H [] [] (σ++os) ρ A→Rp K C H d v B→
 Yj (b d ρ) (fun ρ'=>∀os' A',os'.length=k→Xf K C H H H [] [] (σ++os') ρ' A'→Rr (σ++os') H) (fun _ _=>False)→g v (σ++os) H Rr
def Xqt (K:Frag)(C:String→Addr)(n k:Nat)(g:TGs)(b:List D→Yk→R Yk):Prop:=∀(H:Hp) (σ os:St) (ρ:Yk) (A:Nat→List Addr) (d:List D) (v:List V) (B:List Addr) (Rr:St→Hp→Prop),σ.length=n→os.length=k→Xf K C H H H [] [] (σ++os) ρ A→RpA K C H d v B→
 Yj (b d ρ) (fun ρ'=>∀os' A',os'.length=k→Xf K C H H H [] [] (σ++os') ρ' A'→Rr (σ++os') H) (fun _ _=>False)→g v (σ++os) H Rr
theorem Ztr (k:Nat)(b:FB)(c:FT)(e:FE)(ρ:Yk)(xs:List D){i:Nat}{x:D}(h:xs[i]?=some x):Dl.Zck k b c e ρ (xs.drop i)=(b x (ρ++List.replicate k none)).calm.bind fun ρ1=>(c ρ1).bind fun t=>if t then (e ρ1).bind fun y=>(Dl.Zck k b c e ρ (xs.drop (i+1))).bind fun ys=>.ok (y::ys) else Dl.Zck k b c e ρ (xs.drop (i+1)):=by
 obtain ⟨hi,rfl⟩:=List.getElem?_eq_some_iff.mp h
 rw [drop_eq_getElem_cons hi]
 rfl
theorem bind_assoc {α β γ:Type}(r:R α)(f:α→R β)(g:β→R γ):(r.bind f).bind g=r.bind fun a=>(f a).bind g:=by cases r<;>rfl
theorem Zfv {α:Type}{r:R α}{ok:α→Prop}{er:String→Option Int→Prop}(h:Yj r.calm ok er):Yj r ok (fun _ _=>False):=by
 cases r with
 | ok a=>exact h
 | err c x=>exact h
 | bad=>exact h
theorem get_set {α:Type}{l:List α}{i j:Nat}{x y:α}(h:(l.set i x)[j]?=some y):(j=i∧i<l.length∧y=x)∨(j≠i∧l[j]?=some y):=by
 by_cases e:i=j
 ·subst e
  rw [List.getElem?_set_self'] at h
  by_cases hi:i<l.length
  ·rw [getElem?_eq_getElem hi] at h
   simp at h
   exact .inl ⟨rfl,hi,h.symm⟩
  ·rw [getElem?_eq_none (by omega)] at h
   cases h
 ·rw [getElem?_set_ne e] at h
  exact .inr ⟨fun z=>e z.symm,h⟩
theorem Xf.put {H0 Hb H:Hp}{σ:St}{ρ:Yk}{A:Nat→List Addr}{i:Nat}{d:D}{v:V}{B:List Addr}(I:Xf K C H0 Hb H Γ Δ σ ρ A)(r:Rp K C H d v B)
  (h1:∀j∈Γ',j≠i→j∈Γ∧∀a l,A j=a::l→a∉B)
  (h2:i∈Γ'→(∀a∈B,H0 a=none)∧∀a l,B=a::l→Hb a=none∧a∉l∧∀j,j≠i→a∉A j)
  (h3:∀j∈Δ',j≠i→j∈Δ∧∀a∈A j,a∉B)
  (h4:i∈Δ'→B.Nodup∧(∀j,j≠i→∀a∈B,a∉A j)∧∀a∈B,Hb a=none):∃A',Xf K C H0 Hb H Γ' Δ' (σ.set i (some v)) (ρ.set i (some d)) A'∧∀j a,a∈A' j→a∈B∨a∈A j:=by
 by_cases hi:i<ρ.length
 ·refine ⟨fun j=>if j=i then B else A j,⟨I.s0,I.same,by rw [length_set,length_set,I.len],fun j e h=>?_,fun j h=>?_,fun j hj a ha=>?_,fun j hj a l e=>?_,fun j hj=>?_⟩,fun j a ha=>?_⟩
  ·rcases get_set h with ⟨e1,_,e2⟩ | ⟨e1,e2⟩
   ·subst e1
    cases e2
    refine ⟨v,?_,by rw [if_pos rfl];exact r⟩
    rw [getElem?_set_self (by rw [I.len];exact hi)]
   ·obtain ⟨w,q1,q2⟩:=I.rep j e e2
    refine ⟨w,?_,by rw [if_neg e1];exact q2⟩
    rw [getElem?_set_ne (fun z=>e1 z.symm)]
    exact q1
  ·by_cases e:j=i
   ·subst e
    exact absurd (getElem?_set_self hi) (h d)
   ·rw [if_neg e]
    refine I.nil j fun x hx=>h x ?_
    rw [getElem?_set_ne (fun z=>e z.symm)]
    exact hx
  ·by_cases e:j=i
   ·subst e
    rw [if_pos rfl] at ha
    exact (h2 hj).1 a ha
   ·rw [if_neg e] at ha
    exact I.loc j (h1 j hj e).1 a ha
  ·by_cases e':j=i
   ·subst e'
    rw [if_pos rfl] at e
    obtain ⟨q0,q1,q2⟩:=(h2 hj).2 a l e
    refine ⟨q0,q1,fun k hk=>?_⟩
    rw [if_neg hk]
    exact q2 k hk
   ·rw [if_neg e'] at e
    obtain ⟨q0,q⟩:=h1 j hj e'
    obtain ⟨q3,q1,q2⟩:=I.top j q0 a l e
    refine ⟨q3,q1,fun k hk=>?_⟩
    by_cases ek:k=i
    ·rw [if_pos ek];exact q a l e
    ·rw [if_neg ek];exact q2 k hk
  ·by_cases e:j=i
   ·subst e
    rw [if_pos rfl]
    obtain ⟨q1,q2,q3⟩:=h4 hj
    refine ⟨q1,fun k hk a ha=>?_,q3⟩
    rw [if_neg hk]
    exact q2 k hk a ha
   ·rw [if_neg e]
    obtain ⟨q0,q⟩:=h3 j hj e
    obtain ⟨q1,q2,q3⟩:=I.deep j q0
    refine ⟨q1,fun k hk a ha=>?_,q3⟩
    by_cases ek:k=i
    ·rw [if_pos ek];exact q a ha
    ·rw [if_neg ek];exact q2 k hk a ha
  ·have ha:a∈(if j=i then B else A j):=ha
   by_cases e:j=i
   ·rw [if_pos e] at ha;exact .inl ha
   ·rw [if_neg e] at ha;exact .inr ha
 ·have e1:ρ.set i (some d)=ρ:=List.set_eq_of_length_le (by omega)
  have e2:σ.set i (some v)=σ:=List.set_eq_of_length_le (by rw [I.len];omega)
  have e3:A i=[]:=I.nil i fun x h=>by
   have:=(List.getElem?_eq_some_iff.mp h).1
   omega
  refine ⟨A,?_,fun j a ha=>.inr ha⟩
  rw [e1,e2]
  refine ⟨I.s0,I.same,I.len,I.rep,I.nil,fun j hj a ha=>?_,fun j hj a l e=>?_,fun j hj=>?_⟩
  ·by_cases e:j=i
   ·subst e;rw [e3] at ha;cases ha
   ·exact I.loc j (h1 j hj e).1 a ha
  ·by_cases e':j=i
   ·subst e';rw [e3] at e;cases e
   ·exact I.top j (h1 j hj e').1 a l e
  ·by_cases e:j=i
   ·subst e
    rw [e3]
    exact ⟨nodup_nil,fun _ _ _ h=>(nomatch h),fun _ h=>(nomatch h)⟩
   ·exact I.deep j (h3 j hj e).1
theorem Xf.writeO {H0 Hb H:Hp}{σ:St}{ρ:Yk}{A:Nat→List Addr}{i:Nat}{es:List D}{ys:List V}{o':HO}{d':D}{B':List Addr}{a:Addr}{l:List Addr}(I:Xf K C H0 Hb H Γ Δ σ ρ A)(hi:i∈Γ)(hA:A i=a::l)(hl:i<ρ.length)(hs:σ[i]?=some (some (.ref a)))
  (mk:∀H',H' a=some o'→RpA K C H' es ys B'→Rp K C H' d' (.ref a) (a::B')) (r:RpA K C H es ys B') (hn:∀b∈B',H0 b=none) (ha:a∉B')
  (h1:∀j∈Γ',j≠i→j∈Γ∧∀b l,A j=b::l→b∉B')
  (h2:∀j∈Δ',j≠i→j∈Δ∧∀b∈A j,b∉B')
  (h3:i∈Δ'→B'.Nodup∧(∀j,j≠i→∀b∈B',b∉A j)∧∀b∈B',Hb b=none):∃A',Xf K C H0 Hb (upd H a o') Γ' Δ' σ (ρ.set i (some d')) A':=by
 obtain ⟨xs,hxs,hm⟩:=I.is (j:=i) (a:=a) (by rw [hA];exact .head _)
 have hne:∀j,j≠i→a∉A j:=(I.top i hi a l hA).2.2
 have hb0:Hb a=none:=(I.top i hi a l hA).1
 have h0:H0 a=none:=I.loc i hi a (by rw [hA];exact .head _)
 have ext:Ext (fun b=>b=a) H (upd H a o'):=fun b o h=>by
  by_cases e:b=a
  ·subst e
   rw [hxs] at h
   cases h
   exact .inr ⟨rfl,hm⟩
  ·rw [Yz e]
   exact .inl h
 refine ⟨fun j=>if j=i then a::B' else A j,I.s0,fun b o h=>?_,by rw [length_set,I.len],fun j e h=>?_,fun j h=>?_,fun j hj b hb=>?_,fun j hj b l' e=>?_,fun j hj=>?_⟩
 ·rw [Yz (Yy h hb0)]
  exact I.same b o h
 ·rcases get_set h with ⟨e1,_,e2⟩ | ⟨e1,e2⟩
  ·subst e1
   cases e2
   refine ⟨.ref a,hs,?_⟩
   rw [if_pos rfl]
   exact mk _ Jz (r.ext ext (fun b hb h=>ha (by rw [h] at hb;exact hb)))
  ·obtain ⟨w,q1,q2⟩:=I.rep j e e2
   refine ⟨w,q1,?_⟩
   rw [if_neg e1]
   exact q2.ext ext fun b hb h=>hne j e1 (by rw [h] at hb;exact hb)
 ·by_cases e:j=i
  ·subst e
   exact absurd (getElem?_set_self hl) (h _)
  ·rw [if_neg e]
   refine I.nil j fun x hx=>h x ?_
   rw [getElem?_set_ne (fun z=>e z.symm)]
   exact hx
 ·by_cases e:j=i
  ·subst e
   rw [if_pos rfl] at hb
   rcases List.mem_cons.mp hb with z | z
   ·rw [z];exact h0
   ·exact hn b z
  ·rw [if_neg e] at hb
   exact I.loc j (h1 j hj e).1 b hb
 ·by_cases e':j=i
  ·subst e'
   rw [if_pos rfl] at e
   cases e
   refine ⟨hb0,ha,fun k hk=>?_⟩
   rw [if_neg hk]
   exact hne k hk
  ·rw [if_neg e'] at e
   obtain ⟨q0,q⟩:=h1 j hj e'
   obtain ⟨q3,q1,q2⟩:=I.top j q0 b l' e
   refine ⟨q3,q1,fun k hk=>?_⟩
   by_cases ek:k=i
   ·rw [if_pos ek]
    intro z
    rcases List.mem_cons.mp z with z | z
    ·exact hne j e' (by rw [e,z];exact .head _)
    ·exact q b l' e z
   ·rw [if_neg ek];exact q2 k hk
 ·by_cases e:j=i
  ·subst e
   rw [if_pos rfl]
   obtain ⟨q1,q2,q3⟩:=h3 hj
   refine ⟨List.nodup_cons.mpr ⟨ha,q1⟩,fun k hk b hb=>?_,fun b hb=>?_⟩
   ·rw [if_neg hk]
    rcases List.mem_cons.mp hb with z | z
    ·rw [z];exact hne k hk
    ·exact q2 k hk b z
   ·rcases List.mem_cons.mp hb with z | z
    ·rw [z];exact hb0
    ·exact q3 b z
  ·rw [if_neg e]
   obtain ⟨q0,q⟩:=h2 j hj e
   obtain ⟨q1,q2,q3⟩:=I.deep j q0
   refine ⟨q1,fun k hk b hb=>?_,q3⟩
   by_cases ek:k=i
   ·rw [if_pos ek]
    intro z
    rcases List.mem_cons.mp z with z | z
    ·exact hne j e (by rw [← z];exact hb)
    ·exact q b hb z
   ·rw [if_neg ek];exact q2 k hk b hb
theorem Xf.write {H0 Hb H:Hp}{σ:St}{ρ:Yk}{A:Nat→List Addr}{i:Nat}{es:List D}{ys:List V}{B':List Addr}{a:Addr}{l:List Addr}(I:Xf K C H0 Hb H Γ Δ σ ρ A)(hi:i∈Γ)(hA:A i=a::l)(hl:i<ρ.length)(hs:σ[i]?=some (some (.ref a)))
  (r:RpA K C H es ys B') (hn:∀b∈B',H0 b=none) (ha:a∉B')
  (h1:∀j∈Γ',j≠i→j∈Γ∧∀b l,A j=b::l→b∉B')
  (h2:∀j∈Δ',j≠i→j∈Δ∧∀b∈A j,b∉B')
  (h3:i∈Δ'→B'.Nodup∧(∀j,j≠i→∀b∈B',b∉A j)∧∀b∈B',Hb b=none):∃A',Xf K C H0 Hb (upd H a (.lst ys)) Γ' Δ' σ (ρ.set i (some (.lst es))) A':=I.writeO hi hA hl hs (fun _ q1 q2=>⟨a,_,_,rfl,q1,q2,rfl⟩) r hn ha h1 h2 h3
theorem Xbe {n k:Nat}(i:Nat)(h1:n≤i)(h2:i<n+k):NOk K C n k (Zbx i) (Dl.Xb i):=fun H σ os ρ A d v B Rr hσ hos I r p=>by
 have e:(σ++os).set i (some v)=σ++os.set (i - n) (some v):=by rw [← hσ,set_append_right _ _ (by omega)]
 obtain ⟨A',I',_⟩:=I.put (Γ':=[]) (Δ':=[]) (i:=i) r (fun _ h=>nomatch h) (fun h=>nomatch h) (fun _ h=>nomatch h) (fun h=>nomatch h)
 show Rr ((σ++os).set i (some v)) H
 rw [e] at I' ⊢
 exact p _ A' (by rw [length_set];exact hos) I'
theorem Xim {n k:Nat}:Xqt K C n k Zzu Dl.Zlo:=fun H σ os ρ A d v B Rr hσ hos I r p=>by
 cases d with
 | nil=>exact ⟨r.1,p _ A hos I⟩
 | cons _ _=>exact p.elim
theorem Xbm {n k:Nat}{g:TG}{gs:TGs}{b:FB}{bs:List D→Yk→R Yk}(h1:NOk K C n k g b)(h2:Xqt K C n k gs bs):Xqt K C n k (Zgy g gs) (Dl.Jt b bs):=fun H σ os ρ A d v B Rr hσ hos I r p=>by
 cases d with
 | nil=>exact p.elim
 | cons d ds =>
  obtain ⟨x,l,B1,B2,e1,e2,e3,e4⟩:=r
  subst e1 e4
  exact ⟨x,l,rfl,h1 H σ os ρ A d x B1 _ hσ hos I e2 (Yj.imp (Yj.bind p) (fun ρ1 q os1 A1 ho1 I1=>h2 H σ os1 ρ1 A1 ds l B2 Rr hσ ho1 I1 e3 q) fun _ _ z=>z)⟩
theorem Xhd {n k:Nat}{gs:TGs}{bs:List D→Yk→R Yk}{l:Nat}(hn:∀ds ρ ρ',bs ds ρ=.ok ρ'→ds.length=l)(h:Xqt K C n k gs bs):NOk K C n k (Zca K l gs) (Dl.Zls bs):=fun H σ os ρ A d v B Rr hσ hos I r p=>by
 cases d with
 | tup ds =>
  obtain ⟨a,xs,rfl,e2,e3⟩:=r
  have p':Yj (bs ds ρ) (fun ρ'=>∀os' A',os'.length=k→Xf K C H H H [] [] (σ++os') ρ' A'→Rr (σ++os') H) (fun _ _=>False):=p
  have hl:xs.length=l:=by
   rw [e3.len]
   cases e:bs ds ρ with
   | ok ρ'=>exact hn ds ρ ρ' e
   | err _ _=>rw [e] at p';exact p'.elim
   | bad=>rw [e] at p';exact p'.elim
  exact ⟨a,xs,rfl,SqT.of e2,hl,h H σ os ρ A ds xs B Rr hσ hos I e3 p'⟩
 | _=>exact p.elim
theorem Zry {n k:Nat}{g:TG}{wi:TI}{tc:TT}{te:TE}{fi:FI}{fb:FB}{fc:FT}{fe:FE}(hi:IOk K C E Γ Δ S wi fi)(hg:NOk K C n k g fb)(hc:TOk K C E0 [] [] tc fc)(he:EOk K C E0 [] [] 2 [] te fe):EOk K C E Γ Δ 2 [] (Zii k g wi tc te) (Dl.Zcl n k fi fb fc fe):=fun H0 Hb H σ ρ A Q I p=>by
  unfold Dl.Zcl at p
  split at p
  · rename_i hn
    refine hi H0 Hb H σ ρ A _ I (p.bind.imp (fun ds q J H1 W g1 hW hlen hJ Dd hD=>?_) fun c x q H' g'=>q H' g')
    have I1:=I.mono g1
    have go:Goes K C J ds H1:=hJ H1 ⟨fun _ _=>rfl,fun b o h _=>h⟩
    have q':=Zfv q.bind
    refine Xca go (fun i H2=>Yd H1 H2∧∃(us:List D) (ys:List V) (B':List Addr),H2 Dd=some (.lst ys)∧us.length≤i∧RpA K C H2 us ys B'∧B'.Nodup∧Dd∉B'∧(∀a∈B',H1 a=none)∧
      Yj (Dl.Zck k fb fc fe ρ (ds.drop i)) (fun zs=>∀v H',Yd H H'→Res K C 2 [] H A (.lst (us++zs)) v H'→Q v H') (fun _ _=>False)) ⟨sameNew hD _,[],[],[],Jz,le_refl _,RpA.nil,nodup_nil,(fun h=>nomatch h),(fun _ h=>nomatch h),q'⟩ (fun _ _ h=>h.1) ?_ ?_
    · rintro i x v Bx H2a H2 hx ⟨g2a,us,ys,B',hD2,hul,ru,nd,hDB,hnew,pq⟩ g2b rx _ os hos
      have g2:=g2a.trans g2b
      have hil:=(List.getElem?_eq_some_iff.mp hx).1
      rw [Ztr _ _ _ _ _ _ hx] at pq
      have I2:=(I1.mono g2).more os
      have pq':=Zfv pq.bind
      rw [← hos] at pq'
      refine hg H2 σ os _ A x v Bx _ (by rw [I.len,hn]) hos I2 rx (pq'.imp (fun ρ1 pq os1 A1 ho1 I3=>⟨⟨os1,ho1,rfl⟩,?_⟩) fun _ _ z=>z)
      refine hc H2 H2 H2 _ _ _ _ I3 (pq.bind.imp (fun b pq H3 g3=>?_) fun _ _ z=>z.elim)
      have hD2':=g2b _ _ hD2
      have ru':=ru.same g2b
      cases b with
      | false =>
        simp only [Bool.false_eq_true,if_false] at pq ⊢
        rw [hos] at pq
        exact ⟨g2.trans g3,us,ys,B',g3 _ _ hD2',by omega,ru'.same g3,nd,hDB,hnew,pq⟩
      | true =>
        simp only [if_true] at pq ⊢
        refine he H2 H2 H3 _ _ _ _ (I3.mono g3) (pq.bind.imp (fun y pq w H4 g4 r4=>?_) fun _ _ z=>z.elim)
        rw [hos] at pq
        obtain ⟨By,ry,hy1,_,hy2⟩:=r4
        have g24:=g3.trans g4
        have hD4:=g24 _ _ hD2'
        have hnewy:∀a∈By,H3 a=none:=fun a ha=>(hy1 a ha).elim id fun z=>z.none.elim
        have hDy:Dd∉By:=fun h=>by
          have z:=hnewy Dd h
          rw [g3 _ _ hD2'] at z
          cases z
        have ext:Ext (fun a=>a=Dd) H4 (upd H4 Dd (.lst (ys++[w]))):=fun b o h=>by
          by_cases e:b=Dd
          · subst e
            rw [hD4] at h
            cases h
            exact .inr ⟨rfl,.lst⟩
          · rw [Yz e]
            exact .inl h
        have hDB':Dd∉B'++By:=fun h=>(List.mem_append.mp h).elim hDB hDy
        refine ⟨ys,hD4,?_,?_,us++[y],ys++[w],B'++By,Jz,by rw [length_append];simp;omega,?_,?_,hDB',?_,?_⟩
        · rw [ru.len]
          exact Zqt (by omega)
        · intro b o h
          have hb:b≠Dd:=Yy h hD
          rw [Yz hb]
          exact (g2.trans g24) b o h
        · exact ((ru'.same g24).app (RpA.one ry)).ext ext fun a ha h=>hDB' (by rw [h] at ha;exact ha)
        · refine List.nodup_append.mpr ⟨nd,hy2 rfl,fun a ha b hb e=>?_⟩
          subst e
          obtain ⟨xs,z,_⟩:=(ru'.same g3).isl a ha
          rw [hnewy a hb] at z
          cases z
        · intro a ha
          rcases List.mem_append.mp ha with h | h
          · exact hnew a h
          · exact (g2.trans g3).free (hnewy a h)
        · exact pq.bind.imp (fun zs pq v H' g' r=>by
            rw [append_assoc] at r
            exact pq v H' g' r) fun _ _ z=>z
    · rintro H2 ⟨g2,us,ys,B',hD2,hul,ru,nd,hDB,hnew,pq⟩
      rw [List.drop_length] at pq
      have pq:∀v H',Yd H H'→Res K C 2 [] H A (.lst (us++[])) v H'→Q v H':=pq
      rw [append_nil] at pq
      refine pq _ H2 (g1.trans g2) ⟨Dd::B',⟨Dd,ys,B',rfl,hD2,ru,rfl⟩,fun a ha=>.inl ?_,(fun z=>nomatch z),fun _=>List.nodup_cons.mpr ⟨hDB,nd⟩⟩
      rcases List.mem_cons.mp ha with h | h
      · rw [h];exact g1.free hD
      · exact g1.free (hnew a h)
  · exact p.elim
end
section
variable {K:Frag}{C:String→Addr}{E:XK}{Γ Δ Γ' Δ' Γ1 Δ1 Γl Δl Γk Δk:List Nat}{m m1 m2 m3 mr:Nat}{S S1 S2 S3:List (Nat×Bool)}{H:Hp}{Q:VK}
theorem Zlw.weak {H0 Hb:Hp}{D:Ends}{r:R Fl}(h:Zlw K C E mr Γl Δl Γ' Δ' H0 Hb D r)(h1:∀i∈Γ',i∈Γ1)(h2:∀i∈Δ',i∈Δ1):Zlw K C E mr Γl Δl Γ1 Δ1 H0 Hb D r:=by
 unfold Zlw at *
 refine Yj.imp h (fun fl q=>?_) fun _ _ q=>q
 cases fl with
 | nx ρ'=>exact fun σ' H' A' I=>q σ' H' A' (I.weak h1 h2)
 | ret d=>exact q
 | brk ρ'=>exact q
 | cnt ρ'=>exact q
theorem Xao {t:TS}{f:FS}(h:SOk K C E mr Γl Δl Γ Δ Γ1 Δ1 t f)(h1:∀i∈Γ',i∈Γ1:=by decide)(h2:∀i∈Δ',i∈Δ1:=by decide):SOk K C E mr Γl Δl Γ Δ Γ' Δ' t f:=fun H0 Hb H σ ρ A D I p =>
 h H0 Hb H σ ρ A D I (p.weak h1 h2)
theorem Xrt:SOk K C E mr Γl Δl Γ Δ Γ Δ Zzy Dl.sNx:=fun _ _ H σ _ A _ I p=>p σ H A I
theorem Zum:SOk K C E mr Γl Δl Γ Δ Γ' Δ' Zrq Dl.Zmq:=fun _ _ _ _ _ _ _ _ p=>p.elim
theorem Xhf {t u:TS}{f g:FS}(h1:SOk K C E mr Γl Δl Γ Δ Γ1 Δ1 t f)(h2:SOk K C E mr Γl Δl Γ1 Δ1 Γ' Δ' u g):SOk K C E mr Γl Δl Γ Δ Γ' Δ' (tSeq t u) (Dl.Xw f g):=fun H0 Hb H σ ρ A D I p =>
  h1 H0 Hb H σ ρ A _ I (Yj.imp (Yj.bind p) (fun fl q=>by
    cases fl with
    | nx ρ'=>exact fun σ' H' A' I'=>h2 H0 Hb H' σ' ρ' A' D I' q
    | ret d=>exact q
    | brk ρ'=>exact q
    | cnt ρ'=>exact q) fun _ _ q=>q)
theorem Yd.from0 {H0 Hb H H':Hp}{σ:St}{ρ:Yk}{A:Nat→List Addr}(I:Xf K C H0 Hb H Γ Δ σ ρ A)(g:Yd H H'):Yd H0 H':=I.s0.trans (I.same.trans g)
theorem Xf.top_out {H0 Hb H:Hp}{σ:St}{ρ:Yk}{A:Nat→List Addr}(I:Xf K C H0 Hb H Γ Δ σ ρ A){j:Nat}(hj:j∈Γ)(hS:(j,false)∉S){a:Addr}{l:List Addr}(e:A j=a::l):¬InS A S a:=fun h=>by
 obtain ⟨q0,q1,q2⟩:=I.top j hj a l e
 obtain ⟨p,hp,q⟩:=h
 split at q
 ·by_cases ep:p.1=j
  ·rw [ep,e] at q
   exact q1 q
  ·exact q2 p.1 ep (List.mem_of_mem_tail q)
 ·rename_i hf
  by_cases ep:p.1=j
  ·refine hS ?_
   have:p=(j,false):=by
    obtain ⟨p1,p2⟩:=p
    simp at ep hf
    rw [ep,hf]
   rw [← this]
   exact hp
  ·exact q2 p.1 ep q
theorem Xf.deep_out {H0 Hb H:Hp}{σ:St}{ρ:Yk}{A:Nat→List Addr}(I:Xf K C H0 Hb H Γ Δ σ ρ A){j:Nat}(hj:j∈Δ)(hS:∀p∈S,p.1≠j){a:Addr}(e:a∈A j):¬InS A S a:=fun h=>by
 obtain ⟨p,hp,q⟩:=h.mem
 exact (I.deep j hj).2.1 p.1 (hS p hp) a e q
theorem Zsm {i:Nat}{te:TE}{fe:FE}(he:EOk K C E Γ Δ 2 [] te fe)(h1:∀j∈Γ',j=i∨j∈Γ:=by decide)(h2:∀j∈Δ',j=i∨j∈Δ:=by decide):SOk K C E mr Γl Δl Γ Δ Γ' Δ' (Zuq te (Zbx i)) (Dl.Yr i fe):=fun H0 Hb H σ ρ A D I p =>
  he H0 Hb H σ ρ A _ I (Yj.imp (Yj.bind p) (fun d q v H1 g1 r=>by
    obtain ⟨B,r1,r2,r3,r4⟩:=r
    have hn:∀a∈B,H a=none:=fun a ha=>(r2 a ha).elim id fun z=>z.none.elim
    have nd:=r4 rfl
    obtain ⟨A',I',_⟩:=(I.mono g1).put (Γ':=Γ') (Δ':=Δ') (i:=i) r1 (fun j hj e=>⟨(h1 j hj).elim (fun z=>absurd z e) id,fun a l e' ha=>I.ne (j:=j) (by rw [e'];exact .head _) (hn a ha)⟩)
      (fun _=>⟨fun a ha=>I.s0.free (I.same.free (hn a ha)),fun a l e=>by subst e;exact ⟨I.same.free (hn a (.head _)),(List.nodup_cons.mp nd).1,fun j _ h=>I.ne h (hn a (.head _))⟩⟩)
      (fun j hj e=>⟨(h2 j hj).elim (fun z=>absurd z e) id,fun a ha hB=>I.ne ha (hn a hB)⟩)
      (fun _=>⟨nd,fun j _ a ha h=>I.ne h (hn a ha),fun a ha=>I.same.free (hn a ha)⟩)
    exact q _ H1 A' I') fun c x q H' g'=>q H' (Yd.from0 I g'))
theorem Xfb {te:TE}{fe:FE}(he:EOk K C E Γ Δ 2 S te fe)(h0:∀p∈S,p.1∈Δ:=by decide):SOk K C E 2 Γl Δl Γ Δ Γ' Δ' (tRet te) (Dl.Zac fe):=fun H0 Hb H σ ρ A D I p =>
  he H0 Hb H σ ρ A _ I (Yj.imp (Yj.bind p) (fun d q v H1 g1 r=>by
    obtain ⟨B,r1,r2,r3,r4⟩:=r
    refine q v H1 (Yd.from0 I g1) ⟨B,r1,fun a ha=>.inl ((r2 a ha).elim (fun z=>I.s0.free (I.same.free z)) fun z=>?_),(fun z=>nomatch z),r4⟩
    obtain ⟨p,hp,z⟩:=z.mem
    exact I.s0.free ((I.deep p.1 (h0 p hp)).2.2 a z)) fun c x q H' g'=>q H' (Yd.from0 I g'))
theorem Xns {tc:TT}{t u:TS}{fc:FT}{f g:FS}(hc:TOk K C E Γ Δ tc fc)(h1:SOk K C E mr Γl Δl Γ Δ Γ' Δ' t f)(h2:SOk K C E mr Γl Δl Γ Δ Γ' Δ' u g):SOk K C E mr Γl Δl Γ Δ Γ' Δ' (tIfS tc t u) (Dl.sIf fc f g):=fun H0 Hb H σ ρ A D I p =>
  hc H0 Hb H σ ρ A _ I (Yj.imp (Yj.bind p) (fun b q H1 g1=>by
    cases b with
    | true=>exact h1 H0 Hb H1 σ ρ A D (I.mono g1) q
    | false=>exact h2 H0 Hb H1 σ ρ A D (I.mono g1) q) fun c x q H' g'=>q H' (Yd.from0 I g'))
theorem Zrv {H0 Hb H:Hp}{σ:St}{ρ:Yk}{A:Nat→List Addr}{i:Nat}{ds:List D}(I:Xf K C H0 Hb H Γ Δ σ ρ A)(e:ρ[i]?=some (some (.lst ds))):∃a xs l,σ[i]?=some (some (.ref a))∧H a=some (.lst xs)∧RpA K C H ds xs l∧A i=a::l∧i<ρ.length:=by
 obtain ⟨v,q1,a,xs,l,rfl,q3,q4,q5⟩:=I.rep i _ e
 exact ⟨a,xs,l,q1,q3,q4,q5,(List.getElem?_eq_some_iff.mp e).1⟩
theorem Xaq {i:Nat}{te:TE}{fe:FE}(hi:i∈Γ:=by decide)(he:EOk K C E Γ Δ 2 [] te fe):SOk K C E mr Γl Δl Γ Δ Γ Δ (Zom (tBM K "list" Ziy (Zue i) (Zgb te Zuh))) (Dl.Zjp i fe):=fun H0 Hb H σ ρ A D I p=>by
  unfold Dl.Zjp at p
  split at p
  · rename_i ds e
    obtain ⟨a,xs,l,s1,h1,r1,hA,hl⟩:=Zrv I e
    refine ⟨.ref a,s1,.inl ⟨rfl,xs,SqL.of h1⟩,he H0 Hb H σ ρ A _ I (Yj.imp (Yj.bind p) (fun d q v H1 g1 r=>?_) fun c x q H' g'=>q H' (Yd.from0 I g'))⟩
    split at q
    · rename_i hz
      obtain ⟨B,r2,r3,_,r4⟩:=r
      have hn:∀a∈B,H a=none:=fun a ha=>(r3 a ha).elim id fun z=>z.none.elim
      have h1':=g1 _ _ h1
      show Ziy (.ref a) [v] H1 fun _ H3=>D.nx σ H3
      refine Xpw h1' (by rw [r1.len];exact Zqt hz) ?_
      obtain ⟨tb,ta,tt⟩:=I.top i hi a l hA
      have I1:=I.mono g1
      have haB:a∉B:=fun z=>by
        have:=hn a z
        rw [h1] at this
        cases this
      have w1:∀b∈l++B,H0 b=none:=fun b hb=>by
        rcases List.mem_append.mp hb with z | z
        · exact I.loc i hi b (by rw [hA];exact .tail _ z)
        · exact I.s0.free (I.same.free (hn b z))
      have w2:∀j∈Γ,j≠i→j∈Γ∧∀b l',A j=b::l'→b∉l++B:=fun j hj e=>⟨hj,fun b l' e' z=>by
        rcases List.mem_append.mp z with z | z
        · exact (I.top j hj b l' e').2.2 i (fun w=>e w.symm) (by rw [hA];exact .tail _ z)
        · exact I.ne (j:=j) (by rw [e'];exact .head _) (hn b z)⟩
      have w3:∀j∈Δ,j≠i→j∈Δ∧∀b∈A j,b∉l++B:=fun j hj e=>⟨hj,fun b hb z=>by
        rcases List.mem_append.mp z with z | z
        · exact (I.deep j hj).2.1 i (fun w=>e w.symm) b hb (by rw [hA];exact .tail _ z)
        · exact I.ne hb (hn b z)⟩
      have w4:i∈Δ→(l++B).Nodup∧(∀j,j≠i→∀b∈l++B,b∉A j)∧∀b∈l++B,Hb b=none:=fun hd=>by
        obtain ⟨d1,d2,d3⟩:=I.deep i hd
        rw [hA] at d1 d2 d3
        refine ⟨List.nodup_append.mpr ⟨(List.nodup_cons.mp d1).2,r4 rfl,fun x hx y hy e=>?_⟩,fun j hj b hb=>?_,fun b hb=>?_⟩
        · subst e
          exact I.ne (j:=i) (by rw [hA];exact .tail _ hx) (hn x hy)
        · rcases List.mem_append.mp hb with z | z
          · exact d2 j hj b (.tail _ z)
          · exact fun w=>I.ne w (hn b z)
        · rcases List.mem_append.mp hb with z | z
          · exact d3 b (.tail _ z)
          · exact I.same.free (hn b z)
      obtain ⟨A',I'⟩:=I1.write (Γ':=Γ) (Δ':=Δ) hi hA hl s1 ((r1.same g1).app (RpA.one r2)) w1 (fun z=>(List.mem_append.mp z).elim ta haB) w2 w3 w4
      exact q _ _ A' I'
    · exact q.elim
  · exact p.elim
def BOk (K:Frag)(C:String→Addr)(Γ Δ:List Nat)(g:TG)(b:FB):Prop:=∀(H0 Hb H:Hp) (σ:St) (ρ:Yk) (A:Nat→List Addr) (d:D) (v:V) (B:List Addr) (Rr:St→Hp→Prop),Xf K C H0 Hb H Γ Δ σ ρ A→Rp K C H d v B→(∀a∈B,Hb a≠none)→
 Yj (b d ρ) (fun ρ'=>∀σ' A',Xf K C H0 Hb H Γ Δ σ' ρ' A'→Rr σ' H) (fun _ _=>False)→g v σ H Rr
def Xrd (K:Frag)(C:String→Addr)(Γ Δ:List Nat)(g:TGs)(b:List D→Yk→R Yk):Prop:=∀(H0 Hb H:Hp) (σ:St) (ρ:Yk) (A:Nat→List Addr) (d:List D) (v:List V) (B:List Addr) (Rr:St→Hp→Prop),Xf K C H0 Hb H Γ Δ σ ρ A→RpA K C H d v B→(∀a∈B,Hb a≠none)→
 Yj (b d ρ) (fun ρ'=>∀σ' A',Xf K C H0 Hb H Γ Δ σ' ρ' A'→Rr σ' H) (fun _ _=>False)→g v σ H Rr
theorem Xcq {i:Nat}(h1:i∉Γ:=by decide)(h2:i∉Δ:=by decide):BOk K C Γ Δ (Zbx i) (Dl.Xb i):=fun H0 Hb H σ ρ A d v B Rr I r hB p=>by
 obtain ⟨A',I',_⟩:=I.put (Γ':=Γ) (Δ':=Δ) (i:=i) r (fun j hj e=>⟨hj,fun a l e' ha=>hB a ha (I.top j hj a l e').1⟩) (fun hj=>absurd hj h1) (fun j hj e=>⟨hj,fun a ha hb=>hB a hb ((I.deep j hj).2.2 a ha)⟩) (fun hj=>absurd hj h2)
 exact p _ A' I'
theorem Xme:Xrd K C Γ Δ Zzu Dl.Zlo:=fun H0 Hb H σ ρ A d v B Rr I r hB p=>by
 cases d with
 | nil=>exact ⟨r.1,p _ A I⟩
 | cons _ _=>exact p.elim
theorem Xdb {g:TG}{gs:TGs}{b:FB}{bs:List D→Yk→R Yk}(h1:BOk K C Γ Δ g b)(h2:Xrd K C Γ Δ gs bs):Xrd K C Γ Δ (Zgy g gs) (Dl.Jt b bs):=fun H0 Hb H σ ρ A d v B Rr I r hB p=>by
 cases d with
 | nil=>exact p.elim
 | cons d ds =>
  obtain ⟨x,l,B1,B2,e1,e2,e3,e4⟩:=r
  subst e1 e4
  refine ⟨x,l,rfl,h1 H0 Hb H σ ρ A d x B1 _ I e2 (fun a ha=>hB a (mem_append_left _ ha)) (Yj.imp (Yj.bind p) (fun ρ1 q σ1 A1 I1=>?_) fun _ _ z=>z)⟩
  exact h2 H0 Hb H σ1 ρ1 A1 ds l B2 Rr I1 e3 (fun a ha=>hB a (mem_append_right _ ha)) q
theorem Xlx {gs:TGs}{bs:List D→Yk→R Yk}{n:Nat}(hn:∀ds ρ ρ',bs ds ρ=.ok ρ'→ds.length=n)(h:Xrd K C Γ Δ gs bs):BOk K C Γ Δ (Zca K n gs) (Dl.Zls bs):=fun H0 Hb H σ ρ A d v B Rr I r hB p=>by
 cases d with
 | tup ds =>
  obtain ⟨a,xs,rfl,e2,e3⟩:=r
  have hl:xs.length=n:=by
   rw [e3.len]
   have p':Yj (bs ds ρ) (fun ρ'=>∀σ' A',Xf K C H0 Hb H Γ Δ σ' ρ' A'→Rr σ' H) (fun _ _=>False):=p
   cases e:bs ds ρ with
   | ok ρ'=>exact hn ds ρ ρ' e
   | err _ _=>rw [e] at p';exact p'.elim
   | bad=>rw [e] at p';exact p'.elim
  exact ⟨a,xs,rfl,SqT.of e2,hl,h H0 Hb H σ ρ A ds xs B Rr I e3 hB p⟩
 | _=>exact p.elim
theorem Zwq (ds:List D)(ρ ρ':Yk)(h:Dl.Zlo ds ρ=.ok ρ'):ds.length=0:=by
 cases ds with
 | nil=>rfl
 | cons _ _=>cases h
theorem Zov {n:Nat}{b:FB}{bs:List D→Yk→R Yk}(hb:∀ds ρ ρ',bs ds ρ=.ok ρ'→ds.length=n)(ds:List D)(ρ ρ':Yk)(h:Dl.Jt b bs ds ρ=.ok ρ'):ds.length=n+1:=by
 cases ds with
 | nil=>cases h
 | cons d ds =>
  have h:((b d ρ).bind fun ρ'=>bs ds ρ')=.ok ρ':=h
  cases e:b d ρ with
  | ok ρ1 =>
   rw [e] at h
   rw [length_cons,hb ds ρ1 ρ' h]
  | err _ _=>rw [e] at h;cases h
  | bad=>rw [e] at h;cases h
noncomputable def ownAt (A:Nat→List Addr)(Γ Δ:List Nat):List Addr:=Γ.flatMap (fun i=>(A i).take 1)++Δ.flatMap A
theorem Zlb {A:Nat→List Addr}{a:Addr}(h:a∈ownAt A Γ Δ):(∃i∈Γ,∃l,A i=a::l)∨∃i∈Δ,a∈A i:=by
 rcases List.mem_append.mp h with h | h
 ·obtain ⟨i,hi,h⟩:=List.mem_flatMap.mp h
  left
  refine ⟨i,hi,?_⟩
  cases e:A i with
  | nil=>rw [e] at h;cases h
  | cons b l =>
   rw [e] at h
   simp only [List.take_succ_cons,take_zero,List.mem_singleton] at h
   rw [h]
   exact ⟨l,rfl⟩
 ·obtain ⟨i,hi,h⟩:=List.mem_flatMap.mp h
  exact .inr ⟨i,hi,h⟩
theorem Xld {A:Nat→List Addr}{i:Nat}(hi:i∈Γ){a:Addr}{l:List Addr}(e:A i=a::l):a∈ownAt A Γ Δ:=mem_append_left _ (List.mem_flatMap.mpr ⟨i,hi,by rw [e];simp⟩)
theorem Zzx {A:Nat→List Addr}{i:Nat}(hi:i∈Δ){a:Addr}(h:a∈A i):a∈ownAt A Γ Δ:=mem_append_right _ (List.mem_flatMap.mpr ⟨i,hi,h⟩)
theorem Ztt (b:FB)(s:FS)(xs:List D){i:Nat}{x:D}(h:xs[i]?=some x)(ρ:Yk):Dl.Zcm b s (xs.drop i) ρ=(b x ρ).calm.bind fun ρ1=>(s ρ1).bind fun fl=>match fl with
  | .nx ρ2=>Dl.Zcm b s (xs.drop (i+1)) ρ2
  | .cnt ρ2=>Dl.Zcm b s (xs.drop (i+1)) ρ2
  | .brk ρ2=>.ok (.nx ρ2)
  | .ret d=>.ok (.ret d):=by
 obtain ⟨hi,rfl⟩:=List.getElem?_eq_some_iff.mp h
 rw [drop_eq_getElem_cons hi]
 rfl
theorem Xmb {wi:TI}{g:TG}{tb:TS}{fi:FI}{fb:FB}{fs:FS}(hi:IOk K C E Γ Δ S wi fi)(hb:BOk K C Γl Δl g fb)(hs:SOk K C E mr Γl Δl Γl Δl Γl Δl tb fs)
    (h1:∀i∈Γl,i∈Γ:=by decide) (h2:∀i∈Δl,i∈Δ:=by decide) (h3:∀p∈S,p.1∉Γl∧p.1∉Δl:=by decide):SOk K C E mr Γk Δk Γ Δ Γl Δl (tFor wi g tb) (Dl.Zjo fi fb fs):=fun H0 Hb H σ ρ A D I p=>by
  refine hi H0 Hb H σ ρ A _ I (Yj.imp (Yj.bind p) (fun ds q J H1 W g1 hW hlen hJ=>?_) fun c x q H' g'=>q H' (Yd.from0 I g'))
  have I1:=(I.mono g1).weak h1 h2
  have hlst:∀a∈ownAt A Γl Δl,∃o,H1 a=some o∧IsM o:=fun a ha=>by
    rcases Zlb ha with ⟨i,_,l,e⟩ | ⟨i,_,e⟩
    · exact I1.is (j:=i) (by rw [e];exact .head _)
    · exact I1.is e
  have hbn:∀a∈ownAt A Γl Δl,Hb a=none:=fun a ha=>by
    rcases Zlb ha with ⟨i,hi,l,e⟩ | ⟨i,hi,e⟩
    · exact (I1.top i hi a l e).1
    · exact (I1.deep i hi).2.2 a e
  have hout:∀a∈W,a∉ownAt A Γl Δl:=fun a ha ho=>by
    rcases (hW a ha).2 with z | z
    · rcases Zlb ho with ⟨i,hi,l,e⟩ | ⟨i,hi,e⟩
      · exact I.ne (j:=i) (by rw [e];exact .head _) z
      · exact I.ne e z
    · rcases Zlb ho with ⟨i,hi,l,e⟩ | ⟨i,hi,e⟩
      · exact I1.top_out hi (fun h=>(h3 _ h).1 hi) e z
      · exact I1.deep_out hi (fun p hp e'=>(h3 p hp).2 (by rw [e'];exact hi)) e z
  let Hc:Hp:=fun b=>if b∈ownAt A Γl Δl then none else H1 b
  have c1:Yd Hc H1:=fun b o h=>by
    show H1 b=some o
    have h:(if b∈ownAt A Γl Δl then none else H1 b)=some o:=h
    split at h
    · cases h
    · exact h
  have c2:Yd Hb Hc:=fun b o h=>by
    show (if b∈ownAt A Γl Δl then none else H1 b)=some o
    rw [if_neg fun ho=>by rw [hbn b ho] at h;cases h]
    exact I1.same b o h
  have c3:∀a,a∉ownAt A Γl Δl→Hc a=H1 a:=fun a ha=>if_neg ha
  have c4:∀a∈ownAt A Γl Δl,Hc a=none:=fun a ha=>if_pos ha
  have I2:Xf K C H0 Hc H1 Γl Δl σ ρ A:=⟨I1.s0.trans c2,c1,I1.len,I1.rep,I1.nil,I1.loc,fun i hi a l e=>⟨c4 a (Xld hi e),(I1.top i hi a l e).2⟩,fun i hi=>⟨(I1.deep i hi).1,(I1.deep i hi).2.1,fun a ha=>c4 a (Zzx hi ha)⟩⟩
  have back:∀{σ':St} {ρ':Yk} {H':Hp} {A':Nat→List Addr},Xf K C H0 Hc H' Γl Δl σ' ρ' A'→Xf K C H0 Hb H' Γl Δl σ' ρ' A':=fun I' =>
    ⟨I1.s0,c2.trans I'.same,I'.len,I'.rep,I'.nil,I'.loc,fun i hi a l e=>⟨c2.free (I'.top i hi a l e).1,(I'.top i hi a l e).2⟩,fun i hi=>⟨(I'.deep i hi).1,(I'.deep i hi).2.1,fun a ha=>c2.free ((I'.deep i hi).2.2 a ha)⟩⟩
  have go:Goes K C J ds Hc:=hJ Hc ⟨fun a ha=>c3 a (hout a ha),fun b o h hn=>(c3 b fun ho=>by
    obtain ⟨xs,e,hm⟩:=hlst b ho
    rw [e] at h
    cases h
    exact hn hm).trans h⟩
  refine Xjf go (fun k σ' H'=>∃ρ' A',Xf K C H0 Hc H' Γl Δl σ' ρ' A'∧Zlw K C E mr Γk Δk Γl Δl H0 Hb D (Dl.Zcm fb fs (ds.drop k) ρ')) ⟨ρ,A,I2,q⟩ (fun _ _ _ ⟨_,_,I',_⟩=>I'.same) ?_ ?_
  · rintro k d x Bx σ' Ha H' hd ⟨ρ',A',Ia,pq⟩ ga rx hBx
    have I':=Ia.mono ga
    rw [Ztt _ _ _ hd] at pq
    have pq':=Zfv (Yj.bind pq)
    refine hb H0 Hc H' σ' ρ' A' d x Bx _ I' rx hBx (Yj.imp pq' (fun ρ1 pq σ1 A1 I1'=>?_) fun _ _ z=>z)
    refine hs H0 Hc H' σ1 ρ1 A1 _ I1' (Yj.imp (Yj.bind pq) (fun fl pq=>?_) fun _ _ z=>z)
    cases fl with
    | nx ρ2=>exact fun σ2 H2 A2 I2'=>⟨ρ2,A2,I2',pq⟩
    | cnt ρ2=>exact fun σ2 H2 A2 I2'=>⟨ρ2,A2,I2',pq⟩
    | brk ρ2=>exact fun σ2 H2 A2 I2'=>pq σ2 H2 A2 (back I2')
    | ret d=>exact pq
  · rintro σ' H' ⟨ρ',A',I',pq⟩
    rw [List.drop_length] at pq
    exact pq σ' H' A' (back I')
theorem Zvq {n:Nat}{tc:TT}{tb:TS}{fc:FT}{fs:FS}(hc:TOk K C E Γ Δ tc fc)(hs:SOk K C E mr Γ Δ Γ Δ Γ Δ tb fs):SOk K C E mr Γk Δk Γ Δ Γ Δ (Zqh tc tb) (Dl.Znm n fc fs):=fun H0 Hb H σ ρ A D I p=>by
 refine ⟨fun k σ' H'=>∃ρ' A',Xf K C H0 Hb H' Γ Δ σ' ρ' A'∧Zlw K C E mr Γk Δk Γ Δ H0 Hb D (Dl.Zbz fc fs k ρ'),⟨n,ρ,A,I,p⟩,?_⟩
 rintro k σ' H' ⟨ρ',A',I',pq⟩
 cases k with
 | zero=>exact pq.elim
 | succ k =>
  refine hc H0 Hb H' σ' ρ' A' _ I' (Yj.imp (Yj.bind pq) (fun b pq H1 g1=>?_) fun c x q H' g'=>q H' (Yd.from0 I' g'))
  cases b with
  | false =>
   simp only [Bool.false_eq_true,if_false] at pq ⊢
   exact pq σ' H1 A' (I'.mono g1)
  | true =>
   simp only [if_true] at pq ⊢
   refine ⟨fun σ2 H2=>∃ρ2 A2,Xf K C H0 Hb H2 Γ Δ σ2 ρ2 A2∧Zlw K C E mr Γk Δk Γ Δ H0 Hb D (Dl.Zbz fc fs k ρ2),fun σ2 H2 h=>⟨k,Nat.lt_succ_self k,h⟩,?_⟩
   refine hs H0 Hb H1 σ' ρ' A' _ (I'.mono g1) (Yj.imp (Yj.bind pq) (fun fl pq=>?_) fun _ _ z=>z)
   cases fl with
   | nx ρ2=>exact fun σ2 H2 A2 I2'=>⟨ρ2,A2,I2',pq⟩
   | cnt ρ2=>exact fun σ2 H2 A2 I2'=>⟨ρ2,A2,I2',pq⟩
   | brk ρ2=>exact fun σ2 H2 A2 I2'=>pq σ2 H2 A2 I2'
   | ret d=>exact pq
theorem Zvb {N:Nat}{ds:List D}{vs:List V}{B:List Addr}{H:Hp}(r:RpA K C H ds vs B):∃A,Xf K C H H H [] [] (vs.map some++List.replicate (N - vs.length) none) (ds.map some++List.replicate (N - ds.length) none) A:=by
 have hl:=r.len
 have key:∀{ds:List D} {vs:List V} {B:List Addr},RpA K C H ds vs B→∃A:Nat→List Addr,(∀(i:Nat) d,ds[i]?=some d→∃v,vs[i]?=some v∧Rp K C H d v (A i))∧∀i,ds.length≤i→A i=[]:=by
  intro ds
  induction ds with
  | nil=>intro vs B r;exact ⟨fun _=>[],fun i d h=>by simp at h,fun _ _=>rfl⟩
  | cons d ds ih =>
   intro vs B r
   obtain ⟨x,l,B1,B2,e1,e2,e3,e4⟩:=r
   obtain ⟨A,h1,h2⟩:=ih e3
   subst e1
   refine ⟨fun i=>match i with | 0=>B1 | i+1=>A i,fun i d' h=>?_,fun i h=>?_⟩
   ·cases i with
    | zero=>simp at h;subst h;exact ⟨x,rfl,e2⟩
    | succ i=>simp at h;obtain ⟨v,q1,q2⟩:=h1 i d' h;exact ⟨v,by simpa using q1,q2⟩
   ·cases i with
    | zero=>simp at h
    | succ i=>exact h2 i (by simpa using h)
 obtain ⟨A,h1,h2⟩:=key r
 refine ⟨A,Yd.refl _,Yd.refl _,by simp [hl],fun i d h=>?_,fun i h=>?_,(fun _ h=>nomatch h),(fun _ h=>nomatch h),(fun _ h=>nomatch h)⟩
 ·by_cases hi:i<ds.length
  ·rw [getElem?_append_left (by simpa using hi),getElem?_map] at h
   obtain ⟨d',hd,e⟩:=Option.map_eq_some_iff.mp h
   cases e
   obtain ⟨v,q1,q2⟩:=h1 i d hd
   refine ⟨v,?_,q2⟩
   rw [getElem?_append_left (by simp [hl,hi]),getElem?_map,q1]
   rfl
  ·rw [getElem?_append_right (by simpa using hi)] at h
   have:=mem_of_getElem? h
   rw [List.mem_replicate] at this
   exact absurd this.2 (by intro z;cases z)
 ·by_cases hi:i<ds.length
  ·exact absurd (by rw [getElem?_append_left (by simpa using hi),getElem?_map,getElem?_eq_getElem hi];rfl) (h ds[i])
  ·exact h2 i (by omega)
theorem Xcw {N:Nat}{t:TS}{f:FS}{E:XK}{ds:List D}{vs:List V}{B:List Addr}{H:Hp}{Q:VK}(h:SOk K C E mr [] [] [] [] Γ' Δ' t f)(r:RpA K C H ds vs B)
  (p:Yj (Dl.run N f ds) (fun d=>∀v H',Yd H H'→Res K C mr [] H (fun _=>[]) d v H'→Q v H') (fun c x=>∀H',Yd H H'→EC C E c x H')) :
  t {nx:=fun _ H'=>Q .non H',rt:=Q} (vs.map some++List.replicate (N - vs.length) none) H:=by
 obtain ⟨A,I⟩:=Zvb (N:=N) r
 refine h H H H _ _ A _ I (Yj.imp (Yj.bind p) (fun fl q=>?_) fun _ _ q=>q)
 cases fl with
 | nx ρ'=>exact fun σ' H' A' I'=>q _ H' I'.same (Res.flat ⟨rfl,rfl⟩)
 | ret d=>exact q
 | brk _=>exact q.elim
 | cnt _=>exact q.elim
end
structure JE (X:Cx)(C:String→Addr)(E:XK)(Γ Δ:List Nat)(m:Nat)(S:List (Nat×Bool))(e:Expr)(t:TE)(f:FE):Prop where
 q:QE X e t
 o:EOk X.K C E Γ Δ m S t f
structure JT (X:Cx)(C:String→Addr)(E:XK)(Γ Δ:List Nat)(e:Expr)(t:TT)(f:FT):Prop where
 q:QT X e t
 o:TOk X.K C E Γ Δ t f
structure JW (X:Cx)(C:String→Addr)(E:XK)(Γ Δ:List Nat)(e:Expr)(t:TT)(f:FT):Prop where
 q:QW X e t
 o:TOk X.K C E Γ Δ t f
structure JA (X:Cx)(C:String→Addr)(E:XK)(Γ Δ:List Nat)(m:Nat)(S:List (Nat×Bool))(e:List Expr)(n:Nat)(t:TA)(f:FA):Prop where
 q:QA X e t
 o:AOk X.K C E Γ Δ m S t f
 n:∀ρ ds,f ρ=.ok ds→ds.length=n
structure JO (X:Cx)(C:String→Addr)(E:XK)(Γ Δ:List Nat)(e:Option Expr)(t:TO)(f:FO):Prop where
 q:QO X e t
 o:OOk X.K C E Γ Δ t f
structure JI (X:Cx)(C:String→Addr)(E:XK)(Γ Δ:List Nat)(S:List (Nat×Bool))(tg e:Expr)(t:TI)(f:FI):Prop where
 q:QI X tg e t
 o:IOk X.K C E Γ Δ S t f
structure JG (X:Cx)(C:String→Addr)(Γ Δ:List Nat)(e:Expr)(t:TG)(f:FB):Prop where
 q:QG X e t
 o:BOk X.K C Γ Δ t f
structure JGs (X:Cx)(C:String→Addr)(Γ Δ:List Nat)(es:List Expr)(n:Nat)(t:TGs)(f:List D→Yk→R Yk):Prop where
 q:QGs X es t
 o:Xrd X.K C Γ Δ t f
 n:∀ds ρ ρ',f ds ρ=.ok ρ'→ds.length=n
structure JS (X:Cx)(C:String→Addr)(E:XK)(mr:Nat)(Γl Δl Γ Δ Γ' Δ':List Nat)(s:Stmt)(t:TS)(f:FS):Prop where
 q:QS X s t
 o:SOk X.K C E mr Γl Δl Γ Δ Γ' Δ' t f
structure JSs (X:Cx)(C:String→Addr)(E:XK)(mr:Nat)(Γl Δl Γ Δ Γ' Δ':List Nat)(s:List Stmt)(t:TS)(f:FS):Prop where
 q:QSs X s t
 o:SOk X.K C E mr Γl Δl Γ Δ Γ' Δ' t f
structure JIf (X:Cx)(C:String→Addr)(E:XK)(Γ Δ:List Nat)(e:List Expr)(t:TT)(f:FT):Prop where
 q:QIf X e t
 o:TOk X.K C E Γ Δ t f
section
variable {X:Cx}{C:String→Addr}{E:XK}{Γ Δ Γ' Δ' Γ1 Δ1 Γl Δl Γk Δk:List Nat}{m m1 m2 m3 mr:Nat}{S S1 S2 S3:List (Nat×Bool)}{a b c e st o tg iter:Expr}{es rest:List Expr}{ta tb tc te ts:TE}{fa fb fc fe fs:FE}{t:TA}{f:FA}{pos p p2 apos cpos:Pos}{n:Nat}
theorem Ze {i:Int}{j:Nat}:JE X C E Γ Δ 2 [] (.Constant (.int i) j pos) (tC (.int i)) (Dl.fC (.int i)):=⟨Xni,Xdm fun _=>rpI⟩
theorem Zgx {i:Bool}{j:Nat}:JE X C E Γ Δ 2 [] (.Constant (.bool i) j pos) (tC (.bl i)) (Dl.fC (.bl i)):=⟨qe_bl,Xdm fun _=>rpB⟩
theorem Ziz {j:Nat}:JE X C E Γ Δ 2 [] (.Constant .none j pos) (tC .non) (Dl.fC .non):=⟨Xow,Xdm fun _=>⟨rfl,rfl⟩⟩
theorem Zao {x:Str}{j:Nat}(h:PyData.strOk x=true:=by decide +kernel):JE X C E Γ Δ 2 [] (.Constant (.str x) j pos) (tC (.str x)) (Dl.fC (.str x)):=⟨Xrk,Xdm fun _=>⟨rfl,h,rfl⟩⟩
theorem Zk (i:Nat){x:Str}(hN:X.N[i]?=some x:=by rfl)(hv:autoParam (Vis X.env.scope x) aT3._auto_1)(hd:(x==("__debug__":Str))=false:=by decide)
  (hcd:(x==("__classdict__":Str))=false:=by decide):JE X C E Γ Δ 0 [(i,false)] (.Name x pos) (Zue i) (Dl.fV i):=⟨qv i hN hv hd hcd,eok_v⟩
theorem Zon (i:Nat){x:Str}(hi:i∈Δ:=by decide)(hN:X.N[i]?=some x:=by rfl)(hv:autoParam (Vis X.env.scope x) aT3._auto_1)(hd:(x==("__debug__":Str))=false:=by decide)
  (hcd:(x==("__classdict__":Str))=false:=by decide):JE X C E Γ Δ 2 [(i,false)] (.Name x pos) (Zue i) (Dl.fV i):=⟨qv i hN hv hd hcd,Xnw hi⟩
theorem Zz (h:JE X C E Γ Δ m S e te fe):JE X C E Γ Δ 2 [] e te (Dl.f1 Dl.Xr fe):=⟨h.q,Xcn h.o⟩
theorem Zr {op:Operator}{r:R2}{g:D→D→Option D}(ho:OpR X (binaryOp op) r)(hg:GOk X.K C r g)(ha:JE X C E Γ Δ m1 S1 a ta fa)(hb:JE X C E Γ Δ m2 S2 b tb fb):JE X C E Γ Δ 2 [] (.BinOp a op b pos) (tOp r ta tb) (Dl.f2 g fa fb):=⟨qe_op ho ha.q hb.q,Zyb hg ha.o hb.o⟩
theorem Zcv (ha:JE X C E Γ Δ m1 S1 a ta fa):JE X C E Γ Δ 2 [] (.UnaryOp .USub a pos) (tUn (rU fun i=>.int (-i)) ta) (Dl.f1 Dl.Zod fa):=⟨qe_un Xrh ha.q,Xrv (fun H x d vx Bx Q r e q=>by
  unfold Dl.Zod at e
  split at e
  · cases e
    obtain ⟨rfl,_⟩:=r
    exact rd_U (Out.flat q rpI)
  · cases e) ha.o⟩
theorem Xgl {op:CmpOp}{r:R2}{g:D→D→Option D}(ho:OpR X (compareOp op) r)(hg:GOk X.K C r g)(ha:JE X C E Γ Δ m1 S1 a ta fa)(hb:JE X C E Γ Δ m2 S2 b tb fb)(hm:behindInMarks op b=false):JE X C E Γ Δ 2 [] (.Compare a [op] [b] pos) (tOp r ta tb) (Dl.f2 g fa fb):=⟨Xjv ho ha.q hb.q hm,Zyb hg ha.o hb.o⟩
theorem Xt {op:CmpOp}{r:R2}{g:D→D→Option D}(ho:OpR X (compareOp op) r)(hg:GOk X.K C r g)(ha:JE X C E Γ Δ m1 S1 a ta fa)(hb:JE X C E Γ Δ m2 S2 b tb fb)(hm:behindInMarks op b=false):JT X C E Γ Δ (.Compare a [op] [b] pos) (Xba (tOp r ta tb)) (Dl.cE (Dl.f2 g fa fb)):=⟨Xll ho ha.q hb.q hm,Xav (Zyb hg ha.o hb.o)⟩
theorem Zxa (h:JE X C E Γ Δ m S e te fe)(he:∀whole,isTrue e X.env whole=(do let v ← whole;standAt e.pos;holding [v] (truthy v)):=by intro _;rfl):JT X C E Γ Δ e (tB te) (Dl.cE fe):=⟨Xnk h.q he,tok_B h.o⟩
theorem Xfj {tA:TT}{fA:FT}(ha:JT X C E Γ Δ a tA fA):JT X C E Γ Δ (.UnaryOp .Not a pos) (tNot tA) (Dl.Xmr fA):=⟨Xpg ha.q,Xkk ha.o⟩
theorem Zup {tA:TT}{fA:FT}(ha:JT X C E Γ Δ a tA fA):JW X C E Γ Δ (.BoolOp .And [a] pos) tA fA:=⟨Xks ha.q,ha.o⟩
theorem Zrc {tA:TT}{fA:FT}(ha:JT X C E Γ Δ a tA fA):JW X C E Γ Δ (.BoolOp .Or [a] pos) tA fA:=⟨Xqv ha.q,ha.o⟩
theorem Xfg {tA tB':TT}{fA fB:FT}(ha:JT X C E Γ Δ a tA fA)(hb:JW X C E Γ Δ (.BoolOp .And (b::rest) pos) tB' fB):JW X C E Γ Δ (.BoolOp .And (a::b::rest) pos) (tAnd tA tB') (Dl.Xix fA fB):=⟨Xoz ha.q hb.q,Xhb ha.o hb.o⟩
theorem Zzk {tA tB':TT}{fA fB:FT}(ha:JT X C E Γ Δ a tA fA)(hb:JW X C E Γ Δ (.BoolOp .Or (b::rest) pos) tB' fB):JW X C E Γ Δ (.BoolOp .Or (a::b::rest) pos) (tOr tA tB') (Dl.cOr fA fB):=⟨qw_or ha.q hb.q,Xob ha.o hb.o⟩
theorem Xmn {tA:TT}{fA:FT}(h:JW X C E Γ Δ a tA fA):JT X C E Γ Δ a tA fA:=⟨qt_w h.q,h.o⟩
theorem Zi:JA X C E Γ Δ 2 [] [] 0 Zuh Dl.Zu:=⟨Zzg,Xlt,Xlu⟩
theorem Zb (ha:JE X C E Γ Δ m1 S1 e te fe)(hr:JA X C E Γ Δ m2 S2 es n t f)(hs:starEach (e::es) X.env=(false,eval e X.env)::starEach es X.env):JA X C E Γ Δ 0 (S1++S2) (e::es) (n+1) (Zgb te t) (Dl.Zd fe f):=⟨Zko ha.q hr.q hs,Xbp ha.o hr.o,Zrz hr.n⟩
theorem Zh (ha:JE X C E Γ Δ 2 [] e te fe)(hr:JA X C E Γ Δ 2 [] es n t f)(hs:starEach (e::es) X.env=(false,eval e X.env)::starEach es X.env):JA X C E Γ Δ 2 [] (e::es) (n+1) (Zgb te t) (Dl.Zd fe f):=
 ⟨Zko ha.q hr.q hs,Zyg (S1:=[]) (S2:=[]) ha.o hr.o (fun _ h=>nomatch h) (fun _ h=>nomatch h),Zrz hr.n⟩
theorem Zch {x1:Nat}(h:JA X C E Γ Δ 2 S es n t f):JE X C E Γ Δ 2 S (.Tuple es x1 pos) (Xrc t) (Dl.fA Dl.Zca f):=⟨Xfk h.q,Zvm (.inr rfl) h.o⟩
theorem Xjs {x1:Nat}(h:JA X C E Γ Δ 0 S es n t f):JE X C E Γ Δ 0 S (.Tuple es x1 pos) (Xrc t) (Dl.fA Dl.Zca f):=⟨Xfk h.q,Zvm (.inl rfl) h.o⟩
theorem Ye (h:JA X C E Γ Δ 2 S es n t f):JE X C E Γ Δ 2 S (.List es pos) (Xmk t) (Dl.fA Dl.Jy f):=⟨Xge h.q,Xhy h.o⟩
theorem Zpe (h:JA X C E Γ Δ m S es n t f):JE X C E Γ Δ 1 S (.List es pos) (Xmk t) (Dl.fA Dl.Jy f):=⟨Xge h.q,Xeb h.o⟩
theorem Zs (K:Frag)(ha:JE X C E Γ Δ m1 S1 a ta fa)(hb:JE X C E Γ Δ m2 S2 b tb fb)(hs:Zce b)(hK:X.K=K:=by rfl):JE X C E Γ Δ 0 S1 (.Subscript a b pos) (tOp (rIx K) ta tb) (Dl.f2 Dl.gIx fa fb):=by
 subst hK
 exact ⟨qe_ix Xpq ha.q hb.q hs,Xqh ha.o hb.o⟩
theorem Zll:JO X C E Γ Δ none Zln Dl.Znq:=⟨Xmd,Xef⟩
theorem Zfo (h:JE X C E Γ Δ m S e te fe):JO X C E Γ Δ (some e) (Xbc te) (Dl.Zic fe):=⟨Xko h.q,Xet h.o⟩
theorem Zzq (K:Frag){lo hi:Option Expr}{tl th:TO}{fl fh:FO}(he:JE X C E Γ Δ m S e te fe)(hl:JO X C E Γ Δ lo tl fl)(hu:JO X C E Γ Δ hi th fh)(hK:X.K=K:=by rfl):JE X C E Γ Δ 2 [] (.Subscript e (.Slice lo hi none p2) pos) (tSl (rSlL K) te tl th) (Dl.fSl Dl.gSl fe fl fh):=by
 subst hK
 exact ⟨Xes Xhr he.q hl.q hu.q,Xno he.o hl.o hu.o⟩
theorem Zo {K:Frag}{CX:CXT}{k:Nat}{ps:List Str}{F:List D→R D}{x:Str}(Df:Def X.prog X.w X.K X.mg X.base CX k x ps (spD K C n mr F))(hr:Zje k X.A)(hg:Gl X x)(hx:Zjt CX X E)
  (ha:JA X C E Γ Δ m S (e::es) n t f) (hdb:(x==("__debug__":Str))=false:=by decide) (he:starEach (e::es) X.env=(false,eval e X.env)::starEach es X.env:=by rfl) (hpl:(backTo pos (starEach es X.env)).any (·.1)=false:=by rfl) (hK:X.K=K:=by rfl) :
  JE X C E Γ Δ mr [] (.Call (.Name x p) (e::es) [] pos) (Ztb (spD K C n mr F) [] E t) (Dl.Zx F f):=by
 subst hK
 exact ⟨Xdp Df hr hg hx ha.q hdb he hpl,Xel ha.o ha.n⟩
theorem Xm {x:Str}{id:String}{r:List V→Hp→VK→Prop}{g:List D→Option D}(hc:Zba X (.builtin id) r)(hgk:GAk X.K C r g)(hg:Gl X x)(hm:X.mg x=none)(hv:bootBuiltins x=some (.builtin id))(ha:JA X C E Γ Δ m S (e::es) n t f)(hn:x≠"__name__":=by decide)(hdb:(x==("__debug__":Str))=false:=by decide)
  (he:starEach (e::es) X.env=(false,eval e X.env)::starEach es X.env:=by rfl) (hpl:(backTo pos (starEach es X.env)).any (·.1)=false:=by rfl):JE X C E Γ Δ 2 [] (.Call (.Name x p) (e::es) [] pos) (tCB r t) (Dl.fA g f):=⟨Xbx hc hg hm hv ha.q hn hdb he hpl,Xfp hgk ha.o⟩
theorem Zxh {x:Str}{T:String}{r:List V→Hp→VK→Prop}{g:List D→Option D}(hc:Zba X (.type T) r)(hgk:GAk X.K C r g)(hg:Gl X x)(hm:X.mg x=none)(hv:bootBuiltins x=some (.type T))(ha:JA X C E Γ Δ m S (e::es) n t f)(hn:x≠"__name__":=by decide)(hdb:(x==("__debug__":Str))=false:=by decide)
  (he:starEach (e::es) X.env=(false,eval e X.env)::starEach es X.env:=by rfl) (hpl:(backTo pos (starEach es X.env)).any (·.1)=false:=by rfl):JE X C E Γ Δ 2 [] (.Call (.Name x p) (e::es) [] pos) (tCB r t) (Dl.fA g f):=⟨Zze hc hg hm hv ha.q hn hdb he hpl,Xfp hgk ha.o⟩
theorem Zla (K:Frag)(hg:Gl X "list")(hm:X.mg "list"=none)(hg':Gl X "reversed")(hm':X.mg "reversed"=none)(he:JE X C E Γ Δ m S e te fe)(hs2:starEach [e] X.env=(false,eval e X.env)::starEach [] X.env)(hc:X.calm=true:=by rfl)(hK:X.K=K:=by rfl) :
  JE X C E Γ Δ 2 [] (.Call (.Name "list" p) [.Call (.Name "reversed" p2) [e] [] apos] [] cpos) (Xbg K te) (Dl.f1 Dl.Zha fe):=by
 subst hK
 exact ⟨Xjd hg hm hg' hm' he.q hs2 hc,Xdj he.o⟩
theorem Jc (h:JE X C E Γ Δ m S e te fe):JI X C E Γ Δ S tg e (Zzv X.K te) (Dl.Zah fe):=⟨Xji h.q,Zzz h.o⟩
theorem Zfu (hg:Gl X "range")(hm:X.mg "range"=none)(ha:JA X C E Γ Δ m S [a] n t f)(hs:starEach [a] X.env=[(false,eval a X.env)]:=by rfl):JI X C E Γ Δ [] tg (.Call (.Name "range" p) [a] [] pos) (Xai t) (Dl.Zjj f):=⟨Zwx hg hm ha.q hs,Xal ha.o⟩
theorem Zpy (hg:Gl X "range")(hm:X.mg "range"=none)(ha:JA X C E Γ Δ m S [a,b] n t f)(hs:starEach [a,b] X.env=[(false,eval a X.env),(false,eval b X.env)]:=by rfl)(hs2:starEach [b] X.env=[(false,eval b X.env)]:=by rfl):JI X C E Γ Δ [] tg (.Call (.Name "range" p) [a,b] [] pos) (Xds t) (Dl.Zmi f):=⟨Zzm hg hm ha.q hs hs2,Xdg ha.o⟩
theorem Yt {i:Nat}{x:Str}(h1:i∉Γ:=by decide)(h2:i∉Δ:=by decide)(hN:X.N.Nodup)(hi:X.N[i]?=some x)(hx:Loc X.env.scope x)(hf:autoParam (X.fn x=true∨X.env.scope.names.lookup x=some .local) aT0._auto_1):JG X C Γ Δ (.Name x pos) (Zbx i) (Dl.Xb i):=⟨Zoy hN hi hx hf,Xcq h1 h2⟩
theorem Xln:JGs X C Γ Δ [] 0 Zzu Dl.Zlo:=⟨Zot,Xme,Zwq⟩
theorem Zql {tt:TG}{u:TGs}{fb:FB}{fu:List D→Yk→R Yk}(h1:JG X C Γ Δ e tt fb)(h2:JGs X C Γ Δ es n u fu)(hs:(assignEach (e::es) X.env).map (·.2)=assign e X.env::(assignEach es X.env).map (·.2):=by rfl):JGs X C Γ Δ (e::es) (n+1) (Zgy tt u) (Dl.Jt fb fu):=⟨Zks h1.q h2.q hs,Xdb h1.o h2.o,Zov h2.n⟩
theorem Xot {k:Nat}{u:TGs}{fu:List D→Yk→R Yk}(hc:X.calm=true)(h:JGs X C Γ Δ es n u fu)(hn:(assignEach es X.env).length=n:=by rfl)(hst:(assignEach es X.env).findIdx? (·.1)=none:=by rfl):JG X C Γ Δ (.Tuple es k pos) (Zca X.K n u) (Dl.Zls fu):=⟨Zye hc h.q hn hst,Xlx h.n h.o⟩
theorem Zfl:JIf X C E Γ Δ [] tYes Dl.Zoc:=⟨Xid,Xjl⟩
theorem Zpl {tA:TT}{fA:FT}(h:JT X C E Γ Δ c tA fA):JIf X C E Γ Δ [c] tA fA:=⟨Xhi h.q,h.o⟩
structure JB (X:Cx)(C:String→Addr)(n k:Nat)(e:Expr)(t:TG)(f:FB):Prop where
 q:QG X e t
 o:NOk X.K C n k t f
structure JBs (X:Cx)(C:String→Addr)(n k:Nat)(es:List Expr)(l:Nat)(t:TGs)(f:List D→Yk→R Yk):Prop where
 q:QGs X es t
 o:Xqt X.K C n k t f
 n:∀ds ρ ρ',f ds ρ=.ok ρ'→ds.length=l
theorem Zbt {k:Nat}(i:Nat){x:Str}(hN:X.N.Nodup:=by decide +kernel)(hi:X.N[i]?=some x:=by rfl)(hx:Loc X.env.scope x:=by exact .inl rfl)(hf:X.fn x=true∨X.env.scope.names.lookup x=some .local:=by exact .inr rfl)(h1:n≤i:=by decide)(h2:i<n+k:=by decide):JB X C n k (.Name x pos) (Zbx i) (Dl.Xb i):=⟨Zoy hN hi hx hf,Xbe i h1 h2⟩
theorem Xil {k:Nat}:JBs X C n k [] 0 Zzu Dl.Zlo:=⟨Zot,Xim,Zwq⟩
theorem Zqx {k l:Nat}{tt:TG}{u:TGs}{fb:FB}{fu:List D→Yk→R Yk}(h1:JB X C n k e tt fb)(h2:JBs X C n k es l u fu)(hs:(assignEach (e::es) X.env).map (·.2)=assign e X.env::(assignEach es X.env).map (·.2):=by rfl):JBs X C n k (e::es) (l+1) (Zgy tt u) (Dl.Jt fb fu):=⟨Zks h1.q h2.q hs,Xbm h1.o h2.o,Zov h2.n⟩
theorem Xqs (K:Frag){k l kk:Nat}{u:TGs}{fu:List D→Yk→R Yk}(h:JBs X C n k es l u fu)(hc:X.calm=true:=by rfl)(hn:(assignEach es X.env).length=l:=by rfl)(hst:(assignEach es X.env).findIdx? (·.1)=none:=by rfl)(hK:X.K=K:=by rfl):JB X C n k (.Tuple es kk pos) (Zca K l u) (Dl.Zls fu):=by
 subst hK
 exact ⟨Zye hc h.q hn hst,Xhd h.n h.o⟩
theorem Zdy {elt:Expr}{ifs:List Expr}{sc:Scope}{wi:TI}{tc:TT}{gg:TG}{fi:FI}{fc:FT}{fg:FB}(esc:Scope)(N N2 xs:List Str)(B:Xgp sc esc xs N N2)(hi:JI X C E Γ Δ S tg iter wi fi)(hg:∀cl C' s0 H0 fp,JB (X.blkN N2 xs sc cl C' s0 H0 fp) C n xs.length tg gg fg)(ht:∀cl C' s0 H0 fp,JIf (X.blkN N2 xs sc cl C' s0 H0 fp) C E0 [] [] ifs tc fc)(he:∀cl C' s0 H0 fp,JE (X.blkN N2 xs sc cl C' s0 H0 fp) C E0 [] [] 2 [] elt te fe)
  (hesc:X.env.scope=esc:=by rfl) (hN:X.N=N:=by rfl) (hc:X.calm=true:=by rfl) (hs:∀v,foldedSetIterable iter X.env v=pure v:=by intro _;rfl):JE X C E Γ Δ 2 [] (.ListComp elt [⟨tg,iter,ifs,0⟩] sc pos) (Zii xs.length gg wi tc te) (Dl.Zcl n xs.length fi fg fc fe):=
 ⟨Xbd esc N N2 xs B hi.q (fun cl C' s0 H0 fp=>(hg cl C' s0 H0 fp).q) (fun cl C' s0 H0 fp=>(ht cl C' s0 H0 fp).q) (fun cl C' s0 H0 fp=>(he cl C' s0 H0 fp).q) hesc hN hc hs,Zry hi.o (hg [] 0 X.s₀ X.H₀ []).o (ht [] 0 X.s₀ X.H₀ []).o (he [] 0 X.s₀ X.H₀ []).o⟩
variable {s1:Stmt}{ss body other:List Stmt}{u v:TS}{g h:FS}{pos':Pos}
theorem Xv:JSs X C E mr Γl Δl Γ Δ Γ Δ [] Zzy Dl.sNx:=⟨Xhp,Xrt⟩
theorem Zg (Γ1 Δ1:List Nat)(h1:JS X C E mr Γl Δl Γ Δ Γ1 Δ1 s1 u g)(h2:JSs X C E mr Γl Δl Γ1 Δ1 Γ' Δ' ss v h):JSs X C E mr Γl Δl Γ Δ Γ' Δ' (s1::ss) (tSeq u v) (Dl.Xw g h):=⟨Xem h1.q h2.q,Xhf h1.o h2.o⟩
theorem Zl (h1:JS X C E mr Γl Δl Γ Δ Γ' Δ' s1 u g):JSs X C E mr Γl Δl Γ Δ Γ' Δ' [s1] u g:=⟨Xkv h1.q,h1.o⟩
theorem Zbp (Γ1 Δ1:List Nat)(h:JSs X C E mr Γl Δl Γ Δ Γ1 Δ1 ss u g)(h1:∀i∈Γ',i∈Γ1:=by decide)(h2:∀i∈Δ',i∈Δ1:=by decide):JSs X C E mr Γl Δl Γ Δ Γ' Δ' ss u g:=⟨h.q,Xao h.o h1 h2⟩
theorem Zrm:JS X C E mr Γl Δl Γ Δ Γ' Δ' s1 Zrq Dl.Zmq:=⟨Xcr,Zum⟩
theorem Xg (he:JE X C E Γ Δ 2 S e te fe)(h0:∀p∈S,p.1∈Δ:=by decide):JS X C E 2 Γl Δl Γ Δ Γ' Δ' (.Return (some e) pos) (tRet te) (Dl.Zac fe):=⟨Xox he.q,Xfb he.o h0⟩
theorem Jo {tA:TT}{fA:FT}(hc:JT X C E Γ Δ c tA fA)(ha:JSs X C E mr Γl Δl Γ Δ Γ' Δ' body u g)(hb:JSs X C E mr Γl Δl Γ Δ Γ' Δ' other v h):JS X C E mr Γl Δl Γ Δ Γ' Δ' (.If c body other pos) (tIfS tA u v) (Dl.sIf fA g h):=⟨qs_if hc.q ha.q hb.q,Xns hc.o ha.o hb.o⟩
theorem Zt {i:Nat}{x:Str}(hN:X.N.Nodup)(hi:X.N[i]?=some x)(hx:Loc X.env.scope x)(he:JE X C E Γ Δ 2 [] e te fe)(hs:swapsWith e (some (.Name x pos')) pos.line X.env=pure false:=by rfl)(hf:autoParam (X.fn x=true∨X.env.scope.names.lookup x=some .local) aT0._auto_1)
  (h1:∀j∈Γ',j=i∨j∈Γ:=by decide) (h2:∀j∈Δ',j=i∨j∈Δ:=by decide):JS X C E mr Γl Δl Γ Δ Γ' Δ' (.Assign [.Name x pos'] e pos) (Zuq te (Zbx i)) (Dl.Yr i fe):=⟨Xqj hN hi hx he.q hs hf,Zsm he.o h1 h2⟩
theorem Zwa {elt:Expr}{y:Str}{py spos:Pos}{ifs:List Expr}{sc:Scope}{wi:TI}{tc:TT}{gg:TG}{fi:FI}{fc:FT}{fg:FB}{i:Nat}(esc:Scope)(N N2 xs:List Str)(B:Xgp sc esc xs N N2)(hy:N[i]?=some y)(hl:esc.names.lookup y=some .local)(hi:JI X C E Γ Δ S tg iter wi fi)(hg:∀cl C' s0 H0 fp,JB (X.blkN N2 xs sc cl C' s0 H0 fp) C n xs.length tg gg fg)(ht:∀cl C' s0 H0 fp,JIf (X.blkN N2 xs sc cl C' s0 H0 fp) C E0 [] [] ifs tc fc)(he:∀cl C' s0 H0 fp,JE (X.blkN N2 xs sc cl C' s0 H0 fp) C E0 [] [] 2 [] elt te fe)
  (hesc:X.env.scope=esc:=by rfl) (hN:X.N=N:=by rfl) (hc:X.calm=true:=by rfl) (hsw:swapsWith (.ListComp elt [⟨tg,iter,ifs,0⟩] sc pos) (some (.Name y py)) spos.line X.env=pure true:=by rfl) (hs:∀v,foldedSetIterable iter X.env v=pure v:=by intro _;rfl)
  (h1:∀j∈Γ',j=i∨j∈Γ:=by decide) (h2:∀j∈Δ',j=i∨j∈Δ:=by decide):JS X C E mr Γl Δl Γ Δ Γ' Δ' (.Assign [.Name y py] (.ListComp elt [⟨tg,iter,ifs,0⟩] sc pos) spos) (Zuq (Zii xs.length gg wi tc te) (Zbx i)) (Dl.Yr i (Dl.Zcl n xs.length fi fg fc fe)):=
 ⟨Xaw esc N N2 xs B hy hl hi.q (fun cl C' s0 H0 fp=>(hg cl C' s0 H0 fp).q) (fun cl C' s0 H0 fp=>(ht cl C' s0 H0 fp).q) (fun cl C' s0 H0 fp=>(he cl C' s0 H0 fp).q) hesc hN hc hsw hs,Zsm (Zry hi.o (hg [] 0 X.s₀ X.H₀ []).o (ht [] 0 X.s₀ X.H₀ []).o (he [] 0 X.s₀ X.H₀ []).o) h1 h2⟩
theorem Zbn {i:Nat}{x:Str}(hi:i∈Γ:=by decide)(hN:X.N[i]?=some x:=by rfl)(hv:autoParam (Vis X.env.scope x) aT3._auto_1)(hd:(x==("__debug__":Str))=false:=by decide)(hcd:(x==("__classdict__":Str))=false:=by decide)
  (he:JE X C E Γ Δ 2 [] e te fe) (hse:starEach [e] X.env=(false,eval e X.env)::starEach [] X.env)
  (hbase:attributeBase (.Name x p) "append" X.env (eval (.Name x p) X.env)=eval (.Name x p) X.env:=by rfl)
  (hfew:((backTo cpos (starEach [e] X.env)).all (fun x=>!x.1)&&(backToKw cpos (keywordEach [] X.env)).all (fun x=>x.1.isSome)&&decide (([e]:List Expr).length+([]:List Keyword).length+(if ([]:List Keyword).isEmpty then 0 else 1)<30))=true:=by rfl)
  (hline:(apos.endLine==cpos.line)=true:=by rfl) (hplain:(backTo cpos (starEach ([]:List Expr) X.env)).any (·.1)=false:=by rfl) (hsw:swapsWith (.Call (.Attribute (.Name x p) "append" apos) [e] [] cpos) none pos.line X.env=pure false:=by rfl) :
  JS X C E mr Γl Δl Γ Δ Γ Δ (.Expr (.Call (.Attribute (.Name x p) "append" apos) [e] [] cpos) pos) (Zom (tBM X.K "list" Ziy (Zue i) (Zgb te Zuh))) (Dl.Zjp i fe):=
 ⟨Zxu (Xmv PySem.F.plainAttrs_list PySem.F.slot_list_append PySem.F.type_list_append Zlq (qv i hN hv hd hcd) (Zko he.q Zzg hse) hbase hfew hline hse hplain) hsw,Xaq hi he.o⟩
theorem Zam {wi:TI}{tt:TG}{fi:FI}{fb:FB}(Γl Δl:List Nat)(hp:PassesOwn (model X.prog X.w) X.A X.env X.xe)(hc:X.calm=true)(hi:JI X C E Γ Δ S tg iter wi fi)(hg:JG X C Γl Δl tg tt fb)(hb:JSs X C E mr Γl Δl Γl Δl Γl Δl body u g)(hs:∀x,foldedSetIterable iter X.env x=pure x:=by intro _;rfl)
  (h1:∀i∈Γl,i∈Γ:=by decide) (h2:∀i∈Δl,i∈Δ:=by decide) (h3:∀p∈S,p.1∉Γl∧p.1∉Δl:=by decide):JS X C E mr Γk Δk Γ Δ Γl Δl (.For tg iter body [] pos) (tFor wi tt u) (Dl.Zjo fi fb g):=⟨Xnq hp hc hi.q hg.q hb.q hs,Xmb hi.o hg.o hb.o h1 h2 h3⟩
theorem Zrk {tA:TT}{fA:FT}(k:Nat)(hp:PassesOwn (model X.prog X.w) X.A X.env X.xe)(hc:JT X C E Γ Δ c tA fA)(hb:JSs X C E mr Γ Δ Γ Δ Γ Δ body u g):JS X C E mr Γk Δk Γ Δ Γ Δ (.While c body [] pos) (Zqh tA u) (Dl.Znm k fA g):=⟨Xak hp hc.q hb.q,Zvq hc.o hb.o⟩
end
theorem Fun.okC {P:Program}{w:World}{K:Frag}{C:String→Addr}{mg:Str→Option Value}{base:Heap}{x qual:Str}{st:Stmt}{f:Addr}{fd:FuncData}{N ps:List Str}{k n mr:Nat}{Γ' Δ':List Nat}{g:FS}(F:Fun K x qual st f fd)(S:Xc N ps (Zm st))(hn:ps.length=n)
    (hbody:∀(cdv:Value) (A:Around) (outer:List Env) (s:Shared) (H:Hp) (E:XK),Zje k (A.deeper (envOfC qual (Zm st) s.heap.objs.size f cdv))→
      ∃t,JSs (Xfu CX0 P w K mg base N qual (Zm st) f cdv A outer s H E).nox C E0 mr [] [] [] [] Γ' Δ' (Zbc st) t g):Zan P w K mg base CX0 (k+1) f fd ps (spD K C n mr fun ds=>(Dl.run N.length g ds).calm):=
  F.okQ S (fun vs H Q E h=>by
    obtain ⟨ds,B,h1,h2,_⟩:=h
    rw [h2.len,h1,hn]) fun cdv A outer s H vs Q E hr h=>by
    obtain ⟨ds,B,h1,h2,h3⟩:=h
    obtain ⟨t,ht⟩:=hbody cdv A outer s H E hr
    exact ⟨t,ht.q,Xcw (K:=K) ht.o h2 (Yj.imp (Zfv h3) (fun _ q=>q) fun _ _ z=>z.elim)⟩
section
variable {K:Frag}{C:String→Addr}{E:XK}{Γ Δ Γ' Δ' Γ1 Δ1 Γl Δl Γk Δk:List Nat}{m m1 m2 m3 mr:Nat}{S S1 S2 S3:List (Nat×Bool)}{H:Hp}{Q:VK}
theorem Xlq {i:Nat}{f:Int→Int→Int}{g:D→D→Option D}(hg:∀x y d,g x y=some d→∃i j,x=.int i∧y=.int j∧d=.int (f i j)){te:TE}{fe:FE}(he:EOk K C E Γ Δ m S te fe)(h1:∀j∈Γ',j=i∨j∈Γ:=by decide)(h2:∀j∈Δ',j=i∨j∈Δ:=by decide) :
  SOk K C E mr Γl Δl Γ Δ Γ' Δ' (tAug i te (ipI f)) (Dl.Xgd i g fe):=fun H0 Hb H σ ρ A D I p=>by
 unfold Dl.Xgd at p
 split at p
 ·rename_i x e
  obtain ⟨v,e1,r⟩:=I.rep i x e
  refine ⟨v,e1,he H0 Hb H σ ρ A _ I (Yj.imp (Yj.bind p) (fun y q w H1 g1 r1=>?_) fun c x q H' g'=>q H' (Yd.from0 I g'))⟩
  obtain ⟨z,ez,q⟩:=Zhx (Yj.bind q)
  obtain ⟨B,r1,_⟩:=r1
  obtain ⟨k,l,rfl,rfl,rfl⟩:=hg x y z ez
  obtain ⟨rfl,_⟩:=r
  obtain ⟨rfl,_⟩:=r1
  obtain ⟨A',I',_⟩:=(I.mono g1).put (Γ':=Γ') (Δ':=Δ') (i:=i) (d:=.int (f k l)) (v:=.int (f k l)) (B:=[]) rpI (fun j hj e=>⟨(h1 j hj).elim (fun z=>absurd z e) id,fun _ _ _ z=>nomatch z⟩)
   (fun _=>⟨(fun _ z=>nomatch z),(fun _ _ z=>nomatch z)⟩) (fun j hj e=>⟨(h2 j hj).elim (fun z=>absurd z e) id,fun _ _ z=>nomatch z⟩) (fun _=>⟨nodup_nil,(fun _ _ _ z=>nomatch z),(fun _ z=>nomatch z)⟩)
  exact ⟨k,l,rfl,rfl,q _ H1 A' I'⟩
 ·exact p.elim
theorem Zyt:∀x y d,Dl.Zgt x y=some d→∃i j,x=.int i∧y=.int j∧d=.int (i - j):=fun x y d e=>by unfold Dl.Zgt at e;split at e<;>cases e;exact ⟨_,_,rfl,rfl,rfl⟩
theorem Xf.rewrite {H0 Hb H H1:Hp}{σ:St}{ρ:Yk}{A:Nat→List Addr}{i:Nat}{a:Addr}{l B':List Addr}{es:List D}{ys:List V}(I:Xf K C H0 Hb H Γ Δ σ ρ A)(g1:Yd H H1)(hi:i∈Γ)(hA:A i=a::l)(hl:i<ρ.length)(s1:σ[i]?=some (some (.ref a)))(r:RpA K C H1 es ys B')
    (hB:∀b∈B',b∈l∨H b=none) (hD:i∈Δ→B'.Nodup):∃A',Xf K C H0 Hb (upd H1 a (.lst ys)) Γ Δ σ (ρ.set i (some (.lst es))) A':=by
  obtain ⟨tb,ta,tt⟩:=I.top i hi a l hA
  have ha:a∈A i:=by rw [hA];exact .head _
  have w1:∀b∈B',H0 b=none:=fun b hb=>(hB b hb).elim (fun z=>I.loc i hi b (by rw [hA];exact .tail _ z)) fun z=>I.s0.free (I.same.free z)
  have w0:a∉B':=fun z=>(hB a z).elim ta fun z=>I.ne ha z
  have w2:∀j∈Γ,j≠i→j∈Γ∧∀b l',A j=b::l'→b∉B':=fun j hj e=>⟨hj,fun b l' e' z=>(hB b z).elim
    (fun z=>(I.top j hj b l' e').2.2 i (fun w=>e w.symm) (by rw [hA];exact .tail _ z)) fun z=>I.ne (j:=j) (by rw [e'];exact .head _) z⟩
  have w3:∀j∈Δ,j≠i→j∈Δ∧∀b∈A j,b∉B':=fun j hj e=>⟨hj,fun b hb z=>(hB b z).elim
    (fun z=>(I.deep j hj).2.1 i (fun w=>e w.symm) b hb (by rw [hA];exact .tail _ z)) fun z=>I.ne hb z⟩
  have w4:i∈Δ→B'.Nodup∧(∀j,j≠i→∀b∈B',b∉A j)∧∀b∈B',Hb b=none:=fun hd=>by
    obtain ⟨d1,d2,d3⟩:=I.deep i hd
    rw [hA] at d2 d3
    exact ⟨hD hd,fun j hj b hb=>(hB b hb).elim (fun z=>d2 j hj b (.tail _ z)) fun z w=>I.ne w z,fun b hb=>(hB b hb).elim (fun z=>d3 b (.tail _ z)) fun z=>I.same.free z⟩
  exact (I.mono g1).write (Γ':=Γ) (Δ':=Δ) hi hA hl s1 r w1 w0 w2 w3 w4
theorem Xli {i:Nat}{te:TE}{fe:FE}(hi:i∈Γ:=by decide)(he:EOk K C E Γ Δ 2 [] te fe):SOk K C E mr Γl Δl Γ Δ Γ Δ (Zom (tBM K "list" Zhq (Zue i) (Zgb te Zuh))) (Dl.Xho i fe):=fun H0 Hb H σ ρ A D I p=>by
 unfold Dl.Xho at p
 split at p
 ·rename_i ds e
  obtain ⟨a,xs,l,s1,h1,r1,hA,hl⟩:=Zrv I e
  refine ⟨.ref a,s1,.inl ⟨rfl,xs,SqL.of h1⟩,he H0 Hb H σ ρ A _ I (Yj.imp (Yj.bind p) (fun d q v H1 g1 r=>?_) fun c x q H' g'=>q H' (Yd.from0 I g'))⟩
  obtain ⟨B,r2,r3,_,r4⟩:=r
  have hn:∀a∈B,H a=none:=fun a ha=>(r3 a ha).elim id fun z=>z.none.elim
  cases d with
  | lst es =>
   simp only at q
   split at q
   ·rename_i hz
    obtain ⟨b,zs,B2,rfl,e2,e3,e4⟩:=r2
    subst e4
    have nd:=r4 rfl
    show Zhq (.ref a) [.ref b] H1 fun _ H3=>D.nx σ H3
    refine ⟨a,b,xs,zs,rfl,rfl,g1 _ _ h1,e2,by rw [r1.len,e3.len];exact Zcu hz,?_⟩
    obtain ⟨A',I'⟩:=I.rewrite g1 hi hA hl s1 ((r1.same g1).app e3) (fun b hb=>(List.mem_append.mp hb).imp id fun z=>hn b (.tail _ z)) fun hd=>by
     obtain ⟨d1,_⟩:=I.deep i hd
     rw [hA] at d1
     refine List.nodup_append.mpr ⟨(List.nodup_cons.mp d1).2,(List.nodup_cons.mp nd).2,fun x hx y hy e=>?_⟩
     subst e
     exact I.ne (j:=i) (by rw [hA];exact .tail _ hx) (hn x (.tail _ hy))
    exact q _ _ A' I'
   ·exact q.elim
  | _=>exact q.elim
 ·exact p.elim
def BsN (K:Frag)(C:String→Addr)(Γ Δ Γ' Δ':List Nat)(g:TGs)(b:List D→Yk→R Yk):Prop:=∀(H0 Hb H:Hp) (σ:St) (ρ:Yk) (A:Nat→List Addr) (d:List D) (v:List V) (B:List Addr) (Rr:St→Hp→Prop),Xf K C H0 Hb H Γ Δ σ ρ A→RpA K C H d v B→B.Nodup→(∀a∈B,Hb a=none∧∀j,a∉A j)→
 Yj (b d ρ) (fun ρ'=>∀σ' A',Xf K C H0 Hb H Γ' Δ' σ' ρ' A'→Rr σ' H) (fun _ _=>False)→g v σ H Rr
theorem Xht (h1:∀i∈Γ',i∈Γ)(h2:∀i∈Δ',i∈Δ):BsN K C Γ Δ Γ' Δ' Zzu Dl.Zlo:=fun H0 Hb H σ ρ A d v B Rr I r _ _ p=>by
 cases d with
 | nil=>exact ⟨r.1,p _ A (I.weak h1 h2)⟩
 | cons _ _=>exact p.elim
theorem Xdl {i:Nat}{gs:TGs}{bs:List D→Yk→R Yk}(h2:BsN K C (i::Γ) (i::Δ) Γ' Δ' gs bs):BsN K C Γ Δ Γ' Δ' (Zgy (Zbx i) gs) (Dl.Jt (Dl.Xb i) bs):=fun H0 Hb H σ ρ A d v B Rr I r nd hB p=>by
  cases d with
  | nil=>exact p.elim
  | cons d ds =>
    obtain ⟨x,l,B1,B2,e1,e2,e3,e4⟩:=r
    subst e1 e4
    obtain ⟨n1,n2,n3⟩:=List.nodup_append.mp nd
    have hB1:∀a∈B1,Hb a=none∧∀j,a∉A j:=fun a ha=>hB a (mem_append_left _ ha)
    obtain ⟨A',I',hA'⟩:=I.put (Γ':=i::Γ) (Δ':=i::Δ) (i:=i) e2
      (fun j hj e=>⟨(List.mem_cons.mp hj).elim (fun z=>absurd z e) id,fun a l' e' ha=>(hB1 a ha).2 j (by rw [e'];exact .head _)⟩)
      (fun _=>⟨fun a ha=>I.s0.free (hB1 a ha).1,fun a l' e=>by
        subst e
        exact ⟨(hB1 a (.head _)).1,(List.nodup_cons.mp n1).1,fun j _=>(hB1 a (.head _)).2 j⟩⟩)
      (fun j hj e=>⟨(List.mem_cons.mp hj).elim (fun z=>absurd z e) id,fun a ha hb=>(hB1 a hb).2 j ha⟩)
      (fun _=>⟨n1,fun j _ a ha=>(hB1 a ha).2 j,fun a ha=>(hB1 a ha).1⟩)
    exact ⟨x,l,rfl,h2 H0 Hb H _ _ A' ds l B2 Rr I' e3 n2 (fun a ha=>⟨(hB a (mem_append_right _ ha)).1,fun j h=>(hA' j a h).elim (fun z=>n3 a z a ha rfl) fun z=>(hB a (mem_append_right _ ha)).2 j z⟩) p⟩
theorem Zua {te:TE}{gs:TGs}{fe:FE}{bs:List D→Yk→R Yk}{n:Nat}(hn:∀ds ρ ρ',bs ds ρ=.ok ρ'→ds.length=n)(he:EOk K C E Γ Δ 2 [] te fe)(hb:BsN K C Γ Δ Γ' Δ' gs bs):SOk K C E mr Γl Δl Γ Δ Γ' Δ' (Zuq te (Zca K n gs)) (Dl.Xay fe (Dl.Zls bs)):=fun H0 Hb H σ ρ A D I p=>by
 refine he H0 Hb H σ ρ A _ I (Yj.imp (Yj.bind p) (fun d q v H1 g1 r=>?_) fun c x q H' g'=>q H' (Yd.from0 I g'))
 obtain ⟨B,r1,r2,_,r4⟩:=r
 have hn':∀a∈B,H a=none:=fun a ha=>(r2 a ha).elim id fun z=>z.none.elim
 have q':=Zfv (Yj.bind q)
 cases d with
 | tup ds =>
  obtain ⟨a,xs,rfl,e2,e3⟩:=r1
  have q'':Yj (bs ds ρ) (fun ρ'=>∀σ' H' A',Xf K C H0 Hb H' Γ' Δ' σ' ρ' A'→D.nx σ' H') (fun _ _=>False):=q'
  have hl:xs.length=n:=by
   rw [e3.len]
   cases e:bs ds ρ with
   | ok ρ'=>exact hn ds ρ ρ' e
   | err _ _=>rw [e] at q'';exact q''.elim
   | bad=>rw [e] at q'';exact q''.elim
  exact ⟨a,xs,rfl,SqT.of e2,hl,hb H0 Hb H1 σ ρ A ds xs B D.nx (I.mono g1) e3 (r4 rfl) (fun a ha=>⟨I.same.free (hn' a ha),fun j z=>I.ne z (hn' a ha)⟩) (Yj.imp q'' (fun ρ' q σ' A' I'=>q σ' H1 A' I') fun _ _ z=>z)⟩
 | _=>exact q'.elim
end
section
variable {X:Cx}{C:String→Addr}{E:XK}{Γ Δ Γ' Δ' Γ1 Δ1 Γl Δl Γk Δk:List Nat}{m m1 m2 m3 mr:Nat}{S S1 S2 S3:List (Nat×Bool)}{a b c e st o tg iter:Expr}{es rest:List Expr}{ta tb tc te ts:TE}{fa fb fc fe fs:FE}{t:TA}{f:FA}{pos p p2 apos cpos pos':Pos}{n:Nat}
theorem Xgw {i:Nat}{x:Str}{op:Operator}{ff:Int→Int→Int}{g:D→D→Option D}(hg:∀x y d,g x y=some d→∃i j,x=.int i∧y=.int j∧d=.int (ff i j))(ho:PIp X op (ipI ff))(hN:X.N.Nodup)(hi:X.N[i]?=some x)(hx:Loc X.env.scope x)(he:JE X C E Γ Δ m S e te fe)
  (hf:autoParam (X.fn x=true∨X.env.scope.names.lookup x=some .local) aT0._auto_1) (h1:∀j∈Γ',j=i∨j∈Γ:=by decide) (h2:∀j∈Δ',j=i∨j∈Δ:=by decide):JS X C E mr Γl Δl Γ Δ Γ' Δ' (.AugAssign (.Name x pos') op e pos) (tAug i te (ipI ff)) (Dl.Xgd i g fe):=⟨Xpx hN hi hx he.q ho hf,Xlq hg he.o h1 h2⟩
theorem Xoc {i:Nat}{x:Str}(hi:i∈Γ:=by decide)(hN:X.N[i]?=some x:=by rfl)(hv:autoParam (Vis X.env.scope x) aT3._auto_1)(hd:(x==("__debug__":Str))=false:=by decide)(hcd:(x==("__classdict__":Str))=false:=by decide)
  (he:JE X C E Γ Δ 2 [] e te fe) (hse:starEach [e] X.env=(false,eval e X.env)::starEach [] X.env)
  (hbase:attributeBase (.Name x p) "extend" X.env (eval (.Name x p) X.env)=eval (.Name x p) X.env:=by rfl)
  (hfew:((backTo cpos (starEach [e] X.env)).all (fun x=>!x.1)&&(backToKw cpos (keywordEach [] X.env)).all (fun x=>x.1.isSome)&&decide (([e]:List Expr).length+([]:List Keyword).length+(if ([]:List Keyword).isEmpty then 0 else 1)<30))=true:=by rfl)
  (hline:(apos.endLine==cpos.line)=true:=by rfl) (hplain:(backTo cpos (starEach ([]:List Expr) X.env)).any (·.1)=false:=by rfl) (hsw:swapsWith (.Call (.Attribute (.Name x p) "extend" apos) [e] [] cpos) none pos.line X.env=pure false:=by rfl) :
  JS X C E mr Γl Δl Γ Δ Γ Δ (.Expr (.Call (.Attribute (.Name x p) "extend" apos) [e] [] cpos) pos) (Zom (tBM X.K "list" Zhq (Zue i) (Zgb te Zuh))) (Dl.Xho i fe):=
 ⟨Zxu (Xmv PySem.F.plainAttrs_list PySem.F.slot_list_extend PySem.F.type_list_extend Zut (qv i hN hv hd hcd) (Zko he.q Zzg hse) hbase hfew hline hse hplain) hsw,Xli hi he.o⟩
structure JN (X:Cx)(C:String→Addr)(Γ Δ Γ' Δ':List Nat)(es:List Expr)(n:Nat)(t:TGs)(f:List D→Yk→R Yk):Prop where
 q:QGs X es t
 o:BsN X.K C Γ Δ Γ' Δ' t f
 n:∀ds ρ ρ',f ds ρ=.ok ρ'→ds.length=n
theorem Xgg (h1:∀i∈Γ',i∈Γ:=by decide)(h2:∀i∈Δ',i∈Δ:=by decide):JN X C Γ Δ Γ' Δ' [] 0 Zzu Dl.Zlo:=⟨Zot,Xht h1 h2,Zwq⟩
theorem Zlc {i:Nat}{x:Str}{u:TGs}{fu:List D→Yk→R Yk}(hN:X.N.Nodup)(hi:X.N[i]?=some x)(hx:Loc X.env.scope x)(h2:JN X C (i::Γ) (i::Δ) Γ' Δ' es n u fu)(hf:autoParam (X.fn x=true∨X.env.scope.names.lookup x=some .local) aT0._auto_1)
  (hs:(assignEach (.Name x p::es) X.env).map (·.2)=assign (.Name x p) X.env::(assignEach es X.env).map (·.2):=by rfl):JN X C Γ Δ Γ' Δ' (.Name x p::es) (n+1) (Zgy (Zbx i) u) (Dl.Jt (Dl.Xb i) fu):=⟨Zks (Zoy hN hi hx hf) h2.q hs,Xdl h2.o,Zov h2.n⟩
theorem Zya {k:Nat}{u:TGs}{fu:List D→Yk→R Yk}(hc:X.calm=true)(he:JE X C E Γ Δ 2 [] e te fe)(hb:JN X C Γ Δ Γ' Δ' es n u fu)(hn:(assignEach es X.env).length=n:=by rfl)(hst:(assignEach es X.env).findIdx? (·.1)=none:=by rfl)
  (hs:swapsWithSole [.Tuple es k p] e pos.line X.env=pure false:=by rfl) (hw:swappedStores [.Tuple es k p] e X.env=pure none:=by rfl) (h1:(assignEach [.Tuple es k p] X.env).map (·.2)=[assign (.Tuple es k p) X.env]:=by rfl) :
  JS X C E mr Γl Δl Γ Δ Γ' Δ' (.Assign [.Tuple es k p] e pos) (Zuq te (Zca X.K n u)) (Dl.Xay fe (Dl.Zls fu)):=⟨Xoi he.q (Zye hc hb.q hn hst) hs hw h1,Zua hb.n he.o hb.o⟩
end
section
variable {K:Frag}{C:String→Addr}{E:XK}{Γ Δ Γ' Δ' Γ1 Δ1 Γl Δl Γk Δk:List Nat}{m m1 m2 m3 mr:Nat}{S S1 S2 S3:List (Nat×Bool)}{H:Hp}{Q:VK}
end
section
variable {X:Cx}{C:String→Addr}{E:XK}{Γ Δ Γ' Δ' Γ1 Δ1 Γl Δl Γk Δk:List Nat}{m m1 m2 m3 mr:Nat}{S S1 S2 S3:List (Nat×Bool)}{a b c e st o tg iter:Expr}{es rest:List Expr}{ta tb tc te ts:TE}{fa fb fc fe fs:FE}{t:TA}{f:FA}{pos p p2 apos cpos pos':Pos}{n:Nat}
end
section
variable {K:Frag}{C:String→Addr}{E:XK}{Γ Δ Γ' Δ' Γ1 Δ1 Γl Δl Γk Δk:List Nat}{m m1 m2 m3 mr:Nat}{S S1 S2 S3:List (Nat×Bool)}{H:Hp}{Q:VK}
def JOk (K:Frag)(C:String→Addr)(E:XK)(Γ Δ:List Nat)(t:TJ)(f:FA):Prop:=∀(H0 Hb H:Hp) (σ:St) (ρ:Yk) (A:Nat→List Addr) (Q:Hp→Prop),Xf K C H0 Hb H Γ Δ σ ρ A→
 Yj (f ρ) (fun _=>∀H',Yd H H'→Q H') (fun c x=>∀H',Yd H H'→EC C E c x H')→t σ H Q
end
section
variable {X:Cx}{C:String→Addr}{E:XK}{Γ Δ Γ' Δ' Γ1 Δ1 Γl Δl Γk Δk:List Nat}{m n mr:Nat}{S:List (Nat×Bool)}{e:Expr}{es:List Expr}{t:TA}{f:FA}{np cpos pos hpos:Pos}
end
section
variable {K:Frag}{C:String→Addr}{E:XK}{Γ Δ Γ' Δ' Γ1 Δ1 Γl Δl Γk Δk:List Nat}{m m1 m2 m3 mr:Nat}{S S1 S2 S3:List (Nat×Bool)}{H:Hp}{Q:VK}
end
section
variable {X:Cx}{C:String→Addr}{E:XK}{Γ Δ Γ' Δ' Γ1 Δ1 Γl Δl Γk Δk:List Nat}{m m1 m2 m3 mr:Nat}{S S1 S2 S3:List (Nat×Bool)}{a b c e st o tg iter:Expr}{es rest:List Expr}{ta tb tc te ts:TE}{fa fb fc fe fs:FE}{t:TA}{f:FA}{pos p p2 apos cpos pos':Pos}{n:Nat}{body:List Stmt}{u:TS}{g:FS}
end
structure ClsIn (K:Frag)(C:Addr):Prop where
 ty:typeIn K (.ref C)=some (.type "type")
 cl:∃c,clsIn K C=some c
 se:subIn K (.ref C) (.ref C)=some true
section
variable {K:Frag}{C:String→Addr}{E:XK}{Γ Δ Γ' Δ' Γ1 Δ1 Γl Δl Γk Δk:List Nat}{m m1 m2 m3 mr:Nat}{S S1 S2 S3:List (Nat×Bool)}{H:Hp}{Q:VK}
end
structure JJ (X:Cx)(C:String→Addr)(E:XK)(Γ Δ:List Nat)(es:List Expr)(t:TJ)(f:FA):Prop where
 q:QJ X es t
 o:JOk X.K C E Γ Δ t f
section
variable {X:Cx}{C:String→Addr}{E:XK}{Γ Δ Γ' Δ' Γ1 Δ1 Γl Δl Γk Δk:List Nat}{m m1 m2 m3 mr:Nat}{S S1 S2 S3:List (Nat×Bool)}{a b c e st o tg iter:Expr}{es rest:List Expr}{ta tb tc te ts:TE}{fa fb fc fe fs:FE}{t:TA}{f:FA}{pos p p2 apos cpos pos' np jp:Pos}{n:Nat}{body:List Stmt}{s:Stmt}{u:TS}{g:FS}{tj:TJ}
end
section
variable {K:Frag}{C:String→Addr}{E:XK}{Γ Δ Γ' Δ' Γ1 Δ1 Γl Δl Γk Δk:List Nat}{m m1 m2 m3 mr:Nat}{S S1 S2 S3:List (Nat×Bool)}{H:Hp}{Q:VK}
end
section
variable {X:Cx}{C:String→Addr}{E:XK}{Γ Δ Γ' Δ' Γ1 Δ1 Γl Δl Γk Δk:List Nat}{m m1 m2 m3 mr:Nat}{S S1 S2 S3:List (Nat×Bool)}{a b c e st o tg iter:Expr}{es rest:List Expr}{ta tb tc te ts:TE}{fa fb fc fe fs:FE}{t:TA}{f:FA}{pos p p2 apos cpos pos' np jp:Pos}{n:Nat}{tj:TJ}
end
section
variable {K:Frag}{C:String→Addr}{E:XK}{Γ Δ Γ' Δ' Γ1 Δ1 Γl Δl Γk Δk:List Nat}{m m1 m2 m3 mr:Nat}{S S1 S2 S3:List (Nat×Bool)}{H:Hp}{Q:VK}
end
section
variable {X:Cx}{C:String→Addr}{E:XK}{Γ Δ:List Nat}{m:Nat}{S:List (Nat×Bool)}{e:Expr}{es:List Expr}{te:TE}{fe:FE}{f:FA}{pos:Pos}{tj:TJ}
end
section
variable {K:Frag}{C:String→Addr}{E:XK}{Γ Δ Γ' Δ' Γ1 Δ1 Γl Δl Γk Δk:List Nat}{m m1 m2 m3 mr:Nat}{S S1 S2 S3:List (Nat×Bool)}{H:Hp}{Q:VK}
end
section
variable {X:Cx}{C:String→Addr}{E:XK}{Γ Δ Γ' Δ' Γ1 Δ1 Γl Δl Γk Δk:List Nat}{mr:Nat}{np pos hpos:Pos}
end
section
variable {K:Frag}{C:String→Addr}{E:XK}{Γ Δ Γ' Δ' Γ1 Δ1 Γl Δl Γk Δk:List Nat}{m m1 m2 m3 mr:Nat}{S S1 S2 S3:List (Nat×Bool)}{H:Hp}{Q:VK}
end
section
variable {X:Cx}{C:String→Addr}{E:XK}{Γ Δ Γ' Δ' Γ1 Δ1 Γl Δl Γk Δk:List Nat}{m m1 m2 m3 mr:Nat}{S S1 S2 S3:List (Nat×Bool)}{a b c e st o tg iter:Expr}{es rest:List Expr}{ta tb tc te ts:TE}{fa fb fc fe fs:FE}{pos p p2 apos cpos pos':Pos}
variable {pins:List (Addr×Obj)}{σ:St}{H:Hp}{s:Shared}{h':Heap}
end
section
variable {X:Cx}{a b e:Expr}{ta tb te:TE}{elts:List Expr}{x1:Nat}{tpos p pos:Pos}{tg:Expr}
variable {K:Frag}{C:String→Addr}{E:XK}{Γ Δ Γ' Δ':List Nat}{m m1 m2:Nat}{S S1 S2:List (Nat×Bool)}{H:Hp}
end
section
variable {X:Cx}{C:String→Addr}{E:XK}{Γ Δ Γ' Δ':List Nat}{m m1 m2:Nat}{S S1 S2:List (Nat×Bool)}{a b e:Expr}{ta tb te:TE}{fa fb fe:FE}{elts:List Expr}{x1:Nat}{tpos p pos:Pos}{tg:Expr}
end
section
variable {K:Frag}{C:String→Addr}{E:XK}{Γ Δ Γ' Δ' Γ1 Δ1 Γl Δl Γk Δk:List Nat}{m m1 m2 m3 mr:Nat}{S S1 S2 S3:List (Nat×Bool)}{H:Hp}{Q:VK}
theorem Xdc {ns ns':List Int}(h:ns'.Perm ns)(o:ns'.Pairwise (·≤·)):ns'=Dl.sortI ns:=by
 refine PySem.W.ksm_same (h.trans (List.mergeSort_perm ns _).symm) o ?_
 have:=List.pairwise_mergeSort (le:=fun a b:Int=>decide (a≤b)) (fun a b c h1 h2=>by simp at *;omega) (fun a b=>by simp;omega) ns
 exact this.imp fun h=>by simpa using h
variable {X:Cx}{kx e:Expr}{tk te:TE}{p p2 pos:Pos}{x:Str}{i:Nat}
end
section
variable {X:Cx}{C:String→Addr}{E:XK}{Γ Δ Γ' Δ' Γ1 Δ1 Γl Δl Γk Δk:List Nat}{m m1 m2 m3 mr:Nat}{S S1 S2 S3:List (Nat×Bool)}{a b c e st o tg iter:Expr}{es rest:List Expr}{ta tb tc te ts tk:TE}{fa fb fc fe fs fk:FE}{t:TA}{f:FA}{pos p p2 apos cpos pos' bpos:Pos}{n:Nat}
end
section
variable {X:Cx}{e:Expr}{te:TE}{p pos cp kp:Pos}{k:Nat}
variable {K:Frag}{C:String→Addr}{E:XK}{Γ Δ Γ' Δ' Γ1 Δ1 Γl Δl Γk Δk:List Nat}{m m1 m2 m3 mr:Nat}{S S1 S2 S3:List (Nat×Bool)}{H:Hp}{Q:VK}
end
section
variable {X:Cx}{C:String→Addr}{E:XK}{Γ Δ Γ' Δ' Γ1 Δ1 Γl Δl Γk Δk:List Nat}{m m1 m2 m3 mr:Nat}{S S1 S2 S3:List (Nat×Bool)}{a b c e st o tg iter:Expr}{es rest:List Expr}{ta tb tc te ts:TE}{fa fb fc fe fs:FE}{pos p p2 apos cpos pos' cp kp:Pos}{k:Nat}
variable {pins:List (Addr×Obj)}{σ:St}{H:Hp}{s:Shared}
end
section
variable {X:Cx}{C:String→Addr}{E:XK}{Γ Δ Γ' Δ' Γk Δk:List Nat}{m mr:Nat}{S:List (Nat×Bool)}{c tg iter:Expr}{body:List Stmt}{u:TS}{g:FS}{pos:Pos}
end
section
variable {K:Frag}{C:String→Addr}{E:XK}{Γ Δ Γ' Δ' Γ1 Δ1 Γl Δl:List Nat}{m m1 m2 mr:Nat}{S S1 S2:List (Nat×Bool)}{H:Hp}
theorem Xlf {i j:Nat}{t:TA}{f:FA}{bs:List D→Yk→R Yk}(hn:∀ρ ds,f ρ=.ok ds→ds.length=2)(ha:AOk K C E Γ Δ 2 [] t f)(hb:BsN K C Γ Δ Γ' Δ' (Zgy (Zbx i) (Zgy (Zbx j) Zzu)) bs) :
  SOk K C E mr Γl Δl Γ Δ Γ' Δ' (tPar i j t) (Dl.Xay (Dl.fA Dl.Zca f) (Dl.Zls bs)):=fun H0 Hb H σ ρ A D I p=>by
 have p1:=Yj.bind (Yj.bind p)
 cases ef:f ρ with
 | bad=>rw [ef] at p1;exact p1.elim
 | err c x =>
  rw [ef] at p1
  refine ha H0 Hb H σ ρ A _ I ?_
  rw [ef]
  exact fun H' g'=>p1 H' (Yd.from0 I g')
 | ok ds =>
  rw [ef] at p1
  have hl:=hn ρ ds ef
  have eg:Dl.Zca ds=some (.tup ds):=by unfold Dl.Zca;rw [if_pos (by rw [hl];show 2≤1000000;omega)]
  have p2:Yj ((Dl.oR (Dl.Zca ds))) _ _:=p1
  rw [eg] at p2
  have q':=Zfv (Yj.bind p2)
  refine ha H0 Hb H σ ρ A _ I ?_
  rw [ef]
  intro vs H1 g1 r
  obtain ⟨B,r1,r2,r4⟩:=r
  have hn':∀a∈B,H a=none:=fun a ha=>(r2 a ha).elim id fun z=>z.none.elim
  have:=hb H0 Hb H1 σ ρ A ds vs B D.nx (I.mono g1) r1 (r4 rfl) (fun a ha=>⟨I.same.free (hn' a ha),fun j z=>I.ne z (hn' a ha)⟩) (Yj.imp q' (fun ρ' q σ' A' I'=>q σ' H1 A' I') fun _ _ z=>z)
  obtain ⟨v,l,rfl,w,l2,rfl,rfl,q⟩:=this
  exact ⟨v,w,rfl,q⟩
end
section
variable {X:Cx}{C:String→Addr}{E:XK}{Γ Δ Γ' Δ' Γl Δl:List Nat}{m mr:Nat}{a b:Expr}{t:TA}{f:FA}{p p1 p2 pos pt2:Pos}{x y:Str}{i j k k2:Nat}
theorem Xoo (hc:X.calm=true)(hN:X.N.Nodup)(hi:X.N[i]?=some x)(hj:X.N[j]?=some y)(ha:JA X C E Γ Δ 2 [] [a,b] 2 t f)(hb:JN X C Γ Δ Γ' Δ' [.Name x p1,.Name y p2] 2 (Zgy (Zbx i) (Zgy (Zbx j) Zzu)) (Dl.Jt (Dl.Xb i) (Dl.Jt (Dl.Xb j) Dl.Zlo)))
  (hij:i≠j:=by decide) (hx:X.env.scope.names.lookup x=some .local:=by rfl) (hy:X.env.scope.names.lookup y=some .local:=by rfl)
  (hw:swappedStores [.Tuple [.Name x p1,.Name y p2] k p] (.Tuple [a,b] k2 pt2) X.env=pure (some [x,y]):=by rfl) (hs:swapsWithSole [.Tuple [.Name x p1,.Name y p2] k p] (.Tuple [a,b] k2 pt2) pos.line X.env=pure false:=by rfl) :
  JS X C E mr Γl Δl Γ Δ Γ' Δ' (.Assign [.Tuple [.Name x p1,.Name y p2] k p] (.Tuple [a,b] k2 pt2) pos) (tPar i j t) (Dl.Xay (Dl.fA Dl.Zca f) (Dl.Zls (Dl.Jt (Dl.Xb i) (Dl.Jt (Dl.Xb j) Dl.Zlo)))):=
 ⟨⟨Xqm hc hN hi hj hij hx hy ha.q.out hw hs⟩,Xlf ha.n ha.o hb.o⟩
end
section
variable {K:Frag}{C:String→Addr}{E:XK}{Γ Δ Γ' Δ' Γ1 Δ1 Γl Δl Γk Δk:List Nat}{m m1 m2 m3 mr:Nat}{S S1 S2 S3:List (Nat×Bool)}{H:Hp}{Q:VK}
noncomputable def AtP (K:Frag)(H:Hp):V→List Int→Addr→Prop
 | v,[],b=>v=.ref b
 | v,n::r,b=>∃p xs u,v=.ref p∧(H p=some (.lst xs)∨H p=some (.tup xs))∧atI xs n=some u∧AtP K H u r b
end
section
variable {X:Cx}{C:String→Addr}{E:XK}{Γ Δ Γ' Δ' Γ1 Δ1 Γl Δl Γk Δk:List Nat}{m m1 m2 m3 mr:Nat}{S S1 S2 S3:List (Nat×Bool)}{a b c e st o tg iter kx lx:Expr}{es rest:List Expr}{ta tb tc te ts tk tl:TE}{fa fb fc fe fs fk fl:FE}{pos p p1 p2 apos cpos pos':Pos}{n:Nat}
end
section
variable {K:Frag}{C:String→Addr}{E:XK}{Γ Δ Γ' Δ' Γ1 Δ1 Γl Δl Γk Δk:List Nat}{m m1 m2 m3 mr:Nat}{H:Hp}{Q:VK}
end
section
variable {X:Cx}{C:String→Addr}{E:XK}{Γ Δ Γ' Δ' Γl Δl:List Nat}{mr:Nat}{pos p p2 apos cpos:Pos}
end
section
variable {prog:Program}{w:World}{A:Around}{E:Value→Shared→Prop}{s:Shared}{a₀:Array Keyed}
variable {X:Cx}
variable {K:Frag}{C:String→Addr}
end
section
variable {K:Frag}{C:String→Addr}{E:XK}{Γ Δ Γ' Δ' Γl Δl:List Nat}{m mr:Nat}{S:List (Nat×Bool)}
end
section
variable {X:Cx}{C:String→Addr}{E:XK}{Γ Δ Γ' Δ' Γl Δl:List Nat}{m mr:Nat}{S:List (Nat×Bool)}{e:Expr}{te:TE}{fe:FE}{p p1 p2 pos:Pos}{x y:Str}{i j k:Nat}
variable {tg:Expr}
end
section
variable {K:Frag}{C:String→Addr}{E:XK}{Γ Δ:List Nat}{m:Nat}{S:List (Nat×Bool)}{H:Hp}
end
section
variable {X:Cx}{C:String→Addr}{E:XK}{Γ Δ:List Nat}{m n:Nat}{S:List (Nat×Bool)}{tg a b c:Expr}{t:TA}{f:FA}{p pos:Pos}
end
section
variable {K:Frag}{C:String→Addr}
end
end L2
namespace L2
open PySem PySem.Spec PyProof.Rows
open Dl (D R FE FT FA FO FS FI FB Fl FM FMT)
section
variable {K:Frag}{C:String→Addr}{E:XK}{Γ Δ Γ' Δ' Γ1 Δ1 Γl Δl:List Nat}{m m1 m2 mr n:Nat}{S S1 S2:List (Nat×Bool)}{H:Hp}
def MOk (K:Frag)(C:String→Addr)(E:XK)(Γ Δ:List Nat)(t:TE)(f:FM):Prop:=∀(H0 Hb H:Hp) (σ:St) (ρ:Yk) (A:Nat→List Addr) (Q:VK),Xf K C H0 Hb H Γ Δ σ ρ A→
 Yj (f ρ) (fun p=>∀v H' A' B,Xf K C H0 Hb H' Γ Δ σ p.2 A'→Rp K C H' p.1 v B→B.Nodup→(∀a∈B,Hb a=none∧∀j,a∉A' j)→Q v H') (fun c x=>∀H',Yd H0 H'→EC C E c x H')→t σ H Q
def MTOk (K:Frag)(C:String→Addr)(E:XK)(Γ Δ:List Nat)(t:TT)(f:FMT):Prop:=∀(H0 Hb H:Hp) (σ:St) (ρ:Yk) (A:Nat→List Addr) (Q:Bool→Hp→Prop),Xf K C H0 Hb H Γ Δ σ ρ A→
 Yj (f ρ) (fun p=>∀H' A',Xf K C H0 Hb H' Γ Δ σ p.2 A'→Q p.1 H') (fun c x=>∀H',Yd H0 H'→EC C E c x H')→t σ H Q
def SOkP (K:Frag)(C:String→Addr)(E:XK)(Γ Δ Γ' Δ':List Nat)(t:TS)(f:FS):Prop:=∀(H0 Hb H:Hp) (σ:St) (ρ:Yk) (A:Nat→List Addr) (D:Ends),Xf K C H0 Hb H Γ Δ σ ρ A→
  Yj (f ρ) (fun fl=>match fl with
    | .nx ρ'=>∀σ' H' A',σ'[0]?=σ[0]?→Xf K C H0 Hb H' Γ' Δ' σ' ρ' A'→D.nx σ' H'
    | _=>False) (fun c x=>∀H',Yd H0 H'→EC C E c x H')→t D σ H
def MBOk (K:Frag)(C:String→Addr)(E:XK)(Γ Δ:List Nat)(t:TS)(G:FM):Prop:=∀(H0 Hb H:Hp) (σ:St) (ρ:Yk) (A:Nat→List Addr) (D:Ends) (Q:VK),Xf K C H0 Hb H Γ Δ σ ρ A→D.rt=Q→(D.nx=fun _ H'=>Q .non H')→
 Yj (G ρ) (fun p=>∀v H' σ' A' B,σ'[0]?=σ[0]?→Xf K C H0 Hb H' [0] [0] σ' p.2 A'→Rp K C H' p.1 v B→B.Nodup→(∀a∈B,Hb a=none∧∀j,a∉A' j)→Q v H') (fun c x=>∀H',Yd H0 H'→EC C E c x H')→t D σ H
end
structure JM (X:Cx)(C:String→Addr)(E:XK)(Γ Δ:List Nat)(e:Expr)(t:TE)(f:FM):Prop where
 q:QE X e t
 o:MOk X.K C E Γ Δ t f
structure JMT (X:Cx)(C:String→Addr)(E:XK)(Γ Δ:List Nat)(e:Expr)(t:TT)(f:FMT):Prop where
 q:QT X e t
 o:MTOk X.K C E Γ Δ t f
structure JMW (X:Cx)(C:String→Addr)(E:XK)(Γ Δ:List Nat)(e:Expr)(t:TT)(f:FMT):Prop where
 q:QW X e t
 o:MTOk X.K C E Γ Δ t f
structure JP (X:Cx)(C:String→Addr)(E:XK)(Γ Δ Γ' Δ':List Nat)(s:Stmt)(t:TS)(f:FS):Prop where
 q:QS X s t
 o:SOkP X.K C E Γ Δ Γ' Δ' t f
structure JMB (X:Cx)(C:String→Addr)(E:XK)(Γ Δ:List Nat)(s:List Stmt)(t:TS)(f:FM):Prop where
 q:QSs X s t
 o:MBOk X.K C E Γ Δ t f
structure MDef (P:Program)(w:World)(K:Frag)(mg:Str→Option Value)(base:Heap)(CX:CXT)(k:Nat)(C:Addr)(x:Str)(ps:List Str)(sp:Sp):Prop where
 ex:∃f fd,Meth K C x f∧Binds K fd ps []∧Zan P w K mg base CX k f fd ps sp
structure MkDef (P:Program)(w:World)(K:Frag)(mg:Str→Option Value)(base:Heap)(CX:CXT)(k:Nat)(C:Addr)(ps:List Str)(sp:Sp):Prop where
 ex:∃f fd,Mk K C f∧Binds K fd ps []∧Zan P w K mg base CX k f fd ps sp
section
variable {X:Cx}{C:String→Addr}{E:XK}{Γ Δ Γ' Δ' Γ1 Δ1 Γl Δl:List Nat}{m m1 m2 mr n:Nat}{S S1 S2:List (Nat×Bool)}{a b e o:Expr}{es rest:List Expr}{te:TE}{fe:FE}{t:TA}{fa:FA}{pos p p2 apos cpos:Pos}{c:String}{f md x:Str}{CX:CXT}{k:Nat}{ps:List Str}{s:Stmt}{ss:List Stmt}{tm:TE}{fm:FM}{u:TS}{g:FS}
end
section
variable {K:Frag}{C:String→Addr}{E:XK}{Γ Δ Γ' Δ' Γ1 Δ1 Γl Δl:List Nat}{m m1 m2 mr n:Nat}{S S1 S2:List (Nat×Bool)}{H:Hp}
end
section
variable {X:Cx}{C:String→Addr}{E:XK}{Γ Δ Γ' Δ' Γl Δl:List Nat}{m1 m2 n:Nat}{S2:List (Nat×Bool)}{a b e:Expr}{es:List Expr}{ta tb:TE}{fa fb:FE}{t:TA}{ff:FA}{pos p p2 cpos:Pos}{x y:Str}{CX:CXT}{k:Nat}{ps:List Str}
end
theorem allN0 {P:List Value→Prop}(h:P []):∀us:List Value,us.length=0→P us
 | [],_=>h
theorem Xri {P:List Value→Prop}(h:∀a0,P [a0])(us:List Value)(hl:us.length=1):P us:=by
 cases us with
 | nil=>exact absurd hl (by decide)
 | cons a us=>exact allN0 (P:=fun z=>P (a::z)) (h a) us (Nat.succ.inj hl)
theorem Zcp {P:List Value→Prop}(h:∀a0 a1,P [a0,a1])(us:List Value)(hl:us.length=2):P us:=by
 cases us with
 | nil=>exact absurd hl (by decide)
 | cons a us=>exact Xri (P:=fun z=>P (a::z)) (h a) us (Nat.succ.inj hl)
theorem Zjh {P:List Value→Prop}(h:∀a0 a1 a2,P [a0,a1,a2])(us:List Value)(hl:us.length=3):P us:=by
 cases us with
 | nil=>exact absurd hl (by decide)
 | cons a us=>exact Zcp (P:=fun z=>P (a::z)) (h a) us (Nat.succ.inj hl)
theorem Zsv {P:List Value→Prop}(h:∀a0 a1 a2 a3,P [a0,a1,a2,a3])(us:List Value)(hl:us.length=4):P us:=by
 cases us with
 | nil=>exact absurd hl (by decide)
 | cons a us=>exact Zjh (P:=fun z=>P (a::z)) (h a) us (Nat.succ.inj hl)
theorem Xas {q:Program}{loose:List Str}{XP:(Str→Option Value)→Heap→Prop}{K:Params→Frag}{as:List Addr}{n t:Nat}{r:PySem.W.RowW}{d:DefRec}{kwd:List (Str×Expr)}{run:Value→List Value→Sem Value}
  (e:∀P,as=(K P).map (·.1)) (W:PySem.W.WalkO q loose XP (PySem.W.InK K) r d kwd run):PySem.W.WalkX q loose XP (PySem.W.X.obsZ as) (PySem.W.X.valZ K n t) r d kwd run:=
 fun w s₀ s₁ mg mb G y a o pm cd doc dV kV ho hd hcd hD hmg hg args vals as' L hpre hlay hrd hwl hlo =>
  W w s₀ s₁ mg mb G (PySem.W.InK.keeps w _ _ (PySem.W.X.z_facts e y).2.1 (PySem.W.Laid.keeps L)) a o pm cd doc dV kV ho hd hcd hD hmg hg args vals as' hpre hlay hrd hwl hlo
end L2
namespace L2
open PySem PySem.Spec PyProof.Rows
open Dl (D R FE FT FA FO FS FI FB Fl)
section
variable {K:Frag}{C:String→Addr}{E:XK}{Γ Δ Γ' Δ' Γl Δl:List Nat}{mr:Nat}
end
section
variable {X:Cx}{C:String→Addr}{E:XK}{Γ Δ Γl Δl:List Nat}{m2 mr n k:Nat}{S2:List (Nat×Bool)}{es:List Expr}{t:TA}{ff:FA}{pos p p2 p3 cpos:Pos}{x y:Str}{CX:CXT}{ps:List Str}
end
end L2
namespace L2
open PySem PySem.Spec PyProof.Rows
noncomputable def Xqk (K:Frag)(C:Addr)(bmB:List Value)(newId:String)(fI:Addr):Bool:=match K.lookup C with
  | some ⟨.type "type",_,.cls cd,sl⟩=>(match cd.mro,sl.toList with
    | .ref C'::bm,[_,_,_,_,some (.builtin n),_]=>C'==C&&n==newId&&!cd.hasDel&&cd.hasDict&&PySem.W.tailIn K bmB bm&&PySem.W.nsOkIn K cd.ns&&nsIn K cd.ns "__init__"==some (some (.ref fI))
    | _,_=>false)
  | _=>false
section
variable {prog:Program}{w:World}{A:Around}{E:Value→Shared→Prop}{h:Heap}{g:Array GenState}{d:Drawn}{t:Nat}{os:OsState}
variable {nm q:Str}{C N:Addr}{bs bm bmB:List Value}{hdct:Bool}{sn:List Str}{sub:List Value}{ab:Bool}{col:Option Bool}{dd:Option Addr}{k0 k1 k2 k3 k5:Option Value}{B newId initId:String}
end
section
variable {prog:Program}{w:World}{A:Around}{E:Value→Shared→Prop}{s:Shared}{env:Env}
variable {nm q:Str}{C N:Addr}{bs bm bmB:List Value}{hdct:Bool}{sn:List Str}{sub:List Value}{ab:Bool}{col:Option Bool}{dd:Option Addr}{k0 k1 k2 k3 k5:Option Value}{B newId initId:String}
end
end L2
namespace L2
open PySem PySem.Spec PyProof.Rows
open PySem.W (Looks)
open Builtin Builtin.ObjectAttr
section
variable {prog:Program}{w:World}{A:Around}{E:Value→Shared→Prop}{h:Heap}{g:Array GenState}{d:Drawn}{t:Nat}{os:OsState}
variable {nm q:Str}{C N x:Addr}{bs bm bmB:List Value}{sn:List Str}{sub:List Value}{ab:Bool}{col:Option Bool}{dd:Option Addr}{k0 k1 k2 k3 k5:Option Value}{B newId sa owner:String}
 {name:Str} {v:Value} {fs:Array Value} {sl:Array (Option Value)}
end
end L2
namespace L2
open PySem PySem.Spec PyProof.Rows
open PySem.W (Looks)
section
variable {prog:Program}{w:World}{A:Around}{E:Value→Shared→Prop}{h:Heap}{g:Array GenState}{d:Drawn}{t:Nat}{os:OsState}
variable {nm q:Str}{C N x:Addr}{bs bm bmB:List Value}{hdct:Bool}{sn:List Str}{sub:List Value}{ab:Bool}{col:Option Bool}{dd:Option Addr}{k0 k1 k2 k3 k5:Option Value}{B newId initId:String}
end
section
variable {prog:Program}{w:World}{A:Around}{E:Value→Shared→Prop}{h:Heap}{g:Array GenState}{d:Drawn}{t:Nat}{os:OsState}{a C dx:Addr}{o:Obj}{vs:Array Value}{mA:Str→Option Value}{v:Value}{name:Str}
end
end L2
namespace L2
open PySem PySem.Spec PyProof.Rows
open Dl (D R FE FT FA FO FS FI FB Fl)
structure ErrF (K:Frag)(C:Addr)(nm:Str)(fI:Addr):Prop where
 exc:Xqk K C bmV "ValueError.__new__" fI=true
 sa:findIn K (.ref C) "__setattr__"=some (some (.builtin "object.__setattr__"))
 nf:findIn K (.ref C) nm=some none
 hd:PySem.W.hasDictIn K C=true
noncomputable def exA (e C:Addr)(dx:Option Addr):HO:=.ext fun h=>∃t sl,h.get? e=some {cls:=.ref C,dict:=dx,data:=.fields #[.ref t,.none,.none,.none,.bool false,.none],slots:=sl}
section
variable {X:Cx}{pins:List (Addr×Obj)}{σ:St}{H:Hp}{s:Shared}
end
structure BaseI (K:Frag)(B:Addr):Prop where
 sp:specialIn K (.ref B) "__getattribute__"=some (some (.builtin "type.__getattribute__"))
 rd:PySem.W.readsIn K B (.type "type")=true
 fc:PySem.W.findCls K (.ref B) (.type "type") "__init__"=some (.val (.builtin "ValueError.__init__"))
section
variable {X:Cx}{e o value:Expr}{es:List Expr}{t:TA}{ta tv:TE}{pos pos' apos np:Pos}{b f:Str}{B:Addr}
end
noncomputable def Xpa (K:Frag)(nm:Str):Sp:=fun vs H Q _=>∃e C i fI,vs=[.ref e,.int i]∧H e=some (exA e C none)∧ErrF K C nm fI∧i.natAbs.log2<1920∧∀d,H d=none→Q .non (upd (upd H d (.xd [(nm,.int i)])) e (exA e C (some d)))
section
variable {P:Program}{w:World}{K:Frag}{mg:Str→Option Value}{base:Heap}
structure IDef (P:Program)(w:World)(K:Frag)(mg:Str→Option Value)(base:Heap)(C:Addr)(nm:Str):Prop where
 ex:∃fI fd ps,ErrF K C nm fI∧typeIn K (.ref fI)=some (.type "function")∧ps.length=2∧Binds K fd ps []∧Zan P w K mg base CX0 1 fI fd ps (Xpa K nm)
variable {C:String→Addr}{E:XK}{Γ Δ Γ' Δ' Γl Δl:List Nat}{m mr:Nat}{S:List (Nat×Bool)}
end
section
variable {X:Cx}{C:String→Addr}{E:XK}{Γ Δ Γ' Δ' Γl Δl:List Nat}{m mr:Nat}{S:List (Nat×Bool)}{e:Expr}{te:TE}{fe:FE}{np cpos pos:Pos}
end
def Zws (i j:Int):Prop:=i.natAbs<2 ^ 4000∧j.natAbs<2 ^ 4000
theorem Zws.ok {i j:Int}(h:Zws i j):IntMulOk i j:=PySem.IntMulOk.of_le (PySem.intBits_le_iff.mpr h.1) (PySem.intBits_le_iff.mpr h.2) (by decide)
section
variable {X:Cx}
theorem Zor:OpR X (binaryOp .Mult) (rI Zws fun i j=>.int (i*j)):=opI fun _ _ _ _ _ _ _ hc q=>mul_int q hc.ok
end
theorem Xii {x y d:D}(e:Dl.Zjl x y=some d):∃i j,x=.int i∧y=.int j∧Zws i j∧d=.int (i*j):=by
 unfold Dl.Zjl at e
 split at e
 ·split at e
  ·rename_i h
   cases e
   exact ⟨_,_,rfl,rfl,h,rfl⟩
  ·cases e
 ·cases e
section
variable {K:Frag}{C:String→Addr}{E:XK}{Γ Δ Γ' Δ' Γl Δl:List Nat}{m mr:Nat}{S:List (Nat×Bool)}
theorem Zlg:GOk K C (rI Zws fun i j=>.int (i*j)) Dl.Zjl:=by
 intro H x y d vx vy Bx By Q rx ry e q
 obtain ⟨i,j,rfl,rfl,hc,rfl⟩:=Xii e
 obtain ⟨rfl,_⟩:=rx
 obtain ⟨rfl,_⟩:=ry
 exact ⟨i,j,rfl,rfl,hc,Out.flat q rpI⟩
end
section
variable {X:Cx}{C:String→Addr}{E:XK}{Γ Δ Γ' Δ' Γl Δl:List Nat}{m m1 m2 mr:Nat}{S S1 S2:List (Nat×Bool)}{a b e:Expr}{ta tb te:TE}{fa fb fe:FE}{pos pos':Pos}
end
section
variable {K:Frag}{C:String→Addr}{E:XK}{Γ Δ Γ' Δ' Γk Δk:List Nat}{mr:Nat}{S:List (Nat×Bool)}
end
section
variable {X:Cx}{C:String→Addr}{E:XK}{Γ Δ Γk Δk:List Nat}{mr:Nat}{S:List (Nat×Bool)}{c iter:Expr}{ret:List Stmt}{u:TS}{g:FS}{pos p ip:Pos}{x:Str}{k:Nat}
end
structure Clz where
 c:Value
 i:Option Nat
 th:TS
noncomputable def tClz (K:Frag)(N:Nat)(D:Ends)(e:Addr)(cls:Value)(dx:Option Addr)(H':Hp):List Clz→Prop
  | []=>False
  | z::r=>∃b,exmOne K cls z.c=some b∧if b=true then (match z.i with
      | some i=>∀σ':St,σ'.length=N→z.th {nx:=fun _ H2=>D.nx (List.replicate N none) H2,rt:=D.rt,bk:=fun _ H2=>D.bk (List.replicate N none) H2,ct:=fun _ H2=>D.ct (List.replicate N none) H2} (σ'.set i (some (.ref e))) (upd H' e (exO e cls dx))
      | none=>∀σ':St,σ'.length=N→z.th D σ' H')
    else tClz K N D e cls dx H' r
inductive PClz (X:Cx):List ExceptHandler→List Clz→Prop
 | nil:PClz X [] []
 | named {c n:Str} {np hpos:Pos} {C:Addr} {b₀:Stmt} {suite:List Stmt} {i:Nat} {th:TS} {hs:List ExceptHandler} {zs:List Clz} (hm:X.mg c=some (.ref C)) (hg:Gl X c) (hdb:(c==("__debug__":Str))=false) (hi:X.N[i]?=some n) (hl:X.env.scope.names.lookup n=some .local)
   (hh:∀e:Addr,PSs (X.hand e) (b₀::suite) th) (hr:PClz X hs zs):PClz X (.ExceptHandler (some (.Name c np)) (some n) (b₀::suite) hpos::hs) (⟨.ref C,some i,th⟩::zs)
 | plain {c:Str} {np hpos:Pos} {C:Addr} {b₀:Stmt} {suite:List Stmt} {th:TS} {hs:List ExceptHandler} {zs:List Clz} (hm:X.mg c=some (.ref C)) (hg:Gl X c) (hdb:(c==("__debug__":Str))=false)
   (hh:∀e:Addr,PSs (X.hand e) (b₀::suite) th) (hr:PClz X hs zs):PClz X (.ExceptHandler (some (.Name c np)) none (b₀::suite) hpos::hs) (⟨.ref C,none,th⟩::zs)
section
variable {K:Frag}{C:String→Addr}{E:XK}{Γ Δ Γ1 Δ1 Γl Δl:List Nat}{mr:Nat}
inductive OClz (K:Frag)(C:String→Addr)(N mr:Nat)(Γl Δl Γ1 Δ1:List Nat):List Clz→List (List (String×Bool)×Option Nat×FS)→Prop
 | nil:OClz K C N mr Γl Δl Γ1 Δ1 [] []
 | named {c:Addr} {i:Nat} {th:TS} {fh:FS} {tb:List (String×Bool)} {Γ2 Δ2:List Nat} {Eh:XK} {zs:List Clz} {ds:List (List (String×Bool)×Option Nat×FS)} (ht:∀p∈tb,exmOne K (.ref (C p.1)) (.ref c)=some p.2) (hi:i<N) (hh:SOk K C Eh mr [] [] [] [] Γ2 Δ2 th fh)
   (hr:OClz K C N mr Γl Δl Γ1 Δ1 zs ds):OClz K C N mr Γl Δl Γ1 Δ1 (⟨.ref c,some i,th⟩::zs) ((tb,some i,fh)::ds)
 | plain {c:Addr} {th:TS} {fh:FS} {tb:List (String×Bool)} {Eh:XK} {zs:List Clz} {ds:List (List (String×Bool)×Option Nat×FS)} (ht:∀p∈tb,exmOne K (.ref (C p.1)) (.ref c)=some p.2) (hh:SOk K C Eh mr Γl Δl [] [] Γ1 Δ1 th fh)
   (hr:OClz K C N mr Γl Δl Γ1 Δ1 zs ds):OClz K C N mr Γl Δl Γ1 Δ1 (⟨.ref c,none,th⟩::zs) ((tb,none,fh)::ds)
end
inductive JClz (X:Cx)(C:String→Addr)(mr:Nat)(Γl Δl Γ1 Δ1:List Nat):List ExceptHandler→List Clz→List (List (String×Bool)×Option Nat×FS)→Prop
 | mk {hs:List ExceptHandler} {zs:List Clz} {ds:List (List (String×Bool)×Option Nat×FS)} (p:PClz X hs zs) (o:OClz X.K C X.N.length mr Γl Δl Γ1 Δ1 zs ds):JClz X C mr Γl Δl Γ1 Δ1 hs zs ds
section
variable {X:Cx}{C:String→Addr}{E:XK}{Γ Δ Γ1 Δ1 Γl Δl:List Nat}{mr:Nat}{np hpos pos:Pos}{hs:List ExceptHandler}{zs:List Clz}{ds:List (List (String×Bool)×Option Nat×FS)}{b₀:Stmt}{suite:List Stmt}{th:TS}{fh:FS}
end
section
variable {X:Cx}{C:String→Addr}{E:XK}{Γ Δ Γl Δl:List Nat}{mr:Nat}{e:Expr}{te:TE}{fe:FE}{pos p apos cpos:Pos}
theorem Xlr (K:Frag){i:Nat}{x:Str}(he:JE X C E Γ Δ 2 [] e te fe)(hse:starEach [e] X.env=(false,eval e X.env)::starEach [] X.env)(hK:X.K=K:=by rfl)
  (hi:i∈Γ:=by decide) (hN:X.N[i]?=some x:=by rfl) (hv:autoParam (Vis X.env.scope x) aT3._auto_1) (hd:(x==("__debug__":Str))=false:=by decide) (hcd:(x==("__classdict__":Str))=false:=by decide)
  (hbase:attributeBase (.Name x p) "extend" X.env (eval (.Name x p) X.env)=eval (.Name x p) X.env:=by rfl)
  (hfew:((backTo cpos (starEach [e] X.env)).all (fun x=>!x.1)&&(backToKw cpos (keywordEach [] X.env)).all (fun x=>x.1.isSome)&&decide (([e]:List Expr).length+([]:List Keyword).length+(if ([]:List Keyword).isEmpty then 0 else 1)<30))=true:=by rfl)
  (hline:(apos.endLine==cpos.line)=true:=by rfl) (hplain:(backTo cpos (starEach ([]:List Expr) X.env)).any (·.1)=false:=by rfl) (hsw:swapsWith (.Call (.Attribute (.Name x p) "extend" apos) [e] [] cpos) none pos.line X.env=pure false:=by rfl) :
  JS X C E mr Γl Δl Γ Δ Γ Δ (.Expr (.Call (.Attribute (.Name x p) "extend" apos) [e] [] cpos) pos) (Zom (tBM K "list" Zhq (Zue i) (Zgb te Zuh))) (Dl.Xho i fe):=by
 subst hK
 exact Xoc hi hN hv hd hcd he hse hbase hfew hline hplain hsw
end
section
variable {K:Frag}{C:String→Addr}{E:XK}{Γ Δ Γl Δl:List Nat}{m m1 m2 mr:Nat}{S S1 S2:List (Nat×Bool)}{H:Hp}
end
section
variable {X:Cx}{C:String→Addr}{E:XK}{Γ Δ Γ' Δ' Γl Δl:List Nat}{m m1 m2 mr:Nat}{S S1 S2:List (Nat×Bool)}{a b e tg:Expr}{ta tb te:TE}{fa fb fe:FE}{p p2 pos:Pos}
noncomputable abbrev TX:=Str→St→Hp→VK→Prop
def PX (X:Cx)(es:List Expr)(t:TX):Prop:=
 ∀(out:Str) (pins:List (Addr×Obj)) (s:Shared) (σ:St) (H:Hp) (Q:VK),Inv X pins σ H s→out.length+2000*es.length≤sizeLine→t out σ H Q→
  wpAny (model X.prog X.w) X.A (joinParts out (evalEach es X.env)) (EP X pins σ Q) X.xe s
end
section
variable {K:Frag}{C:String→Addr}{E:XK}{Γ Δ:List Nat}{m m1 m2:Nat}{S S1 S2:List (Nat×Bool)}{H:Hp}
noncomputable def joinL (c:Nat):List (List Nat)→List Nat
 | []=>[]
 | [w]=>w
 | w::v::r=>w++32::c::32::joinL c (v::r)
def XOk (K:Frag)(C:String→Addr)(E:XK)(Γ Δ:List Nat)(t:TX)(f:FA):Prop:=∀(H0 Hb H:Hp) (σ:St) (ρ:Dl.Env) (A:Nat→List Addr) (Q:VK) (out:Str),PyData.strOk out=true→Xf K C H0 Hb H Γ Δ σ ρ A→
 Yj ((f ρ).bind fun xs=>Dl.oR (Dl.catO out xs)) (fun d=>∀v H',Yd H H'→Res K C 2 [] H A d v H'→Q v H') (fun c x=>∀H',Yd H H'→EC C E c x H')→t out σ H Q
end
structure JX (X:Cx)(C:String→Addr)(E:XK)(Γ Δ:List Nat)(es:List Expr)(t:TX)(f:FA):Prop where
 q:PX X es t
 o:XOk X.K C E Γ Δ t f
section
variable {X:Cx}{C:String→Addr}{E:XK}{Γ Δ:List Nat}{m m1 m2:Nat}{S S1 S2:List (Nat×Bool)}{a b e o:Expr}{es:List Expr}{ta tb te:TE}{tx:TX}{fa fb fe:FE}{f:FA}{pos p apos cpos:Pos}
end
section
variable {K:Frag}{C:String→Addr}{E:XK}{Γ Δ Γl Δl:List Nat}{m m1 m2 m3 mr:Nat}{S S1 S2 S3:List (Nat×Bool)}{H:Hp}
end
section
variable {X:Cx}{C:String→Addr}{E:XK}{Γ Δ Γ' Δ' Γl Δl:List Nat}{m m1 m2 m3 mr:Nat}{S S1 S2 S3:List (Nat×Bool)}{a b c e o:Expr}{ta tb tc te:TE}{fa fb fc fe:FE}{p p2 pos apos cpos:Pos}
end
section
variable {K:Frag}{C:String→Addr}{E:XK}{Γ Δ:List Nat}
end
section
variable {X:Cx}{C:String→Addr}{E:XK}{mr:Nat}{Γ Δ Γ' Δ' Γl Δl:List Nat}{n:Nat}{pos:Pos}
end
end L2
namespace L2
open PySem PyProof.Rows
noncomputable def Zwd:Bool→Keyed→Array Keyed→Nat→Nat→Nat→StateT SortSt Sem (Option Nat):=sortPriv% PySem.Builtin.gallop
noncomputable def Xaf:Array Keyed→Array Keyed→StateT SortSt Sem (Array Keyed):=sortPriv% PySem.Builtin.mergeLo
noncomputable def Xco:Array Keyed→Array Keyed→StateT SortSt Sem (Array Keyed):=sortPriv% PySem.Builtin.mergeHi
noncomputable def Xhl:Nat→StateT SortSt Sem Unit:=sortPriv% PySem.Builtin.setMinGallop
structure Ask (prog:Program)(w:World)(A:Around)(s:Shared)(κ:SortKind)(P:Keyed→Prop)(r:Keyed→Keyed→Bool):Prop where
 run:∀{x y:Keyed} {Q:Bool→Shared→Prop} {E:Value→Shared→Prop},P x→P y→Q (r x y) s→wpAny (model prog w) A (keyLt' κ x.1 y.1) Q E s
 tr:∀{x y z:Keyed},P x→P y→P z→r y x=false→r z y=false→r z x=false
 as:∀{x y:Keyed},P x→P y→r x y=true→r y x=false
noncomputable def bey (r:Keyed→Keyed→Bool)(left:Bool)(key x:Keyed):Bool:=if left=true then r x key else !r key x
section
variable {prog:Program}{w:World}{A:Around}{E:Value→Shared→Prop}{s:Shared}{κ:SortKind}{P:Keyed→Prop}{r:Keyed→Keyed→Bool}{st:SortSt}
theorem Znf {x y:Keyed}{Q:Option Bool→SortSt→Prop}(K:Ask prog w A s κ P r)(hk:kindOf st=κ)(hx:P x)(hy:P y)(h:Q (some (r x y)) st):wpS (model prog w) A E s (lt' x y) Q st:=by
 rw [lt'_eq]
 refine wpS_bind (wpS_get ?_)
 rw [hk]
 exact wpS_bind (wpS_lift (wpAny_attempt (K.run hx hy ⟨rfl,wpS_pure h⟩)))
theorem Xs {arr:Array Keyed}{i:Nat}{x:Keyed}{Q:Keyed→SortSt→Prop}(e:arr[i]?=some x)(h:Q x st):wpS (model prog w) A E s (elem' arr i) Q st:=by
 rw [elem'_eq,e]
 exact wpS_pure h
theorem Zin {arr:Array Keyed}{i:Nat}{x key:Keyed}{left:Bool}{Q:Option Bool→SortSt→Prop}(K:Ask prog w A s κ P r)(hk:kindOf st=κ)(e:arr[i]?=some x)(hx:P x)(hy:P key)(h:Q (some (bey r left key x)) st) :
    wpS (model prog w) A E s (do
      let z ← elem' arr i
      if left=true then lt' z key else do
        let b ← lt' key z
        pure (Option.map (fun b=>!b) b)) Q st:=by
  refine wpS_bind (Xs e ?_)
  unfold bey at h
  cases left with
  | true=>exact Znf K hk hx hy h
  | false=>exact wpS_bind (Znf K hk hy hx (wpS_pure h))
theorem Xcu {left:Bool}{key x y:Keyed}(K:Ask prog w A s κ P r)(hk:P key)(hx:P x)(hy:P y)(hxy:r y x=false)(h:bey r left key y=true):bey r left key x=true:=by
 unfold bey at *
 cases left with
 | true =>
  simp only [if_true] at *
  cases e:r x key with
  | true=>rfl
  | false=>rw [K.tr hk hx hy e hxy] at h;cases h
 | false =>
  simp only [Bool.false_eq_true,if_false,Bool.not_eq_true'] at *
  exact K.tr hx hy hk hxy h
theorem Ztq {left:Bool}{key:Keyed}{arr:Array Keyed}{base n hint:Nat}{at_:Nat→Keyed}{Q:Option Nat→SortSt→Prop}(K:Ask prog w A s κ P r)(hk:kindOf st=κ)(hkey:P key)(ha:∀i,i<n→arr[base+i]?=some (at_ i)∧P (at_ i))
    (hs:∀i j,i≤j→j<n→r (at_ j) (at_ i)=false) (hh:hint<n) (h:∀k,k≤n→(∀i,i<k→bey r left key (at_ i)=true)→(∀i,k≤i→i<n→bey r left key (at_ i)=false)→Q (some k) st) :
    wpS (model prog w) A E s (Zwd left key arr base n hint) Q st:=by
  have up:∀{i j},i≤j→j<n→bey r left key (at_ j)=true→bey r left key (at_ i)=true:=fun {i j} hij hj hb=>Xcu K hkey (ha i (by omega)).2 (ha j hj).2 (hs i j hij hj) hb
  have dn:∀{i j},i≤j→j<n→bey r left key (at_ i)=false→bey r left key (at_ j)=false:=fun {i j} hij hj hb=>by
    cases e:bey r left key (at_ j) with
    | false=>rfl
    | true=>rw [up hij hj e] at hb;cases hb
  have fin:∀{f:Nat→Option (Option Nat)×Nat×Nat→StateT SortSt Sem (ForInStep (Option (Option Nat)×Nat×Nat))} {g:Option (Option Nat)×Nat×Nat→StateT SortSt Sem (Option Nat)},
      (∀(x lo hi:Nat) (Q':ForInStep (Option (Option Nat)×Nat×Nat)→SortSt→Prop),hi≤n→(lo≥hi→Q' (.done (none,lo,hi)) st)→(lo<hi→bey r left key (at_ (lo+(hi - lo) / 2))=true→Q' (.yield (none,lo+(hi - lo) / 2+1,hi)) st)→
        (lo<hi→bey r left key (at_ (lo+(hi - lo) / 2))=false→Q' (.yield (none,lo,lo+(hi - lo) / 2)) st)→wpS (model prog w) A E s (f x (none,lo,hi)) Q' st)→
      (∀lo hi,Q (some hi) st→wpS (model prog w) A E s (g (none,lo,hi)) Q st)→
      ∀lo hi,lo≤hi→hi≤n→(∀i,i<lo→bey r left key (at_ i)=true)→(∀i,hi≤i→i<n→bey r left key (at_ i)=false)→
      wpS (model prog w) A E s (forIn [:n] ((none,lo,hi):Option (Option Nat)×Nat×Nat) f >>= g) Q st:=fun {f g} hf hg lo hi hlh hhn hlo hhi=>by
    refine wpS_bind (wpS_mono (wpS_forRange
      (I:=fun x c st'=>st'=st∧∃lo hi,c=(none,lo,hi)∧lo≤hi∧hi≤n∧hi - lo≤n - x∧(∀i,i<lo→bey r left key (at_ i)=true)∧(∀i,hi≤i→i<n→bey r left key (at_ i)=false))
      (Q:=fun c st'=>st'=st∧∃lo hi,c=(none,lo,hi)∧hi≤lo∧hi≤n∧(∀i,i<lo→bey r left key (at_ i)=true)∧(∀i,hi≤i→i<n→bey r left key (at_ i)=false)) ?step ?fin ⟨rfl,lo,hi,rfl,hlh,hhn,by omega,hlo,hhi⟩) ?post)
    case post =>
      rintro c st' ⟨rfl,lo,hi,rfl,h1,h2,h3,h4⟩
      exact hg _ _ (h hi h2 (fun i hi'=>h3 i (by omega)) h4)
    case fin =>
      rintro c st' ⟨rfl,lo,hi,rfl,h1,h2,h3,h4,h5⟩
      exact ⟨rfl,lo,hi,rfl,by omega,h2,h4,h5⟩
    case step =>
      rintro x c st' _ hx ⟨rfl,lo,hi,rfl,h1,h2,h3,h4,h5⟩
      exact hf x lo hi _ h2 (fun hge=>⟨rfl,lo,hi,rfl,hge,h2,h4,h5⟩) (fun hl e=>⟨rfl,_,_,rfl,by omega,h2,by omega,fun i hi'=>up (j:=lo+(hi - lo) / 2) (by omega) (by omega) e,h5⟩)
        (fun hl e=>⟨rfl,_,_,rfl,by omega,by omega,by omega,h4,fun i h6 h7=>dn (i:=lo+(hi - lo) / 2) h6 h7 e⟩)
  obtain ⟨e1,e2⟩:=ha hint hh
  refine wpS_bind (Zin (left:=left) K hk e1 e2 hkey ?_)
  dsimp only
  cases e:bey r left key (at_ hint) with
  | true =>
    rw [if_pos rfl]
    refine wpS_bind (wpS_mono (wpS_forRange
      (I:=fun x c st'=>st'=st∧∃la o,c=(none,la,o)∧x+1≤o∧la<o∧hint+la<n∧bey r left key (at_ (hint+la))=true)
      (Q:=fun c st'=>st'=st∧∃la o,c=(none,la,o)∧la<o∧hint+la<n∧bey r left key (at_ (hint+la))=true∧(n - hint≤o∨(hint+o<n∧bey r left key (at_ (hint+o))=false))) ?step ?fin ⟨rfl,0,1,rfl,by omega,by omega,by omega,e⟩) ?post)
    case post =>
      rintro c st' ⟨rfl,la,o,rfl,h1,h2,h3,h4⟩
      refine fin (fun x lo hi Q' hn q1 q2 q3=>by
        dsimp only
        by_cases hge:lo≥hi
        · rw [if_pos hge]
          exact wpS_pure (q1 hge)
        · rw [if_neg hge]
          obtain ⟨e3,e4⟩:=ha (lo+(hi - lo) / 2) (by omega)
          refine wpS_bind (Zin K hk e3 e4 hkey ?_)
          dsimp only
          cases e5:bey r left key (at_ (lo+(hi - lo) / 2)) with
          | true =>
            rw [if_pos rfl]
            exact wpS_pure (q2 (by omega) e5)
          | false =>
            rw [if_neg Bool.false_ne_true]
            exact wpS_pure (q3 (by omega) e5)) (fun lo hi q=>wpS_pure q) (hint+la+1) (hint+min o (n - hint)) (by omega) (by omega) (fun i hi'=>up (j:=hint+la) (by omega) h2 h3) (fun i h6 h7=>?_)
      rcases h4 with h4 | ⟨h4,h5⟩
      · omega
      · exact dn (i:=hint+o) (by omega) h7 h5
    case fin =>
      rintro c st' ⟨rfl,la,o,rfl,h1,h2,h3,h4⟩
      exact ⟨rfl,la,o,rfl,h2,h3,h4,.inl (by omega)⟩
    case step =>
      rintro x c st' _ hx ⟨rfl,la,o,rfl,h1,h2,h3,h4⟩
      dsimp only
      by_cases hge:o≥n - hint
      · rw [if_pos hge]
        exact wpS_pure ⟨rfl,la,o,rfl,h2,h3,h4,.inl hge⟩
      · rw [if_neg hge]
        obtain ⟨e3,e4⟩:=ha (hint+o) (by omega)
        refine wpS_bind (Zin K hk e3 e4 hkey ?_)
        dsimp only
        cases e5:bey r left key (at_ (hint+o)) with
        | true =>
          rw [if_neg (by decide)]
          exact wpS_pure ⟨rfl,_,_,rfl,by omega,by omega,by omega,e5⟩
        | false =>
          rw [if_pos (by decide)]
          exact wpS_pure ⟨rfl,la,o,rfl,h2,h3,h4,.inr ⟨by omega,e5⟩⟩
  | false =>
    rw [if_neg Bool.false_ne_true]
    refine wpS_bind (wpS_mono (wpS_forRange
      (I:=fun x c st'=>st'=st∧∃la o,c=(none,la,o)∧x+1≤o∧la<o∧la≤hint∧bey r left key (at_ (hint - la))=false)
      (Q:=fun c st'=>st'=st∧∃la o,c=(none,la,o)∧la<o∧la≤hint∧bey r left key (at_ (hint - la))=false∧(hint+1≤o∨(o≤hint∧bey r left key (at_ (hint - o))=true))) ?step ?fin ⟨rfl,0,1,rfl,by omega,by omega,by omega,e⟩) ?post)
    case post =>
      rintro c st' ⟨rfl,la,o,rfl,h1,h2,h3,h4⟩
      refine fin (fun x lo hi Q' hn q1 q2 q3=>by
        dsimp only
        by_cases hge:lo≥hi
        · rw [if_pos hge]
          exact wpS_pure (q1 hge)
        · rw [if_neg hge]
          obtain ⟨e3,e4⟩:=ha (lo+(hi - lo) / 2) (by omega)
          refine wpS_bind (Zin K hk e3 e4 hkey ?_)
          dsimp only
          cases e5:bey r left key (at_ (lo+(hi - lo) / 2)) with
          | true =>
            rw [if_pos rfl]
            exact wpS_pure (q2 (by omega) e5)
          | false =>
            rw [if_neg Bool.false_ne_true]
            exact wpS_pure (q3 (by omega) e5)) (fun lo hi q=>wpS_pure q) (hint+1 - min o (hint+1)) (hint - la) (by omega) (by omega) (fun i hi'=>?_) (fun i h6 h7=>dn (i:=hint - la) (by omega) h7 h3)
      rcases h4 with h4 | ⟨h4,h5⟩
      · omega
      · exact up (j:=hint - o) (by omega) (by omega) h5
    case fin =>
      rintro c st' ⟨rfl,la,o,rfl,h1,h2,h3,h4⟩
      exact ⟨rfl,la,o,rfl,h2,h3,h4,.inl (by omega)⟩
    case step =>
      rintro x c st' _ hx ⟨rfl,la,o,rfl,h1,h2,h3,h4⟩
      dsimp only
      by_cases hge:o≥hint+1
      · rw [if_pos hge]
        exact wpS_pure ⟨rfl,la,o,rfl,h2,h3,h4,.inl hge⟩
      · rw [if_neg hge]
        obtain ⟨e3,e4⟩:=ha (hint - o) (by omega)
        refine wpS_bind (Zin K hk e3 e4 hkey ?_)
        dsimp only
        cases e5:bey r left key (at_ (hint - o)) with
        | true =>
          rw [if_pos rfl]
          exact wpS_pure ⟨rfl,la,o,rfl,h2,h3,h4,.inr ⟨by omega,e5⟩⟩
        | false =>
          rw [if_neg Bool.false_ne_true]
          exact wpS_pure ⟨rfl,_,_,rfl,by omega,by omega,by omega,e5⟩
end
section
variable {r:Keyed→Keyed→Bool}
def Up (r:Keyed→Keyed→Bool)(l:List Keyed):Prop:=l.Pairwise fun x y=>r y x=false
structure MI (r:Keyed→Keyed→Bool)(a b out:List Keyed)(ia ib:Nat):Prop where
 pm:out.Perm (a.take ia++b.take ib)
 so:Up r out
 le:∀x∈out,∀y,(y∈a.drop ia∨y∈b.drop ib)→r y x=false
variable {a b out:List Keyed}{ia ib:Nat}{x:Keyed}
theorem take_snoc {l:List Keyed}{i:Nat}{x:Keyed}(e:l[i]?=some x):l.take (i+1)=l.take i++[x]:=by
 rw [List.take_add_one,e]
 rfl
theorem Zfh {l:List Keyed}{i:Nat}{x:Keyed}(e:l[i]?=some x):l.drop i=x::l.drop (i+1):=by
 obtain ⟨h,rfl⟩:=List.getElem?_eq_some_iff.mp e
 exact drop_eq_getElem_cons h
theorem Up.drop {l:List Keyed}(h:Up r l)(i:Nat):Up r (l.drop i):=h.sublist (List.drop_sublist i l)
theorem MI.a1 (m:MI r a b out ia ib)(sa:Up r a)(e:a[ia]?=some x)(h:∀y∈b.drop ib,r y x=false):MI r a b (out++[x]) (ia+1) ib:=by
 have ed:=Zfh e
 have sd:=sa.drop ia
 rw [ed] at sd
 refine ⟨?_,List.pairwise_append.mpr ⟨m.so,pairwise_singleton _ _,fun z hz y hy=>?_⟩,fun z hz y hy=>?_⟩
 ·rw [take_snoc e]
  refine (m.pm.append_right [x]).trans ?_
  rw [append_assoc,append_assoc]
  exact List.Perm.append_left _ perm_append_comm
 ·rw [List.mem_singleton.mp hy]
  exact m.le z hz x (.inl (by rw [ed];exact .head _))
 ·rcases List.mem_append.mp hz with hz | hz
  ·exact m.le z hz y (hy.imp (fun q=>by rw [ed];exact .tail _ q) id)
  ·rw [List.mem_singleton.mp hz]
   rcases hy with hy | hy
   ·exact (List.pairwise_cons.mp sd).1 y hy
   ·exact h y hy
theorem MI.swap (m:MI r a b out ia ib):MI r b a out ib ia:=⟨m.pm.trans perm_append_comm,m.so,fun x hx y hy=>m.le x hx y hy.symm⟩
theorem MI.b1 (m:MI r a b out ia ib)(sb:Up r b)(e:b[ib]?=some x)(h:∀y∈a.drop ia,r y x=false):MI r a b (out++[x]) ia (ib+1):=(m.swap.a1 sb e h).swap
theorem MI.ak (m:MI r a b out ia ib)(sa:Up r a):∀(k:Nat),ia+k≤a.length→(∀i,i<k→∀z,a[ia+i]?=some z→∀y∈b.drop ib,r y z=false)→MI r a b (out++(a.drop ia).take k) (ia+k) ib
 | 0,_,_=>by rw [take_zero,append_nil];exact m
 | k+1,hl,h=>by
  have ih:=m.ak sa k (by omega) fun i hi=>h i (by omega)
  have e:a[ia+k]?=some a[ia+k]:=getElem?_eq_getElem (by omega)
  have e2:(a.drop ia)[k]?=some a[ia+k]:=by rw [getElem?_drop];exact e
  rw [take_snoc e2,← append_assoc]
  exact ih.a1 sa e (h k (by omega) _ e)
theorem MI.bk (m:MI r a b out ia ib)(sb:Up r b)(k:Nat)(hl:ib+k≤b.length)(h:∀i,i<k→∀z,b[ib+i]?=some z→∀y∈a.drop ia,r y z=false):MI r a b (out++(b.drop ib).take k) ia (ib+k):=(m.swap.ak sb k hl h).swap
theorem MI.endA (m:MI r a b out ia ib)(sa:Up r a)(sb:Up r b)(h:∀x∈b.drop ib,∀y∈a.drop ia,r y x=false):(out++b.drop ib++a.drop ia).Perm (a++b)∧Up r (out++b.drop ib++a.drop ia):=by
 constructor
 ·have h1:(out++b.drop ib++a.drop ia).Perm (a.take ia++b.take ib++b.drop ib++a.drop ia):=(m.pm.append_right _).append_right _
  refine h1.trans ?_
  rw [append_assoc (a.take ia),take_append_drop,append_assoc]
  refine (List.Perm.append_left _ perm_append_comm).trans ?_
  rw [← append_assoc,take_append_drop]
 ·refine List.pairwise_append.mpr ⟨List.pairwise_append.mpr ⟨m.so,sb.drop ib,fun x hx y hy=>m.le x hx y (.inr hy)⟩,sa.drop ia,fun x hx y hy=>?_⟩
  rcases List.mem_append.mp hx with hx | hx
  ·exact m.le x hx y (.inl hy)
  ·exact h x hx y hy
theorem MI.endB (m:MI r a b out ia ib)(sa:Up r a)(sb:Up r b)(h:∀x∈a.drop ia,∀y∈b.drop ib,r y x=false):(out++a.drop ia++b.drop ib).Perm (a++b)∧Up r (out++a.drop ia++b.drop ib):=
 (m.swap.endA sb sa h).imp (fun q=>q.trans perm_append_comm) id
structure MJ (r:Keyed→Keyed→Bool)(a b out:List Keyed)(na nb:Nat):Prop where
 pm:out.Perm (a.drop na++b.drop nb)
 so:Up r out
 le:∀x∈out,∀y,(y∈a.take na∨y∈b.take nb)→r x y=false
theorem Up.take {l:List Keyed}(h:Up r l)(i:Nat):Up r (l.take i):=h.sublist (List.take_sublist i l)
theorem MJ.swap {na nb:Nat}(m:MJ r a b out na nb):MJ r b a out nb na:=⟨m.pm.trans perm_append_comm,m.so,fun x hx y hy=>m.le x hx y hy.symm⟩
theorem MJ.a1 {na nb:Nat}(m:MJ r a b out (na+1) nb)(sa:Up r a)(e:a[na]?=some x)(h:∀y∈b.take nb,r x y=false):MJ r a b (x::out) na nb:=by
 have et:=take_snoc e
 have st:=sa.take (na+1)
 rw [et] at st
 refine ⟨?_,List.pairwise_cons.mpr ⟨fun y hy=>m.le y hy x (.inl (by rw [et];exact mem_append_right _ (.head _))),m.so⟩,fun z hz y hy=>?_⟩
 ·rw [Zfh e]
  exact m.pm.cons x
 ·rcases List.mem_cons.mp hz with rfl | hz
  ·rcases hy with hy | hy
   ·exact (List.pairwise_append.mp st).2.2 y hy z (.head _)
   ·exact h y hy
  ·exact m.le z hz y (hy.imp (fun q=>by rw [et];exact mem_append_left _ q) id)
theorem MJ.b1 {na nb:Nat}(m:MJ r a b out na (nb+1))(sb:Up r b)(e:b[nb]?=some x)(h:∀y∈a.take na,r x y=false):MJ r a b (x::out) na nb:=(m.swap.a1 sb e h).swap
theorem MJ.ak {na nb:Nat}(m:MJ r a b out na nb)(sa:Up r a)(hna:na≤a.length):∀(k:Nat),k≤na→(∀i,na - k≤i→i<na→∀z,a[i]?=some z→∀y∈b.take nb,r z y=false)→MJ r a b ((a.drop (na - k)).take k++out) (na - k) nb
 | 0,_,_=>by rw [take_zero];exact m
 | k+1,hl,h=>by
  have ih:=m.ak sa hna k (by omega) fun i hi=>h i (by omega)
  have e:a[na - (k+1)]?=some a[na - (k+1)]:=getElem?_eq_getElem (by omega)
  rw [Zfh e,List.take_succ_cons,List.cons_append,show na - (k+1)+1=na - k by omega]
  rw [show na - k=na - (k+1)+1 by omega] at ih
  have:=ih.a1 sa e (h _ (le_refl _) (by omega) _ e)
  rw [show na - (k+1)+1=na - k by omega] at this
  exact this
theorem MJ.bk {na nb:Nat}(m:MJ r a b out na nb)(sb:Up r b)(hnb:nb≤b.length)(k:Nat)(hl:k≤nb)(h:∀i,nb - k≤i→i<nb→∀z,b[i]?=some z→∀y∈a.take na,r z y=false):MJ r a b ((b.drop (nb - k)).take k++out) na (nb - k):=(m.swap.ak sb hnb k hl h).swap
theorem MJ.endA {na nb:Nat}(m:MJ r a b out na nb)(sa:Up r a)(sb:Up r b)(h:∀x∈a.take na,∀y∈b.take nb,r y x=false):(a.take na++b.take nb++out).Perm (a++b)∧Up r (a.take na++b.take nb++out):=by
 constructor
 ·refine (m.pm.append_left _).trans ?_
  rw [append_assoc]
  refine (List.Perm.append_left _ (List.perm_append_comm_assoc _ _ _)).trans ?_
  rw [take_append_drop,← append_assoc,take_append_drop]
 ·refine List.pairwise_append.mpr ⟨List.pairwise_append.mpr ⟨sa.take na,sb.take nb,h⟩,m.so,fun x hx y hy=>?_⟩
  rcases List.mem_append.mp hx with hx | hx
  ·exact m.le y hy x (.inl hx)
  ·exact m.le y hy x (.inr hx)
theorem MJ.endB {na nb:Nat}(m:MJ r a b out na nb)(sa:Up r a)(sb:Up r b)(h:∀x∈b.take nb,∀y∈a.take na,r y x=false):(b.take nb++a.take na++out).Perm (a++b)∧Up r (b.take nb++a.take na++out):=
 (m.swap.endA sb sa h).imp (fun q=>q.trans perm_append_comm) id
end
structure SG (st st':SortSt):Prop where
 k:kindOf st'=kindOf st
 a:arrOf st'=arrOf st
 p:pendingOf st'=pendingOf st
 f:failedOf st'=failedOf st
theorem SG.refl (st:SortSt):SG st st:=⟨rfl,rfl,rfl,rfl⟩
theorem SG.trans {st st1 st2:SortSt}(g:SG st st1)(h:SG st1 st2):SG st st2:=⟨h.k.trans g.k,h.a.trans g.a,h.p.trans g.p,h.f.trans g.f⟩
theorem Zhb (a:Array Keyed)(i:Nat):(a.extract i a.size).toList=a.toList.drop i:=by
 rw [Array.toList_extract,List.extract_eq_take_drop]
 exact take_of_length_le (by simp)
theorem Zog (a:Array Keyed)(i k:Nat):(a.extract i (i+k)).toList=(a.toList.drop i).take k:=by simp [List.extract_eq_take_drop]
section
variable {prog:Program}{w:World}{A:Around}{E:Value→Shared→Prop}{s:Shared}{κ:SortKind}{P:Keyed→Prop}{r:Keyed→Keyed→Bool}{st:SortSt}
theorem Ask.ir {x:Keyed}(K:Ask prog w A s κ P r)(hx:P x):r x x=false:=by
 cases e:r x x with
 | false=>rfl
 | true=>rw [K.as hx hx e] at e;cases e
theorem Zde {g:Nat}{Q:Unit→SortSt→Prop}(h:∀st',SG st st'→Q () st'):wpS (model prog w) A E s (Xhl g) Q st:=wpS_modify (h _ ⟨rfl,rfl,rfl,rfl⟩)
theorem Zki (K:Ask prog w A s κ P r){l:List Keyed}(hl:∀x∈l,P x)(h:Up r l){i j:Nat}{x y:Keyed}(hij:i≤j)(e1:l[i]?=some x)(e2:l[j]?=some y):r y x=false:=by
 obtain ⟨h1,rfl⟩:=List.getElem?_eq_some_iff.mp e1
 obtain ⟨h2,rfl⟩:=List.getElem?_eq_some_iff.mp e2
 rcases Nat.eq_or_lt_of_le hij with e | hlt
 ·subst e
  exact K.ir (hl _ (getElem_mem h1))
 ·exact List.pairwise_iff_getElem.mp h i j h1 h2 hlt
theorem Zfm {left:Bool}{key:Keyed}{a:Array Keyed}{base n hint:Nat}{Q:Option Nat→SortSt→Prop}(K:Ask prog w A s κ P r)(hk:kindOf st=κ)(hP:∀x∈a.toList,P x)(hkey:P key)(hb:base+n≤a.size)
  (hs:∀i j x y,i≤j→j<n→a.toList[base+i]?=some x→a.toList[base+j]?=some y→r y x=false) (hh:hint<n)
  (h:∀k,k≤n→(∀i x,i<k→a.toList[base+i]?=some x→bey r left key x=true)→(∀i x,k≤i→i<n→a.toList[base+i]?=some x→bey r left key x=false)→Q (some k) st):wpS (model prog w) A E s (Zwd left key a base n hint) Q st:=by
 have at_:∀i,i<n→a.toList[base+i]?=some (a.toList.getD (base+i) key):=fun i hi=>by
  have hl:base+i<a.toList.length:=by rw [length_toList];omega
  rw [getD_eq_getElem?_getD,getElem?_eq_getElem hl]
  rfl
 refine Ztq (at_:=fun i=>a.toList.getD (base+i) key) K hk hkey (fun i hi=>⟨by rw [← getElem?_toList];exact at_ i hi,hP _ (mem_of_getElem? (at_ i hi))⟩) (fun i j hij hj=>hs i j _ _ hij hj (at_ i (by omega)) (at_ j hj)) hh fun k h1 h2 h3=>?_
 refine h k h1 (fun i x hi e=>?_) (fun i x h4 h5 e=>?_)
 ·have:=h2 i hi
  rw [at_ i (by omega)] at e
  cases e
  exact this
 ·have:=h3 i h4 h5
  rw [at_ i h5] at e
  cases e
  exact this
theorem Zxl (K:Ask prog w A s κ P r){l:List Keyed}(hl:∀x∈l,P x)(h:Up r l){i:Nat}{x y:Keyed}(e:l[i]?=some x)(hy:y∈l.drop i):r y x=false:=by
 obtain ⟨j,hj⟩:=List.mem_iff_getElem?.mp hy
 rw [getElem?_drop] at hj
 exact Zki K hl h (le_add_right _ _) e hj
theorem Xh {α:Type}{c:Prop}[Decidable c]{x y:StateT SortSt Sem α}{Q:α→SortSt→Prop}(h1:c→wpS (model prog w) A E s x Q st)(h2:¬c→wpS (model prog w) A E s y Q st):wpS (model prog w) A E s (if c then x else y) Q st:=by
 by_cases h:c
 ·rw [if_pos h]
  exact h1 h
 ·rw [if_neg h]
  exact h2 h
theorem Znr {m n:Nat}(h:¬(m==n)=true):m≠n:=fun z=>h (by rw [z];exact beq_self_eq_true _)
noncomputable def StQ {β:Type}(good:Array Keyed→Prop)(inv:Array Keyed→Nat→Nat→Prop):ForInStep (Option (Array Keyed)×Array Keyed×Nat×Nat×β)→Prop
 | .done (some res,_)=>good res
 | .done (none,out,ia,ib,_)=>inv out ia ib
 | .yield (some _,_)=>False
 | .yield (none,out,ia,ib,_)=>inv out ia ib
noncomputable def EndQ {β:Type}(good:Array Keyed→Prop)(inv:Array Keyed→Nat→Nat→Prop):Option (Array Keyed)×Array Keyed×Nat×Nat×β→Prop
 | (some res,_)=>good res
 | (none,out,ia,ib,_)=>inv out ia ib
theorem Zow {a b:Array Keyed}{b0:Keyed}{Q:Array Keyed→SortSt→Prop}(K:Ask prog w A s κ P r)(hk:kindOf st=κ)(pa:∀x∈a.toList,P x)(pb:∀x∈b.toList,P x)(sa:Up r a.toList)(sb:Up r b.toList)(na:1≤a.size)(eb0:b[0]?=some b0)
  (h0:∀x∈a.toList,r x b0=false) (hl:∀x,a.toList[a.size - 1]?=some x→∀y∈b.toList,r x y=false)
  (h:∀out st',out.toList.Perm (a.toList++b.toList)→Up r out.toList→SG st st'→Q out st'):wpS (model prog w) A E s (Xaf a b) Q st:=by
 have la:=a.length_toList
 have lb:=b.length_toList
 have eb0':b.toList[0]?=some b0:=by rw [getElem?_toList];exact eb0
 have nb:1≤b.size:=(Array.getElem?_eq_some_iff.mp eb0).1
 let good:Array Keyed→Prop:=fun out=>out.toList.Perm (a.toList++b.toList)∧Up r out.toList
 let mi:Array Keyed→Nat→Nat→Prop:=fun out ia ib=>MI r a.toList b.toList out.toList ia ib
 have gB:∀{out ia ib},mi out ia ib→(a.size≤ia∨b.size≤ib)→good (out++a.extract ia a.size++b.extract ib b.size):=fun {out ia ib} m q=>by
  show (out++a.extract ia a.size++b.extract ib b.size).toList.Perm _∧Up r (out++a.extract ia a.size++b.extract ib b.size).toList
  rw [toList_append,toList_append,Zhb,Zhb]
  refine MI.endB m sa sb fun x hx y hy=>?_
  rcases q with q | q
  ·rw [drop_eq_nil_of_le (by omega)] at hx
   cases hx
  ·rw [drop_eq_nil_of_le (by omega)] at hy
   cases hy
 have gA:∀{out ia ib},mi out ia ib→ia+1=a.size→good (out++b.extract ib b.size++a.extract ia a.size):=fun {out ia ib} m q=>by
  show (out++b.extract ib b.size++a.extract ia a.size).toList.Perm _∧Up r (out++b.extract ib b.size++a.extract ia a.size).toList
  rw [toList_append,toList_append,Zhb,Zhb]
  have e:a.toList[ia]?=some a.toList[ia]:=getElem?_eq_getElem (by omega)
  refine MI.endA m sa sb fun x hx y hy=>?_
  rw [Zfh e,drop_eq_nil_of_le (by omega)] at hy
  rw [List.mem_singleton.mp hy]
  exact hl _ (by rw [show a.size - 1=ia by omega];exact e) x (mem_of_mem_drop hx)
 have m0:mi #[b0] 0 1:=by
  refine ⟨?_,pairwise_singleton _ _,fun x hx y hy=>?_⟩
  ·rw [take_zero,List.nil_append,take_snoc eb0',take_zero]
   exact List.Perm.refl _
  ·have e:x=b0:=List.mem_singleton.mp hx
   subst e
   rcases hy with hy | hy
   ·exact h0 y hy
   ·obtain ⟨i,hi⟩:=List.mem_iff_getElem?.mp hy
    rw [getElem?_drop] at hi
    exact Zki K pb sb (zero_le _) eb0' hi
 have pushA:∀{out ia ib x},mi out ia ib→a.toList[ia]?=some x→(∀y∈b.toList.drop ib,r y x=false)→mi (out.push x) (ia+1) ib:=fun {out ia ib x} m e q=>by
  show MI r a.toList b.toList (out.push x).toList (ia+1) ib
  rw [toList_push]
  exact MI.a1 m sa e q
 have pushB:∀{out ia ib x},mi out ia ib→b.toList[ib]?=some x→(∀y∈a.toList.drop ia,r y x=false)→mi (out.push x) ia (ib+1):=fun {out ia ib x} m e q=>by
  show MI r a.toList b.toList (out.push x).toList ia (ib+1)
  rw [toList_push]
  exact MI.b1 m sb e q
 have atA:∀i,i<a.size→∃x,a.toList[i]?=some x∧a[i]?=some x∧P x:=fun i hi=>⟨a[i],by rw [getElem?_toList];exact Array.getElem?_eq_getElem hi,Array.getElem?_eq_getElem hi,pa _ (by simp)⟩
 have atB:∀i,i<b.size→∃x,b.toList[i]?=some x∧b[i]?=some x∧P x:=fun i hi=>⟨b[i],by rw [getElem?_toList];exact Array.getElem?_eq_getElem hi,Array.getElem?_eq_getElem hi,pb _ (by simp)⟩
 refine wpS_bind (wpS_lift (wpAny_rule ⟨rfl,?_⟩))
 refine wpS_bind (Xs eb0 ?_)
 extract_lets o0 i0 j0
 by_cases c1:(j0==b.size)=true
 ·rw [if_pos c1]
  have q:=gB m0 (.inr (by have:1=b.size:=eq_of_beq c1;omega))
  exact wpS_pure (h _ _ q.1 q.2 (SG.refl _))
 rw [if_neg c1]
 by_cases c2:(i0+1==a.size)=true
 ·rw [if_pos c2]
  have q:=gA m0 (show 0+1=a.size from eq_of_beq c2)
  exact wpS_pure (h _ _ q.1 q.2 (SG.refl _))
 rw [if_neg c2]
 have c1':¬1=b.size:=fun z=>c1 (by show (1==b.size)=true;rw [← z];rfl)
 have c2':¬1=a.size:=fun z=>c2 (by show (0+1==a.size)=true;rw [← z];rfl)
 refine wpS_bind (wpS_get ?_)
 let inv:Nat→Array Keyed→Nat→Nat→Prop:=fun n out ia ib=>mi out ia ib∧ia+1<a.size∧ib<b.size∧n≤ia+ib
 refine wpS_bind (wpS_mono (wpS_forRange (I:=fun x c st'=>SG st st'∧c.1=none∧inv (x+1) c.2.1 c.2.2.1 c.2.2.2.1) (Q:=fun c st'=>SG st st'∧EndQ good (fun _ _ _=>False) c) ?step ?fin ⟨SG.refl _,rfl,m0,by show 0+1<_;omega,by show 1<_;omega,by show 0+1≤0+1;omega⟩) ?post)
 case post =>
  rintro ⟨rr,out,ia,ib,g⟩ st' ⟨sg,q⟩
  cases rr with
  | none=>exact q.elim
  | some res=>exact wpS_pure (h _ _ q.1 q.2 sg)
 case fin =>
  rintro ⟨rr,out,ia,ib,g⟩ st' ⟨sg,e,m,q1,q2,q3⟩
  have e:rr=none:=e
  subst e
  exfalso
  have q1:ia+1<a.size:=q1
  have q2:ib<b.size:=q2
  have q3:max 0 (a.size+b.size)+1≤ia+ib:=q3
  omega
 case step =>
  rintro x ⟨rr,out,ia,ib,g⟩ st' _ hx ⟨sg,e,m,q1,q2,q3⟩
  have e:rr=none:=e
  subst e
  have m:mi out ia ib:=m
  have q1:ia+1<a.size:=q1
  have q2:ib<b.size:=q2
  have q3:x+1≤ia+ib:=q3
  refine wpS_bind (wpS_mono (wpS_forRange (I:=fun y c st''=>st''=st'∧c.1=none∧inv (x+1+y) c.2.1 c.2.2.1 c.2.2.2.1) (Q:=fun c st''=>st''=st'∧EndQ good (inv (x+2)) c) ?s1 ?f1 ⟨rfl,rfl,m,q1,q2,q3⟩) ?p1)
  case f1 =>
   rintro ⟨rr,out,ia,ib,g⟩ st'' ⟨e1,e,m,q1,q2,q3⟩
   have e:rr=none:=e
   subst e
   exact ⟨e1,m,q1,q2,le_trans (by omega) q3⟩
  case s1 =>
   rintro y ⟨rr,out,ia,ib,ac,bc⟩ st'' _ hy ⟨e1,e,m,q1,q2,q3⟩
   have e:rr=none:=e
   subst e e1
   have m:mi out ia ib:=m
   have q1:ia+1<a.size:=q1
   have q2:ib<b.size:=q2
   have q3:x+1+y≤ia+ib:=q3
   obtain ⟨xa,ea',ea,ha⟩:=atA ia (by omega)
   obtain ⟨xb,eb',eb,hb⟩:=atB ib q2
   refine wpS_bind (Xs eb ?_)
   refine wpS_bind (Xs ea ?_)
   refine wpS_bind (Znf K (sg.k.trans hk) hb ha ?_)
   dsimp only
   cases er:r xb xa with
   | true =>
    have m':=pushB m eb' (fun z hz=>K.tr hb ha (pa z (mem_of_mem_drop hz)) (K.as hb ha er) (Zxl K pa sa ea' hz))
    rw [if_pos rfl]
    refine wpS_bind (Xs eb ?_)
    by_cases c3:(ib+1==b.size)=true
    ·rw [if_pos c3]
     exact wpS_pure ⟨rfl,gB m' (.inr (le_of_eq (eq_of_beq c3).symm))⟩
    ·rw [if_neg c3]
     have c3':ib+1<b.size:=by
      have:¬ib+1=b.size:=fun z=>c3 (by rw [z];exact beq_self_eq_true _)
      omega
     by_cases c4:bc+1≥g
     ·rw [if_pos c4]
      exact wpS_pure ⟨rfl,m',q1,c3',by show x+2≤ia+(ib+1);omega⟩
     ·rw [if_neg c4]
      exact wpS_pure ⟨rfl,rfl,m',q1,c3',by show x+1+(y+1)≤ia+(ib+1);omega⟩
   | false =>
    have m':=pushA m ea' (fun z hz=>K.tr ha hb (pb z (mem_of_mem_drop hz)) er (Zxl K pb sb eb' hz))
    rw [if_neg Bool.false_ne_true]
    refine wpS_bind (Xs ea ?_)
    by_cases c3:(ia+1+1==a.size)=true
    ·rw [if_pos c3]
     exact wpS_pure ⟨rfl,gA m' (eq_of_beq c3)⟩
    ·rw [if_neg c3]
     have c3':ia+1+1<a.size:=by
      have:¬ia+1+1=a.size:=fun z=>c3 (by rw [z];exact beq_self_eq_true _)
      omega
     by_cases c4:ac+1≥g
     ·rw [if_pos c4]
      exact wpS_pure ⟨rfl,m',c3',q2,by show x+2≤ia+1+ib;omega⟩
     ·rw [if_neg c4]
      exact wpS_pure ⟨rfl,rfl,m',c3',q2,by show x+1+(y+1)≤ia+1+ib;omega⟩
  case p1 =>
   rintro ⟨rr,out,ia,ib,ac,bc⟩ st'' ⟨e1,q⟩
   subst e1
   cases rr with
   | some res=>exact wpS_pure ⟨sg,q⟩
   | none =>
    obtain ⟨m,q1,q2,q3⟩:=(show inv (x+2) out ia ib from q)
    refine wpS_bind (wpS_lift (wpAny_rule ⟨rfl,?_⟩))
    refine wpS_bind (wpS_mono (wpS_forRange (I:=fun y c st3=>SG st st3∧c.1=none∧inv (x+2) c.2.1 c.2.2.1 c.2.2.2.1) (Q:=fun c st3=>SG st st3∧EndQ good (inv (x+2)) c) ?s2 ?f2 ⟨sg,rfl,m,q1,q2,q3⟩) ?p2)
    case f2 =>
     rintro ⟨rr,out,ia,ib,g⟩ st3 ⟨sg3,e,q⟩
     have e:rr=none:=e
     subst e
     exact ⟨sg3,q⟩
    case p2 =>
     rintro ⟨rr,out,ia,ib,g,ac,bc⟩ st3 ⟨sg3,q⟩
     cases rr with
     | some res=>exact wpS_pure ⟨sg3,q⟩
     | none=>exact wpS_bind (Zde fun st4 sg4=>wpS_pure ⟨sg3.trans sg4,rfl,q⟩)
    case s2 =>
     rintro y ⟨rr,out,ia,ib,g,ac,bc⟩ st3 _ hy ⟨sg3,e,m,q1,q2,q3⟩
     have e:rr=none:=e
     subst e
     have m:mi out ia ib:=m
     have q1:ia+1<a.size:=q1
     have q2:ib<b.size:=q2
     have q3:x+2≤ia+ib:=q3
     obtain ⟨xb,eb',eb,hb⟩:=atB ib q2
     refine wpS_mono (Q:=fun rr st4=>SG st st4∧StQ good (inv (x+2)) rr) ?_ (fun rr st4 q=>?_)
     rotate_left
     ·cases rr with
      | done c =>
       obtain ⟨r0,c⟩:=c
       cases r0<;>exact q
      | yield c =>
       obtain ⟨r0,c⟩:=c
       cases r0 with
       | some _=>exact q.2.elim
       | none=>exact ⟨q.1,rfl,q.2⟩
     extract_lets v1 v2 v3 v4 v5 v6 v7 v8 v9 v10 v11 jb jp
     have hj:∀g',wpS (model prog w) A E s (jp () g') (fun rr st4=>SG st st4∧StQ good (inv (x+2)) rr) st3:=fun g'=>by
      refine wpS_bind (Zde fun st4 sg4=>?_)
      refine wpS_bind (Xs eb ?_)
      refine wpS_bind (Zfm K ((sg3.trans sg4).k.trans hk) pa hb (base:=ia) (n:=a.size - ia) (by omega) (fun i j x y hij _ e1 e2=>Zki K pa sa (by omega) e1 e2) (by omega) fun k k1 k2 k3=>?_)
      dsimp -zeta -zetaHave only
      extract_lets ac2 jp2 o2 i2
      have hj2:∀out' ia',mi out' ia' ib→ia'+1<a.size→ia≤ia'→(∀y∈a.toList.drop ia',r y xb=false)→wpS (model prog w) A E s (jp2 () out' ia') (fun rr st4=>SG st st4∧StQ good (inv (x+2)) rr) st4:=fun out' ia' m' g1 g2 g3=>by
       have m2:=pushB m' eb' g3
       refine wpS_bind (Xs eb ?_)
       refine Xh (fun c5=>?_) (fun c5=>?_)
       ·exact wpS_pure ⟨sg3.trans sg4,gB m2 (.inr (le_of_eq (eq_of_beq c5).symm))⟩
       ·have c5':ib+1≠b.size:=Znr c5
        obtain ⟨xa,ea',ea,ha⟩:=atA ia' (by omega)
        refine wpS_bind (Xs ea ?_)
        refine wpS_bind (Zfm K ((sg3.trans sg4).k.trans hk) pb ha (base:=ib+1) (n:=b.size - (ib+1)) (by omega) (fun i j x y hij _ e1 e2=>Zki K pb sb (by omega) e1 e2) (by omega) fun k' k1' k2' k3'=>?_)
        dsimp -zeta -zetaHave only
        extract_lets bc2 i4 jp3 o3 i3
        have hj3:∀out'' ib'',mi out'' ia' ib''→ib''<b.size→ib+1≤ib''→(∀y∈b.toList.drop ib'',r y xa=false)→wpS (model prog w) A E s (jp3 () out'' ib'') (fun rr st4=>SG st st4∧StQ good (inv (x+2)) rr) st4:=fun out'' ib'' m'' f1 f2 f3=>by
         have m3:=pushA m'' ea' f3
         refine wpS_bind (Xs ea ?_)
         refine Xh (fun c6=>?_) (fun c6=>?_)
         ·exact wpS_pure ⟨sg3.trans sg4,gA m3 (eq_of_beq c6)⟩
         ·have c6':ia'+1+1≠a.size:=Znr c6
          have iv:inv (x+2) (out''.push xa) (ia'+1) ib'':=⟨m3,by omega,f1,by omega⟩
          exact Xh (fun _=>wpS_pure ⟨sg3.trans sg4,iv⟩) (fun _=>wpS_pure ⟨sg3.trans sg4,iv⟩)
        have rest:∀k0,k'≤k0→∀y∈b.toList.drop (ib+1+k0),r y xa=false:=fun k0 hk0 y hy=>by
         obtain ⟨j,hj⟩:=List.mem_iff_getElem?.mp hy
         rw [getElem?_drop] at hj
         have hjl:=(List.getElem?_eq_some_iff.mp hj).1
         have:=k3' (k0+j) y (by omega) (by omega) (by rw [← add_assoc];exact hj)
         exact this
        refine Xh (fun c6=>?_) (fun c6=>?_)
        ·have m3:mi (out'.push xb++b.extract (ib+1) (ib+1+k')) ia' (ib+1+k'):=by
          show MI r _ _ (out'.push xb++b.extract (ib+1) (ib+1+k')).toList ia' (ib+1+k')
          rw [toList_append,Zog]
          refine MI.bk m2 sb k' (by omega) fun i hi z hz y hy=>?_
          have hb1:r z xa=true:=k2' i z hi hz
          have pz:=pb z (mem_of_getElem? hz)
          exact K.tr pz ha (pa y (mem_of_mem_drop hy)) (K.as pz ha hb1) (Zxl K pa sa ea' hy)
         refine Xh (fun c7=>?_) (fun c7=>?_)
         ·exact wpS_pure ⟨sg3.trans sg4,gB m3 (.inr (le_of_eq (eq_of_beq c7).symm))⟩
         ·have c7':ib+1+k'≠b.size:=Znr c7
          exact hj3 (out'.push xb++b.extract (ib+1) (ib+1+k')) (ib+1+k') m3 (by omega) (by omega) (rest k' (le_refl _))
        ·have:k'=0:=by omega
         exact hj3 (out'.push xb) (ib+1) m2 (by omega) (le_refl _) (fun y hy=>rest 0 (by omega) y hy)
      have rest:∀k0,k≤k0→∀y∈a.toList.drop (ia+k0),r y xb=false:=fun k0 hk0 y hy=>by
       obtain ⟨j,hj⟩:=List.mem_iff_getElem?.mp hy
       rw [getElem?_drop] at hj
       have hjl:=(List.getElem?_eq_some_iff.mp hj).1
       have q:bey r false xb y=false:=k3 (k0+j) y (by omega) (by omega) (by rw [← add_assoc];exact hj)
       have q:r xb y=true:=by simpa [bey] using q
       exact K.as hb (pa y (mem_of_getElem? hj)) q
      refine Xh (fun c6=>?_) (fun c6=>?_)
      ·have m3:mi (out++a.extract ia (ia+k)) (ia+k) ib:=by
        show MI r _ _ (out++a.extract ia (ia+k)).toList (ia+k) ib
        rw [toList_append,Zog]
        refine MI.ak m sa k (by omega) fun i hi z hz y hy=>?_
        have q:bey r false xb z=true:=k2 i z hi hz
        have q:r xb z=false:=by simpa [bey] using q
        exact K.tr (pa z (mem_of_getElem? hz)) hb (pb y (mem_of_mem_drop hy)) q (Zxl K pb sb eb' hy)
       refine Xh (fun c7=>?_) (fun c7=>?_)
       ·exact wpS_pure ⟨sg3.trans sg4,gA m3 (eq_of_beq c7)⟩
       ·refine Xh (fun c8=>?_) (fun c8=>?_)
        ·exact wpS_pure ⟨sg3.trans sg4,gB m3 (.inl (le_of_eq (eq_of_beq c8).symm))⟩
        ·have c7':ia+k+1≠a.size:=Znr c7
         have c8':ia+k≠a.size:=Znr c8
         exact hj2 (out++a.extract ia (ia+k)) (ia+k) m3 (by omega) (by omega) (rest k (le_refl _))
      ·exact hj2 out ia m q1 (le_refl _) (fun y hy=>rest 0 (by omega) y hy)
     exact Xh (fun _=>hj _) (fun _=>hj _)
end
theorem Zhd (a:Array Keyed)(i:Nat):(a.extract 0 i).toList=a.toList.take i:=by simp [List.extract_eq_take_drop]
theorem Zwl (a:Array Keyed)(i j:Nat):(a.extract i j).toList=(a.toList.drop i).take (j - i):=by simp [List.extract_eq_take_drop]
section
variable {prog:Program}{w:World}{A:Around}{E:Value→Shared→Prop}{s:Shared}{κ:SortKind}{P:Keyed→Prop}{r:Keyed→Keyed→Bool}{st:SortSt}
theorem Zwn (K:Ask prog w A s κ P r){l:List Keyed}(hl:∀x∈l,P x)(h:Up r l){i:Nat}{x y:Keyed}(e:l[i]?=some x)(hy:y∈l.take (i+1)):r x y=false:=by
 obtain ⟨j,hj⟩:=List.mem_iff_getElem?.mp hy
 have hlt:=(List.getElem?_eq_some_iff.mp hj).1
 rw [length_take] at hlt
 rw [getElem?_take,if_pos (by omega)] at hj
 exact Zki K hl h (show j≤i by omega) hj e
theorem Zcc {l:List Keyed}{k:Nat}{y:Keyed}(hy:y∈l.take k):∃j,j<k∧l[j]?=some y:=by
 obtain ⟨j,hj⟩:=List.mem_iff_getElem?.mp hy
 have hlt:=(List.getElem?_eq_some_iff.mp hj).1
 rw [length_take] at hlt
 rw [getElem?_take,if_pos (by omega)] at hj
 exact ⟨j,by omega,hj⟩
noncomputable def StR {β:Type}(good:Array Keyed→Prop)(inv:Array Keyed→Nat→Nat→Prop):ForInStep (Option (Array Keyed)×Nat×Nat×Array Keyed×β)→Prop
 | .done (some res,_)=>good res
 | .done (none,na,nb,out,_)=>inv out na nb
 | .yield (some _,_)=>False
 | .yield (none,na,nb,out,_)=>inv out na nb
noncomputable def EndR {β:Type}(good:Array Keyed→Prop)(inv:Array Keyed→Nat→Nat→Prop):Option (Array Keyed)×Nat×Nat×Array Keyed×β→Prop
 | (some res,_)=>good res
 | (none,na,nb,out,_)=>inv out na nb
theorem Zoj {a b:Array Keyed}{b0 al:Keyed}{Q:Array Keyed→SortSt→Prop}(K:Ask prog w A s κ P r)(hk:kindOf st=κ)(pa:∀x∈a.toList,P x)(pb:∀x∈b.toList,P x)(sa:Up r a.toList)(sb:Up r b.toList)(na0:1≤a.size)(eb0:b[0]?=some b0)
  (h0:∀x∈a.toList,r x b0=false) (el:a[a.size - 1]?=some al) (hl:∀y∈b.toList,r al y=false)
  (h:∀out st',out.toList.Perm (a.toList++b.toList)→Up r out.toList→SG st st'→Q out st'):wpS (model prog w) A E s (Xco a b) Q st:=by
 have la:=a.length_toList
 have lb:=b.length_toList
 have eb0':b.toList[0]?=some b0:=by rw [getElem?_toList];exact eb0
 have el':a.toList[a.size - 1]?=some al:=by rw [getElem?_toList];exact el
 have nb0:1≤b.size:=(Array.getElem?_eq_some_iff.mp eb0).1
 let good:Array Keyed→Prop:=fun out=>out.toList.Perm (a.toList++b.toList)∧Up r out.toList
 let mj:Array Keyed→Nat→Nat→Prop:=fun out na nb=>MJ r a.toList b.toList out.toList.reverse na nb
 have gA:∀{out na nb},mj out na nb→(na=0∨nb=0)→good (a.extract 0 na++b.extract 0 nb++out.reverse):=fun {out na nb} m q=>by
  show (a.extract 0 na++b.extract 0 nb++out.reverse).toList.Perm _∧Up r (a.extract 0 na++b.extract 0 nb++out.reverse).toList
  rw [toList_append,toList_append,Zhd,Zhd,toList_reverse]
  refine MJ.endA m sa sb fun x hx y hy=>?_
  rcases q with q | q
  ·rw [q] at hx
   cases hx
  ·rw [q] at hy
   cases hy
 have gB:∀{out na nb},mj out na nb→nb=1→good (b.extract 0 nb++a.extract 0 na++out.reverse):=fun {out na nb} m q=>by
  show (b.extract 0 nb++a.extract 0 na++out.reverse).toList.Perm _∧Up r (b.extract 0 nb++a.extract 0 na++out.reverse).toList
  rw [toList_append,toList_append,Zhd,Zhd,toList_reverse]
  refine MJ.endB m sa sb fun x hx y hy=>?_
  rw [q,take_snoc eb0',take_zero] at hx
  rw [List.mem_singleton.mp hx]
  exact h0 y (mem_of_mem_take hy)
 have pushA:∀{out na nb x},mj out (na+1) nb→a.toList[na]?=some x→(∀y∈b.toList.take nb,r x y=false)→mj (out.push x) na nb:=fun {out na nb x} m e q=>by
  show MJ r a.toList b.toList (out.push x).toList.reverse na nb
  rw [toList_push,reverse_append]
  exact MJ.a1 m sa e q
 have pushB:∀{out na nb x},mj out na (nb+1)→b.toList[nb]?=some x→(∀y∈a.toList.take na,r x y=false)→mj (out.push x) na nb:=fun {out na nb x} m e q=>by
  show MJ r a.toList b.toList (out.push x).toList.reverse na nb
  rw [toList_push,reverse_append]
  exact MJ.b1 m sb e q
 have atA:∀i,i<a.size→∃x,a.toList[i]?=some x∧a[i]?=some x∧P x:=fun i hi=>⟨a[i],by rw [getElem?_toList];exact Array.getElem?_eq_getElem hi,Array.getElem?_eq_getElem hi,pa _ (by simp)⟩
 have atB:∀i,i<b.size→∃x,b.toList[i]?=some x∧b[i]?=some x∧P x:=fun i hi=>⟨b[i],by rw [getElem?_toList];exact Array.getElem?_eq_getElem hi,Array.getElem?_eq_getElem hi,pb _ (by simp)⟩
 have m0:mj #[al] (a.size - 1) b.size:=by
  have m:MJ r a.toList b.toList [] (a.size - 1+1) b.size:=⟨by rw [drop_eq_nil_of_le (by omega),drop_eq_nil_of_le (by omega)];exact List.Perm.refl _,List.Pairwise.nil,fun _ hx=>nomatch hx⟩
  exact pushA (out:=#[]) m el' fun y hy=>hl y (mem_of_mem_take hy)
 refine wpS_bind (wpS_lift (wpAny_rule ⟨rfl,?_⟩))
 refine wpS_bind (Xs el ?_)
 extract_lets o0
 refine Xh (fun c1=>?_) (fun c1=>?_)
 ·have q:=gA m0 (.inl (eq_of_beq c1))
  exact wpS_pure (h _ _ q.1 q.2 (SG.refl _))
 have c1':a.size - 1≠0:=Znr c1
 refine Xh (fun c2=>?_) (fun c2=>?_)
 ·have q:=gB m0 (eq_of_beq c2)
  exact wpS_pure (h _ _ q.1 q.2 (SG.refl _))
 have c2':b.size≠1:=Znr c2
 refine wpS_bind (wpS_get ?_)
 let inv:Nat→Array Keyed→Nat→Nat→Prop:=fun n out na nb=>mj out na nb∧1≤na∧2≤nb∧na+nb+n≤a.size+b.size∧na≤a.size∧nb≤b.size
 refine wpS_bind (wpS_mono (wpS_forRange (I:=fun x c st'=>SG st st'∧c.1=none∧inv (x+1) c.2.2.2.1 c.2.1 c.2.2.1) (Q:=fun c st'=>SG st st'∧EndR good (fun _ _ _=>False) c) ?step ?fin ⟨SG.refl _,rfl,m0,by show 1≤a.size - 1;omega,by show 2≤b.size;omega,by show a.size - 1+b.size+(0+1)≤a.size+b.size;omega,Nat.sub_le _ _,le_refl _⟩) ?post)
 case post =>
  rintro ⟨rr,na,nb,out,g⟩ st' ⟨sg,q⟩
  cases rr with
  | none=>exact q.elim
  | some res=>exact wpS_pure (h _ _ q.1 q.2 sg)
 case fin =>
  rintro ⟨rr,na,nb,out,g⟩ st' ⟨sg,e,m,q1,q2,q3,_⟩
  exfalso
  have q1:1≤na:=q1
  have q2:2≤nb:=q2
  have q3:na+nb+(max 0 (a.size+b.size)+1)≤a.size+b.size:=q3
  omega
 case step =>
  rintro x ⟨rr,na,nb,out,g⟩ st' _ hx ⟨sg,e,iv⟩
  have e:rr=none:=e
  subst e
  have iv:inv (x+1) out na nb:=iv
  refine wpS_bind (wpS_mono (wpS_forRange (I:=fun y c st''=>st''=st'∧c.1=none∧inv (x+1+y) c.2.2.2.1 c.2.1 c.2.2.1) (Q:=fun c st''=>st''=st'∧EndR good (inv (x+2)) c) ?s1 ?f1 ⟨rfl,rfl,iv⟩) ?p1)
  case f1 =>
   rintro ⟨rr,na,nb,out,g⟩ st'' ⟨e1,e,m,q1,q2,q3,q4,q5⟩
   have e:rr=none:=e
   subst e
   exact ⟨e1,m,q1,q2,le_trans (by have hx':x<a.size+b.size:=hx;show na+nb+(x+2)≤na+nb+(x+1+max 0 (a.size+b.size));omega) q3,q4,q5⟩
  case s1 =>
   rintro y ⟨rr,na,nb,out,ac,bc⟩ st'' _ hy ⟨e1,e,m,q1,q2,q3,q4,q5⟩
   have e:rr=none:=e
   subst e e1
   have m:mj out na nb:=m
   have q1:1≤na:=q1
   have q2:2≤nb:=q2
   have q3:na+nb+(x+1+y)≤a.size+b.size:=q3
   have q4:na≤a.size:=q4
   have q5:nb≤b.size:=q5
   obtain ⟨n1,rfl⟩:∃n1,na=n1+1:=⟨na - 1,by omega⟩
   obtain ⟨n2,rfl⟩:∃n2,nb=n2+1:=⟨nb - 1,by omega⟩
   obtain ⟨xa,ea',ea,ha⟩:=atA n1 (by omega)
   obtain ⟨xb,eb',eb,hb⟩:=atB n2 (by omega)
   refine wpS_bind (Xs eb ?_)
   refine wpS_bind (Xs ea ?_)
   refine wpS_bind (Znf K (sg.k.trans hk) hb ha ?_)
   dsimp only
   cases er:r xb xa with
   | true =>
    have m':=pushA m ea' (fun z hz=>K.tr (pb z (mem_of_mem_take hz)) hb ha (Zwn K pb sb eb' hz) (K.as hb ha er))
    rw [if_pos rfl]
    refine wpS_bind (Xs ea ?_)
    refine Xh (fun c3=>?_) (fun c3=>?_)
    ·exact wpS_pure ⟨rfl,gA m' (.inl (eq_of_beq c3))⟩
    ·have c3':n1≠0:=Znr c3
     refine Xh (fun c4=>?_) (fun c4=>?_)
     ·exact wpS_pure ⟨rfl,m',by show 1≤n1;omega,q2,by show n1+(n2+1)+(x+2)≤_;omega,by show n1≤_;omega,q5⟩
     ·exact wpS_pure ⟨rfl,rfl,m',by show 1≤n1;omega,q2,by show n1+(n2+1)+(x+1+(y+1))≤_;omega,by show n1≤_;omega,q5⟩
   | false =>
    have m':=pushB m eb' (fun z hz=>K.tr (pa z (mem_of_mem_take hz)) ha hb (Zwn K pa sa ea' hz) er)
    rw [if_neg Bool.false_ne_true]
    refine wpS_bind (Xs eb ?_)
    refine Xh (fun c3=>?_) (fun c3=>?_)
    ·exact wpS_pure ⟨rfl,gB m' (eq_of_beq c3)⟩
    ·have c3':n2≠1:=Znr c3
     refine Xh (fun c4=>?_) (fun c4=>?_)
     ·exact wpS_pure ⟨rfl,m',q1,by show 2≤n2;omega,by show n1+1+n2+(x+2)≤_;omega,q4,by show n2≤_;omega⟩
     ·exact wpS_pure ⟨rfl,rfl,m',q1,by show 2≤n2;omega,by show n1+1+n2+(x+1+(y+1))≤_;omega,q4,by show n2≤_;omega⟩
  case p1 =>
   rintro ⟨rr,na,nb,out,ac,bc⟩ st'' ⟨e1,q⟩
   subst e1
   cases rr with
   | some res=>exact wpS_pure ⟨sg,q⟩
   | none =>
    have iv:=(show inv (x+2) out na nb from q)
    refine wpS_bind (wpS_lift (wpAny_rule ⟨rfl,?_⟩))
    refine wpS_bind (wpS_mono (wpS_forRange (I:=fun y c st3=>SG st st3∧c.1=none∧inv (x+2) c.2.2.2.1 c.2.1 c.2.2.1) (Q:=fun c st3=>SG st st3∧EndR good (inv (x+2)) c) ?s2 ?f2 ⟨sg,rfl,iv⟩) ?p2)
    case f2 =>
     rintro ⟨rr,na,nb,out,g⟩ st3 ⟨sg3,e,q⟩
     have e:rr=none:=e
     subst e
     exact ⟨sg3,q⟩
    case p2 =>
     rintro ⟨rr,na,nb,out,g,ac,bc⟩ st3 ⟨sg3,q⟩
     cases rr with
     | some res=>exact wpS_pure ⟨sg3,q⟩
     | none=>exact wpS_bind (Zde fun st4 sg4=>wpS_pure ⟨sg3.trans sg4,rfl,q⟩)
    case s2 =>
     rintro y ⟨rr,na,nb,out,g,ac,bc⟩ st3 _ hy ⟨sg3,e,m,q1,q2,q3,q4,q5⟩
     have e:rr=none:=e
     subst e
     have m:mj out na nb:=m
     have q1:1≤na:=q1
     have q2:2≤nb:=q2
     have q3:na+nb+(x+2)≤a.size+b.size:=q3
     have q4:na≤a.size:=q4
     have q5:nb≤b.size:=q5
     obtain ⟨n2,rfl⟩:∃n2,nb=n2+1:=⟨nb - 1,by omega⟩
     obtain ⟨xb,eb',eb,hb⟩:=atB n2 (by omega)
     refine wpS_mono (Q:=fun rr st4=>SG st st4∧StR good (inv (x+2)) rr) ?_ (fun rr st4 q=>?_)
     rotate_left
     ·cases rr with
      | done c =>
       obtain ⟨r0,c⟩:=c
       cases r0<;>exact q
      | yield c =>
       obtain ⟨r0,c⟩:=c
       cases r0 with
       | some _=>exact q.2.elim
       | none=>exact ⟨q.1,rfl,q.2⟩
     extract_lets v1 v2 v3 v4 v5 v6 v7 v8 v9 v10 v11 jb jp
     have hj:∀g',wpS (model prog w) A E s (jp () g') (fun rr st4=>SG st st4∧StR good (inv (x+2)) rr) st3:=fun g'=>by
      refine wpS_bind (Zde fun st4 sg4=>?_)
      have sg5:=sg3.trans sg4
      refine wpS_bind (Xs eb ?_)
      refine wpS_bind (Zfm K (sg5.k.trans hk) pa hb (base:=0) (n:=na) (by omega) (fun i j x y hij _ e1 e2=>Zki K pa sa (by omega) e1 e2) (by show na - 1<na;omega) fun k k1 k2 k3=>?_)
      dsimp -zeta -zetaHave only
      extract_lets kk ac2 jp2 o2 i2
      have lo:∀y∈a.toList.take k,r xb y=false:=fun y hy=>by
       obtain ⟨j,hj,e⟩:=Zcc hy
       have q:bey r false xb y=true:=k2 j y hj (by rw [zero_add];exact e)
       simpa [bey] using q
      have hj2:∀na' out',mj out' na' (n2+1)→1≤na'→na'≤na→(∀y∈a.toList.take na',r xb y=false)→wpS (model prog w) A E s (jp2 () na' out') (fun rr st4=>SG st st4∧StR good (inv (x+2)) rr) st4:=fun na' out' m' g1 g2 g3=>by
       have m2:=pushB m' eb' g3
       refine wpS_bind (Xs eb ?_)
       refine Xh (fun c5=>?_) (fun c5=>?_)
       ·exact wpS_pure ⟨sg5,gB m2 (eq_of_beq c5)⟩
       ·have c5':n2≠1:=Znr c5
        obtain ⟨n1,rfl⟩:∃n1,na'=n1+1:=⟨na' - 1,by omega⟩
        obtain ⟨xa,ea',ea,ha⟩:=atA n1 (by omega)
        refine wpS_bind (Xs ea ?_)
        refine wpS_bind (Zfm K (sg5.k.trans hk) pb ha (base:=0) (n:=n2) (by omega) (fun i j x y hij _ e1 e2=>Zki K pb sb (by omega) e1 e2) (by show n2 - 1<n2;omega) fun k' k1' k2' k3'=>?_)
        dsimp -zeta -zetaHave only
        extract_lets kk2 bc2 n4 jp3 o3 i3
        have lo':∀y∈b.toList.take k',r xa y=false:=fun y hy=>by
         obtain ⟨j,hj,e⟩:=Zcc hy
         have q:r y xa=true:=k2' j y hj (by rw [zero_add];exact e)
         exact K.as (pb y (mem_of_getElem? e)) ha q
        have hj3:∀nb'' out'',mj out'' (n1+1) nb''→2≤nb''→nb''≤n2→(∀y∈b.toList.take nb'',r xa y=false)→wpS (model prog w) A E s (jp3 () nb'' out'') (fun rr st4=>SG st st4∧StR good (inv (x+2)) rr) st4:=fun nb'' out'' m'' f1 f2 f3=>by
         have m3:=pushA m'' ea' f3
         refine wpS_bind (Xs ea ?_)
         refine Xh (fun c6=>?_) (fun c6=>?_)
         ·exact wpS_pure ⟨sg5,gA m3 (.inl (eq_of_beq c6))⟩
         ·have c6':n1≠0:=Znr c6
          have iv:inv (x+2) (out''.push xa) n1 nb'':=⟨m3,by omega,f1,by omega,by omega,by omega⟩
          exact Xh (fun _=>wpS_pure ⟨sg5,iv⟩) (fun _=>wpS_pure ⟨sg5,iv⟩)
        refine Xh (fun c6=>?_) (fun c6=>?_)
        ·have m3:mj (out'.push xb++(b.extract k' n2).reverse) (n1+1) k':=by
          show MJ r _ _ (out'.push xb++(b.extract k' n2).reverse).toList.reverse (n1+1) k'
          rw [toList_append,reverse_append,toList_reverse,reverse_reverse,Zwl]
          have:=MJ.bk m2 sb (by omega) (n2 - k') (by omega) fun i hi1 hi2 z hz y hy=>by
           have q:r z xa=false:=k3' i z (by omega) hi2 (by rw [zero_add];exact hz)
           exact K.tr (pa y (mem_of_mem_take hy)) ha (pb z (mem_of_getElem? hz)) (Zwn K pa sa ea' hy) q
          rw [show n2 - (n2 - k')=k' by omega] at this
          exact this
         refine Xh (fun c7=>?_) (fun c7=>?_)
         ·exact wpS_pure ⟨sg5,gB m3 (eq_of_beq c7)⟩
         ·refine Xh (fun c8=>?_) (fun c8=>?_)
          ·exact wpS_pure ⟨sg5,gA m3 (.inr (eq_of_beq c8))⟩
          ·have c7':k'≠1:=Znr c7
           have c8':k'≠0:=Znr c8
           exact hj3 k' (out'.push xb++(b.extract k' n2).reverse) m3 (by omega) k1' lo'
        ·have c6':¬n2 - k' > 0:=c6
         have e:k'=n2:=by omega
         subst e
         exact hj3 k' (out'.push xb) m2 (by omega) (le_refl _) lo'
      refine Xh (fun c6=>?_) (fun c6=>?_)
      ·have m3:mj (out++(a.extract k na).reverse) k (n2+1):=by
        show MJ r _ _ (out++(a.extract k na).reverse).toList.reverse k (n2+1)
        rw [toList_append,reverse_append,toList_reverse,reverse_reverse,Zwl]
        have:=MJ.ak m sa (by omega) (na - k) (by omega) fun i hi1 hi2 z hz y hy=>by
         have q:bey r false xb z=false:=k3 i z (by omega) hi2 (by rw [zero_add];exact hz)
         have q:r xb z=true:=by simpa [bey] using q
         have pz:=pa z (mem_of_getElem? hz)
         exact K.tr (pb y (mem_of_mem_take hy)) hb pz (Zwn K pb sb eb' hy) (K.as hb pz q)
        rw [show na - (na - k)=k by omega] at this
        exact this
       refine Xh (fun c7=>?_) (fun c7=>?_)
       ·exact wpS_pure ⟨sg5,gA m3 (.inl (eq_of_beq c7))⟩
       ·have c7':k≠0:=Znr c7
        exact hj2 k (out++(a.extract k na).reverse) m3 (by omega) k1 lo
      ·have c6':¬na - k > 0:=c6
       have e:k=na:=by omega
       subst e
       exact hj2 k out m q1 (le_refl _) lo
     exact Xh (fun _=>hj _) (fun _=>hj _)
end
section
variable {α:Type}
theorem seg_at {A X B:List α}{i:Nat}(hi:i<X.length):(A++X++B)[A.length+i]?=X[i]?:=by
 rw [append_assoc,getElem?_append_right (le_add_right _ _),Nat.add_sub_cancel_left,getElem?_append_left hi]
theorem Zsf:∀(M:List α) (a:Array α) (base k:Nat),base+k+M.length≤a.size→((M.zipIdx k).foldl (fun a p=>a.setIfInBounds (base+p.2) p.1) a).toList=a.toList.take (base+k)++M++a.toList.drop (base+k+M.length)
 | [],a,base,k,h=>by simp
 | x::M,a,base,k,h=>by
  rw [length_cons] at h
  have ih:=Zsf M (a.setIfInBounds (base+k) x) base (k+1) (by rw [Array.size_setIfInBounds];omega)
  have hl:base+k<a.toList.length:=by rw [length_toList];omega
  rw [List.zipIdx_cons,foldl_cons,ih,Array.toList_setIfInBounds,length_cons]
  rw [List.take_set,List.drop_set_of_lt (by omega),show base+(k+1)=base+k+1 by omega,List.take_add_one,getElem?_eq_getElem hl,show base+k+1+M.length=base+k+(M.length+1) by omega]
  have ht:(a.toList.take (base+k)).length=base+k:=List.length_take_of_le (le_of_lt hl)
  rw [set_append_right _ _ (le_of_eq ht),ht,sub_self]
  simp
variable {prog:Program}{w:World}{A:Around}{E:Value→Shared→Prop}{s:Shared}{κ:SortKind}{P:Keyed→Prop}{r:Keyed→Keyed→Bool}{st:SortSt}
theorem Xis {x:SortSt}{Q:PUnit→SortSt→Prop}(h:Q ⟨⟩ x):wpS (model prog w) A E s (set x:StateT SortSt Sem PUnit) Q st:=by
 unfold wpS
 rw [StateT.run_set]
 exact wpAny_pure ⟨rfl,h⟩
theorem Zpu {i sa na pw nb q:Nat}{L X Y B:List Keyed}{Q:Bool→SortSt→Prop}(K:Ask prog w A s κ P r)(hk:kindOf st=κ)(hf:failedOf st=none)(hp1:(pendingOf st)[i]?=some (sa,na,pw))(hp2:(pendingOf st)[i+1]?=some (sa+na,nb,q))
    (hl:(arrOf st).toList=L++X++Y++B) (lA:L.length=sa) (lX:X.length=na) (lY:Y.length=nb) (nX:1≤na) (nY:1≤nb) (hP:∀x∈(arrOf st).toList,P x) (uX:Up r X) (uY:Up r Y)
    (h:∀M st',M.Perm (X++Y)→Up r M→(arrOf st').toList=L++M++B→kindOf st'=κ→failedOf st'=none→pendingOf st'=((pendingOf st).setIfInBounds i (sa,na+nb,pw)).eraseIdxIfInBounds (i+1)→Q true st') :
    wpS (model prog w) A E s (mergeAt' i) Q st:=by
  have hsz:(arrOf st).size=sa+na+nb+B.length:=by
    rw [← length_toList,hl]
    simp only [length_append]
    omega
  have pX:∀x∈X,P x:=fun x hx=>hP x (by rw [hl];simp [hx])
  have pY:∀x∈Y,P x:=fun x hx=>hP x (by rw [hl];simp [hx])
  have eX:∀j,j<na→(arrOf st).toList[sa+j]?=X[j]?:=fun j hj=>by
    rw [hl,← lA,append_assoc]
    exact seg_at (by omega)
  have eY:∀j,j<nb→(arrOf st).toList[sa+na+j]?=Y[j]?:=fun j hj=>by
    have:=seg_at (A:=L++X) (X:=Y) (B:=B) (i:=j) (by omega)
    rw [length_append,lA,lX] at this
    rw [hl]
    exact this
  obtain ⟨y0,ey0⟩:∃y,Y[0]?=some y:=⟨Y[0],getElem?_eq_getElem (by omega)⟩
  obtain ⟨xl,exl⟩:∃x,X[na - 1]?=some x:=⟨X[na - 1],getElem?_eq_getElem (by omega)⟩
  have hy0:=pY _ (mem_of_getElem? ey0)
  have hxl:=pX _ (mem_of_getElem? exl)
  have ey0':(arrOf st)[sa+na]?=some y0:=by rw [← getElem?_toList];exact (eY 0 (by omega)).trans ey0
  refine wpS_bind (wpS_get ?_)
  simp only [hp1,hp2]
  refine wpS_bind (Xis ?_)
  refine wpS_bind (Xs ey0' ?_)
  have hb1:sa+na≤(arrOf st).size:=by omega
  have hb2:sa+na+nb≤(arrOf st).size:=by omega
  refine wpS_bind (Zfm K hk hP hy0 (base:=sa) (n:=na) hb1 (fun i j x y hij hj e1 e2=>?_) (by omega) fun k k1 k2 k3=>?_)
  · rw [eX i (by omega)] at e1
    rw [eX j hj] at e2
    exact Zki K pX uX hij e1 e2
  have lo1:∀x∈X.take k,r y0 x=false:=fun x hx=>by
    obtain ⟨j,hj,e⟩:=Zcc hx
    have q:bey r false y0 x=true:=k2 j x hj (by rw [eX j (by omega)];exact e)
    simpa [bey] using q
  have hi1:∀x∈X.drop k,r x y0=false:=fun x hx=>by
    obtain ⟨j,hj⟩:=List.mem_iff_getElem?.mp hx
    rw [getElem?_drop] at hj
    have hjl:=(List.getElem?_eq_some_iff.mp hj).1
    have q:bey r false y0 x=false:=k3 (k+j) x (by omega) (by omega) (by rw [eX (k+j) (by omega)];exact hj)
    have q:r y0 x=true:=by simpa [bey] using q
    exact K.as hy0 (pX x (mem_of_getElem? hj)) q
  have geY:∀y∈Y,r y y0=false:=fun y hy=>Zxl K pY uY ey0 (by rw [List.drop_zero];exact hy)
  have leX:∀x∈X,r xl x=false:=fun x hx=>Zwn K pX uX exl (by rw [show na - 1+1=X.length by omega,List.take_length];exact hx)
  dsimp only
  refine Xh (fun c1=>?_) (fun c1=>?_)
  ·
    have c1':na - k=0:=eq_of_beq c1
    refine wpS_pure (h (X++Y) _ (List.Perm.refl _) (List.pairwise_append.mpr ⟨uX,uY,fun x hx y hy=>?_⟩) (by rw [← append_assoc];exact hl) hk hf rfl)
    exact K.tr (pX x hx) hy0 (pY y hy) (lo1 x (by rw [take_of_length_le (by omega)];exact hx)) (geY y hy)
  have c1':na - k≠0:=Znr c1
  have exl':(arrOf st)[sa+k+(na - k) - 1]?=some xl:=by
    rw [← getElem?_toList,show sa+k+(na - k) - 1=sa+(na - 1) by omega,eX (na - 1) (by omega)]
    exact exl
  refine wpS_bind (Xs exl' ?_)
  refine wpS_bind (Zfm K hk hP hxl (base:=sa+na) (n:=nb) hb2 (fun i j x y hij hj e1 e2=>?_) (by omega) fun m m1 m2 m3=>?_)
  · rw [eY i (by omega)] at e1
    rw [eY j hj] at e2
    exact Zki K pY uY hij e1 e2
  have lo2:∀y∈Y.take m,r xl y=false:=fun y hy=>by
    obtain ⟨j,hj,e⟩:=Zcc hy
    have q:r y xl=true:=m2 j y hj (by rw [eY j (by omega)];exact e)
    exact K.as (pY y (mem_of_getElem? e)) hxl q
  have hi2:∀y∈Y.drop m,r y xl=false:=fun y hy=>by
    obtain ⟨j,hj⟩:=List.mem_iff_getElem?.mp hy
    rw [getElem?_drop] at hj
    have hjl:=(List.getElem?_eq_some_iff.mp hj).1
    exact m3 (m+j) y (by omega) (by omega) (by rw [eY (m+j) (by omega)];exact hj)
  dsimp only
  refine Xh (fun c2=>?_) (fun c2=>?_)
  · have c2':m=0:=eq_of_beq c2
    refine wpS_pure (h (X++Y) _ (List.Perm.refl _) (List.pairwise_append.mpr ⟨uX,uY,fun x hx y hy=>?_⟩) (by rw [← append_assoc];exact hl) hk hf rfl)
    exact K.tr (pX x hx) hxl (pY y hy) (leX x hx) (hi2 y (by rw [c2',List.drop_zero];exact hy))
  have c2':m≠0:=Znr c2
  have tX:((arrOf st).extract (sa+k) (sa+na)).toList=X.drop k:=by
    rw [Zwl,hl,append_assoc,append_assoc,← lA,← List.drop_drop,List.drop_left,List.drop_append_of_le_length (by omega),List.take_append_of_le_length (by rw [length_drop];omega),take_of_length_le (by rw [length_drop];omega)]
  have tY:((arrOf st).extract (sa+na) (sa+na+m)).toList=Y.take m:=by
    rw [Zog,hl,append_assoc (L++X),show sa+na=(L++X).length by rw [length_append];omega,List.drop_left,List.take_append_of_le_length (by omega)]
  have fin:∀(out:Array Keyed) (st':SortSt),out.toList.Perm (X.drop k++Y.take m)→Up r out.toList→kindOf st'=κ→failedOf st'=none→arrOf st'=arrOf st→pendingOf st'=((pendingOf st).setIfInBounds i (sa,na+nb,pw)).eraseIdxIfInBounds (i+1)→
      wpS (model prog w) A E s (do
        modify fun s=>setArr s (out.toList.zipIdx.foldl (fun a p=>a.setIfInBounds (sa+k+p.2) p.1) (arrOf s))
        pure (failedOf (← get)).isNone) Q st':=fun out st' hpm hup hk' hf' ha' hp'=>by
    have hol:out.toList.length=na - k+m:=by rw [hpm.length_eq,length_append,length_drop,length_take];omega
    refine wpS_bind (wpS_modify (wpS_bind (wpS_get (wpS_pure ?_))))
    show Q (failedOf st').isNone _
    rw [hf']
    refine h (X.take k++out.toList++Y.drop m) _ ?_ ?_ ?_ hk' hf' hp'
    · have h1:(X.take k++out.toList++Y.drop m).Perm (X.take k++(X.drop k++Y.take m)++Y.drop m):=(hpm.append_left _).append_right _
      refine h1.trans ?_
      rw [← append_assoc,take_append_drop,append_assoc,take_append_drop]
    · have mem:∀z∈out.toList,z∈X.drop k∨z∈Y.take m:=fun z hz=>List.mem_append.mp (hpm.mem_iff.mp hz)
      refine List.pairwise_append.mpr ⟨List.pairwise_append.mpr ⟨uX.take k,hup,fun x hx z hz=>?_⟩,uY.drop m,fun x hx y hy=>?_⟩
      · rcases mem z hz with q | q
        · exact (List.pairwise_append.mp (by rw [take_append_drop];exact uX:Up r (X.take k++X.drop k))).2.2 x hx z q
        · exact K.tr (pX x (mem_of_mem_take hx)) hy0 (pY z (mem_of_mem_take q)) (lo1 x hx) (geY z (mem_of_mem_take q))
      · rcases List.mem_append.mp hx with hx | hx
        · exact K.tr (pX x (mem_of_mem_take hx)) hxl (pY y (mem_of_mem_drop hy)) (leX x (mem_of_mem_take hx)) (hi2 y hy)
        · rcases mem x hx with q | q
          · exact K.tr (pX x (mem_of_mem_drop q)) hxl (pY y (mem_of_mem_drop hy)) (leX x (mem_of_mem_drop q)) (hi2 y hy)
          · exact (List.pairwise_append.mp (by rw [take_append_drop];exact uY:Up r (Y.take m++Y.drop m))).2.2 x q y hy
    · show ((out.toList.zipIdx 0).foldl (fun a p=>a.setIfInBounds (sa+k+p.2) p.1) (arrOf st')).toList=_
      rw [ha',Zsf _ _ _ _ (by rw [hol];omega),hol,add_zero,hl]
      have e1:(L++X++Y++B).take (sa+k)=L++X.take k:=by
        rw [append_assoc,append_assoc,← lA,List.take_append,take_of_length_le (le_add_right _ _),Nat.add_sub_cancel_left,List.take_append_of_le_length (by omega)]
      have e2:(L++X++Y++B).drop (sa+k+(na - k+m))=Y.drop m++B:=by
        rw [append_assoc (L++X),show sa+k+(na - k+m)=(L++X).length+m by rw [length_append];omega,← List.drop_drop,List.drop_left,List.drop_append_of_le_length (by omega)]
      rw [e1,e2]
      simp only [append_assoc]
  have p2:∀x∈((arrOf st).extract (sa+k) (sa+na)).toList,P x:=fun x hx=>pX x (mem_of_mem_drop (tX▸hx))
  have p3:∀x∈((arrOf st).extract (sa+na) (sa+na+m)).toList,P x:=fun x hx=>pY x (mem_of_mem_take (tY▸hx))
  have sz2:((arrOf st).extract (sa+k) (sa+na)).size=na - k:=by rw [← length_toList,tX,length_drop];omega
  have u2:Up r ((arrOf st).extract (sa+k) (sa+na)).toList:=by rw [tX];exact uX.drop k
  have u3:Up r ((arrOf st).extract (sa+na) (sa+na+m)).toList:=by rw [tY];exact uY.take m
  have g0:((arrOf st).extract (sa+na) (sa+na+m))[0]?=some y0:=by rw [← getElem?_toList,tY,getElem?_take,if_pos (by omega)];exact ey0
  have g1:∀x∈((arrOf st).extract (sa+k) (sa+na)).toList,r x y0=false:=fun x hx=>hi1 x (tX▸hx)
  have g2:((arrOf st).extract (sa+k) (sa+na)).toList[((arrOf st).extract (sa+k) (sa+na)).size - 1]?=some xl:=by rw [sz2,tX,getElem?_drop,show k+(na - k - 1)=na - 1 by omega];exact exl
  have g3:∀y∈((arrOf st).extract (sa+na) (sa+na+m)).toList,r xl y=false:=fun y hy=>lo2 y (tY▸hy)
  have fin':∀(out:Array Keyed) (st':SortSt),out.toList.Perm (((arrOf st).extract (sa+k) (sa+na)).toList++((arrOf st).extract (sa+na) (sa+na+m)).toList)→Up r out.toList→kindOf st'=κ→failedOf st'=none→arrOf st'=arrOf st→pendingOf st'=((pendingOf st).setIfInBounds i (sa,na+nb,pw)).eraseIdxIfInBounds (i+1)→_:=fun out st' q=>fin out st' (by rw [tX,tY] at q;exact q)
  refine Xh (fun c3=>?_) (fun c3=>?_)
  · exact wpS_bind (Zow K hk p2 p3 u2 u3 (by rw [sz2];omega) g0 g1 (fun x hx=>by rw [g2] at hx;cases hx;exact g3) fun out st' h1 h2 sg=>fin' out st' h1 h2 (sg.k.trans hk) (sg.f.trans hf) sg.a sg.p)
  · exact wpS_bind (Zoj K hk p2 p3 u2 u3 (by rw [sz2];omega) g0 g1 (by rw [← getElem?_toList];exact g2) g3 fun out st' h1 h2 sg=>fin' out st' h1 h2 (sg.k.trans hk) (sg.f.trans hf) sg.a sg.p)
end
section
variable {prog:Program}{w:World}{A:Around}{E:Value→Shared→Prop}{s:Shared}{κ:SortKind}{P:Keyed→Prop}{r:Keyed→Keyed→Bool}{st:SortSt}
theorem Xbu {i j:Nat}{x y:Keyed}{Q:Option Bool→SortSt→Prop}(K:Ask prog w A s κ P r)(hk:kindOf st=κ)(hi:(arrOf st)[i]?=some x)(hj:(arrOf st)[j]?=some y)(hx:P x)(hy:P y)(h:Q (some (r x y)) st):wpS (model prog w) A E s (ltAt' i j) Q st:=by
 rw [ltAt'_eq]
 exact wpS_bind (wpS_get (wpS_bind (Xs hi (wpS_bind (Xs hj (Znf K hk hx hy h))))))
structure SC (κ:SortKind)(lo:Nat)(st st':SortSt):Prop where
 k:kindOf st'=κ
 f:failedOf st'=none
 p:pendingOf st'=pendingOf st
 m:(arrOf st').Perm (arrOf st)
 o:∀i,i<lo→(arrOf st')[i]?=(arrOf st)[i]?
theorem SC.size {lo:Nat}{st st':SortSt}(c:SC κ lo st st'):(arrOf st').size=(arrOf st).size:=c.m.size_eq
theorem SC.put {lo:Nat}{st st':SortSt}(c:SC κ lo st st'){a:Array Keyed}(hm:a.Perm (arrOf st'))(ho:∀i,i<lo→a[i]?=(arrOf st')[i]?):SC κ lo st (setArr st' a):=⟨c.k,c.f,c.p,hm.trans c.m,fun i hi=>(ho i hi).trans (c.o i hi)⟩
noncomputable def gx (d0:Keyed)(lo:Nat)(a:Array Keyed)(i:Nat):Keyed:=(a[lo+i]?).getD d0
theorem Xik {d0:Keyed}{lo i:Nat}{a:Array Keyed}(h:lo+i<a.size):a[lo+i]?=some (gx d0 lo a i):=by
 unfold gx
 rw [Array.getElem?_eq_getElem h]
 rfl
theorem Zey {d0:Keyed}{lo i j:Nat}{a b:Array Keyed}(h:a[lo+i]?=b[lo+j]?):gx d0 lo a i=gx d0 lo b j:=by unfold gx;rw [h]
variable {d0:Keyed}{lo nrem:Nat}
theorem Zuc (hP:∀x∈(arrOf st).toList,P x){st':SortSt}(c:SC κ lo st st')(hn:lo+nrem≤(arrOf st).size){i:Nat}(hi:i<nrem):P (gx d0 lo (arrOf st') i):=by
 have e:=Xik (d0:=d0) (a:=arrOf st') (lo:=lo) (i:=i) (by rw [c.size];omega)
 have hm:gx d0 lo (arrOf st') i∈(arrOf st').toList:=mem_of_getElem? (by rw [getElem?_toList];exact e)
 exact hP _ (c.m.toList.mem_iff.mp hm)
theorem Znu (K:Ask prog w A s κ P r)(hP:∀x∈(arrOf st).toList,P x)(hn:lo+nrem≤(arrOf st).size){st':SortSt}(c:SC κ lo st st'){i j i' j':Nat}(hi:i<nrem)(hj:j<nrem)(ei:i'=lo+i)(ej:j'=lo+j){Q:Option Bool→SortSt→Prop}(h:Q (some (r (gx d0 lo (arrOf st') i) (gx d0 lo (arrOf st') j))) st'):wpS (model prog w) A E s (ltAt' i' j') Q st':=by
 subst ei ej
 exact Xbu K c.k (Xik (by rw [c.size];omega)) (Xik (by rw [c.size];omega)) (Zuc hP c hn hi) (Zuc hP c hn hj) h
theorem Zvk {a:Array Keyed}{i j:Nat}(hj:lo+j≤a.size)(k:Nat):gx d0 lo (mirror a (lo+i) (lo+j) ((lo+j - (lo+i)) / 2)) k=if i≤k∧k<j then gx d0 lo a (i+j - 1 - k) else gx d0 lo a k:=by
 have e:=getElem?_mirror_all (i:=lo+i) hj (lo+k)
 by_cases c:i≤k∧k<j
 ·rw [if_pos c]
  rw [if_pos (by omega)] at e
  exact Zey (e.trans (by congr 1;omega))
 ·rw [if_neg c]
  rw [if_neg (by omega)] at e
  exact Zey e
theorem Zyy {a:Array Keyed}{i j:Nat}(hj:lo+j≤a.size)(k:Nat)(hk:k<lo):(mirror a (lo+i) (lo+j) ((lo+j - (lo+i)) / 2))[k]?=a[k]?:=by
 rw [getElem?_mirror_all (i:=lo+i) hj k,if_neg (by omega)]
def Zqr (r:Keyed→Keyed→Bool)(g:Nat→Keyed)(n:Nat):Prop:=∀i j,i≤j→j<n→r (g j) (g i)=false
def Zjf (r:Keyed→Keyed→Bool)(g:Nat→Keyed)(n:Nat):Prop:=∀i j,i≤j→j<n→r (g i) (g j)=false
def Eqv (r:Keyed→Keyed→Bool)(x y:Keyed):Prop:=r x y=false∧r y x=false
theorem Zqr.snoc (K:Ask prog w A s κ P r){g:Nat→Keyed}{n:Nat}(hp:∀i,i<n+1→P (g i))(h1:1≤n)(h:Zqr r g n)(q:r (g n) (g (n - 1))=false):Zqr r g (n+1):=fun i j hij hj=>by
 by_cases e:j<n
 ·exact h i j hij e
 ·have ej:j=n:=by omega
  subst ej
  by_cases ei:i=j
  ·subst ei
   exact K.ir (hp i hj)
  ·exact K.tr (hp i (by omega)) (hp (j - 1) (by omega)) (hp j hj) (h i (j - 1) (by omega) (by omega)) q
theorem Zjf.snoc (K:Ask prog w A s κ P r){g:Nat→Keyed}{n:Nat}(hp:∀i,i<n+1→P (g i))(h1:1≤n)(h:Zjf r g n)(q:r (g (n - 1)) (g n)=false):Zjf r g (n+1):=fun i j hij hj=>by
 by_cases e:j<n
 ·exact h i j hij e
 ·have ej:j=n:=by omega
  subst ej
  by_cases ei:i=j
  ·subst ei
   exact K.ir (hp i hj)
  ·exact K.tr (hp j hj) (hp (j - 1) (by omega)) (hp i (by omega)) q (h i (j - 1) (by omega) (by omega))
theorem Zjf.eqv (K:Ask prog w A s κ P r){g g':Nat→Keyed}{n:Nat}(hp:∀i,i<n→P (g i))(hp':∀i,i<n→P (g' i))(h:Zjf r g n)(q:∀i,i<n→Eqv r (g' i) (g i)):Zjf r g' n:=fun i j hij hj =>
 K.tr (hp' j hj) (hp j hj) (hp' i (by omega)) (q j hj).2 (K.tr (hp j hj) (hp i (by omega)) (hp' i (by omega)) (h i j hij hj) (q i (by omega)).1)
theorem Zxk (K:Ask prog w A s κ P r)(hP:∀x∈(arrOf st).toList,P x)(hn:lo+nrem≤(arrOf st).size){st':SortSt}(c:SC κ lo st st'){a:Nat}(ha:1≤a)(han:a≤nrem)(hs:Zqr r (gx d0 lo (arrOf st')) a)
  {f:Nat→Option (Option Nat)×Nat→StateT SortSt Sem (ForInStep (Option (Option Nat)×Nat))} {Q:Option (Option Nat)×Nat→SortSt→Prop}
  (hf:∀x n (Q':ForInStep (Option (Option Nat)×Nat)→SortSt→Prop),wpS (model prog w) A E s (ltAt' (lo+n) (lo+n - 1)) (fun b st''=>st''=st'∧∃b',b=some b'∧(b'=true→Q' (.done (none,n)) st')∧(b'=false→Q' (.yield (none,n+1)) st')) st'→wpS (model prog w) A E s (f x (none,n)) Q' st')
  (h:∀n,a≤n→n≤nrem→Zqr r (gx d0 lo (arrOf st')) n→(n=nrem∨r (gx d0 lo (arrOf st') n) (gx d0 lo (arrOf st') (n - 1))=true)→Q (none,n) st') :
  wpS (model prog w) A E s (forIn [a:nrem] ((none,a):Option (Option Nat)×Nat) f) Q st':=by
 refine wpS_forRange (I:=fun x c st''=>st''=st'∧c=(none,x)∧Zqr r (gx d0 lo (arrOf st')) x) ?step ?fin ⟨rfl,rfl,hs⟩
 case fin =>
  rintro c st'' ⟨rfl,rfl,hs'⟩
  rw [show max a nrem=nrem by omega] at hs' ⊢
  exact h nrem han (le_refl _) hs' (.inl rfl)
 case step =>
  rintro x c st'' hax hxn ⟨rfl,rfl,hs'⟩
  have hp:∀i,i<x+1→P (gx d0 lo (arrOf st'') i):=fun i hi=>Zuc hP c hn (by omega)
  refine hf x x _ (Znu (d0:=d0) K hP hn c (i:=x) (j:=x - 1) (by omega) (by omega) rfl (by omega) ⟨rfl,_,rfl,fun e=>?_,fun e=>?_⟩)
  ·exact h x hax (by omega) hs' (.inr e)
  ·exact ⟨rfl,rfl,Zqr.snoc K hp (by omega) hs' e⟩
theorem Eqv.same (K:Ask prog w A s κ P r){x:Keyed}(hx:P x):Eqv r x x:=⟨K.ir hx,K.ir hx⟩
theorem Eqv.via (K:Ask prog w A s κ P r){x y z:Keyed}(hx:P x)(hy:P y)(hz:P z)(h1:Eqv r x y)(h2:Eqv r z y):Eqv r x z:=⟨K.tr hz hy hx h2.2 h1.1,K.tr hx hy hz h1.2 h2.1⟩
theorem Zjf.mir (K:Ask prog w A s κ P r)(hP:∀x∈(arrOf st).toList,P x)(hn:lo+nrem≤(arrOf st).size){st':SortSt}(c:SC κ lo st st'){i j n:Nat}(hj:j≤n)(hnn:n≤nrem)(h:Zjf r (gx d0 lo (arrOf st')) n)(he:∀k,i≤k→k<j→Eqv r (gx d0 lo (arrOf st') k) (gx d0 lo (arrOf st') (j - 1))){a':Array Keyed}
  (ea:a'=mirror (arrOf st') (lo+i) (lo+j) ((lo+j - (lo+i)) / 2)):SC κ lo st (setArr st' a')∧Zjf r (gx d0 lo a') n:=by
 subst ea
 have hsz:lo+j≤(arrOf st').size:=by rw [c.size];omega
 have c':SC κ lo st (setArr st' (mirror (arrOf st') (lo+i) (lo+j) ((lo+j - (lo+i)) / 2))):=c.put (mirror_perm _ _ _ _) (fun k hk=>Zyy hsz k hk)
 have hp:∀k,k<n→P (gx d0 lo (arrOf st') k):=fun k hk=>Zuc hP c hn (by omega)
 refine ⟨c',Zjf.eqv K hp (fun k hk=>Zuc (d0:=d0) hP c' hn (by omega)) h fun k hk=>?_⟩
 rw [Zvk hsz]
 split
 ·rename_i q
  exact Eqv.via K (hp _ (by omega)) (hp (j - 1) (by omega)) (hp k hk) (he _ (by omega) (by omega)) (he k q.1 q.2)
 ·exact Eqv.same K (hp k hk)
theorem Zkj {st':SortSt}{i j i' j':Nat}{Q:Unit→SortSt→Prop}(ei:i'=lo+i)(ej:j'=lo+j)(h:Q () (setArr st' (mirror (arrOf st') (lo+i) (lo+j) ((lo+j - (lo+i)) / 2)))):wpS (model prog w) A E s (reverseSlice' i' j') Q st':=by
 subst ei ej
 exact wpS_reverse h
theorem Zvz {Q:Option Nat→SortSt→Prop}(d0:Keyed)(K:Ask prog w A s κ P r)(hP:∀x∈(arrOf st).toList,P x)(hk:kindOf st=κ)(hf:failedOf st=none)(hn:lo+nrem≤(arrOf st).size)(h1:1≤nrem)
    (h:∀m st',SC κ lo st st'→1≤m→m≤nrem→Zqr r (gx d0 lo (arrOf st')) m→Q (some m) st'):wpS (model prog w) A E s (countRun' lo nrem) Q st:=by
  have c0:SC κ lo st st:=⟨hk,hf,rfl,Array.Perm.refl _,fun _ _=>rfl⟩
  refine wpS_bind (Zxk (d0:=d0) K hP hn c0 (le_refl 1) h1 (fun i j hij hj=>by rw [show i=0 by omega,show j=0 by omega];exact K.ir (Zuc hP c0 hn (by omega))) (fun x n Q' q=>?_) fun n n1 n2 n3 n4=>?_)
  · refine wpS_bind (wpS_mono q ?_)
    rintro b st'' ⟨rfl,b',rfl,q1,q2⟩
    dsimp only
    cases b' with
    | true =>
      rw [if_pos rfl]
      exact wpS_pure (q1 rfl)
    | false =>
      rw [if_neg Bool.false_ne_true]
      exact wpS_pure (q2 rfl)
  refine Xh (fun c1=>?_) (fun c1=>?_)
  · exact wpS_pure (h n st c0 n1 n2 n3)
  have c1':n≠nrem:=Znr c1
  have n4':r (gx d0 lo (arrOf st) n) (gx d0 lo (arrOf st) (n - 1))=true:=n4.resolve_left c1'
  have hp0:∀i,i<nrem→P (gx d0 lo (arrOf st) i):=fun i hi=>Zuc hP c0 hn hi
  have n5:r (gx d0 lo (arrOf st) (n - 1)) (gx d0 lo (arrOf st) n)=false:=K.as (hp0 _ (by omega)) (hp0 _ (by omega)) n4'
  extract_lets -underBinder jp
  have hd:∀st1,SC κ lo st st1→Zjf r (gx d0 lo (arrOf st1)) (n+1)→wpS (model prog w) A E s (jp ()) Q st1:=fun st1 sc1 dn1=>by
    refine wpS_bind (wpS_lift (wpAny_rule ⟨rfl,?_⟩))
    refine wpS_bind (wpS_mono (wpS_forRange (I:=fun x c st2=>∃q,c=(none,x,q)∧SC κ lo st st2∧Zjf r (gx d0 lo (arrOf st2)) x∧q+1≤x∧∀i,x - (q+1)≤i→i<x→Eqv r (gx d0 lo (arrOf st2) i) (gx d0 lo (arrOf st2) (x - 1)))
      (Q:=fun c st2=>∃m q,c=(none,m,q)∧n+1≤m∧m≤nrem∧SC κ lo st st2∧Zjf r (gx d0 lo (arrOf st2)) m∧q+1≤m∧∀i,m - (q+1)≤i→i<m→Eqv r (gx d0 lo (arrOf st2) i) (gx d0 lo (arrOf st2) (m - 1))) ?step ?fin
      ⟨0,rfl,sc1,dn1,by omega,fun i i1 i2=>by rw [show i=n+1 - 1 by omega];exact Eqv.same K (Zuc hP sc1 hn (by omega))⟩) ?post)
    case fin =>
      rintro c st2 ⟨q,rfl,sc,dn,hq,he⟩
      rw [show max (n+1) nrem=nrem by omega] at dn hq he ⊢
      exact ⟨nrem,q,rfl,by omega,le_refl _,sc,dn,hq,he⟩
    case step =>
      rintro x c st2 hx1 hx2 ⟨q,rfl,sc,dn,hq,he⟩
      have hp:∀i,i<nrem→P (gx d0 lo (arrOf st2) i):=fun i hi=>Zuc hP sc hn hi
      refine wpS_bind (Znu (d0:=d0) K hP hn sc (i:=x) (j:=x - 1) hx2 (by omega) rfl (by show lo+x - 1=_;omega) ?_)
      cases e:r (gx d0 lo (arrOf st2) x) (gx d0 lo (arrOf st2) (x - 1)) with
      | true =>
        have dn':=Zjf.snoc K (fun i hi=>hp i (by omega)) (by omega) dn (K.as (hp x hx2) (hp (x - 1) (by omega)) e)
        refine Xh (fun _=>?_) (fun z=>absurd rfl z)
        refine Xh (fun q0=>?_) (fun q0=>?_)
        · obtain ⟨c2,d2⟩:=Zjf.mir K hP hn sc (i:=x - (q+1)) (j:=x) (n:=x+1) (by omega) hx2 dn' he rfl
          refine wpS_bind (Zkj (i:=x - (q+1)) (j:=x) (by show lo+x - (q+1)=_;omega) rfl ?_)
          exact wpS_pure ⟨0,rfl,c2,d2,by omega,fun i i1 i2=>by rw [show i=x+1 - 1 by omega];exact Eqv.same K (Zuc hP c2 hn hx2)⟩
        · exact wpS_pure ⟨0,rfl,sc,dn',by omega,fun i i1 i2=>by rw [show i=x+1 - 1 by omega];exact Eqv.same K (hp x hx2)⟩
      | false =>
        refine Xh (fun z=>absurd z Bool.false_ne_true) (fun _=>?_)
        refine wpS_bind (Znu (d0:=d0) K hP hn sc (i:=x - 1) (j:=x) (by omega) hx2 (by show lo+x - 1=_;omega) rfl ?_)
        cases e2:r (gx d0 lo (arrOf st2) (x - 1)) (gx d0 lo (arrOf st2) x) with
        | true =>
          refine Xh (fun _=>?_) (fun z=>absurd rfl z)
          exact wpS_pure ⟨x,q,rfl,hx1,by omega,sc,dn,hq,he⟩
        | false =>
          refine Xh (fun z=>absurd z Bool.false_ne_true) (fun _=>?_)
          refine wpS_pure ⟨q+1,rfl,sc,Zjf.snoc K (fun i hi=>hp i (by omega)) (by omega) dn e2,by omega,fun i i1 i2=>?_⟩
          rw [show x+1 - 1=x by omega]
          by_cases ix:i=x
          · rw [ix]
            exact Eqv.same K (hp x hx2)
          · exact Eqv.via K (hp i (by omega)) (hp (x - 1) (by omega)) (hp x hx2) (he i (by omega) (by omega)) ⟨e,e2⟩
    case post =>
      rintro c st2 ⟨m,q,rfl,m1,m2,sc,dn,hq,he⟩
      dsimp -zeta -zetaHave only
      extract_lets -underBinder u1 u2 u3 u4
      dsimp -zeta -zetaHave only [u1]
      extract_lets -underBinder jp4
      have hd3:∀st3,SC κ lo st st3→Zjf r (gx d0 lo (arrOf st3)) m→wpS (model prog w) A E s (jp4 ()) Q st3:=fun st3 sc3 dn3=>by
        refine wpS_bind (Zkj (lo:=lo) (i:=0) (j:=m) rfl rfl ?_)
        have hsz:lo+m≤(arrOf st3).size:=by rw [sc3.size];omega
        have c4:SC κ lo st (setArr st3 (mirror (arrOf st3) (lo+0) (lo+m) ((lo+m - (lo+0)) / 2))):=sc3.put (mirror_perm _ _ _ _) (fun k hk=>Zyy hsz k hk)
        refine wpS_bind (Zxk (d0:=d0) K hP hn c4 (by omega) m2 (fun i j hij hj=>?_) (fun x n Q' q=>?_) fun n g1 g2 g3 _=>wpS_pure (h n _ c4 (by omega) g2 g3))
        · show r (gx d0 lo (mirror (arrOf st3) (lo+0) (lo+m) ((lo+m - (lo+0)) / 2)) j) (gx d0 lo (mirror (arrOf st3) (lo+0) (lo+m) ((lo+m - (lo+0)) / 2)) i)=false
          rw [Zvk hsz,Zvk hsz,if_pos (by omega),if_pos (by omega)]
          exact dn3 _ _ (by omega) (by omega)
        · refine wpS_bind (wpS_mono q ?_)
          rintro b st'' ⟨rfl,b',rfl,q1,q2⟩
          dsimp only
          cases b' with
          | true =>
            rw [if_pos rfl]
            exact wpS_pure (q1 rfl)
          | false =>
            rw [if_neg Bool.false_ne_true]
            exact wpS_pure (q2 rfl)
      refine Xh (fun q0=>?_) (fun q0=>?_)
      · obtain ⟨c2,d2⟩:=Zjf.mir K hP hn sc (i:=m - (q+1)) (j:=m) (n:=m) (le_refl _) m2 dn he rfl
        refine wpS_bind (Zkj (i:=m - (q+1)) (j:=m) (by show lo+m - (q+1)=_;omega) rfl ?_)
        exact hd3 _ c2 d2
      · exact hd3 _ sc dn
  refine Xh (fun c2=>?_) (fun c2=>?_)
  · refine wpS_bind (Znu (d0:=d0) K hP hn c0 (i:=0) (j:=n - 1) (by omega) (by omega) rfl (by show lo+n - 1=_;omega) ?_)
    cases e:r (gx d0 lo (arrOf st) 0) (gx d0 lo (arrOf st) (n - 1)) with
    | true =>
      refine Xh (fun _=>?_) (fun z=>absurd rfl z)
      exact wpS_pure (h n st c0 n1 n2 n3)
    | false =>
      refine Xh (fun z=>absurd z Bool.false_ne_true) (fun _=>?_)
      have all:∀k,k<n→Eqv r (gx d0 lo (arrOf st) k) (gx d0 lo (arrOf st) (n - 1)):=fun k hk =>
        ⟨K.tr (hp0 (n - 1) (by omega)) (hp0 0 (by omega)) (hp0 k (by omega)) e (n3 0 k (zero_le _) hk),n3 k (n - 1) (by omega) (by omega)⟩
      have dn:Zjf r (gx d0 lo (arrOf st)) n:=fun i j hij hj=>(Eqv.via K (hp0 i (by omega)) (hp0 (n - 1) (by omega)) (hp0 j (by omega)) (all i (by omega)) (all j hj)).1
      obtain ⟨c3,d3⟩:=Zjf.mir K hP hn c0 (i:=0) (j:=n) (n:=n+1) (by omega) (by omega) (Zjf.snoc K (fun i hi=>hp0 i (by omega)) n1 dn n5) (fun k _ hk=>all k hk) rfl
      refine wpS_bind (Zkj (lo:=lo) (i:=0) (j:=n) rfl rfl ?_)
      exact hd _ c3 d3
  · have e1:n=1:=by omega
    subst e1
    refine hd _ c0 (Zjf.snoc K (fun i hi=>hp0 i (by omega)) (le_refl 1) (fun i j hij hj=>?_) n5)
    rw [show i=0 by omega,show j=0 by omega]
    exact K.ir (hp0 0 (by omega))
variable {d0:Keyed}{lo nrem:Nat}
theorem Xgh {a:Array Keyed}{k l:Nat}(hk:lo+k<a.size)(hl:l≤k)(i:Nat):gx d0 lo (bubble a (lo+k) (lo+k - (lo+l))) i=if i=l then gx d0 lo a k else if l<i∧i≤k then gx d0 lo a (i - 1) else gx d0 lo a i:=by
 have e:=getElem?_bubble hk (lo+k - (lo+l)) (by omega) (lo+i)
 rw [show lo+k - (lo+k - (lo+l))=lo+l by omega] at e
 by_cases c:i=l
 ·rw [if_pos c]
  rw [if_pos (by omega)] at e
  exact Zey e
 ·rw [if_neg c]
  rw [if_neg (by omega)] at e
  by_cases c2:l<i∧i≤k
  ·rw [if_pos c2]
   rw [if_pos (by omega)] at e
   exact Zey (e.trans (by congr 1;omega))
  ·rw [if_neg c2]
   rw [if_neg (by omega)] at e
   exact Zey e
theorem Xkr {a:Array Keyed}{k l:Nat}(hk:lo+k<a.size)(hl:l≤k)(i:Nat)(hi:i<lo):(bubble a (lo+k) (lo+k - (lo+l)))[i]?=a[i]?:=by
 rw [getElem?_bubble hk (lo+k - (lo+l)) (by omega) i,if_neg (by omega),if_neg (by omega)]
theorem Xju {Q:Bool→SortSt→Prop}(d0:Keyed)(K:Ask prog w A s κ P r)(hP:∀x∈(arrOf st).toList,P x)(hn:lo+nrem≤(arrOf st).size){st1:SortSt}(c1:SC κ lo st st1){n ok:Nat}(hnn:n≤nrem)(hok:ok≤n)(h1:1≤n)(hs:Zqr r (gx d0 lo (arrOf st1)) ok)
    (h:∀st',SC κ lo st st'→Zqr r (gx d0 lo (arrOf st')) n→Q true st'):wpS (model prog w) A E s (binarySort' lo n ok) Q st1:=by
  refine wpS_bind (wpS_mono (wpS_forRange (I:=fun k c st'=>c.1=none∧SC κ lo st st'∧Zqr r (gx d0 lo (arrOf st')) (min k n)) (Q:=fun c st'=>c.1=none∧SC κ lo st st'∧Zqr r (gx d0 lo (arrOf st')) n) ?step ?fin ?init) ?post)
  case post =>
    rintro ⟨c,_⟩ st' ⟨e,sc,u⟩
    have e:c=none:=e
    subst e
    exact wpS_pure (h st' sc u)
  case init =>
    refine ⟨rfl,c1,fun i j hij hj=>?_⟩
    by_cases z:ok=0
    · rw [show i=0 by omega,show j=0 by omega]
      exact K.ir (Zuc hP c1 hn (by omega))
    · exact hs i j hij (by omega)
  case fin =>
    rintro c st' ⟨e,sc,u⟩
    rw [show min (max (max ok 1) n) n=n by omega] at u
    exact ⟨e,sc,u⟩
  case step =>
    rintro k ⟨c,_⟩ st' hk1 hk2 ⟨e,sc,u⟩
    have e:c=none:=e
    subst e
    rw [show min k n=k by omega] at u
    have hp:∀i,i<nrem→P (gx d0 lo (arrOf st') i):=fun i hi=>Zuc hP sc hn hi
    refine wpS_bind (wpS_mono (wpS_forRange (I:=fun x c st2=>st2=st'∧∃l m,c=(none,l,m)∧l≤m∧m≤k∧m - l≤k - x∧(∀i,i<l→r (gx d0 lo (arrOf st') k) (gx d0 lo (arrOf st') i)=false)∧(∀i,m≤i→i<k→r (gx d0 lo (arrOf st') k) (gx d0 lo (arrOf st') i)=true))
      (Q:=fun c st2=>st2=st'∧∃l m,c=(none,l,m)∧l≤k∧(∀i,i<l→r (gx d0 lo (arrOf st') k) (gx d0 lo (arrOf st') i)=false)∧(∀i,l≤i→i<k→r (gx d0 lo (arrOf st') k) (gx d0 lo (arrOf st') i)=true)) ?istep ?ifin ⟨rfl,0,k,rfl,zero_le _,le_refl _,by omega,fun i hi=>by omega,fun i q1 q2=>by omega⟩) ?ipost)
    case ifin =>
      rintro c st2 ⟨rfl,l,m,rfl,q1,q2,q3,q4,q5⟩
      have:l=m:=by omega
      subst this
      exact ⟨rfl,l,l,rfl,q2,q4,q5⟩
    case istep =>
      rintro x c st2 _ hx ⟨rfl,l,m,rfl,q1,q2,q3,q4,q5⟩
      refine Xh (fun z=>?_) (fun z=>?_)
      · have z:l≥m:=z
        have:l=m:=by omega
        subst this
        exact wpS_pure ⟨rfl,l,l,rfl,q2,q4,q5⟩
      · have z:¬l≥m:=z
        refine wpS_bind (Znu (d0:=d0) K hP hn sc (i:=k) (j:=(l+m) / 2) (by omega) (by omega) rfl rfl ?_)
        cases e:r (gx d0 lo (arrOf st2) k) (gx d0 lo (arrOf st2) ((l+m) / 2)) with
        | true =>
          refine Xh (fun _=>?_) (fun z=>absurd rfl z)
          refine wpS_pure ⟨rfl,l,(l+m) / 2,rfl,by omega,by omega,by omega,q4,fun i i1 i2=>?_⟩
          cases e2:r (gx d0 lo (arrOf st2) k) (gx d0 lo (arrOf st2) i) with
          | true=>rfl
          | false=>rw [K.tr (hp _ (by omega)) (hp i (by omega)) (hp k (by omega)) (u ((l+m) / 2) i i1 i2) e2] at e;cases e
        | false =>
          refine Xh (fun z=>absurd z Bool.false_ne_true) (fun _=>?_)
          exact wpS_pure ⟨rfl,(l+m) / 2+1,m,rfl,by omega,q2,by omega,fun i i1=>K.tr (hp i (by omega)) (hp _ (by omega)) (hp k (by omega)) (u i ((l+m) / 2) (by omega) (by omega)) e,q5⟩
    case ipost =>
      rintro c st2 ⟨rfl,l,m,rfl,q1,q2,q3⟩
      refine wpS_bind (wpS_modify (wpS_pure ⟨rfl,sc.put (bubble_perm _ _ _) (fun i hi=>Xkr (by rw [sc.size];omega) q1 i hi),?_⟩))
      rw [show min (k+1) n=k+1 by omega]
      have hks:lo+k<(arrOf st2).size:=by rw [sc.size];omega
      intro i j hij hj
      show r (gx d0 lo (bubble (arrOf st2) (lo+k) (lo+k - (lo+l))) j) (gx d0 lo (bubble (arrOf st2) (lo+k) (lo+k - (lo+l))) i)=false
      rw [Xgh hks q1,Xgh hks q1]
      by_cases ij:i=j
      · subst ij
        refine K.ir ?_
        repeat' split
        all_goals exact hp _ (by omega)
      · repeat' split
        all_goals first
          | (exfalso;omega)
          | exact q2 _ (by omega)
          | exact K.as (hp _ (by omega)) (hp _ (by omega)) (q3 _ (by omega) (by omega))
          | exact u _ _ (by omega) (by omega)
end
noncomputable abbrev Pn:=Nat×Nat×Nat
noncomputable def Zhp:Nat→List (List Keyed)→List Pn→Prop
 | _,[],[]=>True
 | off,R::Rs,p::ps=>p.1=off∧p.2.1=R.length∧Zhp (off+R.length) Rs ps
 | _,_,_=>False
theorem Zhp.len:∀{Rs:List (List Keyed)} {off:Nat} {ps:List Pn},Zhp off Rs ps→ps.length=Rs.length
 | [],_,[],_=>rfl
 | [],_,_::_,h=>h.elim
 | _::_,_,[],h=>h.elim
 | R::Rs,off,p::ps,h=>by rw [length_cons,length_cons,Zhp.len h.2.2]
theorem Zhp.split:∀{R1 R2:List (List Keyed)} {off:Nat} {ps:List Pn},Zhp off (R1++R2) ps→∃p1 p2,ps=p1++p2∧Zhp off R1 p1∧Zhp (off+R1.flatten.length) R2 p2
 | [],R2,off,ps,h=>⟨[],ps,rfl,trivial,h⟩
 | R::R1,R2,off,[],h=>h.elim
 | R::R1,R2,off,p::ps,h=>by
  obtain ⟨p1,p2,e,h1,h2⟩:=Zhp.split (R1:=R1) (R2:=R2) h.2.2
  refine ⟨p::p1,p2,by rw [e];rfl,⟨h.1,h.2.1,h1⟩,?_⟩
  rw [flatten_cons,length_append,← add_assoc]
  exact h2
theorem Zhp.join:∀{R1 R2:List (List Keyed)} {off:Nat} {p1 p2:List Pn},Zhp off R1 p1→Zhp (off+R1.flatten.length) R2 p2→Zhp off (R1++R2) (p1++p2)
 | [],R2,off,[],p2,_,h=>h
 | [],_,_,_::_,_,h,_=>h.elim
 | _::_,_,_,[],_,h,_=>h.elim
 | R::R1,R2,off,p::p1,p2,h1,h2=>by
  refine ⟨h1.1,h1.2.1,Zhp.join h1.2.2 ?_⟩
  rw [flatten_cons,length_append,← add_assoc] at h2
  exact h2
structure RI (κ:SortKind)(r:Keyed→Keyed→Bool)(a0:List Keyed)(st:SortSt)(Rs:List (List Keyed))(Z:List Keyed):Prop where
 k:kindOf st=κ
 f:failedOf st=none
 m:(arrOf st).toList.Perm a0
 l:(arrOf st).toList=Rs.flatten++Z
 p:Zhp 0 Rs (pendingOf st).toList
 u:∀R∈Rs,Up r R∧1≤R.length
section
variable {prog:Program}{w:World}{A:Around}{E:Value→Shared→Prop}{s:Shared}{κ:SortKind}{P:Keyed→Prop}{r:Keyed→Keyed→Bool}{st:SortSt}{d0:Keyed}{a0 Z:List Keyed}{Rs:List (List Keyed)}
theorem Zzc {α:Type}{l p1 p2:List α}{i:Nat}{x y v:α}(e:l=p1++x::y::p2)(hi:p1.length=i):(l.set i v).eraseIdx (i+1)=p1++v::p2:=by
 subst e hi
 rw [set_append_right _ _ (le_refl _),sub_self,List.set_cons_zero,List.eraseIdx_append_of_length_le (le_succ _),Nat.succ_sub (le_refl _),sub_self]
 rfl
theorem Zjr {R1 R2:List (List Keyed)}{X Y:List Keyed}{i:Nat}{Q:Bool→SortSt→Prop}(K:Ask prog w A s κ P r)(hP:∀x∈a0,P x)(ri:RI κ r a0 st (R1++X::Y::R2) Z)(hi:R1.length=i)(h:∀M st',RI κ r a0 st' (R1++M::R2) Z→Q true st'):wpS (model prog w) A E s (mergeAt' i) Q st:=by
 obtain ⟨p1,p2,e,h1,h2⟩:=Zhp.split ri.p
 match p2,h2 with
 | (x1,x2,x3)::(y1,y2,y3)::p2,h2 =>
  obtain ⟨e1,e2,e3,e4,h3⟩:=h2
  have l1:=h1.len
  have e1:x1=0+R1.flatten.length:=e1
  have e2:x2=X.length:=e2
  have e3:y1=0+R1.flatten.length+X.length:=e3
  have e4:y2=Y.length:=e4
  rw [zero_add] at e1 e3
  have uX:=ri.u X (mem_append_right _ (.head _))
  have uY:=ri.u Y (mem_append_right _ (.tail _ (.head _)))
  have hl:(arrOf st).toList=R1.flatten++X++Y++(R2.flatten++Z):=by
   rw [ri.l]
   simp only [flatten_append,flatten_cons,append_assoc]
  have q1:(pendingOf st)[i]?=some (x1,x2,x3):=by
   rw [← getElem?_toList,e,getElem?_append_right (by omega),show i - p1.length=0 by omega]
   rfl
  have q2:(pendingOf st)[i+1]?=some (x1+x2,y2,y3):=by
   rw [← getElem?_toList,e,getElem?_append_right (by omega),show i+1 - p1.length=1 by omega,e1,e2,← e3]
   rfl
  refine Zpu K ri.k ri.f q1 q2 hl e1.symm e2.symm e4.symm (by omega) (by omega) (fun x hx=>hP x (ri.m.mem_iff.mp hx)) uX.1 uY.1 fun M st' hm hu ha hk hf hp=>?_
  have lm:=hm.length_eq
  rw [length_append] at lm
  refine h M st' ⟨hk,hf,?_,?_,?_,fun R hR=>?_⟩
  ·rw [ha]
   refine List.Perm.trans ?_ ri.m
   rw [hl]
   simp only [append_assoc]
   refine List.Perm.append_left _ ?_
   rw [← append_assoc X Y]
   exact hm.append_right _
  ·rw [ha]
   simp only [flatten_append,flatten_cons,append_assoc]
  ·rw [hp]
   rw [Array.toList_eraseIdxIfInBounds,Array.toList_setIfInBounds,Zzc e (by omega)]
   refine h1.join ⟨by show x1=_;rw [e1,zero_add],by show x2+y2=_;omega,?_⟩
   rw [lm,← add_assoc]
   exact h3
  ·rcases List.mem_append.mp hR with q | q
   ·exact ri.u R (mem_append_left _ q)
   ·rcases List.mem_cons.mp q with q | q
    ·subst q
     exact ⟨hu,by omega⟩
    ·exact ri.u R (mem_append_right _ (.tail _ (.tail _ q)))
theorem RI.sc {st':SortSt}(ri:RI κ r a0 st Rs Z)(c:SC κ Rs.flatten.length st st'):∃Z',RI κ r a0 st' Rs Z'∧Z'.length=Z.length∧∀i,Z'[i]?=(arrOf st')[Rs.flatten.length+i]?:=by
 have hsz:=c.size
 have h1:(arrOf st).size=Rs.flatten.length+Z.length:=by rw [← length_toList,ri.l,length_append]
 have e:(arrOf st').toList=Rs.flatten++(arrOf st').toList.drop Rs.flatten.length:=by
  refine List.ext_getElem? fun i=>?_
  by_cases hi:i<Rs.flatten.length
  ·rw [getElem?_append_left hi,getElem?_toList,c.o i hi,← getElem?_toList,ri.l,getElem?_append_left hi]
  ·rw [getElem?_append_right (by omega),getElem?_drop,show Rs.flatten.length+(i - Rs.flatten.length)=i by omega]
 refine ⟨(arrOf st').toList.drop Rs.flatten.length,⟨c.k,c.f,c.m.toList.trans ri.m,e,by rw [c.p];exact ri.p,ri.u⟩,?_,fun i=>?_⟩
 ·rw [length_drop,length_toList]
  omega
 ·rw [getElem?_drop,getElem?_toList]
theorem Xmf {g:Nat→Keyed}{l:List Keyed}{n:Nat}(h:Zqr r g n)(e:∀i x,i<n→l[i]?=some x→x=g i):Up r (l.take n):=by
 refine List.pairwise_iff_getElem.mpr fun i j hi hj hij=>?_
 rw [length_take] at hi hj
 rw [List.getElem_take,List.getElem_take,e i _ (by omega) (getElem?_eq_getElem (by omega)),e j _ (by omega) (getElem?_eq_getElem (by omega))]
 exact h i j (by omega) (by omega)
theorem Zro:∀{Rs:List (List Keyed)},(∀R∈Rs,1≤R.length)→Rs.length≤Rs.flatten.length
 | [],_=>le_refl _
 | R::Rs,h=>by
  have h1:=h R (.head _)
  have h2:=Zro fun R hR=>h R (.tail _ hR)
  rw [flatten_cons,length_append,length_cons]
  omega
theorem Xgj {Rs:List (List Keyed)}{i:Nat}(h:i+1<Rs.length):∃R1 X Y R2,Rs=R1++X::Y::R2∧R1.length=i:=by
 refine ⟨Rs.take i,Rs[i],Rs[i+1],Rs.drop (i+2),?_,List.length_take_of_le (by omega)⟩
 rw [← drop_eq_getElem_cons,← drop_eq_getElem_cons,take_append_drop]
theorem RI.size (ri:RI κ r a0 st Rs Z):a0.length=Rs.flatten.length+Z.length:=by rw [← ri.m.length_eq,ri.l,length_append]
theorem Zhp.mod {f:Pn→Pn}(hf:∀p,(f p).1=p.1∧(f p).2.1=p.2.1):∀{Rs:List (List Keyed)} {off:Nat} {ps:List Pn} (i:Nat),Zhp off Rs ps→Zhp off Rs (ps.modify i f)
 | [],_,[],i,h=>by rw [List.modify_nil];exact h
 | [],_,_::_,_,h=>h.elim
 | _::_,_,[],_,h=>h.elim
 | R::Rs,off,p::ps,0,h=>by
  rw [List.modify_zero_cons]
  exact ⟨(hf p).1.trans h.1,(hf p).2.trans h.2.1,h.2.2⟩
 | R::Rs,off,p::ps,i+1,h=>by
  rw [List.modify_succ_cons]
  exact ⟨h.1,h.2.1,Zhp.mod hf i h.2.2⟩
noncomputable def RunQ (κ:SortKind)(r:Keyed→Keyed→Bool)(a0:List Keyed)(size x:Nat):ForInStep (Option Unit×Nat)→SortSt→Prop
 | .done (c,_),st'=>c=none∧∃Rs,RI κ r a0 st' Rs []
 | .yield (c,lo),st'=>c=none∧x+1≤lo∧∃Rs Z,RI κ r a0 st' Rs Z∧Rs.flatten.length=lo∧lo≤size
theorem Xbw {Q:Unit→SortSt→Prop}(d0:Keyed)(K:Ask prog w A s κ P r)(hP:∀x∈(arrOf st).toList,P x)(hk:kindOf st=κ)(hf:failedOf st=none)(hp:pendingOf st=#[])(h2:1≤(arrOf st).size)
  (h:∀st',(arrOf st').toList.Perm (arrOf st).toList→failedOf st'=none→Up r (arrOf st').toList→Q () st'):wpS (model prog w) A E s sortRuns' Q st:=by
 have r0:RI κ r (arrOf st).toList st [] (arrOf st).toList:=⟨hk,hf,List.Perm.refl _,rfl,by rw [hp];trivial,fun _ z=>nomatch z⟩
 refine wpS_bind (wpS_get ?_)
 extract_lets -underBinder size minrun l0
 have hsz:size=(arrOf st).size:=rfl
 clear_value size minrun
 refine wpS_bind (wpS_mono (wpS_forRange (I:=fun x c st'=>c.1=none∧x≤c.2∧∃Rs Z,RI κ r (arrOf st).toList st' Rs Z∧Rs.flatten.length=c.2∧c.2≤size) (Q:=fun c st'=>c.1=none∧∃Rs,RI κ r (arrOf st).toList st' Rs []) ?step ?fin ⟨rfl,zero_le _,[],_,r0,rfl,zero_le _⟩) ?post)
 case fin =>
  rintro ⟨c,lo⟩ st' ⟨e,h1,Rs,Z,ri,h3,h4⟩
  have h1:max 0 size≤lo:=h1
  have h3:Rs.flatten.length=lo:=h3
  have h4:lo≤size:=h4
  have hl:=congrArg List.length ri.l
  rw [length_toList,length_append,h3,← length_toList,ri.m.length_eq,length_toList] at hl
  have:Z=[]:=List.length_eq_zero_iff.mp (by omega)
  subst this
  exact ⟨e,Rs,ri⟩
 case step =>
  rintro x ⟨c,lo⟩ st' _ hx ⟨e,h1,Rs,Z,ri,h3,h4⟩
  have e:c=none:=e
  subst e
  have h1:x≤lo:=h1
  have h3:Rs.flatten.length=lo:=h3
  have h4:lo≤size:=h4
  have hrs:=ri.size
  rw [length_toList] at hrs
  have hP':∀x∈(arrOf st').toList,P x:=fun x hx=>hP x (ri.m.mem_iff.mp hx)
  have hs':(arrOf st').size=size:=by rw [← length_toList,ri.m.length_eq,length_toList];exact hsz.symm
  refine Xh (fun c1=>?_) (fun c1=>?_)
  ·have c1:lo≥size:=c1
   have:Z=[]:=List.length_eq_zero_iff.mp (by omega)
   subst this
   exact wpS_pure ⟨rfl,Rs,ri⟩
  have c1:¬lo≥size:=c1
  subst h3
  refine wpS_bind (Zvz (lo:=Rs.flatten.length) (nrem:=size - Rs.flatten.length) d0 K hP' ri.k ri.f (by omega) (by omega) fun m st1 sc1 m1 m2 u1=>?_)
  refine wpS_mono (Q:=RunQ κ r (arrOf st).toList size x) ?_ (fun rr st4 q=>by cases rr<;>exact q)
  dsimp -zeta -zetaHave only
  extract_lets -underBinder n0 jp
  have hj:∀n st2,SC κ Rs.flatten.length st' st2→1≤n→n≤size - Rs.flatten.length→Zqr r (gx d0 Rs.flatten.length (arrOf st2)) n→wpS (model prog w) A E s (jp () n) (RunQ κ r (arrOf st).toList size x) st2:=fun n st2 sc2 g1 g2 u2=>by
   obtain ⟨Z2,ri2,lz,ez⟩:=ri.sc sc2
   have uz:Up r (Z2.take n):=Xmf u2 fun i x hi e=>by
    rw [ez] at e
    unfold gx
    rw [e]
    rfl
   have lt:(Z2.take n).length=n:=List.length_take_of_le (by omega)
   refine wpS_bind (wpS_get ?_)
   extract_lets -underBinder jp2
   have hj2:∀st3 Rs3,RI κ r (arrOf st).toList st3 Rs3 Z2→Rs3.flatten.length=Rs.flatten.length→wpS (model prog w) A E s (jp2 ()) (RunQ κ r (arrOf st).toList size x) st3:=fun st3 Rs3 ri3 hl3=>by
    refine wpS_bind (wpS_modify (wpS_pure ⟨rfl,by omega,Rs3++[Z2.take n],Z2.drop n,⟨ri3.k,ri3.f,ri3.m,?_,?_,fun R hR=>?_⟩,?_,by omega⟩))
    ·show (arrOf st3).toList=_
     rw [ri3.l,flatten_append,flatten_cons,List.flatten_nil,append_nil,append_assoc,take_append_drop]
    ·show Zhp 0 _ ((pendingOf st3).push (Rs.flatten.length,n,0)).toList
     rw [toList_push]
     exact ri3.p.join ⟨by rw [zero_add];exact hl3.symm,lt.symm,trivial⟩
    ·rcases List.mem_append.mp hR with q | q
     ·exact ri3.u R q
     ·rw [List.mem_singleton.mp q]
      exact ⟨uz,by omega⟩
    ·rw [flatten_append,flatten_cons,List.flatten_nil,append_nil,length_append,lt,hl3]
   cases eb:(pendingOf st2).back? with
   | none=>exact hj2 st2 Rs ri2 rfl
   | some t =>
    obtain ⟨s1,n1,w0⟩:=t
    dsimp -zeta -zetaHave only
    extract_lets -underBinder pw
    refine wpS_bind (wpS_mono (wpS_forRange (I:=fun y c st3=>c.1=none∧∃Rs3,RI κ r (arrOf st).toList st3 Rs3 Z2∧Rs3.flatten.length=Rs.flatten.length) (Q:=fun c st3=>c.1=none∧∃Rs3,RI κ r (arrOf st).toList st3 Rs3 Z2∧Rs3.flatten.length=Rs.flatten.length) ?s3 (fun _ _ q=>q) ⟨rfl,Rs,ri2,rfl⟩) ?p3)
    case p3 =>
     rintro ⟨c,u⟩ st3 ⟨e,Rs3,ri3,hl3⟩
     have e:c=none:=e
     subst e
     refine wpS_bind (wpS_modify ?_)
     refine hj2 _ Rs3 ⟨ri3.k,ri3.f,ri3.m,ri3.l,?_,ri3.u⟩ hl3
     show Zhp 0 _ ((pendingOf st3).modify ((pendingOf st3).size - 1) fun x=>(x.1,x.2.1,pw)).toList
     rw [Array.toList_modify]
     exact Zhp.mod (f:=fun x=>(x.1,x.2.1,pw)) (fun p=>⟨rfl,rfl⟩) _ ri3.p
    case s3 =>
     rintro y ⟨c,u⟩ st3 _ _ ⟨e,Rs3,ri3,hl3⟩
     have e:c=none:=e
     subst e
     have hpl:(pendingOf st3).size=Rs3.length:=by rw [← length_toList];exact ri3.p.len
     refine wpS_bind (wpS_get ?_)
     dsimp only
     by_cases c5:(pendingOf st3).size > 1
     ·rw [if_pos c5,Array.getElem?_eq_getElem (show (pendingOf st3).size - 2<(pendingOf st3).size by omega)]
      dsimp only
      refine Xh (fun _=>wpS_pure ⟨rfl,Rs3,ri3,hl3⟩) (fun _=>?_)
      obtain ⟨R1,X,Y,R2,eR,l1⟩:=Xgj (Rs:=Rs3) (i:=(pendingOf st3).size - 2) (by omega)
      subst eR
      have q0:=ri3.size
      refine wpS_bind (Zjr K hP ri3 l1 fun M st4 ri4=>?_)
      refine Xh (fun z=>absurd z (by decide)) (fun _=>?_)
      have q1:=ri4.size
      exact wpS_pure ⟨rfl,_,ri4,by omega⟩
     ·rw [if_neg c5]
      exact wpS_pure ⟨rfl,Rs3,ri3,hl3⟩
  refine Xh (fun c2=>?_) (fun c2=>?_)
  ·have c2:m<minrun:=c2
   refine wpS_bind (wpS_lift (wpAny_rule ⟨rfl,?_⟩))
   refine wpS_bind (Xju (lo:=Rs.flatten.length) (nrem:=size - Rs.flatten.length) d0 K hP' (by omega) sc1 (n:=min (size - Rs.flatten.length) minrun) (by omega) (by omega) (by omega) u1 fun st2 sc2 u2=>?_)
   refine Xh (fun z=>absurd z (by decide)) (fun _=>?_)
   exact hj _ st2 sc2 (by omega) (by omega) u2
  ·exact hj m st1 sc1 m1 m2 u1
 case post =>
  rintro ⟨c,lo⟩ st' ⟨e,Rs,ri⟩
  have e:c=none:=e
  subst e
  refine wpS_bind (wpS_mono (wpS_forRange (I:=fun x c st''=>c.1=none∧∃Rs,RI κ r (arrOf st).toList st'' Rs []∧Rs.length+x≤size+1) (Q:=fun c st''=>c.1=none∧∃Rs,RI κ r (arrOf st).toList st'' Rs []∧Rs.length≤1) ?st2 ?fi2 ?in2) ?po2)
  case po2 =>
   rintro ⟨c,u⟩ st'' ⟨e,Rs,ri,h1⟩
   have e:c=none:=e
   subst e
   refine wpS_pure (h st'' ri.m ri.f ?_)
   rw [ri.l,append_nil]
   match Rs,h1 with
   | [],_=>exact List.Pairwise.nil
   | [R],_=>rw [flatten_cons,List.flatten_nil,append_nil];exact (ri.u R (.head _)).1
  case fi2 =>
   rintro c st'' ⟨e,Rs,ri,h1⟩
   exact ⟨e,Rs,ri,by omega⟩
  case in2 =>
   refine ⟨rfl,Rs,ri,?_⟩
   have h5:=Zro fun R hR=>(ri.u R hR).2
   have h6:=ri.size
   rw [length_toList,length_nil] at h6
   omega
  case st2 =>
   rintro x ⟨c,u⟩ st'' _ hx ⟨e,Rs,ri,h1⟩
   have e:c=none:=e
   subst e
   have hpl:(pendingOf st'').size=Rs.length:=by rw [← length_toList];exact ri.p.len
   refine wpS_bind (wpS_get ?_)
   refine Xh (fun c1=>?_) (fun c1=>?_)
   ·have c1:(pendingOf st'').size≤1:=c1
    exact wpS_pure ⟨rfl,Rs,ri,by omega⟩
   ·have c1:¬(pendingOf st'').size≤1:=c1
    have go:∀i,i+1<Rs.length→wpS (model prog w) A E s (mergeAt' i) (fun b st3=>b=true∧∃Rs',RI κ r (arrOf st).toList st3 Rs' []∧Rs'.length+(x+1)≤size+1) st'':=fun i hi=>by
     obtain ⟨R1,X,Y,R2,eR,l1⟩:=Xgj hi
     subst eR
     refine Zjr K hP ri l1 fun M st3 ri3=>⟨rfl,_,ri3,?_⟩
     rw [length_append,length_cons,length_cons] at h1
     rw [length_append,length_cons]
     omega
    refine wpS_bind (wpS_mono (go _ ?_) ?_)
    ·have key:∀(c:Prop) [Decidable c],(if c then (pendingOf st'').size - 2 - 1 else (pendingOf st'').size - 2)+1<Rs.length:=fun c _=>by
      by_cases z:c
      ·rw [if_pos z]
       omega
      ·rw [if_neg z]
       omega
     exact key _
    ·rintro b st3 ⟨rfl,Rs',ri',h7⟩
     refine Xh (fun z=>absurd z (by decide)) (fun _=>?_)
     exact wpS_pure ⟨rfl,Rs',ri',h7⟩
end
end L2
namespace L2
open PySem PySem.SeqAt PySem.MeetsSeq PySem.MeetsSeq3
open AutoSeq1 (wpAny_loadPart')
noncomputable def lexI (e l:Nat→Bool)(m n:Nat):List Nat→Bool
 | []=>decide (m<n)
 | j::js=>if e j=true then lexI e l m n js else l j
end L2
namespace L2
open PySem PySem.SeqAt PyProof.Rows
open Dl (Pc sLt pcLt Xne)
noncomputable def pP (p:Pc):PyData:=.tuple [.int p.1,.str p.2]
noncomputable def cP (c:List Pc):PyData:=.list (c.map pP)
section
variable {A:Around}{s:Shared}
end
theorem Zur (x:Str):sLt x x=false:=decide_eq_false (List.lt_irrefl _)
theorem Xgu {x y z:Str}(h:sLt x y=true)(h2:sLt y z=true):sLt x z=true:=decide_eq_true (List.lt_trans (of_decide_eq_true h) (of_decide_eq_true h2))
theorem Zwr {x y:Str}(h:x≠y):sLt x y=true∨sLt y x=true:=by
 have hne:x.cps.toList≠y.cps.toList:=fun e=>h (by cases x;cases y;congr 1;exact Array.toList_inj.mp e)
 by_cases q:x.cps.toList<y.cps.toList
 ·exact .inl (decide_eq_true q)
 ·rcases List.le_iff_lt_or_eq.mp (List.not_lt.mp q) with h' | h'
  ·exact .inr (decide_eq_true h')
  ·exact absurd h'.symm hne
noncomputable def cutOf (h:Heap)(v:Value):List Pc:=open Classical in if q:∃c as,Reads h v (cP c) as then q.choose else []
section
variable {prog:Program}{w:World}{A:Around}{E:Value→Shared→Prop}{s:Shared}
theorem Zoa:∀vs:List Value,vs.zip vs=vs.map fun v=>(v,v)
 | []=>rfl
 | v::vs=>by rw [List.zip_cons_cons,map_cons,Zoa vs]
theorem Zdh (vs:List Value):(vs.toArray.zip vs.toArray).toList=vs.map fun v=>(v,v):=by
 rw [← Zoa]
 simp
end
end L2
namespace L2
open PySem PySem.SeqAt PyProof.Rows
open Dl (sLt Pr kLt Zee)
noncomputable def side (b:Bool):Int ⊕ Str→Prop
 | .inl _=>b=true
 | .inr _=>b=false
theorem Xir (x:Int ⊕ Str):kLt x x=false:=by
 cases x with
 | inl a=>exact decide_eq_false (Int.lt_irrefl a)
 | inr a=>exact Zur a
theorem Xpm {x y:Int ⊕ Str}(h:kLt x y=true):kLt y x=false:=by
 cases x with
 | inl a =>
  cases y with
  | inl b=>exact decide_eq_false (by have:=of_decide_eq_true (show decide (a<b)=true from h);omega)
  | inr b=>rfl
 | inr a =>
  cases y with
  | inl b=>rfl
  | inr b =>
   cases e:kLt (.inr b) (.inr a) with
   | false=>rfl
   | true =>
    have:=Xgu (show sLt a b=true from h) (show sLt b a=true from e)
    rw [Zur] at this
    cases this
theorem Xnr {b:Bool}{x y z:Int ⊕ Str}(hx:side b x)(hy:side b y)(hz:side b z)(h:kLt y x=false)(h2:kLt z y=false):kLt z x=false:=by
 cases x with
 | inl x =>
  cases y with
  | inr y=>unfold side at hx hy;rw [hx] at hy;cases hy
  | inl y =>
   cases z with
   | inr z=>unfold side at hx hz;rw [hx] at hz;cases hz
   | inl z =>
    have h:=of_decide_eq_false (show decide (y<x)=false from h)
    have h2:=of_decide_eq_false (show decide (z<y)=false from h2)
    exact decide_eq_false (by omega)
 | inr x =>
  cases y with
  | inl y=>unfold side at hx hy;rw [hx] at hy;cases hy
  | inr y =>
   cases z with
   | inl z=>unfold side at hx hz;rw [hx] at hz;cases hz
   | inr z =>
    cases e:kLt (.inr z) (.inr x) with
    | false=>rfl
    | true =>
     have e:sLt z x=true:=e
     have h:sLt y x=false:=h
     have h2:sLt z y=false:=h2
     by_cases q:x=y
     ·subst q
      rw [e] at h2;cases h2
     ·rcases Zwr q with w | w
      ·have:=Xgu e w
       rw [h2] at this;cases this
      ·rw [h] at w;cases w
theorem Zpt {p q:Pr}(h:Zee p q=true):Zee q p=false:=by
 unfold Zee at *
 by_cases e:p.1=q.1
 ·rw [if_pos e] at h
  rw [if_pos e.symm]
  exact Xpm h
 ·rw [if_neg e] at h
  rw [if_neg fun z=>e z.symm]
  have:=of_decide_eq_true h
  exact decide_eq_false (by omega)
theorem Zwk {b:Bool}{p q t:Pr}(hp:side b p.2)(hq:side b q.2)(ht:side b t.2)(h:Zee q p=false)(h2:Zee t q=false):Zee t p=false:=by
 unfold Zee at *
 by_cases e1:q.1=p.1
 ·rw [if_pos e1] at h
  by_cases e2:t.1=q.1
  ·rw [if_pos e2] at h2
   rw [if_pos (e2.trans e1)]
   exact Xnr hp hq ht h h2
  ·rw [if_neg e2] at h2
   rw [if_neg (by omega)]
   have:=of_decide_eq_false h2
   exact decide_eq_false (by omega)
 ·rw [if_neg e1] at h
  have h:=of_decide_eq_false h
  by_cases e2:t.1=q.1
  ·rw [if_neg (by omega)]
   exact decide_eq_false (by omega)
  ·rw [if_neg e2] at h2
   have:=of_decide_eq_false h2
   rw [if_neg (by omega)]
   exact decide_eq_false (by omega)
noncomputable def prV:Value→Int ⊕ Str
 | .int y _=>.inl y
 | .str y _=>.inr y
 | _=>.inl 0
noncomputable def prI:Value→Int
 | .int y _=>y
 | _=>0
noncomputable def prO (o:Obj):Pr:=match o.data with
 | .seq its _=>(((its[0]?).map prI).getD 0,((its[1]?).map prV).getD (.inl 0))
 | _=>(0,.inl 0)
noncomputable def Zfk (h:Heap):Value→Pr
 | .ref a=>((h.get? a).map prO).getD (0,.inl 0)
 | _=>(0,.inl 0)
def Zsx (b:Bool)(h:Heap)(v:Value):Prop:=∃(a:Addr) (o:Obj) (x:Int) (t:Tok) (u:Value) (n:Nat),v=.ref a∧h.get? a=some o∧o.cls=.type "tuple"∧o.data=.seq #[.int x t,u] n∧((b=true∧∃y t',u=.int y t')∨(b=false∧∃y t',u=.str y t'))
theorem Zec {h:Heap}{a:Addr}{o:Obj}{x:Int}{t:Tok}{u:Value}{n:Nat}(h1:h.get? a=some o)(h2:o.data=.seq #[.int x t,u] n):Zfk h (.ref a)=(x,prV u):=by
 show ((h.get? a).map prO).getD (0,.inl 0)=_
 rw [h1]
 show prO o=_
 unfold prO
 rw [h2]
 rfl
theorem Zsx.keeps {b:Bool}{h h':Heap}{v:Value}(i:Zsx b h v)(k:∀b o,h.get? b=some o→h'.get? b=some o):Zsx b h' v∧Zfk h' v=Zfk h v:=by
 obtain ⟨a,o,x,t,u,n,rfl,h1,h2,h3,h4⟩:=i
 exact ⟨⟨a,o,x,t,u,n,rfl,k _ _ h1,h2,h3,h4⟩,(Zec (k _ _ h1) h3).trans (Zec h1 h3).symm⟩
theorem Zsx.side {b:Bool}{h:Heap}{v:Value}(i:Zsx b h v):side b (Zfk h v).2:=by
 obtain ⟨a,o,x,t,u,n,rfl,h1,h2,h3,h4⟩:=i
 rw [Zec h1 h3]
 rcases h4 with ⟨hb,y,t',rfl⟩ | ⟨hb,y,t',rfl⟩
 ·exact hb
 ·exact hb
section
variable {prog:Program}{w:World}{A:Around}{E:Value→Shared→Prop}{s:Shared}
noncomputable def Xkw (h:Heap)(v:Value):Value:=match v with
 | .ref a=>(((h.get? a).bind fun o=>match o.data with | .seq its _=>its[0]? | _=>none)).getD .none
 | _=>.none
theorem Xfz {h:Heap}{a:Addr}{o:Obj}{x:Int}{t:Tok}{u:Value}{n:Nat}(h1:h.get? a=some o)(h2:o.data=.seq #[.int x t,u] n):Xkw h (.ref a)=.int x t:=by
 show (((h.get? a).bind fun o=>match o.data with | .seq its _=>its[0]? | _=>none)).getD .none=_
 rw [h1]
 show ((match o.data with | .seq its _=>its[0]? | _=>none):Option Value).getD .none=_
 rw [h2]
 rfl
theorem Zvu {b:Bool}{h:Heap}:∀{vs:List Value},(∀v∈vs,Zsx b h v)→PySem.W.KatTups h vs (vs.map (Xkw h))
 | [],_=>PySem.W.KatTups.nil
 | v::vs,hv=>by
  obtain ⟨a,o,x,t,u,n,rfl,h1,h2,h3,h4⟩:=hv v (.head _)
  refine PySem.W.KatTups.cons h1 h2 h3 ?_ (Zvu fun v hv'=>hv v (.tail _ hv'))
  rw [Xfz h1 h3]
  rfl
theorem Xdk {M:Model}{b:Bool}{h:Heap}{vs:List Value}(hv:∀v∈vs,Zsx b h v):∀v∈vs.map (Xkw h),PySem.W.Looks M h (typeOf v) (.type "int"):=fun f hf=>by
 obtain ⟨v,hm,rfl⟩:=List.mem_map.mp hf
 obtain ⟨a,o,x,t,u,n,rfl,h1,h2,h3,h4⟩:=hv v hm
 rw [Xfz h1 h3]
 exact .now
theorem Xkp {b:Bool}(hu:A.units+8<cLine):Ask prog w A s (tuples' true) (fun x=>Zsx b s.heap x.1) (fun x y=>Zee (Zfk s.heap x.1) (Zfk s.heap y.1)) where
 run:=fun {x y Q E} hx hy q=>by
  obtain ⟨a,o,i,t,u,n,e1,h1,h2,h3,h4⟩:=hx
  obtain ⟨a',o',i',t',u',n',e1',h1',h2',h3',h4'⟩:=hy
  rw [e1,e1'] at q ⊢
  rw [Zec h1 h3,Zec h1' h3'] at q
  refine PySem.W.kat_lt h1 h3 h1' h3' ?_
  show PySem.W.KatLex prog w A true (decide (2<2)) Q [(.int i t,.int i' t'),(u,u')] 0 s
  refine PySem.W.kat_cons (wpAny_eqBool_int ?_)
  by_cases e:i=i'
  ·have q:Q (kLt (prV u) (prV u')) s:=by
    unfold Zee at q
    rwa [if_pos e] at q
   rw [show (i==i')=true from by simpa using e]
   refine kat_yes (PySem.W.kat_cons ?_)
   rcases h4 with ⟨hb,z,tz,rfl⟩ | ⟨hb,z,tz,rfl⟩<;>rcases h4' with ⟨hb',z',tz',rfl⟩ | ⟨hb',z',tz',rfl⟩
   ·refine wpAny_eqBool_int ?_
    by_cases ez:z=z'
    ·rw [show (z==z')=true from by simpa using ez]
     refine kat_yes (PySem.W.kat_nil ?_)
     have:kLt (prV (.int z tz)) (prV (.int z' tz'))=false:=decide_eq_false (by omega)
     rw [this] at q
     exact q
    ·rw [show (z==z')=false from by simpa using ez]
     exact kat_no (PySem.W.kat_one _ _ (PySem.P.lt_int q))
   ·rw [hb] at hb';cases hb'
   ·rw [hb] at hb';cases hb'
   ·refine wpAny_eqBool_str ?_
    by_cases ez:z=z'
    ·rw [decide_eq_true ez]
     refine kat_yes (PySem.W.kat_nil ?_)
     have:kLt (prV (.str z tz)) (prV (.str z' tz'))=false:=by rw [ez];exact Xir _
     rw [this] at q
     exact q
    ·rw [decide_eq_false ez]
     exact kat_no (PySem.W.kat_one _ _ (PySem.P.lt_str q))
  ·have q:Q (decide (i<i')) s:=by
    unfold Zee at q
    rwa [if_neg e] at q
   rw [show (i==i')=false from by simpa using e]
   exact kat_no (oneLt_int q)
 tr:=fun hx hy hz h1 h2=>Zwk hx.side hy.side hz.side h1 h2
 as:=fun _ _ h=>Zpt h
theorem Xjb {a:Addr}{vs:List Value}{n:Nat}{b:Bool}{P:Fin→Shared→Prop}(ho:s.heap.get? a=some (seqObj "list" vs.toArray n))(hI:∀s':Shared,(∀b o,b≠a→s.heap.get? b=some o→s'.heap.get? b=some o)→∀v∈vs,Zsx b s'.heap v∧Zfk s'.heap v=Zfk s.heap v)(hm:vs.length≤sizeLine)(hu:A.units+8<cLine)
    (h:∀out:Array Value,out.toList.Perm vs→(out.toList.map (Zfk s.heap)).Pairwise (fun c d=>Zee d c=false)→P (.done (.ret .none)) {s with heap:=sortedHeap s.heap a vs out}) :
    wpAny (model prog w) A (Builtin.«list.sort» ⟨[.ref a],[]⟩) P E s:=by
  have hlt:=lt_size ho
  obtain ⟨e0,h1⟩:∃e0,(s.heap.update a (Obj.mapSeq fun _=>#[])).get? a=some (seqObj "list" #[] e0):=⟨_,get?_update_seq ho (fun _=>#[])⟩
  have h6:(((s.heap.update a (Obj.mapSeq fun _=>#[])).push (seqObj "tuple" vs.toArray 0)).push (seqObj "list" #[] 0)).get? a=some (seqObj "list" #[] e0):=by
    rw [Heap.get?_push_ne _ _ _ (ne_of_lt (by rw [size_push',size_update];exact lt_succ_of_lt hlt)),Heap.get?_push_ne _ _ _ (ne_of_lt (by rw [size_update];exact hlt))]
    exact h1
  have keep:∀b o,b≠a→s.heap.get? b=some o→(((s.heap.update a (Obj.mapSeq fun _=>#[])).push (seqObj "tuple" vs.toArray 0)).push (seqObj "list" #[] 0)).get? b=some o:=fun b o hb q=>by
    refine get?_push_of_some _ (get?_push_of_some _ ?_)
    rw [Heap.get?_update_ne _ _ _ _ hb]
    exact q
  have hI6:=hI {s with heap:=((s.heap.update a (Obj.mapSeq fun _=>#[])).push (seqObj "tuple" vs.toArray 0)).push (seqObj "list" #[] 0)} keep
  rw [list_sort_plain]
  refine wpAny_bind (listItems_at ho rfl (wpAny_bind (listUpdate_at ho rfl (wpAny_bind (seqEpoch_at h1 rfl (wpAny_bind (wpAny_newTuple (wpAny_bind (wpAny_newList (wpAny_holding ?_))) (by simpa using hm)))))
    (by simpa using hm))))
  have fin:∀(st':SortSt),(arrOf st').toList.Perm (vs.map fun v=>(v,v))→failedOf st'=none→((arrOf st').toList.map fun x=>Zfk s.heap x.1).Pairwise (fun c d=>Zee d c=false)→
      wpAny (model prog w) A (do
        let touched:=(← seqEpoch a) != e0
        Builtin.List.listUpdate (.ref a) fun _=>(arrOf st').map (·.2)
        if let some e:=failedOf st' then rule "list.sort.comparison-raised";throw e
        if touched then rule "list.sort.modified";raiseError "ValueError" "list modified during sort"
        ret .none) P E {s with heap:=((s.heap.update a (Obj.mapSeq fun _=>#[])).push (seqObj "tuple" vs.toArray 0)).push (seqObj "list" #[] 0)}:=fun st' hp hf hs=>by
    have same:∀x∈(arrOf st').toList,x.1=x.2:=fun x hx=>by
      obtain ⟨v,_,rfl⟩:=List.mem_map.mp (hp.mem_iff.mp hx)
      rfl
    refine wpAny_bind (seqEpoch_at h6 rfl (wpAny_bind (listUpdate_at h6 rfl ?_ (hsz2:=by
      refine le_trans (le_of_eq (Array.size_map ..)) ?_
      rw [← length_toList,hp.length_eq,length_map]
      omega))))
    rw [hf]
    simp only [bne_self_eq_false,Bool.false_eq_true,if_false]
    refine wpAny_pure (h _ ?_ ?_)
    · rw [Array.toList_map]
      have:=hp.map (·.2)
      rw [map_map,show ((fun x:Keyed=>x.2)∘fun v:Value=>(v,v))=id from rfl,map_id] at this
      exact this
    · rw [Array.toList_map,map_map]
      rw [map_congr_left (g:=fun x=>Zfk s.heap x.1) (fun x hx=>by show Zfk s.heap x.2=_;rw [same x hx])]
      exact hs
  by_cases h2:vs.toArray.size<2
  · simp only [if_pos h2]
    refine wpAny_bind (wpAny_pure ?_)
    rw [StateT.run_pure]
    refine wpAny_bind (wpAny_pure ?_)
    refine fin (SortSt.mk' general' (vs.toArray.zip vs.toArray) #[] 7 none) (by show (vs.toArray.zip vs.toArray).toList.Perm _;rw [Zdh]) rfl ?_
    show ((vs.toArray.zip vs.toArray).toList.map fun x=>Zfk s.heap x.1).Pairwise _
    rw [Zdh]
    match vs,h2 with
    | [],_=>exact List.Pairwise.nil
    | [v],_=>exact pairwise_singleton _ _
    | _::_::_,h2=>exact absurd h2 (by simp)
  · simp only [if_neg h2]
    have h2':2≤vs.length:=by rw [size_toArray] at h2;omega
    refine wpAny_bind (PySem.W.kat_kind (T:=.type "int") (Zvu fun v hv=>(hI6 v hv).1) (by rw [length_map];omega) (Xdk fun v hv=>(hI6 v hv).1) (by decide) ?_)
    have hne:∃x,x∈vs:=⟨vs[0],getElem_mem (by omega)⟩
    obtain ⟨v0,hv0⟩:=hne
    have ek:tuples' ((Value.type "int") != Value.type "tuple")=tuples' true:=rfl
    rw [ek]
    refine wpAny_bind (wpAny_mono (Xbw (st:=SortSt.mk' (tuples' true) (vs.toArray.zip vs.toArray) #[] 7 none) (Q:=fun _ st'=>(arrOf st').toList.Perm (vs.map fun v=>(v,v))∧failedOf st'=none∧((arrOf st').toList.map fun x=>Zfk s.heap x.1).Pairwise (fun c d=>Zee d c=false)) (v0,v0) (Xkp (b:=b) hu) ?_ rfl rfl rfl ?_ fun st' q1 q2 q3=>⟨?_,q2,?_⟩) ?_ fun _ _ e=>e)
    · intro x hx
      have hx:x∈(vs.toArray.zip vs.toArray).toList:=hx
      rw [Zdh] at hx
      obtain ⟨v,hv,rfl⟩:=List.mem_map.mp hx
      exact (hI6 v hv).1
    · show 1≤(vs.toArray.zip vs.toArray).size
      rw [← length_toList,Zdh,length_map]
      omega
    · have q1:(arrOf st').toList.Perm (vs.toArray.zip vs.toArray).toList:=q1
      rw [Zdh] at q1
      exact q1
    · have q1:(arrOf st').toList.Perm (vs.toArray.zip vs.toArray).toList:=q1
      rw [Zdh] at q1
      refine List.pairwise_map.mpr (List.Pairwise.imp_of_mem (fun {x y} hx hy z=>?_) q3)
      obtain ⟨v,hv,rfl⟩:=List.mem_map.mp (q1.mem_iff.mp hx)
      obtain ⟨v',hv',rfl⟩:=List.mem_map.mp (q1.mem_iff.mp hy)
      have e1:=(hI6 v hv).2
      have e2:=(hI6 v' hv').2
      show Zee (Zfk s.heap v') (Zfk s.heap v)=false
      rw [← e1,← e2]
      exact z
    · rintro ⟨⟨⟩,st'⟩ s' ⟨rfl,q1,q2,q3⟩
      exact fin st' q1 q2 q3
theorem Zzb {l:Addr}{vs:List Value}{b:Bool}{Q:Value→Shared→Prop}(hl:s.heap.IsList l vs.toArray)(hI:∀v∈vs,Zsx b s.heap v)(hm:vs.length≤sizeLine)(hu:A.units+12<cLine)
  (h:∀out:Array Value,out.toList.Perm vs→(out.toList.map (Zfk s.heap)).Pairwise (fun c d=>Zee d c=false)→Q (.ref (s.heap.objs.size+1)) {s with heap:=sortedAll s.heap vs out}) :
  wpAny (model prog w) A (call (.builtin "sorted") [.ref l]) Q E s:=by
 have hz:((s.heap.push (seqObj "list" #[] 0)).update s.heap.objs.size (Obj.mapSeq (·++vs.toArray))).objs.size=s.heap.objs.size+1:=by rw [size_update,size_push']
 have hL:=get?_push_size ((s.heap.push (seqObj "list" #[] 0)).update s.heap.objs.size (Obj.mapSeq (·++vs.toArray))) (o:=seqObj "list" vs.toArray 0) rfl
 rw [hz] at hL
 have keep:∀b o,s.heap.get? b=some o→(((s.heap.push (seqObj "list" #[] 0)).update s.heap.objs.size (Obj.mapSeq (·++vs.toArray))).push (seqObj "list" vs.toArray 0)).get? b=some o:=fun b o q=>by
  refine get?_push_of_some _ ?_
  rw [Heap.get?_update_ne _ _ _ _ (ne_of_lt (lt_size q))]
  exact get?_push_of_some _ q
 refine Calls.call_function_entry kind_sorted plain_sorted entry_sorted (args_sorted1 _) ?_
 unfold Builtin.«sorted»
 refine wpAny_bind (m:=checkCount "sorted" 1 1 _) (wpAny_pure (wpAny_bind (collect_list hl (wpAny_bind (wpAny_newList ?_ (by simpa using hm))) hm)))
 simp only [hz]
 have hI0:∀v∈vs,Zsx b (((s.heap.push (seqObj "list" #[] 0)).update s.heap.objs.size (Obj.mapSeq (·++vs.toArray))).push (seqObj "list" vs.toArray 0)) v∧Zfk (((s.heap.push (seqObj "list" #[] 0)).update s.heap.objs.size (Obj.mapSeq (·++vs.toArray))).push (seqObj "list" vs.toArray 0)) v=Zfk s.heap v:=fun v hv=>(hI v hv).keeps keep
 have old:∀b o,s.heap.get? b=some o→b≠s.heap.objs.size+1:=fun b o q=>ne_of_lt (lt_succ_of_lt (lt_size q))
 refine wpAny_bind (wpAny_holding (wpAny_call_entry slot_list_sort ⟨_,hL,rfl⟩ entry_list_sort (Xjb (b:=b) hL (fun s' k v hv=>?_) hm (by show A.units+1+1+8<cLine;omega) fun out q1 q2=>⟨_,rfl,?_⟩) (args_list_sort _)))
 ·have:=(hI v hv).keeps (h':=s'.heap) fun b o q=>k b o (old b o q) (keep b o q)
  exact ⟨this.1,this.2.trans (hI0 v hv).2.symm⟩
 ·refine wpAny_pure ⟨_,rfl,h out q1 ?_⟩
  rw [map_congr_left (g:=Zfk (((s.heap.push (seqObj "list" #[] 0)).update s.heap.objs.size (Obj.mapSeq (·++vs.toArray))).push (seqObj "list" vs.toArray 0))) (fun v hv=>((hI0 v (q1.mem_iff.mp hv)).2).symm)]
  exact q2
end
end L2
namespace L2
open PySem PySem.Spec PyProof.Rows
open Dl (D R FE FT FA FO FS FI FB Fl Pc Xne)
section
variable {K:Frag}{C:String→Addr}{E:XK}{Γ Δ Γl Δl:List Nat}{m m1 m2 m3 mr:Nat}{S S1 S2 S3:List (Nat×Bool)}{H:Hp}
end
theorem Zne:∀{bs:List Addr} {its:List Value},Ys (bs.map V.ref) its→its=bs.map Value.ref
 | [],_,.nil=>rfl
 | b::bs,_,.cons r rs=>by
  rw [show _=Value.ref b from r,Zne rs]
  rfl
theorem Zno:∀(bs:List Addr),Ys (bs.map V.ref) (bs.map Value.ref)
 | []=>.nil
 | b::bs=>.cons rfl (Zno bs)
noncomputable def adr:Value→Addr
 | .ref a=>a
 | _=>0
section
variable {X:Cx}
variable {K:Frag}{C:String→Addr}{E:XK}{Γ Δ Γl Δl:List Nat}{m m1 m2 m3 mr:Nat}{S S1 S2 S3:List (Nat×Bool)}{H:Hp}
end
section
variable {X:Cx}{C:String→Addr}{E:XK}{Γ Δ Γ' Δ' Γl Δl:List Nat}{m m1 m2 m3 mr:Nat}{S S1 S2 S3:List (Nat×Bool)}{a b c e o kx:Expr}{ta tb tc te tk:TE}{fa fb fc fe fk:FE}{p p1 p2 pos apos cpos:Pos}
end
end L2
namespace L2
open PySem PySem.Spec PyProof.Rows
open Dl (D R FE FT FA FO FS FI FB Fl)
structure RoomH (k:Nat)(A:Around):Prop where
 dp:A.depth+3*k+5<recursionLimit
 un:A.units+16*k+200<cLine
structure FnOkH (P:Program)(w:World)(K:Frag)(mg:Str→Option Value)(base:Heap)(k:Nat)(f:Addr)(fd:FuncData)(ps:List Str)(sp:Sp):Prop where
 len:∀vs H Q E,sp vs H Q E→vs.length=ps.length
 run:∀(A:Around) (outer:List Env) (s:Shared) (H:Hp) (args:Args) (us:List Value) (vs:List V) (Q:VK) (E:XK),RoomH k A→Xpt P w K mg base A outer s H→BindsTo s fd args (ps.zip us)→Ys vs us→sp vs H Q E→
  codeAny (model P w) A (.call (.ref f) args) (CR CX0 outer P w H s Q E) s
structure DefH (P:Program)(w:World)(K:Frag)(mg:Str→Option Value)(base:Heap)(k:Nat)(x:Str)(ps:List Str)(sp:Sp):Prop where
 ex:∃f fd,mg x=some (.ref f)∧keepIn K (.ref f)=true∧Binds K fd ps []∧FnOkH P w K mg base k f fd ps sp
noncomputable abbrev Cx.wild (X:Cx):Cx:={X with calm:=false,xe:=fun _ _=>False}
section
variable {X:Cx}{C:String→Addr}{E:XK}{Γ Δ:List Nat}{m n mr k:Nat}{S:List (Nat×Bool)}{x:Str}{p pos:Pos}{e:Expr}{es:List Expr}{t:TA}
end
end L2
namespace L2
open PySem PySem.Spec PyProof.Rows
open Dl (D R FE FT FA FO FS FI FB Fl Pc Xne)
section
variable {K:Frag}{C:String→Addr}{E:XK}{Γ Δ Γl Δl:List Nat}{m m1 m2 m3 mr:Nat}{S S1 S2 S3:List (Nat×Bool)}{H:Hp}
variable {X:Cx}
end
section
variable {X:Cx}{C:String→Addr}{E:XK}{Γ Δ Γ' Δ' Γl Δl:List Nat}{m m1 m2 m3 mr:Nat}{S S1 S2 S3:List (Nat×Bool)}{a b c e o kx:Expr}{ta tb tc te tk:TE}{fa fb fc fe fk:FE}{p p1 p2 pos apos cpos:Pos}
end
end L2
namespace L2
open PySem PySem.Spec PyProof.Rows
open Dl (D R FE FT FA FO FS FI FB Fl)
section
variable {prog:Program}{w:World}{K:Type}[DecidableEq K]{knd:HeapKind prog w K}{A:Around}{E:Value→Shared→Prop}{s:Shared}
end
section
variable {X:Cx}
variable {K:Frag}{C:String→Addr}{E:XK}{Γ Δ:List Nat}{m:Nat}{S:List (Nat×Bool)}{H:Hp}
variable {e:Expr}{te:TE}{fe:FE}{p pos:Pos}
variable {tg:Expr}
end
section
variable {X:Cx}{C:String→Addr}{E:XK}{Γ Δ:List Nat}{m n:Nat}{S:List (Nat×Bool)}{tg a b c:Expr}{t:TA}{f:FA}{p pos:Pos}
end
end L2
namespace L2
open PySem PySem.Spec PyProof.Rows
structure LamSc (X:Cx)(N:List Str)(p:Str)(sc:Scope)(cl:List (Str×Addr)):Prop where
 kind:sc.kind=.function
 co:sc.isCoroutine=false
 gen:sc.isGenerator=false
 nocell:∀x∈sc.names,x.2≠.cell
 par:sc.names.lookup p=some .local
 nd:N.Nodup
 hd:N.head?=some p
 tl:∀x∈N.tail,sc.names.lookup x=some .free
 fr:∀x,sc.names.lookup x=some .free→∃c,cl.lookup x=some c
 cls:∀x c,cl.lookup x=some c→X.env.cells.lookup x=some c
section
variable {X:Cx}{pins:List (Addr×Obj)}{σ:St}{H:Hp}{s:Shared}
end
def BMod (base:Heap)(mg:Str→Option Value):Prop:=∃bm ob,mg "__builtins__"=some (.ref bm)∧bm≠builtinsNs∧base.get? bm=some ob∧ob.cls=.type "module"∧ob.dict=some builtinsNs∧ob.data=.plain
section
variable {X:Cx}{pins:List (Addr×Obj)}{σ:St}{H:Hp}{s:Shared}{P c:Addr}{pos:Pos}{qual:Str}{params:Arguments}{body:Expr}{sc:Scope}{cl:List (Str×Addr)}{E:Value→Shared→Prop}
end
noncomputable def keysT (K:Frag)(a:Addr)(xs:List V)(tb:V→Hp→VK→Prop):List V→Hp→(List Int→Hp→Prop)→Prop
 | [],H,Q=>Q [] H
 | x::r,H,Q=>tb x H fun v H'=>∃k,v=.int k∧SqL K H' a xs∧keysT K a xs tb r H' fun ks H2=>Q (k::ks) H2
section
variable {X:Cx}{pins:List (Addr×Obj)}{σ:St}{H:Hp}{s:Shared}{a f I S:Addr}{xs:List V}{tb:V→Hp→VK→Prop}{R:Result→Shared→Prop}{Q:V→Hp→Prop}
end
section
variable {X:Cx}{pins:List (Addr×Obj)}{σ:St}{H:Hp}{s:Shared}{a f:Addr}{xs:List V}{tb:V→Hp→VK→Prop}{Q:VK}
end
structure LamOk (X:Cx)(N:List Str)(p qual:Str)(params:Arguments)(body:Expr)(sc:Scope)(cl:List (Str×Addr))(js:List Nat)(P c:Addr)(lpos:Pos):Prop where
 bm:BMod X.base X.mg
 tab:X.H₀ P=some (.tbl lpos qual)
 code:X.env.code=.ref c
 hd:PySem.W.CodeHd X.base c P
 clo:closureFor sc X.env=pure cl
 qu:X.env.qual++"<lambda>"=qual
 df:defaultsOf params X.env=([],[])
 lsc:LamSc X N p sc cl
 jsx:∀(i:Nat) (x:Str),N.tail[i]?=some x→∃j:Nat,js[i]?=some j∧X.N[j]?=some x∧Vis X.env.scope x∧X.env.kindOf x≠some .local
 len:js.length+1=N.length
 bind:∀(u pm ctv:Value) (c:Addr),bindArgs (PySem.W.kla_fn "<lambda>" qual params body sc cl pm (.ref c) ctv) ⟨[u],[]⟩=pure [(p,u)]
 dep:X.A.in1.depth<recursionLimit
 calm:X.calm=true
section
variable {X:Cx}{pins:List (Addr×Obj)}{σ:St}{H:Hp}{s:Shared}{N:List Str}{p qual:Str}{params:Arguments}{body:Expr}{sc:Scope}{cl:List (Str×Addr)}{js:List Nat}{P c:Addr}{lpos:Pos}
variable {np pos kp:Pos}{e:Expr}{te tb:TE}
end
end L2
namespace L2
open PySem PySem.Spec PyProof.Rows
open Dl (D R FE FT FA FO FS FI FB Fl)
section
variable {K:Frag}{C:String→Addr}{E:XK}{Γ Δ Γ' Δ':List Nat}{m m1 m2 mb:Nat}{S Sb:List (Nat×Bool)}{H:Hp}
end
section
variable {X:Cx}{C:String→Addr}{E:XK}{Γ Δ Γ' Δ' Γl Δl:List Nat}{m mb mr:Nat}{S Sb:List (Nat×Bool)}{N:List Str}{p qual:Str}{params:Arguments}{body:Expr}{sc:Scope}{cl:List (Str×Addr)}{js:List Nat}{P c:Addr}{lpos np pos kp p2:Pos}{e:Expr}{te tb:TE}{fe fb:FE}{x y:Str}{i j:Nat}
end
section
variable {K:Frag}{C:String→Addr}{E:XK}{Γ Δ Γ' Δ' Γl Δl:List Nat}{m mr:Nat}{S:List (Nat×Bool)}{H:Hp}
end
section
variable {X:Cx}{C:String→Addr}{E:XK}{Γ Δ Γ' Δ' Γl Δl:List Nat}{m mr:Nat}{e:Expr}{te:TE}{fe:FE}{pos pos':Pos}{x:Str}{i j:Nat}
end
structure FunL (K:Frag)(x qual:Str)(st:Stmt)(f:Addr)(fd:FuncData)(c:Addr):Prop where
 ex:∃(oc:Value) (od:Option Addr) (kV doc pm:Value) (an:Option Addr) (ct:Value) (osl:Array (Option Value)),
  fd=fnOf x qual (Zcz st) (Zbc st) (Zm st) .none kV doc pm an (.ref c) ct∧K.lookup f=some ⟨oc,od,.func fd,osl⟩∧codeIn K (.ref c) qual=true
 kp:keepIn K (.ref f)=true
section
variable {P:Program}{w:World}{K:Frag}{C:String→Addr}{mg:Str→Option Value}{base:Heap}{x qual:Str}{st:Stmt}{f c:Addr}{fd:FuncData}{N ps:List Str}{k n mr:Nat}{Γ' Δ':List Nat}{g:FS}{ts:List (Addr×Pos×Str)}
end
section
variable {X:Cx}{C:String→Addr}{E:XK}{Γ Δ:List Nat}{m n mr k:Nat}{S:List (Nat×Bool)}{x:Str}{p pos:Pos}{e:Expr}{es:List Expr}{t:TA}{ts:List (Addr×Pos×Str)}
end
end L2
namespace L2
open PySem PySem.Spec PyProof.Rows
noncomputable def Zhw (T:List Addr)(K:Frag):Frag:=K.filter fun p=>!T.contains p.1
theorem Zhg {T:List Addr}{a:Addr}(h:T.contains a=true):∀K:Frag,(Zhw T K).lookup a=none
 | []=>rfl
 | (b,o)::K=>by
  unfold Zhw
  rw [filter_cons]
  split
  ·rename_i hb
   rw [lookup_cons]
   split
   ·rename_i e
    have e:=eq_of_beq e
    subst e
    have hb:(!T.contains a)=true:=hb
    rw [h] at hb
    cases hb
   ·exact Zhg h K
  ·exact Zhg h K
theorem Jq {T:List Addr}{a:Addr}(h:T.contains a=false):∀K:Frag,(Zhw T K).lookup a=K.lookup a
 | []=>rfl
 | (b,o)::K=>by
  unfold Zhw
  rw [filter_cons,lookup_cons]
  split
  ·rw [lookup_cons]
   split
   ·rfl
   ·exact Jq h K
  ·rename_i hb
   have hb:¬(!T.contains b)=true:=hb
   split
   ·rename_i e
    have e:=eq_of_beq e
    subst e
    rw [h] at hb
    exact absurd rfl hb
   ·exact Jq h K
theorem dropT_in {T:List Addr}{K:Frag}{h:Heap}(x:K.In h):(Zhw T K).In h:=fun a o e=>by
 cases q:T.contains a with
 | true=>rw [Zhg q] at e;cases e
 | false=>rw [Jq q] at e;exact x a o e
section
variable {T:List Addr}{K:Frag}{a f c:Addr}{n x qual:Str}{v:Option Value}
theorem dropT_ns (e:nsIn K a n=some v)(h:T.contains a=false:=by decide):nsIn (Zhw T K) a n=some v:=by
 unfold nsIn at e ⊢
 rw [Jq h]
 exact e
theorem Zsz (e:codeIn K (.ref c) qual=true)(h:T.contains c=false:=by decide):codeIn (Zhw T K) (.ref c) qual=true:=by
 unfold codeIn at e ⊢
 simp only [Jq h]
 exact e
theorem dropT_hd {P:Addr}(e:codeHdIn K c P=true)(h:T.contains c=false:=by decide):codeHdIn (Zhw T K) c P=true:=by
 unfold codeHdIn at e ⊢
 rw [Jq h]
 exact e
theorem Ztc {oc:Value}{od:Option Addr}{fd:FuncData}{osl:Array (Option Value)}(l:K.lookup f=some ⟨oc,od,.func fd,osl⟩)(h:T.contains f=false:=by decide):keepIn (Zhw T K) (.ref f)=true:=by
 unfold keepIn
 simp only [Jq h,l]
theorem fun_mkT {st:Stmt}{oc:Value}{od an:Option Addr}{osl:Array (Option Value)}{kV doc pm ct:Value}(l:K.lookup f=some ⟨oc,od,.func (fnOf x qual (Zcz st) (Zbc st) (Zm st) .none kV doc pm an (.ref c) ct),osl⟩)
  (cd:codeIn K (.ref c) qual=true) (hf:T.contains f=false:=by decide) (hc:T.contains c=false:=by decide):FunL (Zhw T K) x qual st f (fnOf x qual (Zcz st) (Zbc st) (Zm st) .none kV doc pm an (.ref c) ct) c:=
 ⟨⟨oc,od,kV,doc,pm,an,ct,osl,rfl,by rw [Jq hf];exact l,Zsz cd hc⟩,Ztc l hf⟩
theorem Xmq {o:Obj}(l:K.lookup a=some o)(h:T.contains a=false:=by decide):(Zhw T K).lookup a=some o:=by
 rw [Jq h]
 exact l
end
end L2
namespace L2
open PySem PySem.Spec PyProof.Rows
open Dl (D R FE FT FA FO FS FI FB Fl)
section
variable {K:Frag}{C:String→Addr}{E:XK}{Γ Δ Γ' Δ' Γk Δk:List Nat}{m mr:Nat}{H H2:Hp}
end
section
variable {X:Cx}{C:String→Addr}{E:XK}{Γ Δ Γ' Δ' Γk Δk:List Nat}{m mr:Nat}{e:Expr}{te:TE}{fe:FE}{pos p p1 p2 pa pb pc pd apos cpos:Pos}
end
end L2
namespace L2
open PySem PySem.Spec PyProof.Rows
section
variable {P:Program}{w:World}{H H':Hp}{h h':Heap}{a:Addr}{o:HO}
end
section
variable {X:Cx}{pins:List (Addr×Obj)}{σ:St}{H H':Hp}{s:Shared}{a:Addr}{u u':HO}{o:Obj}
variable {tg:Expr}
end
end L2
namespace L2
open PySem PySem.Spec PyProof.Rows
open Dl (D R FE FT FA FO FS FI FB Fl)
section
variable {K:Frag}{C:String→Addr}{E:XK}{Γ Δ Γl Δl:List Nat}{m m1 m2 m3 mr:Nat}{S S1 S2 S3:List (Nat×Bool)}{H:Hp}
end
section
variable {X:Cx}{C:String→Addr}{E:XK}{Γ Δ Γ' Δ' Γl Δl:List Nat}{m m1 m2 m3 mr:Nat}{S S1 S2 S3:List (Nat×Bool)}{a b c e o:Expr}{ta tb tc te:TE}{fa fb fc fe:FE}{p p2 pos apos cpos:Pos}{n:Nat}
end
section
variable {K:Frag}{C:String→Addr}{E:XK}{Γ Δ Γ' Δ' Γ1 Δ1 Γl Δl Γk Δk:List Nat}{m m1 m2 m3 mr:Nat}{H:Hp}{Q:VK}
end
section
variable {X:Cx}{C:String→Addr}{E:XK}{Γ Δ Γ' Δ' Γl Δl:List Nat}{m1 m2 mr:Nat}{pos pos2 p1 p2:Pos}{e1 e2:Expr}{t1 t2:TE}{f1 f2:FE}{x y:Str}{ss:List Stmt}{v:TS}{h:FS}
end
end L2
namespace L2
open PySem PySem.Spec PyProof.Rows
open Dl (D R FE FT FA FO FS FI FB FM Fl)
section
variable {K:Frag}{C:String→Addr}{E:XK}{Γ Δ Γ' Δ' Γ1 Δ1 Γl Δl Γk Δk:List Nat}{m m1 m2 m3 mr n:Nat}{S:List (Nat×Bool)}{H:Hp}{Q:VK}
def MOkF (K:Frag)(C:String→Addr)(E:XK)(Γ Δ:List Nat)(i:Nat)(t:TE)(f:FM):Prop:=∀(H0 Hb H:Hp) (σ:St) (ρ:Yk) (A:Nat→List Addr) (Q:VK),Xf K C H0 Hb H Γ Δ σ ρ A→
 Yj (f ρ) (fun p=>∀v H' A' B,Xf K C H0 Hb H' Γ Δ σ p.2 A'→(∀b o,b∉A i→H b=some o→H' b=some o)→(∀j,j≠i→p.2[j]?=ρ[j]?∧A' j=A j)→Rp K C H' p.1 v B→B.Nodup→(∀a∈B,Hb a=none∧∀j,a∉A' j)→Q v H') (fun c x=>∀H',Yd H0 H'→EC C E c x H')→t σ H Q
end
section
variable {X:Cx}{C:String→Addr}{E:XK}{Γ Δ Γ' Δ' Γl Δl:List Nat}{m m2 mr n:Nat}{S2:List (Nat×Bool)}{e:Expr}{es:List Expr}{t:TA}{fa:FA}{pos p p1 p2 p3 p4 p5 apos cpos mpos mapos:Pos}{c:String}{md x y kx:Str}{CX:CXT}{k:Nat}{ps:List Str}{tm:TE}{fm:FM}
structure JMF (X:Cx)(C:String→Addr)(E:XK)(Γ Δ:List Nat)(j:Nat)(e:Expr)(t:TE)(f:FM):Prop where
 q:QE X e t
 o:MOkF X.K C E Γ Δ j t f
end
end L2
namespace L2
open PySem PySem.Spec PyProof.Rows
@[reducible] noncomputable def Cx.blkC (X:Cx)(N2:List Str)(y:Str)(sc:Scope)(cl:List (Str×Addr))(C:Addr)(s0:Shared)(H0:Hp)(fp:List Addr):Cx:=
 {X with N:=N2++[y],s₀:=s0,H₀:=H0,env:=compEnvC sc cl C X.env,outer:=X.stack,ex:=fp,fn:=fun z=>z==y,pn:=[],xe:=fun _ _=>False}
structure BlkC (sc esc:Scope)(y:Str)(N N2:List Str):Prop where
 kind:sc.kind=.function
 cell:∀n acc,cellsFrom n sc.names acc=(y,n)::acc
 one:∀z∈sc.names,z.2=.cell→z.1=y
 nfree:∀z∈sc.names,z.2=.free→z.1≠y
 loc:∀z∈sc.names,z.2=.local→sc.names.lookup z.1=some .local
 free:∀z∈sc.names,z.2=.free→esc.names.lookup z.1=some .cell∨esc.names.lookup z.1=some .free
 out:∀z∈N2,sc.names.lookup z≠some .local∧z≠y
 nd:N.Nodup
 len:N2.length=N.length
 ren:∀p∈N.zip N2,p.2=p.1∨sc.names.lookup p.2=none
section
variable {X:Cx}{elt iter tg:Expr}{y:Str}{pos:Pos}{g:TG}{ifs:List Expr}{sc:Scope}{N2:List Str}{wi:TI}{tc:TT}{te:TE}
end
end L2
namespace L2
open PySem PySem.Spec PyProof.Rows
open Dl (D R FE FT FA FO FS FI FB FM Fl)
section
variable {K:Frag}{C:String→Addr}{E:XK}{Γ Δ:List Nat}{S:List (Nat×Bool)}
end
section
variable {X:Cx}{C:String→Addr}{E:XK}{mr:Nat}{Γ Δ Γ' Δ' Γl Δl:List Nat}{S:List (Nat×Bool)}{n:Nat}{pos:Pos}{elt iter:Expr}{ifs:List Expr}{sc:Scope}{wi:TI}{tc:TT}{te:TE}{gg:TG}{fi:FI}{fc:FT}{fg:FB}{fe:FE}
end
end L2
namespace L2
open PySem PySem.Spec PyProof.Rows
open Dl (D R FE FT FA FO FS FI FB FM FMT Fl)
section
variable {K:Frag}{C:String→Addr}{E:XK}{Γ Δ Γ' Δ' Γ1 Δ1 Γl Δl Γk Δk:List Nat}{m m1 m2 mr n:Nat}{S S1 S2:List (Nat×Bool)}
end
section
variable {X:Cx}{C:String→Addr}{E:XK}{Γ Δ Γ' Δ' Γ1 Δ1 Γk Δk Γl Δl:List Nat}{m m1 m2 mr n k:Nat}{S S1 S2:List (Nat×Bool)}{a b e:Expr}{es:List Expr}{te:TE}{fe:FE}{t:TA}{fa:FA}{tm:TE}{fm:FM}{pos p p1 p2 apos cpos q3:Pos}{x y:Str}{CX:CXT}{ps:List Str}
end
section
variable {K:Frag}{C:String→Addr}{E:XK}{Γ Δ Γ' Δ' Γ1 Δ1 Γl Δl:List Nat}{m mr n:Nat}{S:List (Nat×Bool)}{H:Hp}
end
section
variable {X:Cx}{C:String→Addr}{E:XK}{Γ Δ Γ' Δ' Γl Δl:List Nat}{m2 mr n k:Nat}{S2:List (Nat×Bool)}{es:List Expr}{t:TA}{ff:FA}{pos p p2 p3 cpos:Pos}{x y z:Str}{CX:CXT}{ps:List Str}
end
section
variable {X:Cx}{C:String→Addr}{E:XK}{Γ Δ:List Nat}{m2:Nat}{S2:List (Nat×Bool)}{a b:Expr}{tm te:TE}{fm:FM}{fe:FE}{pos:Pos}
end
section
variable {K:Frag}{C:String→Addr}{E:XK}{Γ Δ:List Nat}{m n:Nat}{S:List (Nat×Bool)}
def SOkT (K:Frag)(C:String→Addr)(E:XK)(t:TS)(f:FS):Prop:=∀(H0 Hb H:Hp) (σ:St) (ρ:Yk) (A:Nat→List Addr) (D:Ends),Xf K C H0 Hb H [] [] σ ρ A→
  Yj (f ρ) (fun fl=>match fl with
    | .ret d=>∀v H' Br,Yd H H'→Rp K C H' d v Br→(∀a∈Br,(∃j,a∈A j)∨H a=none)→D.rt v H'
    | _=>False) (fun c x=>∀H',Yd H H'→EC C E c x H')→t D σ H
end
structure JTs (X:Cx)(C:String→Addr)(E:XK)(ss:List Stmt)(t:TS)(f:FS):Prop where
 q:QSs X ss t
 o:SOkT X.K C E t f
 n:∀ρ ρ',f ρ≠.ok (.nx ρ')
section
variable {X:Cx}{C:String→Addr}{E:XK}{Γ Δ:List Nat}{m mr n k:Nat}{S:List (Nat×Bool)}{e:Expr}{es:List Expr}{ss:List Stmt}{t:TA}{f:FA}{te:TE}{fe:FE}{u:TS}{g:FS}{pos pos' p:Pos}{x:Str}{CX:CXT}{ps:List Str}
end
end L2
namespace L2
open PySem PySem.Spec PyProof.Rows
open Dl (D R FE FT FA FO FS FI FB FM FMT Fl Pr kLt Zee)
theorem Zit (c:Pr):∀l,(Dl.Xdd c l).Perm (c::l)
 | []=>List.Perm.refl _
 | d::l=>by
  unfold Dl.Xdd
  split
  ·exact List.Perm.refl _
  ·exact ((Zit c l).cons d).trans (List.Perm.swap c d l)
theorem Zdj:∀l,(Dl.Zhu l).Perm l
 | []=>List.Perm.refl _
 | c::l=>(Zit c _).trans ((Zdj l).cons c)
theorem Zwg {b:Bool}(c:Pr)(hc:side b c.2):∀l,(∀x∈l,side b x.2)→l.Pairwise (fun x y=>Zee y x=false)→(Dl.Xdd c l).Pairwise (fun x y=>Zee y x=false)
 | [],_,_=>pairwise_singleton _ _
 | d::l,hs,h=>by
  obtain ⟨h1,h2⟩:=List.pairwise_cons.mp h
  unfold Dl.Xdd
  split
  ·rename_i q
   refine List.pairwise_cons.mpr ⟨fun y hy=>?_,h⟩
   rcases List.mem_cons.mp hy with e | e
   ·rw [e]
    exact Zpt q
   ·exact Zwk hc (hs d (.head _)) (hs y (.tail _ e)) (Zpt q) (h1 y e)
  ·rename_i q
   refine List.pairwise_cons.mpr ⟨fun y hy=>?_,Zwg c hc l (fun x hx=>hs x (.tail _ hx)) h2⟩
   rcases List.mem_cons.mp ((Zit c l).mem_iff.mp hy) with e | e
   ·rw [e]
    exact Bool.eq_false_iff.mpr q
   ·exact h1 y e
theorem Zrx {b:Bool}:∀l,(∀x∈l,side b x.2)→(Dl.Zhu l).Pairwise (fun x y=>Zee y x=false)
 | [],_=>List.Pairwise.nil
 | c::l,hs=>Zwg c (hs c (.head _)) _ (fun x hx=>hs x (.tail _ ((Zdj l).mem_iff.mp hx))) (Zrx l fun x hx=>hs x (.tail _ hx))
theorem Zui {b:Bool}{p q:Pr}(hp:side b p.2)(hq:side b q.2)(h1:Zee q p=false)(h2:Zee p q=false):p=q:=by
 unfold Zee at *
 by_cases e:p.1=q.1
 ·rw [if_pos e.symm] at h1
  rw [if_pos e] at h2
  refine Prod.ext e ?_
  cases ep:p.2 with
  | inl x =>
   cases eq:q.2 with
   | inl y =>
    rw [ep,eq] at h1 h2
    have h1:=of_decide_eq_false (show decide (y<x)=false from h1)
    have h2:=of_decide_eq_false (show decide (x<y)=false from h2)
    rw [show x=y by omega]
   | inr y =>
    rw [ep] at hp
    rw [eq] at hq
    unfold side at hp hq
    rw [hp] at hq;cases hq
  | inr x =>
   cases eq:q.2 with
   | inl y =>
    rw [ep] at hp
    rw [eq] at hq
    unfold side at hp hq
    rw [hp] at hq;cases hq
   | inr y =>
    rw [ep,eq] at h1 h2
    by_cases z:x=y
    ·rw [z]
    ·rcases Zwr z with w | w
     ·rw [show kLt (.inr x) (.inr y)=Dl.sLt x y from rfl,w] at h2;cases h2
     ·rw [show kLt (.inr y) (.inr x)=Dl.sLt y x from rfl,w] at h1;cases h1
 ·rw [if_neg fun z=>e z.symm] at h1
  rw [if_neg e] at h2
  have h1:=of_decide_eq_false h1
  have h2:=of_decide_eq_false h2
  exact absurd (show p.1=q.1 by omega) e
theorem Xbb {b:Bool}{l l':List Pr}(hs:∀x∈l,side b x.2)(hp:l'.Perm l)(hu:l'.Pairwise (fun x y=>Zee y x=false)):Dl.Zhu l=l':=
 List.Perm.eq_of_pairwise (fun x y hx hy h1 h2=>Zui (hs x ((Zdj l).mem_iff.mp hx)) (hs y (hp.mem_iff.mp hy)) h1 h2) (Zrx l hs) hu ((Zdj l).trans hp.symm)
def Zvg (K:Frag):List V→Hp→VK→Prop:=fun vs H Q=>∃(a:Addr) (L:List (Addr×Pr)) (b:Bool),vs=[.ref a]∧SqL K H a (L.map fun x=>V.ref x.1)∧(∀x∈L,H x.1=some (.tup [.int x.2.1,kV x.2.2])∧side b x.2.2)∧L.length≤100000∧
 ∀(L':List (Addr×Pr)) (r:Addr),L'.Perm L→(L'.map (·.2)).Pairwise (fun x y=>Zee y x=false)→H r=none→Q (.ref r) (upd H r (.lst (L'.map fun x=>V.ref x.1)))
section
variable {X:Cx}
theorem Xof {pins:List (Addr×Obj)}{σ:St}{H:Hp}{s:Shared}{b:Bool}{a:Addr}{p:Pr}(I:Inv X pins σ H s)(h:H a=some (.tup [.int p.1,kV p.2]))(hs:side b p.2):Zsx b s.heap (.ref a)∧Zfk s.heap (.ref a)=p:=by
 obtain ⟨its,rv,⟨o,h1,h2,n,h3⟩,_⟩:=I.tuple (SqT.of h)
 cases rv with
 | cons r1 rv =>
  cases rv with
  | cons r2 rv =>
   cases rv
   obtain ⟨t,rfl⟩:=r1
   obtain ⟨i,k⟩:=p
   cases k with
   | inl y =>
    obtain ⟨t',rfl⟩:=r2
    exact ⟨⟨a,o,i,t,.int y t',n,rfl,h1,h2,h3,.inl ⟨hs,y,t',rfl⟩⟩,Zec h1 h3⟩
   | inr y =>
    obtain ⟨t',rfl⟩:=r2
    exact ⟨⟨a,o,i,t,.str y t',n,rfl,h1,h2,h3,.inr ⟨hs,y,t',rfl⟩⟩,Zec h1 h3⟩
theorem Zlp (hu:X.A.units+64<cLine):Zba X (.builtin "sorted") (Zvg X.K):=by
 intro pins s σ H xs us Q I r h
 obtain ⟨a,L,b,rfl,hq,hL,hl,q⟩:=h
 obtain ⟨u,rfl,rx⟩:=vals1 r
 cases rx
 obtain ⟨its,rv,p,hz⟩:=I.list hq
 have rv':Ys ((L.map (·.1)).map V.ref) its:=by rw [map_map];exact rv
 have ei:=Zne rv'
 have hI:∀v∈its,Zsx b s.heap v:=fun v hv=>by
  rw [ei,map_map] at hv
  obtain ⟨x,hx,rfl⟩:=List.mem_map.mp hv
  exact (Xof I (hL x hx).1 (hL x hx).2).1
 have hlen:its.length≤sizeLine:=by
  rw [ei,length_map,length_map,sizeLine_eq]
  omega
 refine Zzb (b:=b) p.isList hI hlen (by omega) fun out q1 q2=>?_
 obtain ⟨e,he⟩:=sortedAll_at s.heap its out
 have hn:H (s.heap.objs.size+1)=none:=I.hok.fresh (le_succ _)
 have eo:out.toList=(out.toList.map adr).map Value.ref:=by
  rw [map_map]
  conv=>lhs;rw [← map_id out.toList]
  refine map_congr_left fun v hv=>?_
  have:=q1.mem_iff.mp hv
  rw [ei] at this
  obtain ⟨b,_,rfl⟩:=List.mem_map.mp this
  rfl
 have pb:(out.toList.map adr).Perm (L.map (·.1)):=by
  have:=q1.map adr
  rw [ei,map_map,show (adr∘Value.ref)=id from rfl,map_id] at this
  exact this
 have cut:∀x∈L,Zfk s.heap (.ref x.1)=x.2:=fun x hx=>(Xof I (hL x hx).1 (hL x hx).2).2
 have eL:L=(L.map (·.1)).map fun b=>(b,Zfk s.heap (.ref b)):=by
  rw [map_map]
  conv=>lhs;rw [← map_id L]
  refine map_congr_left fun x hx=>?_
  show x=(x.1,Zfk s.heap (.ref x.1))
  rw [cut x hx]
 have pL:((out.toList.map adr).map fun b=>(b,Zfk s.heap (.ref b))).Perm L:=by
  conv=>rhs;rw [eL]
  exact pb.map _
 have hs:(((out.toList.map adr).map fun b=>(b,Zfk s.heap (.ref b))).map (·.2)).Pairwise (fun x y=>Zee y x=false):=by
  rw [eo,map_map] at q2
  rw [map_map]
  exact q2
 have hv:Ys ((((out.toList.map adr).map fun b=>(b,Zfk s.heap (.ref b))).map fun x=>V.ref x.1)) out.toList:=by
  rw [map_map,eo]
  have:=Zno (out.toList.map adr)
  rw [show (List.map adr (List.map Value.ref (List.map adr out.toList)))=List.map adr out.toList by rw [map_map,show (adr∘Value.ref)=id from rfl,map_id]]
  exact this
 have hv2:=hv.length
 have I2:=I.laid (t':=s.toks) (o:=.lst ((((out.toList.map adr).map fun b=>(b,Zfk s.heap (.ref b))).map fun x=>V.ref x.1))) (h':=sortedAll s.heap its out) (fun b o q=>sortedAll_old q) (le_succ _) ⟨by rw [length_map,pL.length_eq];exact le_trans hl (by decide),out.toList,e,hv,by simpa [seqObj] using he⟩
 exact ⟨.ref (s.heap.objs.size+1),_,I2,rfl,q _ _ pL hs hn⟩
variable {K:Frag}{C:String→Addr}{H:Hp}
theorem Xck {d:D}{p:Pr}(h:Dl.Zvt d=some p):d=Dl.prD p:=by
 unfold Dl.Zvt at h
 split at h
 ·cases h;rfl
 ·cases h;rfl
 ·cases h
theorem Xbi (p:Pr):Dl.flat (Dl.prD p)=true:=by
 obtain ⟨i,k⟩:=p
 cases k<;>rfl
theorem Xrz {p:Pr}{v:V}{B:List Addr}(r:Rp K C H (Dl.prD p) v B):∃b,v=.ref b∧H b=some (.tup [.int p.1,kV p.2])∧Rp K C H (Dl.prD p) (.ref b) []:=by
 have e:=r.flat (Xbi p)
 subst e
 obtain ⟨b,vs,rfl,h1,h2⟩:=id r
 refine ⟨b,rfl,?_,r⟩
 obtain ⟨x,l,B1,B2,rfl,r1,r2,_⟩:=h2
 obtain ⟨y,l2,B3,B4,rfl,r3,r4,_⟩:=r2
 obtain ⟨rfl,_⟩:=r4
 rw [h1]
 obtain ⟨rfl,_⟩:=r1
 obtain ⟨i,k⟩:=p
 cases k with
 | inl z =>
  obtain ⟨rfl,_⟩:=r3
  rfl
 | inr z =>
  obtain ⟨rfl,_⟩:=r3
  rfl
theorem Zxy:∀{ds:List D} {cs:List Pr} {ys:List V} {B:List Addr},Dl.Znc ds=some cs→RpA K C H ds ys B→∃L:List (Addr×Pr),ys=L.map (fun x=>V.ref x.1)∧cs=L.map (·.2)∧∀x∈L,H x.1=some (.tup [.int x.2.1,kV x.2.2])∧Rp K C H (Dl.prD x.2) (.ref x.1) []
 | [],cs,ys,B,e,r=>by
  cases e
  exact ⟨[],r.1,rfl,fun _ h=>nomatch h⟩
 | d::ds,cs,ys,B,e,r=>by
  obtain ⟨p,e1,e⟩:=Option.bind_eq_some_iff.mp (show ((Dl.Zvt d).bind fun c=>(Dl.Znc ds).bind fun cs=>some (c::cs))=some cs from e)
  obtain ⟨ps,e2,e⟩:=Option.bind_eq_some_iff.mp e
  cases e
  obtain ⟨x,l,B1,B2,rfl,h1,h2,_⟩:=r
  rw [Xck e1] at h1
  obtain ⟨b,rfl,q1,q2⟩:=Xrz h1
  obtain ⟨L,rfl,rfl,hL⟩:=Zxy e2 h2
  refine ⟨(b,p)::L,rfl,rfl,fun x hx=>?_⟩
  rcases List.mem_cons.mp hx with z | z
  ·subst z;exact ⟨q1,q2⟩
  ·exact hL x z
theorem Zqw:∀{L:List (Addr×Pr)},(∀x∈L,Rp K C H (Dl.prD x.2) (.ref x.1) [])→RpA K C H ((L.map (·.2)).map Dl.prD) (L.map fun x=>V.ref x.1) []
 | [],_=>RpA.nil
 | x::L,h=>⟨_,_,[],[],rfl,h x (.head _),Zqw fun y hy=>h y (.tail _ hy),rfl⟩
theorem Zyd:GAk K C (Zvg K) Dl.Zuw:=by
  intro H xs d vs Bx Q r e q
  match xs,e with
  | [.lst ds],e =>
    obtain ⟨cs,h1,h2⟩:=Option.bind_eq_some_iff.mp (show ((Dl.Znc ds).bind fun cs=>if cs.length≤100000∧((cs.all fun p=>p.2.isLeft)=true∨(cs.all fun p=>p.2.isRight)=true) then some (D.lst ((Dl.Zhu cs).map Dl.prD)) else none)=some d from e)
    split at h2
    · rename_i hh
      cases h2
      obtain ⟨v,l,B1,B2,rfl,r1,r2,_⟩:=r
      obtain ⟨rfl,_⟩:=r2
      obtain ⟨a,ys,B',rfl,e2,e3,_⟩:=r1
      obtain ⟨L,rfl,rfl,hL⟩:=Zxy h1 e3
      obtain ⟨b,hb⟩:∃b:Bool,∀x∈L,side b x.2.2:=by
        rcases hh.2 with z | z
        · refine ⟨true,fun x hx=>?_⟩
          have:=List.all_eq_true.mp z x.2 (List.mem_map.mpr ⟨x,hx,rfl⟩)
          cases e:x.2.2 with
          | inl i=>rfl
          | inr i=>rw [e] at this;cases this
        · refine ⟨false,fun x hx=>?_⟩
          have:=List.all_eq_true.mp z x.2 (List.mem_map.mpr ⟨x,hx,rfl⟩)
          cases e:x.2.2 with
          | inr i=>rfl
          | inl i=>rw [e] at this;cases this
      refine ⟨a,L,b,rfl,SqL.of e2,fun x hx=>⟨(hL x hx).1,hb x hx⟩,by have:=hh.1;rwa [length_map] at this,fun L' r pL hs hr=>?_⟩
      have es:Dl.Zhu (L.map (·.2))=L'.map (·.2):=Xbb (b:=b) (fun x hx=>by
        obtain ⟨y,hy,rfl⟩:=List.mem_map.mp hx
        exact hb y hy) (pL.map _) hs
      have g2:=sameNew hr (.lst (L'.map fun x=>V.ref x.1))
      rw [es] at q
      refine q _ _ [r] g2 ⟨r,_,[],rfl,Jz,(Zqw fun x hx=>(hL x (pL.mem_iff.mp hx)).2).same g2,rfl⟩ (List.nodup_cons.mpr ⟨(fun z=>nomatch z),nodup_nil⟩) fun a ha=>?_
      rw [List.mem_singleton.mp ha]
      exact hr
    · cases h2
end
end L2
namespace L2
open PySem PySem.Spec PyProof.Rows
open Dl (D R FE FT FA FO FS FI FB FM FMT Fl)
section
variable {X:Cx}
variable {K:Frag}{C:String→Addr}
end
end L2
namespace L2
open PySem PySem.Spec PyProof.Rows
section
variable {prog:Program}{w:World}{A:Around}{E:Value→Shared→Prop}{s:Shared}
variable {X:Cx}{tg:Expr}
end
open Dl (D R FE FT FA FO FS FI FB FM FMT Fl) in
section
variable {K:Frag}{C:String→Addr}{E:XK}{Γ Δ Γ' Δ' Γk Δk:List Nat}{mr:Nat}
end
section
variable {X:Cx}{C:String→Addr}{E:XK}{Γ Δ Γ' Δ' Γk Δk:List Nat}{mr:Nat}{c e:Expr}{tA:TT}{fA:Dl.FT}{pos p p1 ip rp:Pos}{x y:Str}
end
end L2
namespace L2
open PySem
def UpP (a:Array Nat):Prop:=∀(i j x y:Nat),i<j→a[i]?=some x→a[j]?=some y→x<y
def AtS (a:Array Nat)(j p:Nat):Prop:=p≤a.size∧(∀i x,i<p→a[i]?=some x→x<j)∧∀i x,p≤i→a[i]?=some x→j≤x
theorem Zkx {a:Array Nat}{j:Nat}(hu:UpP a):∀(f lo hi:Nat),hi≤a.size→lo≤hi→hi - lo≤f→(∀i x,i<lo→a[i]?=some x→x<j)→(∀i x,hi≤i→a[i]?=some x→j≤x)→AtS a j (SetTable.below.go a j f lo hi)
 | 0,lo,hi,h1,h2,h3,h4,h5=>by
  have:lo=hi:=by omega
  subst this
  exact ⟨h1,h4,h5⟩
 | f+1,lo,hi,h1,h2,h3,h4,h5=>by
  rw [SetTable.below.go]
  split
  ·rename_i hlt
   have hm:(lo+hi) / 2<a.size:=by omega
   have hg:a.getD ((lo+hi) / 2) j=a[(lo+hi) / 2]:=by simp [Array.getD,hm]
   have hs:a[(lo+hi) / 2]?=some a[(lo+hi) / 2]:=Array.getElem?_eq_getElem hm
   dsimp only
   rw [hg]
   split
   ·rename_i hx
    refine Zkx hu f _ _ h1 (by omega) (by omega) (fun i x hi' e=>?_) h5
    by_cases z:i=(lo+hi) / 2
    ·subst z;rw [hs] at e;cases e;exact hx
    ·exact lt_trans (hu i ((lo+hi) / 2) x _ (by omega) e hs) hx
   ·rename_i hx
    refine Zkx hu f _ _ (by omega) (by omega) (by omega) h4 (fun i x hi' e=>?_)
    by_cases z:i=(lo+hi) / 2
    ·subst z;rw [hs] at e;cases e;omega
    ·have:=hu ((lo+hi) / 2) i _ x (by omega) hs e
     omega
  ·have:lo=hi:=by omega
   subst this
   exact ⟨h1,h4,h5⟩
theorem below_at {a:Array Nat}(hu:UpP a)(j:Nat):AtS a j (SetTable.below a j):=
 Zkx hu _ _ _ (le_refl _) (zero_le _) (by omega) (fun i x h=>absurd h (Nat.not_lt_zero _)) fun i x h e=>by
  have:=(Array.getElem?_eq_some_iff.mp e).1;omega
theorem Xqr {α:Type}{a:Array α}{p:Nat}(hp:p≤a.size)(x:α)(i:Nat):(SetTable.insertAt a p x)[i]?=if i<p then a[i]? else if i=p then some x else a[i - 1]?:=by
 rw [← getElem?_toList,SetTable.toList_insertAt]
 split
 ·rename_i h
  rw [getElem?_append_left (by rw [length_take,length_toList];omega),List.getElem?_take_of_lt h,getElem?_toList]
 ·rw [getElem?_append_right (by rw [length_take,length_toList];omega),length_take,length_toList,min_eq_left hp]
  split
  ·rename_i h;subst h;simp
  ·rename_i h1 h2
   obtain ⟨k,hk⟩:∃k,i - p=k+1:=⟨i - p - 1,by omega⟩
   rw [hk,List.getElem?_cons_succ,getElem?_drop,getElem?_toList]
   congr 1;omega
theorem UpP.ins {a:Array Nat}(hu:UpP a){j:Nat}(hn:a[SetTable.below a j]?≠some j):UpP (SetTable.insertAt a (SetTable.below a j) j):=by
 obtain ⟨h1,h2,h3⟩:=below_at hu j
 generalize SetTable.below a j=p at *
 have h3':∀i x,p≤i→a[i]?=some x→j<x:=fun i x hi e=>by
  have q:=h3 i x hi e
  by_cases z:i=p
  ·subst z;rcases Nat.lt_or_eq_of_le q with q | q
   ·exact q
   ·subst q;exact absurd e hn
  ·have hp:p<a.size:=by have:=(Array.getElem?_eq_some_iff.mp e).1;omega
   have:=hu p i _ x (by omega) (Array.getElem?_eq_getElem hp) e
   have:=h3 p _ (le_refl _) (Array.getElem?_eq_getElem hp)
   omega
 intro i k x y hik ex ey
 rw [Xqr h1] at ex ey
 split at ex
 ·split at ey
  ·exact hu _ _ _ _ hik ex ey
  ·split at ey
   ·cases ey;exact h2 _ _ (by assumption) ex
   ·exact lt_trans (h2 _ _ (by assumption) ex) (h3' _ _ (by omega) ey)
 ·rw [if_neg (by omega)] at ey
  split at ex
  ·cases ex
   rw [if_neg (by omega)] at ey
   exact h3' _ _ (by omega) ey
  ·rw [if_neg (by omega)] at ey
   exact hu _ _ _ _ (by omega) ex ey
theorem UpP.range (n:Nat):UpP (Array.range n):=fun i j x y h ex ey=>by
 rw [Array.getElem?_eq_some_iff] at ex ey
 obtain ⟨_,ex⟩:=ex
 obtain ⟨_,ey⟩:=ey
 simp at ex ey
 omega
theorem UpP.of_pairwise {l:List Nat}(h:l.Pairwise (·<·)):UpP l.toArray:=fun i j x y hij ex ey=>by
 simp at ex ey
 rw [List.getElem?_eq_some_iff] at ex ey
 obtain ⟨a,ex⟩:=ex
 obtain ⟨b,ey⟩:=ey
 subst ex;subst ey
 exact List.pairwise_iff_getElem.mp h i j a b hij
structure Zjm (t:SetTable):Prop where
 no:t.dummies=#[]
 up:UpP t.place
theorem Zwj (j:Nat):SetTable.has #[] j=false:=by
 unfold SetTable.has
 simp
theorem Zqp {t:SetTable}(ht:t.dummies=#[]){f:Nat→Int}{h:Int}:∀(k:Nat) (p:SetTable.Probe) {j:Nat} {d:Option Nat},p.dummy=none→SetTable.probe.go t f h k p=some (.empty j d)→d=none∧t.slot j=.empty
 | 0,p,j,d,hp,e=>by rw [SetTable.probe.go] at e;cases e
 | k+1,p,j,d,hp,e=>by
  rw [SetTable.probe.go] at e
  split at e
  ·rename_i hs
   cases e
   exact ⟨hp,hs⟩
  ·rename_i hs
   exfalso
   unfold SetTable.slot at hs
   rw [ht] at hs
   dsimp only at hs
   split at hs
   ·cases hs
   ·rw [Zwj] at hs;cases hs
  ·split at e
   ·cases e
   ·refine Zqp ht k _ ?_ e
    unfold SetTable.advance
    split
    ·exact hp
    ·exact hp
theorem Ztz {t:SetTable}{j:Nat}(h:t.slot j=.empty):t.place[SetTable.below t.place j]?≠some j:=fun e=>by
 unfold SetTable.slot at h
 dsimp only at h
 rw [if_pos (by rw [e];simp)] at h
 cases h
theorem Xhx {t:SetTable}(ht:Zjm t){h:Int}{j:Nat}{b:Bool}(e:t.freeSlot h=some (j,b)):b=false∧t.place[SetTable.below t.place j]?≠some j:=by
 unfold SetTable.freeSlot at e
 split at e
 ·rename_i j' d hm
  cases e
  obtain ⟨rfl,z⟩:=Zqp ht.no _ _ rfl hm
  exact ⟨rfl,Ztz z⟩
 ·cases e
theorem Zjm.stand (t:SetTable)(n:Nat):Zjm (t.standIn n):=⟨rfl,UpP.range n⟩
theorem Zjm.putU {t:SetTable}(ht:Zjm t){j:Nat}(hn:t.place[SetTable.below t.place j]?≠some j):Zjm (t.put j).1:=by
 refine ⟨?_,ht.up.ins hn⟩
 show (if SetTable.has t.dummies j=true then _ else t.dummies)=#[]
 rw [ht.no,Zwj]
 rfl
theorem Zjm.orStand {t:SetTable}(ht:Zjm t)(n:Nat):Zjm (t.orStandIn n):=by
 unfold SetTable.orStandIn
 split
 ·exact ht
 ·exact Zjm.stand t n
theorem Zoi (t:SetTable)(n:Nat):(t.orStandIn n).led=t.led:=by
 unfold SetTable.orStandIn
 split<;>rfl
theorem Zyr {t:SetTable}(ht:Zjm t)(es:Array (Int×Value))(h:Int)(x:Value):Zjm (layNew t es h x).2.1∧(layNew t es h x).2.1.led=t.led:=by
 unfold layNew
 split
 ·rename_i j b hm
  exact ⟨(ht.putU (Xhx ht hm).2).orStand _,Zoi _ _⟩
 ·exact ⟨Zjm.stand _ _,rfl⟩
theorem Xlo {mask finger moves:Nat}{led plain:Bool}{hs:Array Int}{t:SetTable}{o:Array Nat}(e:SetTable.laid mask finger moves led plain hs=some (t,o)):Zjm t∧t.led=led:=by
 unfold SetTable.laid at e
 obtain ⟨ow,_,e⟩:=Option.bind_eq_some_iff.mp e
 cases e
 refine ⟨⟨rfl,UpP.of_pairwise ?_⟩,rfl⟩
 have e1:∀l:List Nat,(List.map (·.1) (l.filterMap fun j=>(ow.getD j none).map (j,·))).Sublist l:=fun l=>by
  induction l with
  | nil=>exact .slnil
  | cons a r ih =>
   rw [filterMap_cons]
   cases ow.getD a none with
   | none=>exact ih.cons _
   | some k=>exact ih.cons₂ _
 exact (List.pairwise_lt_range).sublist (e1 _)
theorem Zpo {t:SetTable}(ht:Zjm t)(es:Array (Int×Value))(n:Nat):Zjm (relayAll t es n).2.1∧(relayAll t es n).2.1.led=t.led:=by
 unfold relayAll
 split
 ·rename_i t' o hm
  dsimp only
  split
  ·exact Xlo hm
  ·exact ⟨Zjm.stand _ _,rfl⟩
 ·exact ⟨Zjm.stand _ _,rfl⟩
end L2
namespace L2
open PySem PySem.Spec PyProof.Rows
open Dl (Zdl Yl)
noncomputable def keyI:Value→Int
 | .int n _=>n
 | _=>0
noncomputable def keysOf (es:Array (Int×Value)):List Int:=es.toList.map fun e=>keyI e.2
def SW (prog:Program)(w:World)(h:Heap)(a:Addr)(ks:List Int):Prop:=
 ∃o es ep t,h.get? a=some o∧o.ExactSet∧o.data=.set es ep t∧ElemsOf (intKind prog w) es.toList∧(keysOf es).Perm ks∧es.size<scanBound∧t.fits es.size=true∧Zjm t∧t.led=!(w.params.followText "set-order")
section
variable {prog:Program}{w:World}{A:Around}{E:Value→Shared→Prop}{s:Shared}{a:Addr}{ks:List Int}
theorem SW.keepS {h h':Heap}(x:SW prog w h a ks)(k:∀o,h.get? a=some o→h'.get? a=some o):SW prog w h' a ks:=by
 obtain ⟨o,es,ep,t,ho,r⟩:=x
 exact ⟨o,es,ep,t,k _ ho,r⟩
theorem Zsl {v:Value}{k n:Int}(h:(intKind prog w).is n v=true):((intKind prog w).is k v=true)↔keyI v=k:=by
 obtain ⟨t,rfl⟩:=Value.isInt_shape h
 constructor
 ·intro z
  exact (intKind prog w).inj _ _ _ h z
 ·rintro rfl
  exact h
theorem SW.laid {o:Obj}{es es':Array (Int×Value)}{ep:Nat}{t t':SetTable}{h:Heap}(ho:h.get? a=some o)(hex:o.ExactSet)(hd:o.data=.set es ep t)(hel:ElemsOf (intKind prog w) es'.toList)(hk:(keysOf es').Perm ks)(hb:es'.size<scanBound)(hf:t'.fits es'.size=true)(ht:Zjm t')(hl:t'.led=!(w.params.followText "set-order")) :
    (h.update a (Obj.putSet es' t')).get? a=some {o with data:=.set es' (ep+1) t'}∧SW prog w (h.update a (Obj.putSet es' t')) a ks:=by
  have e:=(SetOf_store (knd:=intKind prog w) (S':=fun k=>decide (k∈keysOf es')) ho hex hd hel (fun k=>by
    rw [decide_eq_true_eq]
    constructor
    · intro z
      obtain ⟨e,he,rfl⟩:=List.mem_map.mp z
      obtain ⟨⟨n,hn,_⟩,_⟩:=hel e he
      exact ⟨e,he,(Zsl hn).mpr rfl⟩
    · rintro ⟨e,he,z⟩
      exact List.mem_map.mpr ⟨e,he,(Zsl z).mp z⟩) hb hf).1
  exact ⟨e,_,es',ep+1,t',e,hex,rfl,hel,hk,hb,hf,ht,hl⟩
theorem Zre {g:Bool→Sem Unit}(hg:∀(b:Bool) (s1:Shared) (Q':Unit→Shared→Prop),Q' () s1→wpAny (model prog w) A (g b) Q' E s1)
    {o:Obj} {es es1:Array (Int×Value)} {ep:Nat} {t t2:SetTable} (ho:s.heap.get? a=some o) (hex:o.ExactSet) (hd:o.data=.set es ep t) (hel:ElemsOf (intKind prog w) es1.toList) (hk:(keysOf es1).Perm ks) (hb:es1.size<scanBound) (hf:t2.fits es1.size=true) (ht:Zjm t2) (hl:t2.led=!(w.params.followText "set-order")) {wd:Bool} {R:Option Bool→Shared→Prop}
    (h:∀h',Heap.SameBut a s.heap h'→SW prog w h' a ks→R (some true) {s with heap:=h'}) :
    wpAny (model prog w) A (do
        storeSet a es1 t2
        if (!wd&&t2.tooFull)=true then do
            g (relayAll t2 es1 (SetTable.grown es1.size)).2.2
            storeSet a (relayAll t2 es1 (SetTable.grown es1.size)).1 (relayAll t2 es1 (SetTable.grown es1.size)).2.1
            pure (some true)
          else pure (some true)) R E s:=by
  obtain ⟨ho1,hS1⟩:=SW.laid (prog:=prog) (w:=w) ho hex hd hel hk hb hf ht hl
  refine wpAny_bind (wpAny_storeSet_of ho hd ?_ (fits_of_scanBound hb))
  have sb:=Heap.SameBut.update s.heap a (Obj.putSet es1 t2)
  split
  · have hp:=relayAll_perm t2 es1 (SetTable.grown es1.size)
    have hfr:=relayAll_fits t2 es1 (SetTable.grown es1.size)
    obtain ⟨htr,hlr⟩:=Zpo ht es1 (SetTable.grown es1.size)
    generalize relayAll t2 es1 (SetTable.grown es1.size)=Z at *
    have sz:Z.1.size=es1.size:=by rw [← length_toList,hp.length_eq,length_toList]
    have hb2:Z.1.size<scanBound:=sz▸hb
    obtain ⟨_,hS2⟩:=SW.laid (prog:=prog) (w:=w) (ks:=ks) ho1 hex rfl (hel.perm hp) ((hp.map _).trans hk) hb2 hfr htr (hlr.trans hl)
    exact wpAny_bind (hg _ _ _ (wpAny_bind (wpAny_storeSet_of ho1 rfl (wpAny_pure (h _ (sb.trans (Heap.SameBut.update _ a _)) hS2)) (fits_of_scanBound hb2))))
  · exact wpAny_pure (h _ sb hS1)
theorem Zyp {b:Bool}{s1:Shared}{Q':Unit→Shared→Prop}(hq:Q' () s1):wpAny (model prog w) A (match b with | true=>rule "set.scan.the-table-gave-way" | false=>pure ()) Q' E s1:=by
 cases b
 ·exact wpAny_pure hq
 ·exact wpAny_rule hq
theorem Xqq {k:Int}{u:Tok}{Q:Bool→Shared→Prop}(hS:SW prog w s.heap a ks)(hr:ks.length+1<scanBound)
  (h:∀h' b,Heap.SameBut a s.heap h'→SW prog w h' a (Zdl ks k)→Q b {s with heap:=h'}):wpAny (model prog w) A (setAddHashed a (.int k u) (hashInt k)) Q E s:=by
 obtain ⟨o,es,ep,t,ho,hex,hd,hel,hk,hb,hf,ht,hl⟩:=hS
 have hkey:(intKind prog w).is k (.int k u)=true:=intKind_is prog w k u
 have hsc:(Value.int k u).scannable=true:=rfl
 have hlen:es.size=ks.length:=by rw [← hk.length_eq];simp [keysOf]
 unfold setAddHashed setAddHashedIn
 refine wpAny_holding (wpAny_bind (wpAny_setState_of ho hd hf ?_))
 dsimp only
 rw [byScan_of hsc hb hel]
 rw [if_pos rfl]
 unfold setAddByScan
 refine wpAny_bind (wpAny_bind (wpAny_rule (wpAny_bind (wpAny_setScan_of (knd:=intKind prog w) hkey ho hd hf hel ?_))))
 have hin:k∈ks↔∃e∈es.toList,(intKind prog w).is k e.2=true:=by
  rw [← hk.mem_iff]
  constructor
  ·intro z
   obtain ⟨e,he,z⟩:=List.mem_map.mp z
   obtain ⟨⟨n,hn,_⟩,_⟩:=hel e he
   exact ⟨e,he,(Zsl hn).mpr z⟩
  ·rintro ⟨e,he,z⟩
   exact List.mem_map.mpr ⟨e,he,(Zsl z).mp z⟩
 cases hr':es.toList.findIdx? (fun e=>(intKind prog w).is k e.2) with
 | some j =>
  obtain ⟨hj,hp,_⟩:=List.findIdx?_eq_some_iff_getElem.mp hr'
  have hm:k∈ks:=hin.mpr ⟨_,getElem_mem hj,hp⟩
  refine wpAny_pure (wpAny_pure ?_)
  refine h s.heap _ (Heap.SameBut.refl a s.heap) ?_
  unfold Zdl
  rw [if_pos hm]
  exact ⟨o,es,ep,t,ho,hex,hd,hel,hk,hb,hf,ht,hl⟩
 | none =>
  have hm:k∉ks:=fun z=>by
   obtain ⟨e,he,q⟩:=hin.mp z
   have:=List.findIdx?_eq_none_iff.mp hr' e he
   rw [q] at this
   cases this
  have hp:=layNew_perm t es (hashInt k) (.int k u)
  have hfl:=layNew_fits t es (hashInt k) (.int k u)
  obtain ⟨htl,hll⟩:=Zyr ht es (hashInt k) (.int k u)
  dsimp only
  generalize hZ:layNew t es (hashInt k) (.int k u)=Z at *
  obtain ⟨es1,t1,wd,gv⟩:=Z
  dsimp only at *
  refine wpAny_bind (Zyp (b:=gv) ?_)
  rw [toList_push] at hp
  have hsz:es1.size=ks.length+1:=by rw [← length_toList,hp.length_eq,length_append,length_toList,hlen];rfl
  have hk1:(keysOf es1).Perm (Zdl ks k):=by
   unfold Zdl
   rw [if_neg hm]
   refine (hp.map _).trans ?_
   rw [map_append]
   exact hk.append_right _
  have hel1:ElemsOf (intKind prog w) es1.toList:=(hel.push hkey hsc).perm hp
  split
  ·refine wpAny_bind ?_
   rw [hashByValue_scannable 8 hsc]
   refine wpAny_pure ?_
   refine Zre (fun b s1 Q' hq=>Zyp (b:=b) hq) ho hex hd hel1 hk1 (by rw [hsz];exact hr) (t2:=t1) hfl htl (hll.trans hl) fun h' sb hS'=>wpAny_pure (h h' _ sb hS')
  ·refine wpAny_bind (wpAny_pure ?_)
   refine Zre (fun b s1 Q' hq=>Zyp (b:=b) hq) ho hex hd hel1 hk1 (by rw [hsz];exact hr) (t2:=t1) hfl htl (hll.trans hl) fun h' sb hS'=>wpAny_pure (h h' _ sb hS')
end
end L2
namespace L2
open PySem PySem.Spec PyProof.Rows
theorem Zri:Manifest.owners.lookup (String.ofList "rotareti_tes".toList.reverse)=some Manifest.sig_set_iterator:=by kernel_rfl
theorem Zaj:Slot "set_iterator" "__next__" "set_iterator.__next__":=
 Slot.of (n:="__next__") (owner:="set_iterator") (by rw [typeLookup_type,builtinLookup_eq_fast];kernel_rfl) (by decide +kernel) (by decide +kernel) (by decide +kernel) (by first | exact .inl (by decide +kernel) | exact .inr (by decide +kernel)) (by rw [isSubtype_type];kernel_rfl)
theorem Zhf:entryFor table "set_iterator.__next__"=some Builtin.«set_iterator.__next__»:=entryFor_of_tree (by kernel_rfl)
theorem Zku (a:Value):argsOk "set_iterator.__next__" ⟨[a],[]⟩:=by
 unfold argsOk
 rw [signature?_of (n:="__txen__".toList) (o:="rotareti_tes".toList) (id:="set_iterator.__next__") (by kernel_rfl) Zri]
 kernel_rfl
theorem Zjk:entryFor table "set.__iter__"=some Builtin.«frozenset.__iter__»:=entryFor_alias (id':="frozenset.__iter__") (by kernel_rfl) rfl (by decide +kernel) (by kernel_rfl)
def SIt (h:Heap)(it a:Addr)(first:Value)(i n ep:Nat):Prop:=∃o,h.get? it=some o∧o.cls=.type "set_iterator"∧o.data=.fields #[first,.int i 0,.ref a,.int n 0,.int ep 0]
def SAt (h:Heap)(a:Addr)(es:Array (Int×Value))(ep:Nat)(t:SetTable):Prop:=∃o,h.get? a=some o∧o.ExactSet∧o.data=.set es ep t∧t.fits es.size=true
section
variable {prog:Program}{w:World}{A:Around}{E:Value→Shared→Prop}{s:Shared}{it a:Addr}{es:Array (Int×Value)}{ep i:Nat}{t:SetTable}
theorem SIt.T {first:Value}{n:Nat}(x:SIt s.heap it a first i n ep):s.TypeIs (.ref it) "set_iterator":=let ⟨o,ho,hc,_⟩:=x;⟨o,ho,hc⟩
theorem SIt.at {h h':Heap}{first:Value}{n:Nat}(x:SIt h it a first i n ep)(k:∀o,h.get? it=some o→h'.get? it=some o):SIt h' it a first i n ep:=let ⟨o,ho,r⟩:=x;⟨o,k o ho,r⟩
theorem SAt.at {h h':Heap}(x:SAt h a es ep t)(k:∀o,h.get? a=some o→h'.get? a=some o):SAt h' a es ep t:=let ⟨o,ho,r⟩:=x;⟨o,k o ho,r⟩
theorem Zrp {h:Heap}{o:Obj}{vs:Array Value}{k:Nat}{x:Value}(ho:h.get? it=some o)(hc:o.cls=.type "set_iterator")(hd:o.data=.fields vs) :
  ∃o',(h.update it (Obj.mapFields (·.setIfInBounds k x))).get? it=some o'∧o'.cls=.type "set_iterator"∧o'.data=.fields (vs.setIfInBounds k x):=
 ⟨_,Heap.get?_update_self _ ho (Obj.isFreed_of_fields (Obj.data_mapFields hd _)),(Obj.cls_mapFields ..).trans hc,Obj.data_mapFields hd _⟩
theorem Zmg {h:Heap}{Q:Option Value→Shared→Prop}(hh:A.handled=none)(q:∀h',(∀b o,h.get? b=some o→h'.get? b=some o)→Q none {s with heap:=h'}) :
  wpAny (model prog w) A.in1 (newExc (.type "StopIteration") [] >>= fun e=>(raiseNew e:Sem Fin)) (fun fin s'=>∃r,fin=.done (.ret r)∧Q (some r) s') (fun e s'=>wpAny (model prog w) A (isInstance e (.type "StopIteration") >>= fun b=>if b=true then pure none else throw e) Q E s') {s with heap:=h}:=by
 refine wpAny_bind ?_
 simp only [newExc,newTuple]
 refine wpAny_bind (wpAny_newObj_type (wpAny_bind (m:=firstArgMember _ _) (wpAny_of_eq (a:=Value.none) (by first | rfl | (simp only [firstArgMember];rfl)) (wpAny_newObj_type ?_ (by size_fits)))) (by size_fits))
 simp only [raiseNew]
 apply wpAny_bind
 refine wpAny_handled ?_
 have h9:A.in1.handled=none:=hh
 rw [h9]
 refine wpAny_bind (wpAny_pure (wpAny_throw ?_))
 refine wpAny_bind (wpAny_isInstance (T:="StopIteration") (b:=true) ⟨_,get?_push_size _ rfl,rfl⟩ isSubtype_stop (wpAny_pure (q _ fun b o e=>get?_push_of_some _ (get?_push_of_some _ e))))
theorem next_item {slot nx:Nat}{x:Value}{Q:Option Value→Shared→Prop}(hit:SIt s.heap it a (.int slot 0) i es.size ep)(hS:SAt s.heap a es ep t)(hne:a≠it)
  (hN:∀(Q':Option (Value×Nat)→Shared→Prop) (E':Value→Shared→Prop),Q' (some (x,nx)) s→wpAny (model prog w) A.in1 (setNext a slot i ep) Q' E' s)
  (q:∀h',SIt h' it a (.int nx 0) (i+1) es.size ep→Heap.SameBut it s.heap h'→Q (some x) {s with heap:=h'}):wpAny (model prog w) A (pyNext (.ref it)) Q E s:=by
 obtain ⟨o,ho,hc,hd⟩:=id hit
 obtain ⟨oa,hoa,hx,hda,hf⟩:=id hS
 have T:=hit.T
 obtain ⟨o1,e1,c1,d1⟩:=Zrp (k:=0) (x:=rawInt nx) ho hc hd
 obtain ⟨o2,e2,c2,d2⟩:=Zrp (k:=1) (x:=rawInt ((i:Int)+1)) e1 c1 d1
 unfold pyNext
 refine wpAny_bind (wpAny_attempt (wpAny_callSpecial?_slot (name:=Str.ofString "__next__") T Zaj (wpAny_call_entry Zaj T Zhf ?_ (Zku _))))
 unfold Builtin.«set_iterator.__next__»
 refine wpAny_bind (wpAny_pure (wpAny_bind (wpAny_fieldsOf ho hd ?_)))
 refine wpAny_bind (wpAny_setEntries_of hoa hda hf ?_)
 rw [if_neg (by simp)]
 refine wpAny_bind (hN _ _ ?_)
 refine wpAny_bind (wpAny_setField ho hd (by simp) (wpAny_bind (wpAny_setField e1 d1 (by simp) ?_)))
 exact wpAny_pure ⟨_,rfl,wpAny_pure (q _ ⟨o2,e2,c2,by rw [d2];simp [rawInt]⟩ ((Heap.SameBut.update ..).trans (Heap.SameBut.update ..)))⟩
theorem next_end {slot:Nat}{Q:Option Value→Shared→Prop}(hh:A.handled=none)(hit:SIt s.heap it a (.int slot 0) i es.size ep)(hS:SAt s.heap a es ep t)
  (hN:∀(Q':Option (Value×Nat)→Shared→Prop) (E':Value→Shared→Prop),Q' none s→wpAny (model prog w) A.in1 (setNext a slot i ep) Q' E' s)
  (q:∀h',Heap.ExtBut it s.heap h'→Q none {s with heap:=h'}):wpAny (model prog w) A (pyNext (.ref it)) Q E s:=by
 obtain ⟨o,ho,hc,hd⟩:=id hit
 obtain ⟨oa,hoa,hx,hda,hf⟩:=id hS
 have T:=hit.T
 unfold pyNext
 refine wpAny_bind (wpAny_attempt (wpAny_callSpecial?_slot (name:=Str.ofString "__next__") T Zaj (wpAny_call_entry Zaj T Zhf ?_ (Zku _))))
 unfold Builtin.«set_iterator.__next__»
 refine wpAny_bind (wpAny_pure (wpAny_bind (wpAny_fieldsOf ho hd ?_)))
 refine wpAny_bind (wpAny_setEntries_of hoa hda hf ?_)
 rw [if_neg (by simp)]
 refine wpAny_bind (hN _ _ ?_)
 refine wpAny_bind (wpAny_setField ho hd (by simp) ?_)
 refine wpAny_mono (Zmg hh (Q:=Q) (E:=E) fun h' k=>q h' fun b o' hb e=>k b o' ((get?_update_other _ _ (Ne.symm hb)).trans e)) ?_ ?_
 ·rintro fin s' ⟨r,e,z⟩
  exact ⟨r,e,wpAny_pure z⟩
 ·intro e s' z
  exact z
theorem Ztm {tp:Addr}{ps:Array Value}{p:Nat}{x:Int×Value}{Q:Option Value→Shared→Prop}(hit:SIt s.heap it a (.ref tp) i es.size ep)(hS:SAt s.heap a es ep t)(htp:∃o n,s.heap.get? tp=some o∧o.data=.seq ps n)(hp:ps[i]?=some (.int p 0))(hx:es[p]?=some x)
  (q:∀h',SIt h' it a (.ref tp) (i+1) es.size ep→Heap.SameBut it s.heap h'→Q (some x.2) {s with heap:=h'}):wpAny (model prog w) A (pyNext (.ref it)) Q E s:=by
 obtain ⟨o,ho,hc,hd⟩:=id hit
 obtain ⟨oa,hoa,_,hda,hf⟩:=id hS
 obtain ⟨ot,nt,hot,hdt⟩:=htp
 have T:=hit.T
 obtain ⟨o1,e1,c1,d1⟩:=Zrp (k:=1) (x:=rawInt ((i:Int)+1)) ho hc hd
 unfold pyNext
 refine wpAny_bind (wpAny_attempt (wpAny_callSpecial?_slot (name:=Str.ofString "__next__") T Zaj (wpAny_call_entry Zaj T Zhf ?_ (Zku _))))
 unfold Builtin.«set_iterator.__next__»
 refine wpAny_bind (wpAny_pure (wpAny_bind (wpAny_fieldsOf ho hd ?_)))
 refine wpAny_bind (wpAny_setEntries_of hoa hda hf ?_)
 rw [if_neg (by simp)]
 unfold seqItems?
 refine wpAny_bind (wpAny_bind (wpAny_load hot ?_))
 rw [hdt]
 refine wpAny_pure ?_
 dsimp only
 rw [show ((i:Int)).toNat=i from rfl,hp]
 dsimp only
 unfold setNextDrawn
 refine wpAny_bind (wpAny_bind (wpAny_setState_of hoa hda hf ?_))
 dsimp only
 rw [show ((p:Int)).toNat=p from rfl,hx]
 rw [if_neg (by simp)]
 refine wpAny_pure (wpAny_bind (wpAny_setField ho hd (by simp) ?_))
 exact wpAny_pure ⟨_,rfl,wpAny_pure (q _ ⟨o1,e1,c1,by rw [d1];simp [rawInt]⟩ (Heap.SameBut.update ..))⟩
theorem Zzn {tp:Addr}{ps:Array Value}{Q:Option Value→Shared→Prop}(hh:A.handled=none)(hit:SIt s.heap it a (.ref tp) i es.size ep)(hS:SAt s.heap a es ep t)(htp:∃o n,s.heap.get? tp=some o∧o.data=.seq ps n)(hp:ps[i]?=none)
  (q:∀h',Heap.ExtBut it s.heap h'→Q none {s with heap:=h'}):wpAny (model prog w) A (pyNext (.ref it)) Q E s:=by
 obtain ⟨o,ho,hc,hd⟩:=id hit
 obtain ⟨oa,hoa,_,hda,hf⟩:=id hS
 obtain ⟨ot,nt,hot,hdt⟩:=htp
 have T:=hit.T
 obtain ⟨o1,e1,c1,d1⟩:=Zrp (k:=0) (x:=rawInt 0) ho hc hd
 unfold pyNext
 refine wpAny_bind (wpAny_attempt (wpAny_callSpecial?_slot (name:=Str.ofString "__next__") T Zaj (wpAny_call_entry Zaj T Zhf ?_ (Zku _))))
 unfold Builtin.«set_iterator.__next__»
 refine wpAny_bind (wpAny_pure (wpAny_bind (wpAny_fieldsOf ho hd ?_)))
 refine wpAny_bind (wpAny_setEntries_of hoa hda hf ?_)
 rw [if_neg (by simp)]
 unfold seqItems?
 refine wpAny_bind (wpAny_bind (wpAny_load hot ?_))
 rw [hdt]
 refine wpAny_pure ?_
 dsimp only
 rw [show ((i:Int)).toNat=i from rfl,hp]
 dsimp only
 refine wpAny_bind (wpAny_setField ho hd (by simp) (wpAny_bind (wpAny_setField e1 d1 (by simp) ?_)))
 refine wpAny_mono (Zmg hh (Q:=Q) (E:=E) fun h' k=>q h' fun b o' hb e=>k b o' ((get?_update_other _ _ (Ne.symm hb)).trans ((get?_update_other _ _ (Ne.symm hb)).trans e))) ?_ ?_
 ·rintro fin s' ⟨r,e,z⟩
  exact ⟨r,e,wpAny_pure z⟩
 ·intro e s' z
  exact z
noncomputable def slotAt (t:SetTable):Nat→Nat
 | 0=>0
 | i+1=>t.place.getD i 0+1
theorem Zub {t:SetTable}(hu:UpP t.place):∀{i:Nat},i≤t.place.size→SetTable.below t.place (slotAt t i)=i
 | 0,_=>by
  obtain ⟨h1,h2,h3⟩:=below_at hu (slotAt t 0)
  rcases Nat.eq_zero_or_pos (SetTable.below t.place (slotAt t 0)) with z | z
  ·exact z
  ·exact absurd (h2 0 _ z (Array.getElem?_eq_getElem (by omega))) (Nat.not_lt_zero _)
 | i+1,hi=>by
  obtain ⟨h1,h2,h3⟩:=below_at hu (slotAt t (i+1))
  generalize SetTable.below t.place (slotAt t (i+1))=p at *
  have hg:t.place.getD i 0=t.place[i]:=by simp [Array.getD,show i<t.place.size by omega]
  have hs:slotAt t (i+1)=t.place[i]+1:=by show t.place.getD i 0+1=_;rw [hg]
  rw [hs] at h2 h3
  rcases Nat.lt_trichotomy p (i+1) with z | z | z
  ·have:=h3 i _ (by omega) (Array.getElem?_eq_getElem (by omega))
   omega
  ·exact z
  ·have a1:=h2 (i+1) _ z (Array.getElem?_eq_getElem (by omega))
   have a2:=hu i (i+1) _ _ (by omega) (Array.getElem?_eq_getElem (by omega)) (Array.getElem?_eq_getElem (by omega))
   omega
theorem Zwt {t:SetTable}{n:Nat}(h:t.fits n=true):t.place.size=n:=by
 simp only [SetTable.fits,Bool.and_eq_true,beq_iff_eq] at h
 exact h.1
theorem Zhv (hS:SAt s.heap a es ep t)(ht:UpP t.place)(hl:t.led=true)(hb:w.params.followText "set-order"=false)(hd:(!t.plain&&decide (es.size > 1))=false)(hi:i≤es.size){Q':Option (Value×Nat)→Shared→Prop}
  (q:Q' (match es[i]? with | some e=>some (e.2,slotAt t (i+1)) | none=>none) s):wpAny (model prog w) A (setNext a (slotAt t i) i ep) Q' E s:=by
 obtain ⟨oa,hoa,_,hda,hf⟩:=id hS
 have hz:=Zwt hf
 unfold setNext setsByText
 refine wpAny_bind (wpAny_setState_of hoa hda hf ?_)
 dsimp only
 refine wpAny_bind (wpAny_bind (wpAny_askSetting (wpAny_pure ?_)))
 show wpAny _ _ (if w.params.followText "set-order"=true then _ else _) _ _ _
 rw [hb,if_neg Bool.false_ne_true]
 show wpAny _ _ (if (!t.plain&&decide (es.size > 1))=true then _ else _) _ _ _
 rw [hd,if_neg Bool.false_ne_true]
 show wpAny _ _ ((if (!t.led&&!es.isEmpty)=true then _ else _) >>= _) _ _ _
 rw [hl]
 rw [if_neg (by simp)]
 refine wpAny_bind (wpAny_pure ?_)
 rw [Zub ht (by omega)]
 refine wpAny_pure ?_
 cases hc:es[i]? with
 | none=>rw [hc] at q;exact q
 | some e =>
  rw [hc] at q
  have hlt:=(Array.getElem?_eq_some_iff.mp hc).1
  have:t.place[i]?=some (t.place.getD i 0):=by
   rw [Array.getElem?_eq_getElem (by omega)]
   simp [Array.getD,show i<t.place.size by omega]
  rw [this]
  exact q
theorem Zfw {α:Type}:∀(l:List α) (i:Nat) (h:i<l.length),(l[i]::l.eraseIdx i).Perm l
 | a::r,0,h=>List.Perm.refl _
 | a::r,i+1,h=>by
  have:=Zfw r i (by simpa using h)
  exact (List.Perm.swap a _ _).trans (this.cons a)
theorem Zvy {α:Type}{f:Nat→Nat}:∀(n k:Nat) (left:List α) (out:Array α),left.length=n→(pickOrder.go f n k left out).toList.Perm (out.toList++left)
 | 0,k,left,out,h=>by
  rw [pickOrder.go]
  have:left=[]:=List.eq_nil_of_length_eq_zero h
  subst this
  simp
 | n+1,k,left,out,h=>by
  rw [pickOrder.go]
  have hlt:f k % left.length<left.length:=Nat.mod_lt _ (by omega)
  rw [getElem?_eq_getElem hlt]
  dsimp only
  refine (Zvy n (k+1) _ _ (by rw [List.length_eraseIdx,if_pos hlt];omega)).trans ?_
  rw [toList_push,append_assoc]
  refine List.Perm.append_left _ ?_
  exact Zfw left _ hlt
theorem Zgv (hS:SAt s.heap a es ep t)(hb:w.params.followText "set-order"=true){Q':Option (Value×Nat)→Shared→Prop}
  (q:Q' ((pickOrder (w.params.setOrder a ep) es)[i]?.map fun e=>(e.2,0)) s):wpAny (model prog w) A (setNext a 0 i ep) Q' E s:=by
 obtain ⟨oa,hoa,_,hda,hf⟩:=id hS
 unfold setNext setsByText
 refine wpAny_bind (wpAny_setState_of hoa hda hf ?_)
 dsimp only
 refine wpAny_bind (wpAny_bind (wpAny_askSetting (wpAny_pure ?_)))
 show wpAny _ _ (if w.params.followText "set-order"=true then _ else _) _ _ _
 rw [hb,if_pos rfl,if_neg (by simp)]
 unfold setWalk setsByText
 refine wpAny_bind (wpAny_bind (wpAny_setState_of hoa hda hf ?_))
 dsimp only
 refine wpAny_bind (wpAny_bind (wpAny_askSetting (wpAny_pure ?_)))
 show wpAny _ _ (if w.params.followText "set-order"=true then _ else _) _ _ _
 rw [hb,if_pos rfl]
 refine wpAny_bind (wpAny_askSetting (wpAny_pure ?_))
 exact wpAny_pure q
theorem Zym {src:Source}{n:Nat}{Q:Nat→Shared→Prop}(hn:n≠0)(q:∀k d,k<n→Q k {s with drawn:=d}):wpAny (model prog w) A (choose src n) Q E s:=by
 intro Γ p hΓ
 refine ⟨hn,?_⟩
 exact q _ _ (Nat.mod_lt _ (Nat.pos_of_ne_zero hn))
theorem Zvo {α:Type}:∀(n:Nat) (xs:List α) {s:Shared} {Q:List α→Shared→Prop},xs.length=n→(∀ys d,ys.Perm xs→Q ys {s with drawn:=d})→wpAny (model prog w) A (drawOrder n xs) Q E s
 | 0,xs,s,Q,h,q=>by
  have:xs=[]:=List.eq_nil_of_length_eq_zero h
  subst this
  unfold drawOrder
  exact wpAny_pure (q [] s.drawn (List.Perm.refl _))
 | n+1,[],s,Q,h,q=>by simp at h
 | n+1,x::xs,s,Q,h,q=>by
  unfold drawOrder
  refine wpAny_bind (Zym (by simp) fun k d hk=>?_)
  rw [getElem?_eq_getElem hk]
  refine wpAny_bind (Zvo n _ (by rw [List.length_eraseIdx,if_pos hk];simp at h ⊢;exact h) fun ys d' hp=>?_)
  exact wpAny_pure (q _ d' ((hp.cons _).trans (Zfw _ k hk)))
end
theorem Zxv:Slot "set_iterator" "__iter__" "set_iterator.__iter__":=
 Slot.of (n:="__iter__") (owner:="set_iterator") (by rw [typeLookup_type,builtinLookup_eq_fast];kernel_rfl) (by decide +kernel) (by decide +kernel) (by decide +kernel) (by first | exact .inl (by decide +kernel) | exact .inr (by decide +kernel)) (by rw [isSubtype_type];kernel_rfl)
theorem Zlk:entryFor table "set_iterator.__iter__"=some Builtin.«dict_keyiterator.__iter__»:=entryFor_alias (id':="dict_keyiterator.__iter__") (by kernel_rfl) rfl (by decide +kernel) (by kernel_rfl)
theorem Zmj (a:Value):argsOk "set_iterator.__iter__" ⟨[a],[]⟩:=by
 unfold argsOk
 rw [signature?_of (n:="__reti__".toList) (o:="rotareti_tes".toList) (id:="set_iterator.__iter__") (by kernel_rfl) Zri]
 kernel_rfl
section
variable {prog:Program}{w:World}{A:Around}{E:Value→Shared→Prop}{s:Shared}{it a:Addr}{es:Array (Int×Value)}{ep i:Nat}{t:SetTable}
theorem Zqa {first:Value}{n:Nat}{Q:Value→Shared→Prop}(hit:SIt s.heap it a first i n ep)(h:Q (.ref it) s):wpAny (model prog w) A (pyIter (.ref it)) Q E s:=by
 refine wpAny_pyIter_slot hit.T Zxv (wpAny_call_entry Zxv hit.T Zlk ?_ (Zmj _))
 change wpAny _ _ (ret (.ref it)) _ _ s
 exact wpAny_pure ⟨_,rfl,"set_iterator",_,hit.T,Zaj.lookup,h⟩
theorem Zmf {α:Type}(f:Nat→Nat)(xs:Array α):(pickOrder f xs).toList.Perm xs.toList:=by
 have:=Zvy (f:=f) xs.size 0 xs.toList #[] (by simp)
 rw [Array.toList_empty,List.nil_append] at this
 exact this
theorem Zmw {α:Type}(f:Nat→Nat)(xs:Array α):(pickOrder f xs).size=xs.size:=by
 have:=(Zmf f xs).length_eq
 simpa using this
def Xrf (ord:List (Int×Value)):Nat→Value→Prop:=fun i v=>∃e,ord[i]?=some e∧v=e.2
theorem Xar (hh:A.handled=none)(hne:a≠it)(ht:UpP t.place)(hl:t.led=true)(hb:w.params.followText "set-order"=false)(hd:(!t.plain&&decide (es.size > 1))=false) :
  Walks prog w A it [it,a] [it] es.size (Xrf es.toList) (fun i h=>SIt h it a (.int (slotAt t i) 0) i es.size ep∧SAt h a es ep t) where
 sub:=fun b hb=>by simp at hb;simp [hb]
 frame:=fun _ _ _ st hk=>⟨st.1.at fun o e=>hk it (by simp) o e,st.2.at fun o e=>hk a (by simp) o e⟩
 item:=fun i s Q E hi st hQ=>by
  refine next_item st.1 st.2 hne (x:=es[i].2) (nx:=slotAt t (i+1)) (fun Q' E' q=>Zhv st.2 ht hl hb hd (le_of_lt hi) (by rw [Array.getElem?_eq_getElem hi];exact q)) fun h' x1 x2=>?_
  exact hQ _ h' s.toks ⟨es[i],by simp [hi],rfl⟩ ⟨x1,st.2.at fun o e=>x2.extBut a o hne e⟩ (fun b o hb e=>x2.extBut b o (fun z=>hb (by simp [z])) e)
 done:=fun s Q E st hQ=>next_end hh st.1 st.2 (fun Q' E' q=>Zhv st.2 ht hl hb hd (le_refl _) (by rw [Array.getElem?_eq_none (le_refl _)];exact q)) fun h' x=>hQ h' s.toks fun b o hb e=>x b o (fun z=>hb (by simp [z])) e
 self:=fun _ _ _ _ st hQ=>Zqa st.1 hQ
theorem Zwi (hh:A.handled=none)(hne:a≠it)(hb:w.params.followText "set-order"=true) :
  Walks prog w A it [it,a] [it] es.size (Xrf (pickOrder (w.params.setOrder a ep) es).toList) (fun i h=>SIt h it a (.int 0 0) i es.size ep∧SAt h a es ep t) where
 sub:=fun b hb=>by simp at hb;simp [hb]
 frame:=fun _ _ _ st hk=>⟨st.1.at fun o e=>hk it (by simp) o e,st.2.at fun o e=>hk a (by simp) o e⟩
 item:=fun i s Q E hi st hQ=>by
  have hz:=Zmw (w.params.setOrder a ep) es
  have hi':i<(pickOrder (w.params.setOrder a ep) es).size:=by omega
  refine next_item st.1 st.2 hne (x:=(pickOrder (w.params.setOrder a ep) es)[i].2) (nx:=0) (fun Q' E' q=>Zgv st.2 hb (by rw [Array.getElem?_eq_getElem hi'];exact q)) fun h' x1 x2=>?_
  exact hQ _ h' s.toks ⟨(pickOrder (w.params.setOrder a ep) es)[i],by simp [hi'],rfl⟩ ⟨x1,st.2.at fun o e=>x2.extBut a o hne e⟩ (fun b o hb e=>x2.extBut b o (fun z=>hb (by simp [z])) e)
 done:=fun s Q E st hQ=>by
  have hz:=Zmw (w.params.setOrder a ep) es
  exact next_end hh st.1 st.2 (fun Q' E' q=>Zgv st.2 hb (by rw [Array.getElem?_eq_none (by omega)];exact q)) fun h' x=>hQ h' s.toks fun b o hb e=>x b o (fun z=>hb (by simp [z])) e
 self:=fun _ _ _ _ st hQ=>Zqa st.1 hQ
noncomputable def Xmg (es:Array (Int×Value))(ps:List Nat):List (Int×Value):=ps.filterMap fun p=>es[p]?
theorem Zve {es:Array (Int×Value)}:∀{ps:List Nat} {i:Nat} {p:Nat},(∀p∈ps,p<es.size)→ps[i]?=some p→(Xmg es ps)[i]?=es[p]?
 | [],i,p,h,e=>by simp at e
 | q::ps,i,p,h,e=>by
  have hq:=h q (mem_cons_self ..)
  have hc:Xmg es (q::ps)=es[q]::Xmg es ps:=by
   unfold Xmg
   rw [filterMap_cons,Array.getElem?_eq_getElem hq]
  rw [hc]
  cases i with
  | zero =>
   simp at e
   subst e
   simp [hq]
  | succ i =>
   simp at e ⊢
   exact Zve (fun p hp=>h p (mem_cons_of_mem _ hp)) e
theorem Ztl {tp:Addr}{ps:List Nat}(hh:A.handled=none)(hne:a≠it)(hnt:tp≠it)(hps:ps.Perm (List.range es.size)) :
  Walks prog w A it [it,a,tp] [it] es.size (Xrf (Xmg es ps)) (fun i h=>SIt h it a (.ref tp) i es.size ep∧SAt h a es ep t∧∃o n,h.get? tp=some o∧o.data=.seq (ps.map fun p:Nat=>Value.int p 0).toArray n) where
 sub:=fun b hb=>by simp at hb;simp [hb]
 frame:=fun _ _ _ st hk=>⟨st.1.at fun o e=>hk it (by simp) o e,st.2.1.at fun o e=>hk a (by simp) o e,let ⟨o,n,e,d⟩:=st.2.2;⟨o,n,hk tp (by simp) o e,d⟩⟩
 item:=fun i s Q E hi st hQ=>by
  have hl:ps.length=es.size:=by rw [hps.length_eq,length_range]
  have hmem:∀p∈ps,p<es.size:=fun p hp=>List.mem_range.mp (hps.mem_iff.mp hp)
  have hip:ps[i]?=some (ps[i]'(by omega)):=getElem?_eq_getElem (by omega)
  have hp:=hmem (ps[i]'(by omega)) (getElem_mem _)
  refine Ztm st.1 st.2.1 st.2.2 (p:=ps[i]'(by omega)) (x:=es[ps[i]'(by omega)]) (by simp [hip]) (Array.getElem?_eq_getElem hp) fun h' x1 x2=>?_
  refine hQ _ h' s.toks ⟨_,(Zve hmem hip).trans (Array.getElem?_eq_getElem hp),rfl⟩ ⟨x1,st.2.1.at fun o e=>x2.extBut a o hne e,?_⟩ (fun b o hb e=>x2.extBut b o (fun z=>hb (by simp [z])) e)
  obtain ⟨o,n,e,d⟩:=st.2.2
  exact ⟨o,n,x2.extBut tp o hnt e,d⟩
 done:=fun s Q E st hQ=>by
  have hl:ps.length=es.size:=by rw [hps.length_eq,length_range]
  exact Zzn hh st.1 st.2.1 st.2.2 (by simp;omega) fun h' x=>hQ h' s.toks fun b o hb e=>x b o (fun z=>hb (by simp [z])) e
 self:=fun _ _ _ _ st hQ=>Zqa st.1 hQ
theorem fp2 {b n a:Nat}(h:b∈[n,a]):b=a∨n≤b:=by
 simp at h
 omega
theorem fp3 {b n a:Nat}(h:b∈[n+1,a,n]):b=a∨n≤b:=by
 simp at h
 omega
theorem Xac {Q:Value→Shared→Prop}(hS:SAt s.heap a es ep t)(hsz:es.size<scanBound)(ht:UpP t.place)(hl:t.led=!(w.params.followText "set-order"))
  (q:∀(I:Addr) (h':Heap) d (fp:List Addr) (St:Nat→Heap→Prop) (ord:List (Int×Value)),ord.Perm es.toList→(∀A',A'.handled=none→Walks prog w A' I fp [I] es.size (Xrf ord) St)→St 0 h'→(∀b o,s.heap.get? b=some o→h'.get? b=some o)→s.heap.objs.size≤I→(∀b∈fp,b=a∨s.heap.objs.size≤b)→Q (.ref I) {s with heap:=h',drawn:=d}) :
  wpAny (model prog w) A (pyIter (.ref a)) Q E s:=by
 obtain ⟨oa,hoa,hx,hda,hf⟩:=id hS
 have T:s.TypeIs (.ref a) "set":=⟨oa,hoa,hx.1⟩
 have hlt:a<s.heap.objs.size:=lt_size hoa
 refine wpAny_pyIter_slot T F.slot_set_iter (wpAny_call_entry F.slot_set_iter T Zjk ?_ (F.args_set_iter_1 _))
 unfold Builtin.«frozenset.__iter__» Builtin.Frozenset.slot0 slotArgs
 simp only [List.isEmpty_nil,Bool.not_true,Bool.false_eq_true,↓reduceIte,bind_assoc,length_nil,bne_self_eq_false]
 unfold Builtin.Frozenset.addrOf Builtin.Frozenset.sizeOf
 refine wpAny_bind (wpAny_pure ?_)
 try dsimp only
 first | refine wpAny_bind (wpAny_pure (wpAny_bind (wpAny_bind (wpAny_setEntries_of hoa hda hf (wpAny_pure ?_))))) | refine wpAny_bind (wpAny_bind (wpAny_setEntries_of hoa hda hf (wpAny_pure ?_))) | refine wpAny_bind (wpAny_setEntries_of hoa hda hf (wpAny_pure ?_))
 unfold setDrawn setsByText
 refine wpAny_bind (wpAny_bind (wpAny_setState_of hoa hda hf ?_))
 dsimp only
 refine wpAny_bind (wpAny_bind (wpAny_askSetting (wpAny_pure (wpAny_pure ?_))))
 show wpAny _ _ (if (!w.params.followText "set-order"&&(!t.plain&&decide (es.size > 1)))=true then _ else _) _ _ _
 cases hb:w.params.followText "set-order" with
 | true =>
  rw [if_neg (by simp)]
  refine wpAny_bind (wpAny_pure (wpAny_bind (wpAny_setEpoch_of hoa hda hf (wpAny_bind (wpAny_newObj_type (wpAny_pure ⟨_,rfl,"set_iterator",_,⟨_,get?_push_size _ rfl,rfl⟩,Zaj.lookup,?_⟩))))))
  refine q s.heap.objs.size _ s.drawn [s.heap.objs.size,a] _ _ ?_ (fun A' hh=>Zwi (t:=t) (ep:=ep) (es:=es) hh (ne_of_lt hlt) hb) ⟨⟨_,get?_push_size _ rfl,rfl,rfl⟩,hS.at fun o e=>get?_push_of_some _ e⟩ (fun b o e=>get?_push_of_some _ e) (le_refl _) (fun b hb=>fp2 hb)
  exact Zmf _ _
 | false =>
  cases hd:(!t.plain&&decide (es.size > 1)) with
  | false =>
   rw [if_neg (by simp)]
   refine wpAny_bind (wpAny_pure (wpAny_bind (wpAny_setEpoch_of hoa hda hf (wpAny_bind (wpAny_newObj_type (wpAny_pure ⟨_,rfl,"set_iterator",_,⟨_,get?_push_size _ rfl,rfl⟩,Zaj.lookup,?_⟩))))))
   exact q s.heap.objs.size _ s.drawn [s.heap.objs.size,a] _ _ (List.Perm.refl _) (fun A' hh=>Xar (t:=t) (ep:=ep) (es:=es) hh (ne_of_lt hlt) ht (by rw [hl,hb];rfl) hb hd) ⟨⟨_,get?_push_size _ rfl,rfl,rfl⟩,hS.at fun o e=>get?_push_of_some _ e⟩ (fun b o e=>get?_push_of_some _ e) (le_refl _) (fun b hb=>fp2 hb)
  | true =>
   rw [if_pos (by simp)]
   refine wpAny_bind (Zvo _ _ (by simp) fun ps d hps=>?_)
   refine wpAny_bind (wpAny_newTuple ?_ (hsz:=by rw [length_map,hps.length_eq,length_range];exact fits_of_scanBound hsz))
   have hoa':(s.heap.push (seqObj "tuple" (ps.map fun (p:Nat)=>rawInt p).toArray 0)).get? a=some oa:=get?_push_of_some _ hoa
   refine wpAny_bind (wpAny_setEpoch_of (s:={s with heap:=s.heap.push (seqObj "tuple" (ps.map fun (p:Nat)=>rawInt p).toArray 0),drawn:=d}) hoa' hda hf (wpAny_bind (wpAny_newObj_type (wpAny_pure ⟨_,rfl,"set_iterator",_,⟨_,get?_push_size _ rfl,rfl⟩,Zaj.lookup,?_⟩))))
   have hz:(s.heap.push (seqObj "tuple" (ps.map fun (p:Nat)=>rawInt p).toArray 0)).objs.size=s.heap.objs.size+1:=size_push _ _
   refine q (s.heap.push (seqObj "tuple" (ps.map fun (p:Nat)=>rawInt p).toArray 0)).objs.size _ d [(s.heap.push (seqObj "tuple" (ps.map fun (p:Nat)=>rawInt p).toArray 0)).objs.size,a,s.heap.objs.size] _ (Xmg es ps) ?_ (fun A' hh=>Ztl (t:=t) (ep:=ep) (es:=es) (tp:=s.heap.objs.size) (ps:=ps) hh (by rw [hz];exact ne_of_lt (lt_succ_of_lt hlt)) (by rw [hz];exact ne_of_lt (Nat.lt_succ_self _)) hps) ⟨⟨_,get?_push_size _ rfl,rfl,rfl⟩,hS.at fun o e=>get?_push_of_some _ (get?_push_of_some _ e),_,0,get?_push_of_some _ (get?_push_size _ rfl),rfl⟩ (fun b o e=>get?_push_of_some _ (get?_push_of_some _ e)) (by rw [hz];exact le_succ _) (fun b hb=>by rw [hz] at hb;exact fp3 hb)
   unfold Xmg
   exact (hps.filterMap _).trans (by rw [filterMap_getElem?_range])
end
end L2
namespace L2
open PySem PySem.Spec PyProof.Rows
open Dl (Zdl Yl)
noncomputable def Zsd (b:Bool):Obj:={cls:=.type "set",dict:=none,data:=.set #[] 0 (.fresh 0 0 b)}
theorem Zns (ks:List Int)(n:Int):(Zdl ks n).length≤ks.length+1:=by
 unfold Zdl
 split
 ·exact le_succ _
 ·rw [length_append];exact le_refl _
theorem Zjq:∀(ns ks:List Int),(Yl ks ns).length≤ks.length+ns.length
 | [],ks=>le_refl _
 | n::ns,ks=>by
  have h1:=Zjq ns (Zdl ks n)
  have h2:=Zns ks n
  show (Yl (Zdl ks n) ns).length≤_
  rw [length_cons]
  omega
section
variable {prog:Program}{w:World}{A:Around}{E:Value→Shared→Prop}{s:Shared}
theorem SW.newS (h:Heap):SW prog w (h.push (Zsd !(w.params.followText "set-order"))) h.objs.size []:=
 ⟨_,#[],0,_,get?_push_size _ rfl,⟨rfl,rfl,rfl⟩,rfl,fun e he=>by simp at he,List.Perm.refl _,by decide,rfl,⟨rfl,fun i j x y _ e=>by simp [SetTable.fresh] at e⟩,rfl⟩
theorem Xjm (v:Value){Q:Value→Shared→Prop}(q:Q (.ref s.heap.objs.size) {s with heap:=s.heap.push (Zsd !(w.params.followText "set-order"))}) :
  codeAny (model prog w) A (.call (.builtin "set.__new__") ⟨[.type "set",v],[]⟩) (wants Q E) s:=by
 refine codeAny_of_tree ?_
 change wpAny _ A.in1 (checkBuiltinCall "set.__new__" ⟨[.type "set",v],[]⟩ >>= fun _=>again (.builtin "set.__new__" ⟨[.type "set",v],[]⟩)) _ _ s
 refine wpAny_bind (wpAny_of_eq (F.newCall_set_1 v) ?_)
 refine wpAny_pure ⟨plainId_quiet F.plain_set_new _,?_⟩
 refine codeAny_builtin F.entry_set_new ?_
 rw [Around.under_plainId F.plain_set_new _]
 unfold Builtin.«set.__new__»
 unfold Builtin.Frozenset.newClass
 have:=sub_set_self
 obtain ⟨h,g,d,k,o⟩:=s
 dsimp only at q ⊢
 wp_walk
 refine wpAny_askSetting (wpAny_pure ?_)
 simp only [newObj]
 exact wpAny_bind (wpAny_alloc (wpAny_pure (wpAny_pure q)))
theorem Zrb {R:Result→Shared→Prop}{I S:Addr}{fp wr:List Addr}{ns:List Int}{P:Nat→Value→Prop}{St:Nat→Heap→Prop}(W:Walks prog w A.in1 I fp wr ns.length P St)(hS:S∉fp)(hP:∀i v,P i v→∃n t,ns[i]?=some n∧v=.int n t) :
  ∀(k i:Nat) (ks:List Int) (s:Shared),ns.length - i=k→i≤ns.length→St i s.heap→SW prog w s.heap S ks→ks.length+(ns.length - i)+1<scanBound→
   (∀h' tk,(∀b o,b≠S→b∉wr→s.heap.get? b=some o→h'.get? b=some o)→SW prog w h' S (Yl ks (ns.drop i))→R (.ok (.ret .none)) {s with heap:=h',toks:=tk})→
   codeAny (model prog w) A (.builtin "set.update.loop" ⟨[.ref S,.ref I],[]⟩) R s
 | 0,i,ks,s,hk,hi,st,hs,hb,hR=>by
  have e:i=ns.length:=by omega
  subst e
  refine codeAny_builtin F.entry_set_update_loop ?_
  rw [Around.under_plainId F.plain_set_update_loop _]
  change wpAny _ A.in1 (pyNext (.ref I) >>= _) _ _ s
  refine wpAny_bind (W.done s _ _ st fun h' tk kp=>?_)
  change wpAny _ A.in1 (ret Value.none) _ _ _
  refine wpAny_pure (hR h' tk (fun b o _ hb e=>kp b o hb e) ?_)
  rw [List.drop_length]
  exact hs.keepS fun o e=>kp S o (fun z=>hS (W.sub _ z)) e
 | k+1,i,ks,s,hk,hi,st,hs,hb,hR=>by
  have hlt:i<ns.length:=by omega
  refine codeAny_builtin F.entry_set_update_loop ?_
  rw [Around.under_plainId F.plain_set_update_loop _]
  change wpAny _ A.in1 (pyNext (.ref I) >>= _) _ _ s
  refine wpAny_bind (W.item i s _ _ hlt st fun v h1 tk1 hv st1 kp=>?_)
  obtain ⟨n,t,hn,rfl⟩:=hP i v hv
  have hs1:SW prog w h1 S ks:=hs.keepS fun o e=>kp S o (fun z=>hS (W.sub _ z)) e
  change wpAny _ A.in1 (holding [Value.int n t] (setAdd S (.int n t)) >>= _) _ _ _
  refine wpAny_bind (wpAny_holding ?_)
  unfold setAdd
  refine wpAny_holding (wpAny_bind ((intKind prog w).pyHash (intKind_is _ _ n t) ?_))
  refine Xqq (s:={s with heap:=h1,toks:=tk1+1}) hs1 (by omega) fun h2 b2 sb hs2=>?_
  have hne:∀b∈fp,b≠S:=fun b hb z=>hS (z▸hb)
  have hd:ns.drop i=n::ns.drop (i+1):=by
   rw [List.getElem?_eq_some_iff] at hn
   obtain ⟨h,rfl⟩:=hn
   exact drop_eq_getElem_cons h
  have hl:=Zns ks n
  refine wpAny_pure ⟨plainId_quiet F.plain_set_update_loop _,Zrb W hS hP k (i+1) (Zdl ks n) _ (by omega) hlt (W.frame _ _ _ st1 fun b hb o e=>(sb.2 b (hne b hb)).trans e) hs2 (by omega) fun h3 tk3 kp3 hs3=>?_⟩
  refine hR h3 tk3 (fun b o hb hw e=>kp3 b o hb hw ((sb.2 b hb).trans (kp b o hw e))) ?_
  rw [hd]
  exact hs3
set_option maxHeartbeats 4000000 in
theorem Xcz {l:Addr}{vs:List Value}{ns:List Int}{Q:Value→Shared→Prop}(hh:A.handled=none)(hl:s.heap.IsList l vs.toArray)(hi:IntsAre vs ns)(hb:ns.length+1<scanBound)
  (q:∀h' tk,SW prog w h' s.heap.objs.size (Yl [] ns)→(∀b o,s.heap.get? b=some o→h'.get? b=some o)→Q (.ref s.heap.objs.size) {s with heap:=h',toks:=tk}) :
  wpAny (model prog w) A (call (.type "set") [.ref l]) Q E s:=by
 obtain ⟨c0,tl0,x1⟩:=F.called_set.mro
 have x2:=F.called_set.made
 have x3:=F.called_set.sub
 have x4:=F.called_set.notType
 have x5:=F.called_set.canCreate
 have x6:=F.typeCall_set_1 (.ref l)
 refine wpAny_call (codeAny_of_tree ?_)
 change wpAny _ _ (callAny (.type "set") _) _ _ _
 refine wpAny_pure ⟨Code.quiet_builtin _ (by decide +kernel),?_⟩
 refine codeAny_builtin F.entry_type_call ?_
 rw [Around.under_plain (weight_type_call_type "set" [.ref l] []) rfl]
 repeat (any_goals (first | assumption | wp_step))
 have T0:∀h:Heap,(h.push (Zsd !(w.params.followText "set-order"))).get? h.objs.size=some (Zsd !(w.params.followText "set-order")):=fun h=>get?_push_size _ rfl
 refine codeAny_mono (Xjm (.ref l) (E:=E) (Q:=fun v s1=>v=.ref s.heap.objs.size∧s1={s with heap:=s.heap.push (Zsd !(w.params.followText "set-order"))}) ⟨rfl,rfl⟩) fun r s1 hr=>?_
 cases r with
 | error e=>exact hr
 | ok fl =>
  cases fl with
  | ret obj =>
   obtain ⟨rfl,rfl⟩:=hr
   have hT:Shared.TypeIs {s with heap:=s.heap.push (Zsd !(w.params.followText "set-order"))} (.ref s.heap.objs.size) "set":=⟨_,T0 _,rfl⟩
   have x7:=F.called_set.init.lookup
   have x8:=F.called_set.init.bind (.ref s.heap.objs.size)
   repeat (any_goals (first | assumption | wp_step))
   refine codeAny_mono (codeAny_call_builtin (R:=wants (fun r s2=>r=.none∧∃h' tk,s2={s with heap:=h',toks:=tk}∧SW prog w h' s.heap.objs.size (Yl [] ns)∧∀b o,s.heap.get? b=some o→h'.get? b=some o) E) F.called_set.init.plain F.entry_set_init (check_set_init_1 hT ?_)) fun r2 s2 hr2=>?_
   ·obtain ⟨⟨oc,od,odt,osl⟩,hol,hcl,nl,hdl⟩:=id hl
    simp only at hcl hdl
    subst hcl hdl
    have y1:=get?_push_of_some (Zsd !(w.params.followText "set-order")) hol
    have y2:=F.sub_list_set
    have y3:=F.sub_list_frozenset
    have y4:(Value.type "list"==Value.type "dict")=false:=by decide
    have hl1:(s.heap.push (Zsd !(w.params.followText "set-order"))).IsList l vs.toArray:=hl.push _
    have hz:(s.heap.push (Zsd !(w.params.followText "set-order"))).objs.size=s.heap.objs.size+1:=size_push ..
    have hlt:l<s.heap.objs.size:=lt_size hol
    unfold Builtin.«set.__init__» noKeywords
    unfold Builtin.Frozenset.updateFrom
    generalize hPI:pyIter=PI
    wp_walk
    subst hPI
    refine wpAny_pyIter_list hl1 (wpAny_bind (wpAny_runValue ?_))
    have hn:=IntsAre.length hi
    have W:Walks prog w A.in1.in1.in1 (s.heap.push (Zsd !(w.params.followText "set-order"))).objs.size [(s.heap.push (Zsd !(w.params.followText "set-order"))).objs.size,l] [(s.heap.push (Zsd !(w.params.followText "set-order"))).objs.size] ns.length (fun i v=>vs.toArray[i]?=some v) (fun i h=>h.IsListIter (s.heap.push (Zsd !(w.params.followText "set-order"))).objs.size l i∧h.IsList l vs.toArray):=by
     have:=Walks.list (prog:=prog) (w:=w) (A:=A.in1.in1.in1) (by simp [hh]) (s.heap.push (Zsd !(w.params.followText "set-order"))).objs.size l (by rw [hz];exact ne_of_lt (lt_succ_of_lt hlt)) vs.toArray
     have e9:vs.toArray.size=ns.length:=List.size_toArray.trans hn
     rw [e9] at this
     exact this
    refine Zrb W (S:=s.heap.objs.size) ?_ (fun i v e=>?_) ns.length 0 [] _ (by simp) (zero_le _) ⟨⟨_,get?_push_size _ rfl,rfl,rfl⟩,hl1.push _⟩ ((SW.newS s.heap).keepS fun o e=>get?_push_of_some _ e) (by simpa using hb) fun h' tk kp hs=>?_
    ·rw [hz]
     intro z
     rcases List.mem_cons.mp z with z | z
     ·exact absurd z (ne_of_lt (Nat.lt_succ_self _))
     ·exact absurd (List.mem_singleton.mp z) (ne_of_gt hlt)
    ·obtain ⟨t,z⟩:=IntsAre.int_at hi i v (by simpa using e)
     have hiv:i<ns.length:=by
      rw [List.getElem?_toArray] at e
      have:=(List.getElem?_eq_some_iff.mp e).1
      omega
     exact ⟨_,t,getElem?_eq_getElem hiv,by rw [z];simp [getD_eq_getElem?_getD,hiv]⟩
    ·refine wpAny_pure ?_
     change wpAny _ _ (ret Value.none) _ _ _
     refine wpAny_pure ⟨rfl,h',tk,rfl,hs,fun b o e=>?_⟩
     have hbs:b<s.heap.objs.size:=lt_size e
     refine kp b o (ne_of_lt hbs) (fun z=>?_) (get?_push_of_some _ (get?_push_of_some _ e))
     rw [hz,List.mem_singleton] at z
     subst z
     exact absurd hbs (Nat.not_lt.mpr (le_succ _))
   ·cases r2 with
    | error e=>exact hr2
    | ok fl2 =>
     cases fl2 with
     | ret r =>
      obtain ⟨rfl,h',tk,rfl,hs,kp⟩:=hr2
      repeat (any_goals (first | assumption | wp_step))
      exact q _ _ hs kp
     | _=>exact hr2.elim
  | _=>exact hr.elim
end
end L2
namespace L2
open PySem PySem.Spec PyProof.Rows
section
variable {prog:Program}{w:World}{A:Around}{E:Value→Shared→Prop}{s:Shared}{a:Addr}{ks:List Int}
theorem Zxd:∀{vs:List Value},(∀v∈vs,∃n t,v=.int n t)→IntsAre vs (vs.map keyI)
 | [],_=>.nil
 | v::vs,h=>by
  obtain ⟨n,t,rfl⟩:=h v (mem_cons_self ..)
  exact .cons n t (Zxd fun x hx=>h x (mem_cons_of_mem _ hx))
theorem Xcf {ord:List (Int×Value)}{acc:Array Value}(h:ItemsOf (Xrf ord) acc ord.length):acc.toList=ord.map (·.2):=by
 obtain ⟨h1,h2⟩:=h
 refine List.ext_getElem? fun j=>?_
 by_cases hj:j<acc.size
 ·obtain ⟨e,e1,e2⟩:=h2 j acc[j] (Array.getElem?_eq_getElem hj)
  rw [getElem?_toList,Array.getElem?_eq_getElem hj,getElem?_map,e1,e2]
  rfl
 ·rw [getElem?_eq_none (by simp;omega),getElem?_eq_none (by simp;omega)]
theorem Zmx:typeLookup (.type "set") "__len__"=pure (some (.builtin "set.__len__")):=F.slot_set_len.lookup
theorem Zpb {Q:List Value→Shared→Prop}(hh:A.handled=none)(hS:SW prog w s.heap a ks)
  (q:∀(vs:List Value) (ks':List Int) h' d tk,IntsAre vs ks'→ks'.Perm ks→(∀b o,s.heap.get? b=some o→h'.get? b=some o)→s.heap.objs.size≤h'.objs.size→Q vs {s with heap:=h',drawn:=d,toks:=tk}):wpAny (model prog w) A (collect (.ref a)) Q E s:=by
 obtain ⟨o,es,ep,t,ho,hex,hd,hel,hk,hb,hf,ht,hl⟩:=id hS
 have hlt:a<s.heap.objs.size:=lt_size ho
 unfold collect
 refine wpAny_bind (wpAny_runValue (codeAny_builtin F.entry_proto_collect ?_))
 rw [Around.under_plainId F.plain_proto_collect _]
 change wpAny _ A.in1 (newList [] >>= fun l=>again (.builtin "list.__iadd__" ⟨[l,.ref a],[]⟩)) _ _ s
 refine wpAny_bind (wpAny_newObj_type (wpAny_pure ⟨plainId_quiet F.plain_list_iadd _,codeAny_builtin F.entry_list_iadd ?_⟩))
 rw [Around.under_plainId F.plain_list_iadd _]
 generalize hH:s.heap.push {cls:=.type "list",data:=.seq ([]:List Value).toArray}=H
 have hHs:H.objs.size=s.heap.objs.size+1:=by rw [← hH,size_push]
 have hHo:H.get? s.heap.objs.size=some {cls:=.type "list",data:=.seq ([]:List Value).toArray}:=hH▸get?_push_size _ rfl
 have hHk:∀b o,s.heap.get? b=some o→H.get? b=some o:=fun b o e=>hH▸get?_push_of_some _ e
 have hSA:SAt H a es ep t:=⟨o,hHk _ _ ho,hex,hd,hf⟩
 have T:Shared.TypeIs {s with heap:=H} (.ref a) "set":=⟨o,hHk _ _ ho,hex.1⟩
 change wpAny _ A.in1 (Builtin.List.listExtendWith (.ref s.heap.objs.size) (.ref a) (.ref s.heap.objs.size)) _ _ _
 unfold Builtin.List.listExtendWith
 refine wpAny_bind (wpAny_typeOf T ?_)
 have n1:Builtin.List.listSameRef (.ref s.heap.objs.size) (.ref a)=false:=by simp [Builtin.List.listSameRef,ne_of_gt hlt]
 rw [if_neg (by rw [n1];decide)]
 refine wpAny_bind (Xac (s:={s with heap:=H}) hSA hb ht.up hl fun I h1 d fp St ord hp W st0 kp hI hfp=>?_)
 refine wpAny_bind (wpAny_holding ?_)
 have T1:Shared.TypeIs {s with heap:=h1,drawn:=d} (.ref a) "set":=⟨o,kp _ _ (hHk _ _ ho),hex.1⟩
 unfold Builtin.List.listLengthHint
 refine wpAny_bind (wpAny_specialOf T1 Zmx ?_)
 generalize hid:("set.__len__":String)=id0
 wp_delta
 rw [show splitId id0=some ("set","__len__") from by subst hid;decide +kernel]
 subst hid
 refine wpAny_bind (wpAny_isInstance (b:=true) T1 (by rw [isSubtype_type];kernel_rfl) ?_)
 change wpAny _ A.in1 (typeOf (Value.ref a) >>= _) _ _ _
 refine wpAny_bind (wpAny_typeOf T1 (wpAny_pure ?_))
 rw [if_pos (by decide)]
 refine wpAny_bind (wpAny_rule ?_)
 have hL:h1.get? s.heap.objs.size=some {cls:=.type "list",data:=.seq ([]:List Value).toArray}:=kp _ _ hHo
 have hI':s.heap.objs.size<I:=by
  have:H.objs.size≤I:=hI
  rw [hHs] at this
  exact this
 have hnf:s.heap.objs.size∉fp:=fun z=>by
  rcases hfp _ z with z | z
  ·exact absurd z (ne_of_gt hlt)
  ·have:H.objs.size≤s.heap.objs.size:=z
   rw [hHs] at this
   exact absurd this (Nat.not_succ_le_self _)
 refine wpAny_bind ?_
 change wpAny _ A.in1 (updateSeq s.heap.objs.size (·.push .none) >>= fun _=>updateSeq s.heap.objs.size (·.pop)) _ _ _
 refine wpAny_bind (wpAny_updateSeq hL rfl ?_)
 have g1:=Heap.get?_update_self (Obj.mapSeq (·.push Value.none)) hL rfl
 refine wpAny_updateSeq g1 rfl ?_
 have g2:=Heap.get?_update_self (Obj.mapSeq (·.pop)) g1 rfl
 have oth:∀b o,b≠s.heap.objs.size→h1.get? b=some o→((h1.update s.heap.objs.size (Obj.mapSeq (·.push Value.none))).update s.heap.objs.size (Obj.mapSeq (·.pop))).get? b=some o:=
  fun b o hb e=>(get?_update_other _ _ (Ne.symm hb)).trans ((get?_update_other _ _ (Ne.symm hb)).trans e)
 have hol:ord.length=es.size:=by rw [hp.length_eq,length_toList]
 refine wpAny_pure ⟨plainId_quiet F.plain_extend_loop _,codeAny_extend_loopS (n:=es.size) (W A.in1 hh).toS (fits_of_scanBound hb) _ hnf _ es.size 0 _ _ _ (by simp) (zero_le _) ((W A.in1 hh).frame 0 h1 _ st0 fun b hb o e=>oth b o (fun z=>hnf (z▸hb)) e) g2 (ItemsOf.nil _) fun s' acc c' hm hS' hacc=>?_⟩
 change wpAny _ A (load s.heap.objs.size >>= _) _ _ s'
 refine wpAny_bind (wpAny_load hS' (wpAny_pure ?_))
 obtain ⟨h2,gs2,d2,tk2,os2⟩:=s'
 have eg:gs2=s.gens:=hm.gens
 have ed:d2=d:=hm.drawn
 have eo:os2=s.os:=hm.os
 subst eg ed eo
 rw [← hol] at hacc
 have ea:=Xcf hacc
 have hkeep:∀b o,s.heap.get? b=some o→h2.get? b=some o:=fun b o e=>by
  have hbs:b<s.heap.objs.size:=lt_size e
  refine hm.heap b o (fun z=>?_) (oth b o (ne_of_lt hbs) (kp b o (hHk b o e)))
  rcases List.mem_cons.mp z with z | z
  ·exact absurd z (ne_of_lt hbs)
  ·exact absurd (List.mem_singleton.mp z) (ne_of_lt (lt_trans hbs hI'))
 have hints:∀v∈ord.map (·.2),∃n t,v=Value.int n t:=fun v hv=>by
  obtain ⟨e,he,rfl⟩:=List.mem_map.mp hv
  obtain ⟨⟨n,hn,_⟩,_⟩:=hel e (hp.mem_iff.mp he)
  obtain ⟨t,z⟩:=Value.isInt_shape hn
  exact ⟨n,t,z⟩
 rw [ea]
 refine q _ _ h2 d2 tk2 (Zxd hints) ?_ hkeep (le_of_lt (lt_size hS'))
 rw [map_map]
 exact (hp.map _).trans hk
theorem Zth {Q:Value→Shared→Prop}(hh:A.handled=none)(hS:SW prog w s.heap a ks)(h64:ks.length<64)
    (q:∀(r:Addr) (vs:List Value) (ks':List Int) h' d tk n,IntsAre vs ks'→ks'.Perm ks→ks'.Pairwise (·≤·)→(∀b o,s.heap.get? b=some o→h'.get? b=some o)→s.heap.objs.size≤r→h'.get? r=some (seqObj "list" vs.toArray n)→Q (.ref r) {s with heap:=h',drawn:=d,toks:=tk}) :
    wpAny (model prog w) A (call (.builtin "sorted") [.ref a]) Q E s:=by
  refine Calls.call_function_entry kind_sorted plain_sorted entry_sorted (args_sorted1 _) ?_
  unfold Builtin.«sorted»
  refine wpAny_bind (m:=checkCount "sorted" 1 1 _) (wpAny_pure (wpAny_bind (Zpb (A:=A.in1) hh hS fun vs ks' h1 d tk hi hp kp hsz=>wpAny_bind (wpAny_newList ?_ (by
    have e1:=IntsAre.length hi
    have e2:=hp.length_eq
    rw [sizeLine_eq]
    omega)))))
  have e1:=IntsAre.length hi
  have e2:=hp.length_eq
  have hl:(h1.push (seqObj "list" vs.toArray 0)).get? h1.objs.size=some (seqObj "list" vs.toArray 0):=get?_push_size _ rfl
  change wpAny _ _ _ _ _ {s with heap:=h1.push (seqObj "list" vs.toArray 0),drawn:=d,toks:=tk}
  refine wpAny_bind (wpAny_holding (wpAny_call_entry slot_list_sort ⟨_,hl,rfl⟩ entry_list_sort (list_sort_tree hl hi (by omega) fun out ns' a1 a2 a3=>⟨_,rfl,?_⟩) (args_list_sort _)))
  refine wpAny_pure ⟨_,rfl,?_⟩
  obtain ⟨n0,g0⟩:∃n0,((h1.push (seqObj "list" vs.toArray 0)).update h1.objs.size (Obj.mapSeq fun _=>#[])).get? h1.objs.size=some (seqObj "list" #[] n0):=⟨_,get?_update_seq hl (fun _=>#[])⟩
  have z1:((h1.push (seqObj "list" vs.toArray 0)).update h1.objs.size (Obj.mapSeq fun _=>#[])).objs.size=h1.objs.size+1:=by rw [size_update,size_push]
  have g1:((((h1.push (seqObj "list" vs.toArray 0)).update h1.objs.size (Obj.mapSeq fun _=>#[])).push (seqObj "tuple" vs.toArray 0)).push (seqObj "list" #[] 0)).get? h1.objs.size=some (seqObj "list" #[] n0):=
    get?_push_of_some _ (get?_push_of_some _ g0)
  obtain ⟨n,g2⟩:∃n,(sortedHeap (h1.push (seqObj "list" vs.toArray 0)) h1.objs.size vs out).get? h1.objs.size=some (seqObj "list" out n):=⟨_,get?_update_seq g1 (fun _=>out)⟩
  have g3:∀b o,s.heap.get? b=some o→(sortedHeap (h1.push (seqObj "list" vs.toArray 0)) h1.objs.size vs out).get? b=some o:=fun b o e=>by
    have hb:h1.objs.size≠b:=ne_of_gt (lt_size (kp b o e))
    unfold sortedHeap
    rw [get?_update_other _ _ hb]
    refine get?_push_of_some _ (get?_push_of_some _ ?_)
    rw [get?_update_other _ _ hb]
    exact get?_push_of_some _ (kp b o e)
  exact q h1.objs.size out.toList ns' _ d tk n a1 (a2.trans hp) a3 g3 hsz (by rw [Array.toArray_toList];exact g2)
end
end L2
namespace L2
open PySem PySem.Spec PyProof.Rows
open Dl (D R FE FT FA FO FS FI FB Fl)
section
variable {X:Cx}{pins:List (Addr×Obj)}{σ:St}{H:Hp}{s:Shared}{e:Expr}{te:TE}{p p' pos pos':Pos}
theorem Inv.redrawn (I:Inv X pins σ H s)(d:Drawn):Inv X pins σ H {s with drawn:=d}:=
 I.step (h':=s.heap) (H':=H) (g':=s.gens) (t':=s.toks) (d':=d) (ch:=[]) (fun _ z=>nomatch z) (fun _ _ _ _ _ e _=>e) (fun _ o _ _ _ e _=>⟨o.slots,e⟩) (fun _ _ _ _ n=>n) (fun _ o _ e=>⟨o,e⟩) (fun _ _ e=>e) (fun _ _ _ e=>e) (fun _ _ _ e=>e) (fun _ n=>n) I.hok I.bare
def Zqv (K:Frag)(te:TE):TE:=fun σ H Q=>Zgb te Zuh σ H fun vs H1=>∃a ns,vs=[.ref a]∧SqL K H1 a (ns.map V.int)∧ns.length<64∧∀r,H1 r=none→Q (.ref r) (upd H1 r (.lst ((Dl.sortI (Dl.Yl [] ns)).map V.int)))
theorem Zkf {f:Expr}{as:List Expr}{q:Pos}{env:Env}:starEach [.Call f as [] q] env=(false,eval (.Call f as [] q) env)::starEach [] env:=rfl
theorem Xcd (hc:X.calm=true)(hg:Gl X "sorted")(hm:X.mg "sorted"=none)(hg':Gl X "set")(hm':X.mg "set"=none)(he:PE X e te)(hs2:starEach [e] X.env=(false,eval e X.env)::starEach [] X.env) :
    PE X (.Call (.Name "sorted" p) [.Call (.Name "set" p') [e] [] pos'] [] pos) (Zqv X.K te):=by
  intro pins s σ H Q I h
  refine wpAny_Call_Name_kw (Zgh I hg hm boot_sorted ?_ (by decide) (by decide))
  refine PyProof.Rows.callWith_builtin1 ?_ Zkf rfl
  rw [Zkf]
  change wpAny _ _ (spliced ((false,eval (.Call (.Name "set" p') [e] [] pos') X.env)::backTo pos (starEach [] X.env))) _ _ s
  refine Calls.spliced_cons ?_
  refine wpAny_Call_Name_kw (Zgh I hg' hm' PyProof.Rows.boot_set ?_ (by decide) (by decide))
  refine PyProof.Rows.callWith_type1 (thn (Zpv he Zvd hs2 pos' pins s σ H _ I h) fun us s1 hz9=>?_) hs2 rfl
  obtain ⟨vs,H1,I1,r1,q1⟩:=hz9
  obtain ⟨a,ns,rfl,hq,hl,q⟩:=q1
  obtain ⟨u,rfl,rx⟩:=vals1 r1
  cases rx
  obtain ⟨its,rv,pl,hz⟩:=I1.list hq
  have hh:=I1.ok.hd hc
  have hal:=Zjq ns []
  refine Xcz hh pl.isList (intsAre_of rv) (lt_trans (Nat.add_lt_add_right hl 1) (by decide)) fun h2 tk2 hS k2=>Calls.spliced_nil ?_
  refine Zth (s:={s1 with heap:=h2,toks:=tk2}) hh hS (Nat.lt_of_le_of_lt hal (by simpa using hl)) fun r vs' ks' h3 d tk n hi hp ho k3 hr hL=>?_
  have e:=Xdc hp ho
  subst e
  have hlt:s1.heap.objs.size≤r:=le_trans (by
    obtain ⟨o,_,_,_,hO,_⟩:=hS
    exact le_of_lt (lt_size hO)) hr
  have hv:=Ziw hi
  have hlen:=hp.length_eq
  have I2:=(I1.redrawn d).laid (a:=r) (t':=tk) (o:=.lst ((Dl.sortI (Dl.Yl [] ns)).map V.int)) (h':=h3) (fun b o z=>k3 b o (k2 b o z)) hlt ⟨by rw [length_map,hlen];exact le_trans hal (le_trans (by simpa using le_of_lt hl) (by decide:64≤_)),vs',n,hv,by simpa [seqObj] using hL⟩
  exact ⟨.ref r,_,I2,rfl,q r (I1.hok.fresh hlt)⟩
theorem Xdt (hg:Gl X "sorted")(hm:X.mg "sorted"=none)(hg':Gl X "set")(hm':X.mg "set"=none)(he:QE X e te)(hs2:starEach [e] X.env=(false,eval e X.env)::starEach [] X.env)(hc:X.calm=true:=by rfl) :
  QE X (.Call (.Name "sorted" p) [.Call (.Name "set" p') [e] [] pos'] [] pos) (Zqv X.K te):=⟨Xcd hc hg hm hg' hm' he.out hs2⟩
end
section
variable {K:Frag}{C:String→Addr}{E:XK}{Γ Δ:List Nat}{m1:Nat}{S1:List (Nat×Bool)}
theorem Zun {ta:TE}{fa:FE}(ha:EOk K C E Γ Δ m1 S1 ta fa):EOk K C E Γ Δ 2 [] (Zqv K ta) (Dl.f1 Dl.Zkc fa):=
  fun H0 Hb H σ ρ A Q I p=>ha H0 Hb H σ ρ A _ I (p.bind.imp (fun x q vx H1 g1 r1=>by
    obtain ⟨d,e,q⟩:=Zhx q
    obtain ⟨Bx,r1,_⟩:=r1
    have out:Out K C H1 d Q:=fun v H' B g4 r h1 h2=>q v H' (g1.trans g4) (Res.new r h1 fun a ha=>g1.free (h2 a ha))
    unfold Dl.Zkc at e
    split at e
    · obtain ⟨ns,h1,h2⟩:=Option.bind_eq_some_iff.mp e
      split at h2
      · rename_i hl
        cases h2
        obtain ⟨a,ys,B,rfl,e2,e3,_⟩:=r1
        have z:=RpA.ofInts e3 h1
        subst z
        exact ⟨a,ns,rfl,SqL.of e2,hl,fun r hr=>Out.lst out RpA.ints hr⟩
      · cases h2
    · cases e) fun c x q H' g'=>q H' g')
end
section
variable {X:Cx}{C:String→Addr}{E:XK}{Γ Δ:List Nat}{m:Nat}{S:List (Nat×Bool)}{e:Expr}{te:TE}{fe:FE}{p p2 apos cpos:Pos}
theorem Xdx (K:Frag)(hg:Gl X "sorted")(hm:X.mg "sorted"=none)(hg':Gl X "set")(hm':X.mg "set"=none)(he:JE X C E Γ Δ m S e te fe)(hs2:starEach [e] X.env=(false,eval e X.env)::starEach [] X.env)(hc:X.calm=true:=by rfl)(hK:X.K=K:=by rfl) :
  JE X C E Γ Δ 2 [] (.Call (.Name "sorted" p) [.Call (.Name "set" p2) [e] [] apos] [] cpos) (Zqv K te) (Dl.f1 Dl.Zkc fe):=by
 subst hK
 exact ⟨Xdt hg hm hg' hm' he.q hs2 hc,Zun he.o⟩
end
end L2
namespace Dl
open PySem
noncomputable def Zqu:FS:=
  (Xw (sIf (cOr (cE (f2 gLt (fV 1) (fC (.int 0)))) (cOr (cE (f2 gGt (fV 2) (fA Zbh (Zd (fV 0) Zu)))) (cE (f2 gGt (fV 1) (fV 2))))) Zmq sNx)
    (Zac (fA Zud (Zd (fSl gSl (fV 0) (Zic (fV 1)) (Zic (fV 2))) Zu))))
noncomputable def Zdi (ds:List D):R D:=(run 3 Zqu ds).calm
noncomputable def Xbn:FS:=
 (Zac (f1 Zha (fV 0)))
noncomputable def Zar (ds:List D):R D:=(run 1 Xbn ds).calm
noncomputable def Zaz:FS:=
 (sIf (cE (f2 gEq (f2 gIx (fV 2) (fC (.int 0))) (fV 1))) (Zac (f1 Xr (fV 2))) sNx)
noncomputable def Zmz:FS:=
  (Xw (Zjo (Zah (fV 0)) (Xb 2) Zaz)
    Zmq)
noncomputable def Zae (ds:List D):R D:=(run 3 Zmz ds).calm
noncomputable def Zef:FS:=
 (Yr 2 (f2 Zhe (f2 Jk (f2 Jk (f2 Zco (fV 2) (fC (.int 48271))) (f2 Zhe (fV 3) (fC (.int 1000003)))) (fC (.int 1))) (fC (.int 2147483647))))
noncomputable def Zpw:FS:=
  (Xw (sIf (cE (f2 gLt (fV 1) (fA Zbh (Zd (fV 0) Zu)))) (Zac (f1 Xr (f2 gIx (fV 0) (fV 1)))) sNx)
    (Xw (Yr 2 (fC (.int 5)))
    (Xw (Zjo (Zah (fSl gSl (fV 0) Znq (Zic (fC (.int 63))))) (Xb 3) Zef)
    (Zac (f2 Zhe (f2 Jk (fV 2) (f2 Zco (fC (.int 7919)) (fV 1))) (fC (.int 1000003)))))))
noncomputable def Ju (ds:List D):R D:=(run 4 Zpw ds).calm
noncomputable def Ztx:FS:=
  (Xw (Yr 2 (f2 Zhe (f2 Zjv (f2 Jk (f2 Jk (f2 Zhe (fV 0) (fC (.int 2147483629))) (f2 Zco (fC (.int 1013)) (fV 1))) (fC (.int 7919))) (fC (.int 3))) (fC (.int 2147483647))))
    (Xw (Yr 3 (f2 Zhe (f2 Jk (f2 Jk (f2 Zco (fV 2) (fC (.int 40699))) (f2 Zco (f2 Zco (fC (.int 3793)) (fV 1)) (fV 1))) (fC (.int 11))) (fC (.int 2147483399))))
    (Zac (f2 Xmi (fV 3) (fC (.int 101))))))
noncomputable def Zas (ds:List D):R D:=(run 4 Ztx ds).calm
noncomputable def Zet:FS:=
 (sIf (cE (f2 gEq (f2 gIx (f2 gIx (fV 1) (fV 2)) (fC (.int 0))) (f2 gIx (fV 0) (fC (.int 1))))) (Zac (fA Zca (Zd (f1 Xr (f2 gIx (fV 0) (fC (.int 0)))) (Zd (f1 Xr (fV 2)) Zu)))) sNx)
noncomputable def Zoo:FS:=
  (Xw (Zjo (Zjj (Zd (fA Zbh (Zd (fV 1) Zu)) Zu)) (Xb 2) Zet)
    (Zac (fA Zca (Zd (f1 Xr (f2 gIx (fV 0) (fC (.int 0)))) (Zd (fA Zbh (Zd (fV 1) Zu)) Zu)))))
noncomputable def Jv (ds:List D):R D:=(run 3 Zoo ds).calm
noncomputable def Xrx:FS:=
  (Xw (Yr 3 (f2 Jk (fV 2) (f2 gIx (fV 1) (fC (.int 1)))))
    (Xw (sIf (cOr (cE (f2 gLt (fV 2) (fC (.int 0)))) (cE (f2 gGt (fV 3) (fA Zbh (Zd (fV 0) Zu))))) (Zac (fC (.bl false))) sNx)
    (Zac (f2 gLe (Zx Zdi (Zd (fV 0) (Zd (fV 2) (Zd (fV 3) Zu)))) (f2 gIx (fV 1) (fC (.int 3)))))))
noncomputable def Zgf (ds:List D):R D:=(run 4 Xrx ds).calm
noncomputable def Xab:FS:=
 (Zac (f2 Jk (f2 gIx (fV 1) (fC (.int 0))) (f2 gIx (Zx Zae (Zd (fV 0) (Zd (f2 gIx (fV 1) (fC (.int 1))) Zu))) (fC (.int 1)))))
noncomputable def Jp (ds:List D):R D:=(run 2 Xab ds).calm
noncomputable def Zgr:FS:=
  (sIf (cE (f2 gLt (fV 3) (f2 Zjv (fC (.int 10)) (fC (.int 18))))) (Zjp 5 (f2 Zhe (Zx Zas (Zd (fV 3) (Zd (fV 6) Zu))) (f2 gIx (fV 2) (fV 6)))) (sIf (cE (f2 gGt (fV 4) (fC (.int 0)))) (Xw (Zjp 5 (f2 Zhe (fV 4) (f2 gIx (fV 2) (fV 6))))
    (Yr 4 (f2 Xmi (fV 4) (f2 gIx (fV 2) (fV 6))))) (Xw (Yr 7 (Zx Ju (Zd (fV 0) (Zd (f2 Zhe (f2 Jk (f2 Jk (fV 1) (fC (.int 1))) (fV 6)) (fC (.int 63))) Zu))))
    (Zjp 5 (f2 Zhe (Zx Zas (Zd (fV 7) (Zd (fV 6) Zu))) (f2 gIx (fV 2) (fV 6)))))))
noncomputable def Ztp:FS:=
  (Xw (Yr 3 (Zx Ju (Zd (fV 0) (Zd (fV 1) Zu))))
    (Xw (Yr 4 (f1 Xr (fV 3)))
    (Xw (Yr 5 (fA Jy Zu))
    (Xw (Zjo (Zjj (Zd (fA Zbh (Zd (fV 2) Zu)) Zu)) (Xb 6) Zgr)
    (Zac (fV 5))))))
noncomputable def Yb (ds:List D):R D:=(run 8 Ztp ds).calm
noncomputable def Zdm:FS:=
 (sIf (cE (Zx Zgf (Zd (fV 0) (Zd (fV 4) (Zd (fV 3) Zu))))) (Zjp 2 (fA Zca (Zd (f1 Xr (fV 3)) (Zd (f1 Xr (f2 gIx (fV 4) (fC (.int 0)))) Zu)))) sNx)
noncomputable def Zdn:FS:=
 (Zjo (Zah (fV 1)) (Xb 4) Zdm)
noncomputable def Zmp:FS:=
  (Xw (Yr 2 (fA Jy Zu))
    (Xw (Zjo (Zjj (Zd (fA Zbh (Zd (fV 0) Zu)) Zu)) (Xb 3) Zdn)
    (Zac (fV 2))))
noncomputable def Jm (ds:List D):R D:=(run 5 Zmp ds).calm
noncomputable def Zrn:FS:=
 (Zac (Zcl 3 1 (Zah (fV 1)) (Xb 3) (cE (Zx Zgf (Zd (fV 0) (Zd (fV 3) (Zd (f2 Zgt (fV 2) (f2 gIx (fV 3) (fC (.int 1)))) Zu))))) (f1 Xr (fV 3))))
noncomputable def Yg (ds:List D):R D:=(run 3 Zrn ds).calm
noncomputable def Zib:FS:=
 (Zac (f2 Jk (f2 Jk (f2 gIx (fV 1) (f2 gIx (fV 3) (fC (.int 0)))) (f2 gIx (Zx Zae (Zd (fV 0) (Zd (f2 gIx (fV 3) (fC (.int 1))) Zu))) (fC (.int 2)))) (f2 gIx (fV 2) (Zx Jp (Zd (fV 0) (Zd (fV 3) Zu))))))
noncomputable def Yh (ds:List D):R D:=(run 4 Zib ds).calm
noncomputable def Zbs:FS:=
  (Xw (Yr 9 (f2 Jk (f2 Zco (fC (.int 3)) (fV 8)) (fC (.int 6))))
    (Xw (Yr 10 (f1 Xr (f2 gIx (fA Jy (Zd (fC (.int 1)) (Zd (fC (.int 2)) (Zd (fC (.int 3)) (Zd (fC (.int 4)) (Zd (fC (.int 5)) (Zd (fC (.int 6)) (Zd (fC (.int 2)) (Zd (fC (.int 3)) (Zd (fC (.int 11)) (Zd (fC (.int 40)) (Zd (f2 gIx (fA Jy (Zd (fC (.int 150)) (Zd (fC (.int 200)) Zu))) (f2 Zhe (fV 8) (fC (.int 2)))) Zu)))))))))))) (f2 gIx (fV 4) (fV 9)))))
    (Xw (Yr 11 (f2 Jk (fC (.int 1)) (f2 gIx (fV 4) (f2 Jk (fV 9) (fC (.int 1))))))
    (Xw (sIf (cE (f2 gEq (f2 gIx (fV 4) (fC (.int 3))) (fC (.int 1)))) (Yr 11 (f2 Jk (f2 Zco (fC (.int 3)) (fV 10)) (f2 Zhe (f2 gIx (fV 4) (f2 Jk (fV 9) (fC (.int 1)))) (fC (.int 4))))) sNx)
    (Xw (sIf (cE (f2 gEq (f2 gIx (fV 4) (fC (.int 3))) (fC (.int 2)))) (Yr 11 (f2 Jk (fC (.int 1)) (f2 Zhe (f2 gIx (fV 4) (f2 Jk (fV 9) (fC (.int 1)))) (fC (.int 3))))) sNx)
    (Xw (sIf (cE (f2 gEq (f2 gIx (fV 4) (fC (.int 3))) (fC (.int 3)))) (Yr 11 (f1 Xr (fV 10))) sNx)
    (Xw (Yr 12 (fA Xml (Zd (f2 Zco (f2 gIx (fA Jy (Zd (fC (.int 0)) (Zd (fC (.int 0)) (Zd (fC (.int 1)) (Zd (fC (.int 2)) (Zd (fC (.int 3)) (Zd (fC (.int 12)) Zu))))))) (f2 gIx (fV 4) (f2 Jk (fV 9) (fC (.int 2))))) (fV 5)) (Zd (f2 Zgt (f2 Zjv (fC (.int 10)) (fC (.int 18))) (fC (.int 1))) Zu))))
    (Xw (Yr 13 (f1 Xr (f2 gIx (fV 3) (f2 Zhe (f2 Jk (f2 gIx (fV 4) (fC (.int 4))) (f2 Zco (f2 Jk (f2 Zco (fC (.int 2)) (f2 gIx (fV 4) (fC (.int 5)))) (fC (.int 1))) (fV 8))) (fC (.int 16))))))
    (Zjp 7 (fA Zca (Zd (f1 Xr (fV 13)) (Zd (f1 Xr (fV 10)) (Zd (fA Xml (Zd (f2 Zco (fV 11) (fV 6)) (Zd (f2 Zjv (fC (.int 10)) (fC (.int 18))) Zu))) (Zd (f1 Xr (fV 12)) Zu))))))))))))))
noncomputable def Znz:FS:=
  (Xw (Yr 3 (fA Jy (Zd (fC (.str ("a":Str))) (Zd (fC (.str ("ab":Str))) (Zd (fC (.str ("abc":Str))) (Zd (fC (.str ("b":Str))) (Zd (fC (.str ("ba":Str))) (Zd (fC (.str ("z":Str))) (Zd (fC (.str ("zzzzzzzz":Str))) (Zd (fC (.str ("roll":Str))) (Zd (fC (.str ("cut":Str))) (Zd (fC (.str ("by":Str))) Zu))))))))))))
    (Xw (Yr 3 (f2 Jk (fV 3) (fA Jy (Zd (fC (.str ("aab":Str))) (Zd (fC (.str ("zz":Str))) (Zd (fC (.str ("kind":Str))) (Zd (fC (.str ("qsvw":Str))) (Zd (fC (.str ("fghjmp":Str))) (Zd (fC (.str ("x":Str))) Zu)))))))))
    (Xw (Yr 4 (Zx Yb (Zd (fV 0) (Zd (fV 1) (Zd (f2 Jk (fA Jy (Zd (f2 Jk (fV 2) (fC (.int 1))) (Zd (fC (.int 4)) (Zd (fC (.int 4)) (Zd (fC (.int 4)) (Zd (fC (.int 16)) (Zd (fC (.int 4)) Zu))))))) (f2 Zco (fA Jy (Zd (fC (.int 11)) (Zd (fC (.int 40)) (Zd (fC (.int 6)) Zu)))) (fV 2))) Zu)))))
    (Xw (Yr 5 (f1 Xr (f2 gIx (fA Jy (Zd (fC (.int 1)) (Zd (fC (.int 1)) (Zd (fC (.int 7)) (Zd (f2 Zjv (fC (.int 10)) (fC (.int 17))) Zu))))) (f2 gIx (fV 4) (fC (.int 1))))))
    (Xw (Yr 6 (f1 Xr (f2 gIx (fA Jy (Zd (fC (.int 1)) (Zd (fC (.int 1)) (Zd (f2 Zjv (fC (.int 10)) (fC (.int 6))) (Zd (f2 Zco (fC (.int 25)) (f2 Zjv (fC (.int 10)) (fC (.int 15)))) Zu))))) (f2 gIx (fV 4) (fC (.int 2))))))
    (Xw (Yr 7 (fA Jy Zu))
    (Xw (Zjo (Zjj (Zd (f2 gIx (fV 4) (fC (.int 0))) Zu)) (Xb 8) Zbs)
    (Zac (fV 7)))))))))
noncomputable def Zaf (ds:List D):R D:=(run 14 Znz ds).calm
noncomputable def Zpj:FS:=
 (Zac (f1 Xr (f2 gIx (fA Jy (Zd (fC (.int 1)) (Zd (fC (.int 1)) (Zd (fC (.int 7)) (Zd (f2 Zjv (fC (.int 10)) (fC (.int 17))) Zu))))) (f2 gIx (Zx Yb (Zd (fV 0) (Zd (fV 1) (Zd (fA Jy (Zd (f2 Jk (fV 2) (fC (.int 1))) (Zd (fC (.int 4)) Zu))) Zu)))) (fC (.int 1))))))
noncomputable def Zav (ds:List D):R D:=(run 3 Zpj ds).calm
noncomputable def Zem:FS:=
  (Xw (Yr 8 (f2 Jk (f2 Zco (fC (.int 2)) (fV 7)) (fC (.int 3))))
    (Xw (Yr 9 (fC (.int 0)))
    (Xw (sIf (cE (f2 gLt (f2 gIx (fV 4) (fV 8)) (f2 gIx (fA Jy (Zd (fC (.int 0)) (Zd (fC (.int 1)) (Zd (fC (.int 3)) (Zd (fC (.int 6)) Zu))))) (f2 gIx (fV 4) (fC (.int 1)))))) (Yr 9 (f1 Xr (f2 gIx (fA Jy (Zd (fV 3) (Zd (fV 3) (Zd (f2 Zco (fC (.int 2)) (fV 3)) (Zd (f2 Zco (fC (.int 3)) (fV 3)) (Zd (fV 5) Zu)))))) (f2 gIx (fV 4) (f2 Jk (fV 8) (fC (.int 1))))))) sNx)
    (Zjp 6 (f1 Xr (fV 9))))))
noncomputable def Zoq:FS:=
  (Xw (Yr 4 (Zx Yb (Zd (fV 0) (Zd (fV 1) (Zd (f2 Jk (fA Jy (Zd (f2 Jk (fV 2) (fC (.int 1))) (Zd (fC (.int 4)) (Zd (fC (.int 3)) Zu)))) (f2 Zco (fA Jy (Zd (fC (.int 8)) (Zd (fC (.int 5)) Zu))) (fV 2))) Zu)))))
    (Xw (Yr 5 (f2 Zco (fC (.int 9)) (fV 3)))
    (Xw (sIf (cE (f2 gEq (f2 gIx (fV 4) (fC (.int 2))) (fC (.int 0)))) (Yr 5 (f2 Zjv (fC (.int 10)) (fC (.int 18)))) sNx)
    (Xw (Yr 6 (fA Jy Zu))
    (Xw (Zjo (Zjj (Zd (f2 gIx (fV 4) (fC (.int 0))) Zu)) (Xb 7) Zem)
    (Zac (fV 6)))))))
noncomputable def Zat (ds:List D):R D:=(run 10 Zoq ds).calm
noncomputable def Zte:FS:=
  (Xw (Yr 3 (fA Zbh (Zd (fV 2) Zu)))
    (Xw (Yr 4 (Zcl 5 1 (Zah (Zx Yg (Zd (fV 0) (Zd (fV 1) (Zd (fV 3) Zu))))) (Xb 5) Zoc (f2 Jk (f2 gIx (fV 2) (f2 Zgt (fV 3) (f2 gIx (fV 5) (fC (.int 1))))) (f2 gIx (fV 5) (fC (.int 2))))))
    (Zac (fA Xph (Zd (f2 Jk (fA Jy (Zd (f2 gIx (fV 2) (f1 Zod (fC (.int 1)))) Zu)) (fV 4)) Zu)))))
noncomputable def Zby (ds:List D):R D:=(run 5 Zte ds).calm
noncomputable def Zel:FS:=
 (sIf (cE (f2 gEq (f2 Jk (f2 gIx (fV 2) (f2 Zgt (fV 3) (f2 gIx (fV 4) (fC (.int 1))))) (f2 gIx (fV 4) (fC (.int 2)))) (f2 gIx (fV 2) (fV 3)))) (Zac (f1 Xr (fV 4))) sNx)
noncomputable def Zpz:FS:=
  (Xw (sIf (cE (f2 gEq (f2 gIx (fV 2) (fV 3)) (f2 gIx (fV 2) (f2 Zgt (fV 3) (fC (.int 1)))))) (Zac (fC .non)) sNx)
    (Xw (Zjo (Zah (Zx Yg (Zd (fV 0) (Zd (fV 1) (Zd (fV 3) Zu))))) (Xb 4) Zel)
    (Zac (fC .non))))
noncomputable def Jx (ds:List D):R D:=(run 5 Zpz ds).calm
noncomputable def Jf:FS:=
  (Xw (Yr 6 (f2 Zgt (fV 3) (f2 gIx (fV 5) (fC (.int 1)))))
    (sIf (cE (f2 gEq (f2 Jk (f2 gIx (fV 2) (fV 6)) (f2 gIx (fV 5) (fC (.int 2)))) (f2 gIx (fV 2) (fV 3)))) (Zjp 4 (fA Zca (Zd (f1 Xr (fV 6)) (Zd (fA Jy (Zd (fA Zca (Zd (f1 Xr (fV 6)) (Zd (f1 Xr (f2 gIx (fV 5) (fC (.int 0)))) Zu))) Zu)) Zu)))) sNx))
noncomputable def Znt:FS:=
  (Xw (Yr 4 (fA Jy Zu))
    (Xw (sIf (cE (f2 gEq (f2 gIx (fV 2) (f2 Zgt (fV 3) (fC (.int 1)))) (f2 gIx (fV 2) (fV 3)))) (Zjp 4 (fA Zca (Zd (f2 Zgt (fV 3) (fC (.int 1))) (Zd (fA Jy Zu) Zu)))) sNx)
    (Xw (Zjo (Zah (Zx Yg (Zd (fV 0) (Zd (fV 1) (Zd (fV 3) Zu))))) (Xb 5) Jf)
    (Zac (fV 4)))))
noncomputable def Zad (ds:List D):R D:=(run 7 Znt ds).calm
noncomputable def Zmm:FS:=
  (Xw (Yr 4 (Zx Zav (Zd (fV 0) (Zd (fV 1) (Zd (fV 3) Zu)))))
    (Zac (fA Zca (Zd (Zx Zat (Zd (fV 0) (Zd (f2 Jk (fV 1) (fC (.int 1))) (Zd (fV 2) (Zd (fV 4) Zu))))) (Zd (Zx Zaf (Zd (fV 0) (Zd (fV 1) (Zd (fV 3) Zu)))) Zu)))))
noncomputable def Jn (ds:List D):R D:=(run 5 Zmm ds).calm
noncomputable def Jw:FS:=
  (Xw (Yr 4 (Zcl 5 1 (Zah (Zx Yg (Zd (fV 0) (Zd (fV 1) (Zd (fV 3) Zu))))) (Xb 5) Zoc (f1 Xr (f2 gIx (fV 2) (f2 Zgt (fV 3) (f2 gIx (fV 5) (fC (.int 1))))))))
    (Zjp 2 (f2 Jk (f2 gIx (fV 2) (f1 Zod (fC (.int 1)))) (fA Zud (Zd (fV 4) Zu)))))
noncomputable def Zcs:FS:=
  (Xw (Yr 2 (fA Jy (Zd (fC (.int 1)) Zu)))
    (Xw (Zjo (Zmi (Zd (fC (.int 1)) (Zd (f2 Jk (fA Zbh (Zd (fV 0) Zu)) (fC (.int 1))) Zu))) (Xb 3) Jw)
    (Zac (f1 Xr (f2 gIx (fV 2) (f1 Zod (fC (.int 1))))))))
noncomputable def Xi (ds:List D):R D:=(run 5 Zcs ds).calm
noncomputable def Zhh:FS:=
 (Zjp 2 (Zx Zby (Zd (fV 0) (Zd (fV 1) (Zd (fV 2) Zu)))))
noncomputable def Zng:FS:=
  (Xw (Yr 2 (fA Jy (Zd (fC (.int 0)) Zu)))
    (Xw (Znm 100000 (cE (f2 gLe (fA Zbh (Zd (fV 2) Zu)) (fA Zbh (Zd (fV 0) Zu)))) Zhh)
    (Zac (fV 2))))
noncomputable def Yp (ds:List D):R D:=(run 3 Zng ds).calm
noncomputable def Zcj:FS:=
  (Xw (Yr 5 (Zx Jx (Zd (fV 0) (Zd (fV 1) (Zd (fV 2) (Zd (fV 3) Zu))))))
    (sIf (cE (f2 gIs (fV 5) (fC .non))) (Xgd 3 Zgt (fC (.int 1))) (Xw (Xgd 3 Zgt (f2 gIx (fV 5) (fC (.int 1))))
    (Zjp 4 (fA Zca (Zd (f1 Xr (fV 3)) (Zd (f1 Xr (f2 gIx (fV 5) (fC (.int 0)))) Zu)))))))
noncomputable def Zji:FS:=
  (Xw (Yr 4 (fA Jy Zu))
    (Xw (Znm 100000 (cE (f2 gGt (fV 3) (fC (.int 0)))) Zcj)
    (Zac (f1 Zha (fV 4)))))
noncomputable def Je (ds:List D):R D:=(run 6 Zji ds).calm
noncomputable def Xhz:FS:=
 (Zac (f1 Zha (Zx Yp (Zd (Zx Zar (Zd (fV 0) Zu)) (Zd (fV 1) Zu)))))
noncomputable def Zix (ds:List D):R D:=(run 2 Xhz ds).calm
noncomputable def Xgn:FS:=
  (Xw (Yr 2 (Zx Yp (Zd (fV 0) (Zd (fV 1) Zu))))
    (Zac (fA Zca (Zd (f1 Xr (f2 gIx (fV 2) (f1 Zod (fC (.int 1))))) (Zd (Zx Je (Zd (fV 0) (Zd (fV 1) (Zd (fV 2) (Zd (fA Zbh (Zd (fV 0) Zu)) Zu))))) Zu)))))
noncomputable def Zgo (ds:List D):R D:=(run 3 Xgn ds).calm
noncomputable def Zbg:FS:=
  (Xw (Yr 5 (Zx Zad (Zd (fV 0) (Zd (fV 1) (Zd (fV 2) (Zd (fV 4) Zu))))))
    (Zjp 3 (fA Zud (Zd (Zcl 6 1 (Zah (fV 5)) (Xb 6) Zoc (f1 Xr (f2 gIx (fV 3) (f2 gIx (fV 6) (fC (.int 0)))))) Zu))))
noncomputable def Zlh:FS:=
  (Xw (Yr 2 (Zx Yp (Zd (fV 0) (Zd (fV 1) Zu))))
    (Xw (Yr 3 (fA Jy (Zd (fC (.int 1)) Zu)))
    (Xw (Zjo (Zmi (Zd (fC (.int 1)) (Zd (f2 Jk (fA Zbh (Zd (fV 0) Zu)) (fC (.int 1))) Zu))) (Xb 4) Zbg)
    (Zac (fV 3)))))
noncomputable def Yf (ds:List D):R D:=(run 6 Zlh ds).calm
noncomputable def Znv:FS:=
 (Zac (f1 Xr (f2 gIx (Zx Yf (Zd (fV 0) (Zd (fV 1) Zu))) (f1 Zod (fC (.int 1))))))
noncomputable def Xz (ds:List D):R D:=(run 2 Znv ds).calm
noncomputable def Xpd:FS:=
  (Xw (Yr 2 (Zx Yp (Zd (fV 0) (Zd (fV 1) Zu))))
    (Xw (Yr 3 (Zx Zix (Zd (fV 0) (Zd (fV 1) Zu))))
    (Zac (Zcl 4 1 (Zah (Zx Jm (Zd (fV 0) (Zd (fV 1) Zu)))) (Xb 4) (cE (f2 gEq (Zx Yh (Zd (fV 1) (Zd (fV 2) (Zd (fV 3) (Zd (fV 4) Zu))))) (f2 gIx (fV 2) (f1 Zod (fC (.int 1)))))) (f1 Xr (fV 4))))))
noncomputable def Zfa (ds:List D):R D:=(run 4 Xpd ds).calm
noncomputable def Xkh:FS:=
  (Xw (Yr 2 (Zx Yf (Zd (fV 0) (Zd (fV 1) Zu))))
    (Xw (Yr 3 (f1 Zha (Zx Yf (Zd (Zx Zar (Zd (fV 0) Zu)) (Zd (fV 1) Zu)))))
    (Zac (Zcl 4 1 (Zah (Zx Zfa (Zd (fV 0) (Zd (fV 1) Zu)))) (Xb 4) (cE (f2 gEq (f2 Zjl (f2 gIx (fV 2) (f2 gIx (fV 4) (fC (.int 0)))) (f2 gIx (fV 3) (Zx Jp (Zd (fV 1) (Zd (fV 4) Zu))))) (f2 gIx (fV 2) (f1 Zod (fC (.int 1)))))) (f1 Xr (fV 4))))))
noncomputable def Zfs (ds:List D):R D:=(run 4 Xkh ds).calm
@[simp] theorem ev_fC (d:D)(ρ:Env):fC d ρ=.ok d:=(rfl)
@[simp] theorem ev_f1 (g:D→Option D)(a:FE)(ρ:Env):f1 g a ρ=(a ρ).bind fun x=>oR (g x):=(rfl)
@[simp] theorem ev_f2 (g:D→D→Option D)(a b:FE)(ρ:Env):f2 g a b ρ=(a ρ).bind fun x=>(b ρ).bind fun y=>oR (g x y):=(rfl)
@[simp] theorem ev_aNil (ρ:Env):Zu ρ=.ok []:=(rfl)
@[simp] theorem Xdn (a:FE)(r:FA)(ρ:Env):Zd a r ρ=(a ρ).bind fun x=>(r ρ).bind fun xs=>.ok (x::xs):=(rfl)
@[simp] theorem ev_fA (g:List D→Option D)(a:FA)(ρ:Env):fA g a ρ=(a ρ).bind fun xs=>oR (g xs):=(rfl)
@[simp] theorem Xeg (F:List D→R D)(a:FA)(ρ:Env):Zx F a ρ=(a ρ).bind F:=(rfl)
@[simp] theorem ev_fV0 (d:D)(ρ:Env):fV 0 (some d::ρ)=.ok d:=(rfl)
@[simp] theorem ev_fVs (i:Nat)(o:Option D)(ρ:Env):fV (i+1) (o::ρ)=fV i ρ:=by simp [fV]
@[simp] theorem ev_cE (a:FE)(ρ:Env):cE a ρ=(a ρ).bind fun d=>match d with | .bl b=>.ok b | _=>.bad:=(rfl)
@[simp] theorem Xja (a:FT)(ρ:Env):Xmr a ρ=(a ρ).bind fun b=>.ok (!b):=(rfl)
@[simp] theorem Zwe (a b:FT)(ρ:Env):Xix a b ρ=(a ρ).bind fun x=>if x then b ρ else .ok false:=(rfl)
@[simp] theorem Xgs (a b:FT)(ρ:Env):cOr a b ρ=(a ρ).bind fun x=>if x then .ok true else b ρ:=(rfl)
@[simp] theorem ev_cYes (ρ:Env):Zoc ρ=.ok true:=(rfl)
@[simp] theorem ev_fAnd (a b:FE)(ρ:Env):fAnd a b ρ=(a ρ).bind fun x=>match x with | .bl true=>b ρ | .bl false=>.ok (.bl false) | _=>.bad:=(rfl)
@[simp] theorem ev_fOr (a b:FE)(ρ:Env):fOr a b ρ=(a ρ).bind fun x=>match x with | .bl true=>.ok (.bl true) | .bl false=>b ρ | _=>.bad:=(rfl)
@[simp] theorem ev_fIf (c:FT)(a b:FE)(ρ:Env):fIf c a b ρ=(c ρ).bind fun x=>if x then a ρ else b ρ:=(rfl)
@[simp] theorem Xoy (g g':D→D→Option D)(a b c:FE)(ρ:Env):Xnd g g' a b c ρ=(a ρ).bind fun x=>(b ρ).bind fun y=>(oR (g x y)).bind fun z=>match z with | .bl true=>(c ρ).bind fun w=>oR (g' y w) | .bl false=>.ok (.bl false) | _=>.bad:=(rfl)
@[simp] theorem Xql (g:D→Option Int→Option Int→Option D)(a:FE)(l h:FO)(ρ:Env):fSl g a l h ρ=(a ρ).bind fun x=>(l ρ).bind fun lo=>(h ρ).bind fun hi=>oR (g x lo hi):=(rfl)
@[simp] theorem ev_oNone (ρ:Env):Znq ρ=.ok none:=(rfl)
@[simp] theorem Xby (a:FE)(ρ:Env):Zic a ρ=(a ρ).bind fun d=>match d with | .int i=>.ok (some i) | _=>.bad:=(rfl)
@[simp] theorem Xfe (a:FE)(ρ:Env):Zah a ρ=(a ρ).bind fun d=>match d with | .lst xs=>if xs.length≤lim then .ok xs else .bad | .scr ns=>if ns.length≤lim then .ok (ns.map D.int) else .bad | _=>.bad:=(rfl)
@[simp] theorem ev_jTup (a:FE)(ρ:Env):jTup a ρ=(a ρ).bind fun d=>match d with | .tup xs=>if xs.length≤lim then .ok xs else .bad | _=>.bad:=(rfl)
@[simp] theorem Xan (a:FA)(ρ:Env):Zjj a ρ=(a ρ).bind fun ds=>match ds with | [.int j]=>if -1000000000≤j∧j≤1000000 then .ok (Zdt 0 j.toNat) else .bad | _=>.bad:=(rfl)
noncomputable def Zra (ds:List D):R (List D):=match ds with
 | [.int i,.int j]=>if -1000000000≤i∧i≤1000000000∧-1000000000≤j∧j≤1000000000∧(j - i).toNat≤lim then .ok (Zdt i (j - i).toNat) else .bad
 | _=>.bad
@[simp] theorem Xex (a:FA)(ρ:Env):Zmi a ρ=(a ρ).bind Zra:=(rfl)
theorem Ziu {i j:Int}{n:Nat}(hn:n=(j - i).toNat)(h1:-1000000≤i)(h2:i≤1000000)(h3:-1000000≤j)(h4:j≤1000000)(h5:n≤1000000):Zra [.int i,.int j]=.ok (Zdt i n):=by
 subst hn
 unfold Zra
 simp only []
 rw [if_pos ⟨by omega,by omega,by omega,by omega,h5⟩]
@[simp] theorem Xag (n k:Nat)(it:FI)(b:FB)(c:FT)(e:FE)(ρ:Env):Zcl n k it b c e ρ=if ρ.length=n then (it ρ).bind fun xs=>(Zck k b c e ρ xs).calm.bind fun ys=>.ok (.lst ys) else .bad:=(rfl)
@[simp] theorem ev_sNx (ρ:Env):sNx ρ=.ok (.nx ρ):=(rfl)
@[simp] theorem Xok (ρ:Env):Zmq ρ=.bad:=(rfl)
@[simp] theorem Zug (a b:FS)(ρ:Env):Xw a b ρ=(a ρ).bind fun fl=>match fl with | .nx ρ'=>b ρ' | fl=>.ok fl:=(rfl)
@[simp] theorem Xkt (i:Nat)(e:FE)(ρ:Env):Yr i e ρ=(e ρ).bind fun d=>.ok (.nx (ρ.set i (some d))):=(rfl)
@[simp] theorem Xke (e:FE)(ρ:Env):Zac e ρ=(e ρ).bind fun d=>.ok (.ret d):=(rfl)
@[simp] theorem Xfw (c:FT)(a b:FS)(ρ:Env):sIf c a b ρ=(c ρ).bind fun x=>if x then a ρ else b ρ:=(rfl)
@[simp] theorem Xjt (i:Nat)(e:FE)(ρ:Env):Zjp i e ρ=(fV i ρ).bind fun v=>match v with | .lst xs=>(e ρ).bind fun d=>if xs.length<lim then .ok (.nx (ρ.set i (some (.lst (xs++[d]))))) else .bad | _=>.bad:=by
 unfold Zjp fV
 split
 ·rename_i xs e;simp [e]
 ·rename_i h
  split
  ·rename_i d e
   cases d<;>simp
   rename_i xs
   exact absurd e (h xs)
  ·rfl
@[simp] theorem Xpz (c:String)(f:FA)(ρ:Env):Xpj c f ρ=(f ρ).bind fun _=>.err c none:=(rfl)
@[simp] theorem ev_sAug (i:Nat)(g:D→D→Option D)(e:FE)(ρ:Env):Xgd i g e ρ=(fV i ρ).bind fun x=>(e ρ).bind fun y=>(oR (g x y)).bind fun z=>.ok (.nx (ρ.set i (some z))):=by
 unfold Xgd fV
 split
 ·rename_i x e;simp
 ·rfl
@[simp] theorem Xlz (it:FI)(b:FB)(s:FS)(ρ:Env):Zjo it b s ρ=(it ρ).bind fun xs=>Zcm b s xs ρ:=(rfl)
@[simp] theorem Xsc (n:Nat)(c:FT)(s:FS)(ρ:Env):Znm n c s ρ=Zbz c s n ρ:=(rfl)
@[simp] theorem ev_sAsg (e:FE)(b:FB)(ρ:Env):Xay e b ρ=(e ρ).bind fun d=>(b d ρ).calm.bind fun ρ'=>.ok (.nx ρ'):=(rfl)
@[simp] theorem ev_bName (i:Nat)(d:D)(ρ:Env):Xb i d ρ=.ok (ρ.set i (some d)):=(rfl)
@[simp] theorem ev_bNil (ρ:Env):Zlo [] ρ=.ok ρ:=(rfl)
@[simp] theorem ev_bCons (b:FB)(r:List D→Env→R Env)(d:D)(ds:List D)(ρ:Env):Jt b r (d::ds) ρ=(b d ρ).bind fun ρ'=>r ds ρ':=(rfl)
@[simp] theorem ev_bTup (r:List D→Env→R Env)(ds:List D)(ρ:Env):Zls r (.tup ds) ρ=r ds ρ:=(rfl)
@[simp] theorem ev_run (N:Nat)(b:FS)(ds:List D):run N b ds=(b (ds.map some++List.replicate (N - ds.length) none)).bind fun fl=>match fl with | .nx _=>.ok .non | .ret d=>.ok d | _=>.bad:=(rfl)
@[simp] theorem forD_nil (b:FB)(s:FS)(ρ:Env):Zcm b s [] ρ=.ok (.nx ρ):=(rfl)
theorem Zfi (b:FB)(s:FS)(x:D)(xs:List D)(ρ:Env):Zcm b s (x::xs) ρ=(b x ρ).calm.bind fun ρ1=>(s ρ1).bind fun fl=>match fl with | .nx ρ2=>Zcm b s xs ρ2 | .cnt ρ2=>Zcm b s xs ρ2 | .brk ρ2=>.ok (.nx ρ2) | .ret d=>.ok (.ret d):=rfl
@[simp] theorem add_ii (i j:Int):Jk (.int i) (.int j)=some (.int (i+j)):=rfl
@[simp] theorem addI_ii (i j:Int):gAddI (.int i) (.int j)=some (.int (i+j)):=rfl
@[simp] theorem sub_ii (i j:Int):Zgt (.int i) (.int j)=some (.int (i - j)):=rfl
@[simp] theorem lt_ii (i j:Int):gLt (.int i) (.int j)=some (.bl (decide (i<j))):=rfl
@[simp] theorem le_ii (i j:Int):gLe (.int i) (.int j)=some (.bl (decide (i≤j))):=rfl
@[simp] theorem gt_ii (i j:Int):gGt (.int i) (.int j)=some (.bl (decide (j<i))):=rfl
@[simp] theorem ge_ii (i j:Int):gGe (.int i) (.int j)=some (.bl (decide (j≤i))):=rfl
@[simp] theorem neg_i (i:Int):Zod (.int i)=some (.int (-i)):=rfl
@[simp] theorem not_b (b:Bool):gNot (.bl b)=some (.bl (!b)):=rfl
@[simp] theorem Zht (i j:Int):gEq (.int i) (.int j)=some (.bl (decide (i=j))):=show some (D.bl (i==j))=_ from congrArg (fun b=>some (D.bl b)) (by by_cases h:i=j<;>simp [h])
@[simp] theorem eq_bb (i j:Bool):gEq (.bl i) (.bl j)=some (.bl (i==j)):=rfl
@[simp] theorem ne_bb (i j:Bool):gNe (.bl i) (.bl j)=some (.bl (!(i==j))):=rfl
@[simp] theorem eq_ss (i j:Str):gEq (.str i) (.str j)=some (.bl (decide (i=j))):=show some (D.bl (i==j))=_ from congrArg (fun b=>some (D.bl b)) (by by_cases h:i=j<;>simp [h])
@[simp] theorem is_n (x:D):gIs x .non=some (.bl (Zjn x)):=rfl
@[simp] theorem isNot_n (x:D):Zke x .non=some (.bl (!Zjn x)):=rfl
@[simp] theorem is_b (b c:Bool):gIs (.bl b) (.bl c)=some (.bl (b==c)):=rfl
@[simp] theorem isNot_b (b c:Bool):Zke (.bl b) (.bl c)=some (.bl (!(b==c))):=rfl
@[simp] theorem Xnv:Zjn .non=true:=rfl
@[simp] theorem isNon_i (i:Int):Zjn (.int i)=false:=rfl
@[simp] theorem isNon_b (i:Bool):Zjn (.bl i)=false:=rfl
@[simp] theorem isNon_l (i:List D):Zjn (.lst i)=false:=rfl
@[simp] theorem isNon_t (i:List D):Zjn (.tup i)=false:=rfl
theorem Xfo {i j:Int}(h:(-(2 ^ 64)<i∧i<2 ^ 64)∨(-(2 ^ 64)<j∧j<2 ^ 64)):Zco (.int i) (.int j)=some (.int (i*j)):=by
 have:(short i||short j)=true:=by simp [short];exact h
 simp [Zco,this]
theorem Zcg {i j:Int}(h:0<j):Zhe (.int i) (.int j)=some (.int (i % j)):=by simp [Zhe,h]
theorem div_ii {i j:Int}(h:0<j)(h2:j<2 ^ 200):Xmi (.int i) (.int j)=some (.int (i / j)):=by simp only [Xmi];rw [if_pos ⟨h,h2⟩]
theorem Zmt {i j:Int}(h:0≤j)(h2:j≤1000000)(h3:i.natAbs<2 ^ 64):Zjv (.int i) (.int j)=some (.int (i ^ j.toNat)):=by simp only [Zjv];rw [if_pos ⟨h,h2,h3⟩]
@[simp] theorem pow10_6:Zjv (.int 10) (.int 6)=some (.int 1000000):=by
 rw [Zmt (by omega) (by omega) (by decide)]
 rfl
@[simp] theorem Xfa:Zjv (.int 10) (.int 15)=some (.int 1000000000000000):=by
 rw [Zmt (by omega) (by omega) (by decide)]
 rfl
@[simp] theorem Zso:Zjv (.int 10) (.int 17)=some (.int 100000000000000000):=by
 rw [Zmt (by omega) (by omega) (by decide)]
 rfl
@[simp] theorem Zhc:Zjv (.int 10) (.int 18)=some (.int 1000000000000000000):=by
 rw [Zmt (by omega) (by omega) (by decide)]
 rfl
@[simp] theorem flat_i (i:Int):flat (.int i)=true:=rfl
@[simp] theorem flat_b (i:Bool):flat (.bl i)=true:=rfl
@[simp] theorem flat_s (i:Str):flat (.str i)=true:=rfl
@[simp] theorem flat_n:flat .non=true:=rfl
@[simp] theorem flat_t (xs:List D):flat (.tup xs)=Yw xs:=rfl
@[simp] theorem flatA_n:Yw []=true:=rfl
@[simp] theorem flatA_c (x:D)(xs:List D):Yw (x::xs)=(flat x&&Yw xs):=rfl
theorem Zil {α:Type}{f:α→D}(h:∀a,flat (f a)=true):∀xs:List α,Yw (xs.map f)=true
 | []=>rfl
 | x::xs=>by simp [h x,Zil h xs]
@[simp] theorem Zfp (ns:List Int):Yw (ns.map D.int)=true:=Zil (fun _=>rfl) ns
@[simp] theorem gFlat_i (i:Int):Xr (.int i)=some (.int i):=rfl
@[simp] theorem gFlat_b (i:Bool):Xr (.bl i)=some (.bl i):=rfl
@[simp] theorem gFlat_s (i:Str):Xr (.str i)=some (.str i):=rfl
@[simp] theorem gFlat_n:Xr .non=some .non:=rfl
@[simp] theorem ints_map (ns:List Int):intsOf (ns.map D.int)=some ns:=by
 induction ns with
 | nil=>rfl
 | cons n ns ih=>simp [intsOf,ih]
@[simp] theorem len_l (xs:List D):Zbh [.lst xs]=some (.int xs.length):=(rfl)
@[simp] theorem len_t (xs:List D):Zbh [.tup xs]=some (.int xs.length):=(rfl)
@[simp] theorem len_scr (xs:List Int):Zbh [.scr xs]=some (.int xs.length):=(rfl)
@[simp] theorem sum_ints (ns:List Int):Zud [.lst (ns.map D.int)]=some (.int ns.sum):=by simp [Zud]
@[simp] theorem Xgo (i j:Int):Xml [.int i,.int j]=some (.int (min i j)):=by
 simp only [Xml]
 congr 2
 by_cases h:j<i
 ·rw [if_pos h];omega
 ·rw [if_neg h];omega
theorem Xbh {ns:List Int}(h:ns≠[]):Xph [.lst (ns.map D.int)]=some (.int (Xbr ns)):=by simp [Xph,h]
@[simp] theorem isI_i (c:String)(i:Int):Xmj c (.int i)=some (.bl (c=="int")):=rfl
@[simp] theorem isI_b (c:String)(i:Bool):Xmj c (.bl i)=some (.bl (c=="bool"||c=="int")):=rfl
@[simp] theorem isI_l (c:String)(i:List D):Xmj c (.lst i)=some (.bl (c=="list")):=rfl
@[simp] theorem isI_t (c:String)(i:List D):Xmj c (.tup i)=some (.bl (c=="tuple")):=rfl
@[simp] theorem isI_s (c:String)(i:Str):Xmj c (.str i)=some (.bl (c=="str")):=rfl
@[simp] theorem isI_n (c:String):Xmj c .non=some (.bl false):=rfl
theorem Zos {α:Type}{xs:List α}{i:Int}{k:Nat}{x:α}(e:i=(k:Int))(h:xs[k]?=some x):atD xs i=some x:=by
 subst e
 have hk:=(List.getElem?_eq_some_iff.mp h).1
 unfold atD ixD
 rw [if_pos (by omega),if_pos (by omega)]
 simpa using h
theorem Xbz {α:Type}(xs:List α)(x:α):atD (xs++[x]) (-1)=some x:=by
 unfold atD ixD
 rw [if_neg (by omega),if_pos (by simp;omega)]
 simp only [Option.bind_some]
 have:(-1+(((xs++[x]).length:Nat):Int)).toNat=xs.length:=by simp;omega
 rw [this]
 simp
theorem Xol {xs:List D}{i:Int}{k:Nat}{x:D}(e:i=(k:Int))(h:xs[k]?=some x):gIx (.lst xs) (.int i)=some x:=Zos e h
theorem Xfv {xs:List D}{i:Int}{k:Nat}{x:D}(e:i=(k:Int))(h:xs[k]?=some x):gIx (.tup xs) (.int i)=some x:=Zos e h
@[simp] theorem ixL_l (xs:List D)(y:D):gIxL (.lst xs) y=gIx (.lst xs) y:=(rfl)
@[simp] theorem listV_l (xs:List D):Xqc [.lst xs]=some (.lst xs):=(rfl)
@[simp] theorem Xls (xs:List D)(x:D):gIx (.lst (xs++[x])) (.int (-1))=some x:=Xbz xs x
theorem Zak {ns:List Int}{i:Int}{k:Nat}(e:i=(k:Int))(h:k<ns.length):gIx (.lst (ns.map D.int)) (.int i)=some (.int (ns.getD k 0)):=Xol e (by simp [h,List.getD])
theorem Zkt {ns:List Int}(h:ns≠[]):gIx (.lst (ns.map D.int)) (.int (-1))=some (.int (ns.getD (ns.length - 1) 0)):=by
 have e:=List.dropLast_concat_getLast h
 have e2:ns.getD (ns.length - 1) 0=ns.getLast h:=by
  have hl:ns.length - 1<ns.length:=by have:=List.length_pos_iff.mpr h;omega
  rw [List.getLast_eq_getElem]
  simp [List.getD,hl]
 rw [e2]
 conv=>lhs;rw [← e,map_append,List.map_singleton]
 exact Xls _ _
theorem Xjh {α β:Type}(f:α→β)(xs:List α)(lo hi:Option Int):cut (xs.map f) lo hi=(cut xs lo hi).map f:=by
 unfold cut
 rw [length_map,map_take,map_drop]
theorem Xmz {α:Type}{xs:List α}{a b:Int}(h0:0≤a)(h1:a≤b)(h2:b≤xs.length):cut xs (some a) (some b)=(xs.drop a.toNat).take (b.toNat - a.toNat):=by
 unfold cut Zzs
 simp only []
 rw [if_neg (by omega),if_neg (by omega),min_eq_left (by omega),min_eq_left (by omega)]
theorem Xgf {α:Type}{xs:List α}{b:Int}(h0:0≤b):cut xs none (some b)=xs.take b.toNat:=by
 unfold cut Zzs
 simp only []
 rw [if_neg (by omega),List.drop_zero,sub_zero]
 by_cases h:b.toNat≤xs.length
 ·rw [min_eq_left h]
 ·rw [Nat.min_eq_right (by omega),take_of_length_le (le_refl _),take_of_length_le (by omega)]
theorem Xbf {α:Type}{xs:List α}{a:Int}(h0:0≤a):cut xs (some a) none=xs.drop a.toNat:=by
 unfold cut Zzs
 simp only []
 rw [if_neg (by omega)]
 by_cases h:a.toNat≤xs.length
 ·rw [min_eq_left h,take_of_length_le (by simp)]
 ·rw [Nat.min_eq_right (by omega),List.drop_of_length_le (le_refl _),List.drop_of_length_le (by omega)]
  simp
@[simp] theorem Zof (ns:List Int)(lo hi:Option Int):gSl (.lst (ns.map D.int)) lo hi=some (.lst ((cut ns lo hi).map D.int)):=by
 simp [gSl,Xjh]
@[simp] theorem sl_scr (ns:List Int)(lo hi:Option Int):gSl (.scr ns) lo hi=some (.lst ((cut ns lo hi).map D.int)):=(rfl)
@[simp] theorem gLst_0:Jy []=some (.lst []):=rfl
@[simp] theorem gLst_1 (a:D):Jy [a]=some (.lst [a]):=rfl
@[simp] theorem gLst_2 (a b:D):Jy [a,b]=some (.lst [a,b]):=rfl
@[simp] theorem gLst_3 (a b c:D):Jy [a,b,c]=some (.lst [a,b,c]):=rfl
@[simp] theorem gLst_4 (a0 a1 a2 a3:D):Jy [a0,a1,a2,a3]=some (.lst [a0,a1,a2,a3]):=rfl
@[simp] theorem gLst_5 (a0 a1 a2 a3 a4:D):Jy [a0,a1,a2,a3,a4]=some (.lst [a0,a1,a2,a3,a4]):=rfl
@[simp] theorem gLst_6 (a0 a1 a2 a3 a4 a5:D):Jy [a0,a1,a2,a3,a4,a5]=some (.lst [a0,a1,a2,a3,a4,a5]):=rfl
@[simp] theorem gLst_10 (a0 a1 a2 a3 a4 a5 a6 a7 a8 a9:D):Jy [a0,a1,a2,a3,a4,a5,a6,a7,a8,a9]=some (.lst [a0,a1,a2,a3,a4,a5,a6,a7,a8,a9]):=rfl
@[simp] theorem gLst_11 (a0 a1 a2 a3 a4 a5 a6 a7 a8 a9 a10:D):Jy [a0,a1,a2,a3,a4,a5,a6,a7,a8,a9,a10]=some (.lst [a0,a1,a2,a3,a4,a5,a6,a7,a8,a9,a10]):=rfl
@[simp] theorem gTup_2 (a b:D):Zca [a,b]=some (.tup [a,b]):=rfl
@[simp] theorem gTup_3 (a b c:D):Zca [a,b,c]=some (.tup [a,b,c]):=rfl
@[simp] theorem gTup_4 (a b c d:D):Zca [a,b,c,d]=some (.tup [a,b,c,d]):=rfl
@[simp] theorem Zgg {α β:Type}(a:α)(f:α→R β):((R.ok a).calm).bind f=f a:=(rfl)
theorem Zcb {b:FB}{s:FS}{xs:List D}{P:Nat→Env→Prop}{Rr:R Fl→Prop}{ρ:Env}(h0:P 0 ρ)
  (hs:∀i x ρ,xs[i]?=some x→P i ρ→∃ρ1,b x ρ=.ok ρ1∧((∃ρ2,(s ρ1=.ok (.nx ρ2)∨s ρ1=.ok (.cnt ρ2))∧P (i+1) ρ2)∨(∃d,s ρ1=.ok (.ret d)∧Rr (.ok (.ret d)))∨∃ρ2,s ρ1=.ok (.brk ρ2)∧Rr (.ok (.nx ρ2))))
  (hd:∀ρ,P xs.length ρ→Rr (.ok (.nx ρ))):Rr (Zcm b s xs ρ):=by
 have key:∀n i ρ,n+i=xs.length→P i ρ→Rr (Zcm b s (xs.drop i) ρ):=by
  intro n
  induction n with
  | zero =>
   intro i ρ hn p
   rw [List.drop_of_length_le (by omega)]
   have e:i=xs.length:=by omega
   subst e
   exact hd ρ p
  | succ n ih =>
   intro i ρ hn p
   have hi:i<xs.length:=by omega
   rw [drop_eq_getElem_cons hi,Zfi]
   obtain ⟨ρ1,e1,h⟩:=hs i xs[i] ρ (getElem?_eq_getElem hi) p
   rw [e1,Zgg]
   rcases h with ⟨ρ2,e2 | e2,p2⟩ | ⟨d,e2,p2⟩ | ⟨ρ2,e2,p2⟩
   ·rw [e2];exact ih (i+1) ρ2 (by omega) p2
   ·rw [e2];exact ih (i+1) ρ2 (by omega) p2
   ·rw [e2];exact p2
   ·rw [e2];exact p2
 have:=key xs.length 0 ρ (by omega) h0
 simpa using this
theorem Xej {lo:Int}{n i:Nat}(h:i<n):(Zdt lo n)[i]?=some (.int (lo+i)):=by simp [Zdt,h]
theorem Zfx {lo:Int}{n i:Nat}{x:D}(h:(Zdt lo n)[i]?=some x):i<n∧x=.int (lo+i):=by
 have hi:=(List.getElem?_eq_some_iff.mp h).1
 have hn:i<n:=by simpa [Zdt] using hi
 rw [Xej hn] at h
 exact ⟨hn,(Option.some.inj h).symm⟩
@[simp] theorem Jj (lo:Int)(n:Nat):(Zdt lo n).length=n:=by simp [Zdt]
theorem Zul {k:Nat}{b:FB}{c:FT}{e:FE}{ρ:Env}{α:Type}{enc:α→D}{ρ1:α→Env}{p:α→Bool}{v:α→D}{xs:List α}(h:∀x∈xs,b (enc x) (ρ++List.replicate k none)=.ok (ρ1 x)∧c (ρ1 x)=.ok (p x)∧(p x=true→e (ρ1 x)=.ok (v x))):Zck k b c e ρ (xs.map enc)=.ok ((xs.filter p).map v):=by
 induction xs with
 | nil=>rfl
 | cons x xs ih =>
  obtain ⟨h0,h1,h2⟩:=h x (.head _)
  have ih:=ih fun y hy=>h y (.tail _ hy)
  rw [map_cons]
  unfold Zck
  rw [h0,Zgg,h1]
  cases hp:p x with
  | false=>simp [ih,hp]
  | true=>simp [ih,hp,h2 hp]
theorem Xat {n:Nat}{c:FT}{e:FE}{ρ:Env}{α:Type}{enc:α→D}{p:α→Bool}{v:α→D}{xs:List α}(hn:ρ.length=n)(h:∀x∈xs,c (ρ++[some (enc x)])=.ok (p x)∧(p x=true→e (ρ++[some (enc x)])=.ok (v x))):Zck 1 (Xb n) c e ρ (xs.map enc)=.ok ((xs.filter p).map v):=
  Zul (ρ1:=fun x=>ρ++[some (enc x)]) fun x hx=>⟨by
    show R.ok ((ρ++[none]).set n (some (enc x)))=_
    rw [← hn,set_append_right _ _ (le_refl _),sub_self]
    rfl,h x hx⟩
theorem Zlr {n:Nat}{e:FE}{ρ:Env}{α:Type}{enc:α→D}{v:α→D}{xs:List α}(hn:ρ.length=n)(h:∀x∈xs,e (ρ++[some (enc x)])=.ok (v x)):Zck 1 (Xb n) Zoc e ρ (xs.map enc)=.ok (xs.map v):=by
 have:=Xat (p:=fun _=>true) (c:=Zoc) hn (xs:=xs) (enc:=enc) (e:=e) (v:=v) fun x hx=>⟨rfl,fun _=>h x hx⟩
 rw [this,List.filter_eq_self.mpr fun _ _=>rfl]
theorem comp2 {n:Nat}{c:FT}{e:FE}{ρ:Env}{α:Type}{f g:α→D}{p:α→Bool}{v:α→D}{xs:List α}(hn:ρ.length=n)(h:∀x∈xs,c (ρ++[some (f x),some (g x)])=.ok (p x)∧(p x=true→e (ρ++[some (f x),some (g x)])=.ok (v x))) :
    Zck 2 (Zls (Jt (Xb n) (Jt (Xb (n+1)) Zlo))) c e ρ (xs.map fun x=>.tup [f x,g x])=.ok ((xs.filter p).map v):=
  Zul (enc:=fun x=>D.tup [f x,g x]) (ρ1:=fun x=>ρ++[some (f x),some (g x)]) fun x hx=>⟨by
    show R.ok (((ρ++[none,none]).set n (some (f x))).set (n+1) (some (g x)))=_
    rw [← hn,set_append_right _ _ (le_refl _),sub_self,set_append_right _ _ (by omega)]
    simp,h x hx⟩
theorem Xqa {n:Nat}{e:FE}{ρ:Env}{α:Type}{f g:α→D}{v:α→D}{xs:List α}(hn:ρ.length=n)(h:∀x∈xs,e (ρ++[some (f x),some (g x)])=.ok (v x)) :
  Zck 2 (Zls (Jt (Xb n) (Jt (Xb (n+1)) Zlo))) Zoc e ρ (xs.map fun x=>.tup [f x,g x])=.ok (xs.map v):=by
 have:=comp2 (p:=fun _=>true) (c:=Zoc) hn (xs:=xs) (f:=f) (g:=g) (e:=e) (v:=v) fun x hx=>⟨rfl,fun _=>h x hx⟩
 rw [this,List.filter_eq_self.mpr fun _ _=>rfl]
theorem Xax {c:FT}{s:FS}{ρ:Env}{n:Nat}(m:Nat)(st:Nat→Env)(h0:st 0=ρ)(hn:m<n)(hs:∀i,i<m→c (st i)=.ok true∧s (st i)=.ok (.nx (st (i+1))))(hd:c (st m)=.ok false):Zbz c s n ρ=.ok (.nx (st m)):=by
 have key:∀k i n,k+i=m→k<n→Zbz c s n (st i)=.ok (.nx (st m)):=by
  intro k
  induction k with
  | zero =>
   intro i n hi hn
   have e:i=m:=by omega
   subst e
   obtain ⟨n,rfl⟩:∃k,n=k+1:=⟨n - 1,by omega⟩
   simp [Zbz,hd]
  | succ k ih =>
   intro i n hi hn
   obtain ⟨n,rfl⟩:∃k,n=k+1:=⟨n - 1,by omega⟩
   obtain ⟨h1,h2⟩:=hs i (by omega)
   simp only [Zbz,h1,Zzl,if_true,h2]
   exact ih (i+1) n (by omega) (by omega)
 rw [← h0]
 exact key m 0 n (by omega) hn
theorem Xl {i:Nat}{e:FE}{ρ:Env}{d:D}(h:e ρ=.ok d):Yr i e ρ=.ok (.nx (ρ.set i (some d))):=by rw [Xkt,h];rfl
theorem Zp {a b:FS}{ρ ρ':Env}{r:R Fl}(h:a ρ=.ok (.nx ρ'))(h2:b ρ'=r):Xw a b ρ=r:=by rw [Zug,h];exact h2
theorem Zbv {g:D→Option D}{a:FE}{ρ:Env}{x z:D}(ha:a ρ=.ok x)(h:g x=some z):f1 g a ρ=.ok z:=by rw [ev_f1,ha];show oR (g x)=_;rw [h];rfl
theorem Zn {g:D→D→Option D}{a b:FE}{ρ:Env}{x y z:D}(ha:a ρ=.ok x)(hb:b ρ=.ok y)(h:g x y=some z):f2 g a b ρ=.ok z:=by rw [ev_f2,ha,hb];show oR (g x y)=_;rw [h];rfl
theorem Zag {g:List D→Option D}{a:FA}{ρ:Env}{xs:List D}{z:D}(ha:a ρ=.ok xs)(h:g xs=some z):fA g a ρ=.ok z:=by rw [ev_fA,ha];show oR (g xs)=_;rw [h];rfl
theorem Zc {a:FE}{r:FA}{ρ:Env}{x:D}{xs:List D}(ha:a ρ=.ok x)(hr:r ρ=.ok xs):Zd a r ρ=.ok (x::xs):=by rw [Xdn,ha,hr];rfl
theorem Zq {F:List D→R D}{a:FA}{ρ:Env}{xs:List D}{d:D}(ha:a ρ=.ok xs)(h:F xs=.ok d):Zx F a ρ=.ok d:=by rw [Xeg,ha];exact h
theorem Jg {a:FE}{ρ:Env}{b:Bool}(h:a ρ=.ok (.bl b)):cE a ρ=.ok b:=by rw [ev_cE,h];rfl
theorem Zbw {c:FT}{a b:FS}{ρ:Env}{r:R Fl}(hc:c ρ=.ok true)(h:a ρ=r):sIf c a b ρ=r:=by rw [Xfw,hc];exact h
theorem Yq {c:FT}{a b:FS}{ρ:Env}{r:R Fl}(hc:c ρ=.ok false)(h:b ρ=r):sIf c a b ρ=r:=by rw [Xfw,hc];exact h
theorem Zfd {i:Nat}{e:FE}{ρ:Env}{xs:List D}{d:D}(hv:fV i ρ=.ok (.lst xs))(h:e ρ=.ok d)(hl:xs.length<lim):Zjp i e ρ=.ok (.nx (ρ.set i (some (.lst (xs++[d]))))):=by rw [Xjt,hv,h];exact if_pos hl
theorem Yv {e:FE}{ρ:Env}{d:D}(h:e ρ=.ok d):Zac e ρ=.ok (.ret d):=by rw [Xke,h];rfl
theorem Zty {a:FA}{ρ:Env}{j:Int}(h:a ρ=.ok [.int j])(h1:-1000000000≤j∧j≤1000000):Zjj a ρ=.ok (Zdt 0 j.toNat):=by rw [Xan,h];exact if_pos h1
theorem Zdu {it:FI}{b:FB}{s:FS}{ρ:Env}{xs:List D}{r:R Fl}(h:it ρ=.ok xs)(h2:Zcm b s xs ρ=r):Zjo it b s ρ=r:=by rw [Xlz,h];exact h2
theorem Yx {N:Nat}{q:FS}{ds:List D}{d:D}(h:q (ds.map some++List.replicate (N - ds.length) none)=.ok (.ret d)):(run N q ds).calm=.ok d:=by unfold run;rw [h];rfl
theorem Zqf {a b:Int}(h0:0≤a)(h1:a≤1000000):Zco (.int a) (.int b)=some (.int (a*b)):=Xfo (.inl ⟨by omega,by omega⟩)
theorem Zgp {a b:FS}{ρ:Env}{d:D}(h:a ρ=.ok (.ret d)):Xw a b ρ=.ok (.ret d):=by rw [Zug,h];rfl
theorem mulR {a b:Int}(h0:0≤b)(h1:b≤1000000):Zco (.int a) (.int b)=some (.int (a*b)):=Xfo (.inr ⟨by omega,by omega⟩)
theorem Zai {a:FE}{ρ:Env}{xs:List D}(h:a ρ=.ok (.lst xs))(hl:xs.length≤lim):Zah a ρ=.ok xs:=by rw [Xfe,h];exact if_pos hl
theorem Xmy {i:Nat}{g:D→D→Option D}{e:FE}{ρ:Env}{v d z:D}(hv:fV i ρ=.ok v)(he:e ρ=.ok d)(h:g v d=some z):Xgd i g e ρ=.ok (.nx (ρ.set i (some z))):=by simp [hv,he,h]
theorem Zxz {a b:FT}{ρ:Env}{r:R Bool}(h:a ρ=.ok true)(h2:b ρ=r):Xix a b ρ=r:=by rw [Zwe,h];exact h2
theorem Zxr {a b:FT}{ρ:Env}(h:a ρ=.ok false):Xix a b ρ=.ok false:=by rw [Zwe,h];rfl
theorem Xij {p:Prop}[Decidable p](h:p):some (D.bl (decide p))=some (D.bl true):=congrArg (fun b=>some (D.bl b)) (decide_eq_true h)
theorem Xae {p:Prop}[Decidable p](h:¬p):some (D.bl (decide p))=some (D.bl false):=congrArg (fun b=>some (D.bl b)) (decide_eq_false h)
theorem Zuu {a:FT}{ρ:Env}{b:Bool}(h:a ρ=.ok b):Xmr a ρ=.ok (!b):=by rw [Xja,h];rfl
theorem Zmy {a b:FT}{ρ:Env}{r:R Bool}(h:a ρ=.ok false)(h2:b ρ=r):cOr a b ρ=r:=by rw [Xgs,h];exact h2
theorem Xiw {e:FE}{b:FB}{ρ ρ':Env}{d:D}(h:e ρ=.ok d)(hb:b d ρ=.ok ρ'):Xay e b ρ=.ok (.nx ρ'):=by
 unfold Xay
 rw [h]
 show (b d ρ).calm.bind _=_
 rw [hb]
 rfl
theorem r_sl {g:D→Option Int→Option Int→Option D}{a:FE}{l h:FO}{ρ:Env}{x z:D}{lo hi:Option Int}(ha:a ρ=.ok x)(hl:l ρ=.ok lo)(hh:h ρ=.ok hi)(hg:g x lo hi=some z):fSl g a l h ρ=.ok z:=by
 rw [Xql,ha]
 show (l ρ).bind _=_
 rw [hl]
 show (h ρ).bind _=_
 rw [hh]
 show oR (g x lo hi)=_
 rw [hg]
 rfl
theorem Xfs {a:FA}{ρ:Env}{ds xs:List D}(h:a ρ=.ok ds)(h1:Zra ds=.ok xs):Zmi a ρ=.ok xs:=by rw [Xex,h];exact h1
theorem Zjd {n k:Nat}{it:FI}{b:FB}{c:FT}{e:FE}{ρ:Env}{xs ys:List D}(hn:ρ.length=n)(h:it ρ=.ok xs)(h1:Zck k b c e ρ xs=.ok ys):Zcl n k it b c e ρ=.ok (.lst ys):=by
 rw [Xag,if_pos hn,h]
 show (Zck k b c e ρ xs).calm.bind _=_
 rw [h1]
 rfl
theorem Xnj {a b:FT}{ρ:Env}(h:a ρ=.ok true):cOr a b ρ=.ok true:=by rw [Xgs,h];rfl
theorem Zpg {a:FE}{ρ:Env}{i:Int}(h:a ρ=.ok (.int i)):Zic a ρ=.ok (some i):=by rw [Xby,h];rfl
set_option genInjectivity true in
structure Kd where
 name:Str
 w:Int
 wo:Int
 al:Int
noncomputable def kD (k:Kd):D:=.tup [.str k.name,.int k.w,.int k.wo,.int k.al]
noncomputable def iD (ns:List Int):D:=.lst (ns.map D.int)
noncomputable def tD (ks:List Kd):D:=.lst (ks.map kD)
noncomputable def pD (p:Int×Str):D:=.tup [.int p.1,.str p.2]
noncomputable def psD (ps:List (Int×Str)):D:=.lst (ps.map pD)
@[simp] theorem flat_kD (k:Kd):flat (kD k)=true:=rfl
@[simp] theorem flat_pD (k:Int×Str):flat (pD k)=true:=rfl
@[simp] theorem Xdy (k:Kd):Xr (kD k)=some (kD k):=rfl
@[simp] theorem gFlat_pD (k:Int×Str):Xr (pD k)=some (pD k):=rfl
@[simp] theorem Xah (ks:List (Int×Str)):Yw (ks.map pD)=true:=Zil (fun _=>rfl) ks
@[simp] theorem kD_0 (k:Kd):gIx (kD k) (.int 0)=some (.str k.name):=Xfv (k:=0) rfl rfl
@[simp] theorem Zzt (k:Kd):gIx (kD k) (.int 1)=some (.int k.w):=Xfv (k:=1) rfl rfl
@[simp] theorem Xku (k:Kd):gIx (kD k) (.int 2)=some (.int k.wo):=Xfv (k:=2) rfl rfl
@[simp] theorem kD_3 (k:Kd):gIx (kD k) (.int 3)=some (.int k.al):=Xfv (k:=3) rfl rfl
@[simp] theorem pD_0 (k:Int×Str):gIx (pD k) (.int 0)=some (.int k.1):=Xfv (k:=0) rfl rfl
@[simp] theorem pD_1 (k:Int×Str):gIx (pD k) (.int 1)=some (.str k.2):=Xfv (k:=1) rfl rfl
noncomputable def pre (ns:List Int)(i:Nat):Int:=(ns.take i).sum
theorem Zuz (ns:List Int)(a b:Nat)(h:a≤b):((ns.drop a).take (b - a)).sum=pre ns b - pre ns a:=by
 unfold pre
 have e:ns.take b=ns.take a++(ns.drop a).take (b - a):=by
  have:=List.take_add (l:=ns) (i:=a) (j:=b - a)
  rw [show a+(b - a)=b by omega] at this
  exact this
 rw [e,sum_append]
 omega
noncomputable def good (ns:List Int)(k:Kd)(p:Int):Bool:=decide (0≤p∧p+k.w≤ns.length∧pre ns (p+k.w).toNat - pre ns p.toNat≤k.al)
theorem Zyw {ns:List Int}{b e:Int}(h0:0≤b)(h1:b≤e)(h2:e≤ns.length):Zdi [iD ns,.int b,.int e]=.ok (.int (pre ns e.toNat - pre ns b.toNat)):=by
 have a1:¬b<0:=by omega
 have a2:¬(ns.length:Int)<e:=by omega
 have a3:¬e<b:=by omega
 simp [-map_take,-map_drop,Zdi,Zqu,iD,a1,a2,a3,Xmz h0 h1 h2,Zuz _ _ _ (show b.toNat≤e.toNat by omega)]
theorem Zza (ns:List Int)(k:Kd)(p:Int)(hw:1≤k.w):Zgf [iD ns,kD k,.int p]=.ok (.bl (good ns k p)):=by
 have l1:Zbh [iD ns]=some (.int ns.length):=by simp [iD]
 by_cases h0:p<0
 ·have e:good ns k p=false:=decide_eq_false (by omega)
  rw [e]
  exact Yx (Zp (Xl (Zn rfl (Zn rfl rfl (Zzt k)) rfl)) (Zgp (Zbw (Xnj (Jg (Zn rfl rfl (Xij h0)))) (Yv rfl))))
 ·by_cases h1:(ns.length:Int)<p+k.w
  ·have e:good ns k p=false:=decide_eq_false (by omega)
   rw [e]
   exact Yx (Zp (Xl (Zn rfl (Zn rfl rfl (Zzt k)) rfl)) (Zgp (Zbw (Zmy (Jg (Zn rfl rfl (Xae h0))) (Jg (Zn rfl (Zag (Zc rfl rfl) l1) (Xij h1)))) (Yv rfl))))
  ·have hs:=Zyw (ns:=ns) (b:=p) (e:=p+k.w) (by omega) (by omega) (by omega)
   have e:good ns k p=decide (pre ns (p+k.w).toNat - pre ns p.toNat≤k.al):=by
    unfold good
    apply decide_eq_decide.mpr
    constructor
    ·exact fun z=>z.2.2
    ·exact fun z=>⟨by omega,by omega,z⟩
   rw [e]
   exact Yx (Zp (Xl (Zn rfl (Zn rfl rfl (Zzt k)) rfl)) (Zp (Yq (Zmy (Jg (Zn rfl rfl (Xae h0))) (Jg (Zn rfl (Zag (Zc rfl rfl) l1) (Xae h1)))) rfl) (Yv (Zn (Zq (Zc rfl (Zc rfl (Zc rfl rfl))) hs) (Zn rfl rfl (kD_3 k)) rfl))))
theorem Zwm (ns:List Int)(hn:ns.length≤63){i:Int}(h0:0≤i)(h1:i<1000000):∃n:Int,Ju [.scr ns,.int i]=.ok (.int n):=by
 have c:(cE (f2 gLt (fV 1) (fA Zbh (Zd (fV 0) Zu)))) [some (.scr ns),some (.int i),none,none]=.ok (decide (i<ns.length)):=Jg (Zn rfl (Zag (Zc rfl rfl) rfl) rfl)
 by_cases h:i<ns.length
 ·have hi:i.toNat<ns.length:=(toNat_lt h0).mpr h
  have e:gIx (.scr ns) (.int i)=some (.int (ns.getD i.toNat 0)):=congrArg (Option.map D.int) (Zos (k:=i.toNat) (Int.toNat_of_nonneg h0).symm (by simp [List.getD,hi]))
  exact ⟨_,Yx (Zgp (Zbw (c.trans (congrArg Dl.R.ok (decide_eq_true h))) (Yv (Zbv (Zn rfl rfl e) rfl))))⟩
 ·have key:∃seed:Int,∃o,Zcm (Xb 3) Zef ((ns.take 63).map D.int) [some (.scr ns),some (.int i),some (.int 5),none]=.ok (.nx [some (.scr ns),some (.int i),some (.int seed),o]):=by
   refine Zcb (P:=fun _ ρ=>∃seed:Int,∃o,ρ=[some (.scr ns),some (.int i),some (.int seed),o]) (Rr:=fun r=>∃seed:Int,∃o,r=.ok (.nx [some (.scr ns),some (.int i),some (.int seed),o])) ⟨5,none,rfl⟩ ?_ ?_
   ·rintro j x ρ hx ⟨seed,o,rfl⟩
    rw [getElem?_map] at hx
    obtain ⟨y,hy,rfl⟩:=Option.map_eq_some_iff.mp hx
    exact ⟨_,rfl,.inl ⟨_,.inl (Xl (Zn (Zn (Zn (Zn rfl rfl (mulR (by decide) (by decide))) (Zn rfl rfl (Zcg (by decide))) rfl) rfl rfl) rfl (Zcg (by decide)))),_,_,rfl⟩⟩
   ·rintro ρ ⟨seed,o,rfl⟩
    exact ⟨seed,o,rfl⟩
  obtain ⟨seed,o,e⟩:=key
  have hc:cut ns none (some 63)=ns.take 63:=Xgf (by decide)
  have hl:(Zah (fSl gSl (fV 0) Znq (Zic (fC (.int 63))))) [some (.scr ns),some (.int i),some (.int 5),none]=.ok ((ns.take 63).map D.int):=by
   have hm:min 63 ns.length≤lim:=by show _≤1000000;omega
   simp [-map_take,hc,hm]
  exact ⟨_,Yx (Zp (Yq (c.trans (congrArg Dl.R.ok (decide_eq_false h))) rfl) (Zp (Xl rfl) (Zp (Zdu hl e) (Yv (Zn (Zn rfl (Zn rfl rfl (Zqf (by decide) (by decide))) rfl) rfl (Zcg (by decide)))))))⟩
theorem Xga (c:Int){k:Int}(h0:0≤k)(h1:k<1000000):∃n:Int,Zas [.int c,.int k]=.ok (.int n):=by
 have n0:0≤c % 2147483629+1013*k+7919:=Int.add_nonneg (Int.add_nonneg (emod_nonneg _ (by decide)) (mul_nonneg (by decide) h0)) (by decide)
 have n1:c % 2147483629+1013*k+7919<2147483629+1013*1000000+7919:=Int.add_lt_add_right (Int.add_lt_add_of_lt_of_le (emod_lt_of_pos _ (by decide)) (Int.mul_le_mul_of_nonneg_left (Int.le_of_lt h1) (by decide))) _
 have b:(c % 2147483629+1013*k+7919).natAbs<2 ^ 64:=Int.ofNat_lt.mp (by rw [Int.natAbs_of_nonneg n0];exact Int.lt_trans n1 (by decide))
 have e1:=Zmt (i:=c % 2147483629+1013*k+7919) (j:=3) (by decide) (by decide) b
 exact ⟨_,Yx (Zp (Xl (Zn (Zn (Zn (Zn (Zn rfl rfl (Zcg (by decide))) (Zn rfl rfl (Zqf (by decide) (by decide))) rfl) rfl rfl) rfl e1) rfl (Zcg (by decide)))) (Zp (Xl (Zn (Zn (Zn (Zn rfl rfl (mulR (by decide) (by decide))) (Zn (Zn rfl rfl (Zqf (by decide) (by decide))) rfl (mulR h0 (Int.le_of_lt h1))) rfl) rfl rfl) rfl (Zcg (by decide)))) (Yv (Zn rfl rfl (div_ii (by decide) (by decide))))))⟩
structure Row (ms os:List Int):Prop where
 len:os.length=ms.length
 at_:∀k,k<ms.length→0≤os.getD k 0∧os.getD k 0<ms.getD k 0
theorem Row.nil (ms:List Int):Row (ms.take 0) []:=⟨by simp,fun k hk=>by simp at hk⟩
theorem Row.all {ms os:List Int}(h:Row (ms.take ms.length) os):Row ms os:=by
 rw [List.take_length] at h
 exact h
theorem Row.push {ms os:List Int}{k:Nat}{v:Int}(h:Row (ms.take k) os)(hk:k<ms.length)(h0:0≤v)(h1:v<ms.getD k 0):Row (ms.take (k+1)) (os++[v]):=by
 have hl:=h.len
 rw [length_take] at hl
 have hm:min k ms.length=k:=by omega
 have hm':min (k+1) ms.length=k+1:=by omega
 refine ⟨by rw [length_append,length_take,hm',length_singleton];omega,fun j hj=>?_⟩
 rw [length_take,hm'] at hj
 by_cases e:j=k
 ·subst e
  have e1:(os++[v]).getD j 0=v:=by
   have:os.length=j:=by omega
   simp [List.getD,← this]
  have e2:(ms.take (j+1)).getD j 0=ms.getD j 0:=by simp [List.getD,getElem?_take]
  rw [e1,e2]
  exact ⟨h0,h1⟩
 ·have hj':j<k:=by omega
  have q:=h.at_ j (by rw [length_take];omega)
  have e1:(os++[v]).getD j 0=os.getD j 0:=by
   have:j<os.length:=by omega
   simp [List.getD,getElem?_append_left this]
  have e2:(ms.take (k+1)).getD j 0=(ms.take k).getD j 0:=by
   have h1:j<k+1:=by omega
   simp [List.getD,getElem?_take,hj',h1]
  rw [e1,e2]
  exact q
theorem Zbm {P:Int→Prop}{ws:List Int}{i:Nat}(h:∀w∈ws,P w)(hi:i<ws.length):P (ws.getD i 0):=by
 have e:ws.getD i 0=ws[i]:=by simp [List.getD,hi]
 rw [e]
 exact h _ (getElem_mem hi)
theorem Xig (ns:List Int)(hn:ns.length≤63){i:Int}(h0:0≤i)(h1:i<1000)(ms:List Int)(hm:ms.length≤2000)(hms:∀m∈ms,0<m∧m<2 ^ 200):∃os,Yb [.scr ns,.int i,iD ms]=.ok (iD os)∧Row ms os:=by
 obtain ⟨c,hc⟩:=Zwm ns hn h0 (show i<1000000 by omega)
 have key:=Zcb (b:=Xb 6) (s:=Zgr) (xs:=Zdt 0 ms.length) (ρ:=[some (.scr ns),some (.int i),some (iD ms),some (.int c),some (.int c),some (.lst []),none,none])
  (P:=fun k ρ=>∃(l:Int) (os:List Int) (o6 o7:Option D),Row (ms.take k) os∧ρ=[some (.scr ns),some (.int i),some (iD ms),some (.int c),some (.int l),some (iD os),o6,o7])
  (Rr:=fun r=>∃(l:Int) (os:List Int) (o6 o7:Option D),Row ms os∧r=.ok (.nx [some (.scr ns),some (.int i),some (iD ms),some (.int c),some (.int l),some (iD os),o6,o7]))
  ⟨c,[],none,none,Row.nil ms,rfl⟩ ?_ ?_
 ·obtain ⟨l,os,o6,o7,hr,e⟩:=key
  refine ⟨os,?_,hr⟩
  have b1:-1000000000≤(ms.length:Int)∧(ms.length:Int)≤1000000:=by omega
  have gl:Zbh [iD ms]=some (.int ms.length):=by simp [iD]
  exact Yx (Zp (Xl (Zq (Zc rfl (Zc rfl rfl)) hc)) (Zp (Xl (Zbv rfl rfl)) (Zp (Xl rfl) (Zp (Zdu (Zty (Zc (Zag (Zc rfl rfl) gl) rfl) b1) e) (Yv rfl)))))
 ·rintro k x ρ hx ⟨l,os,o6,o7,hr,rfl⟩
  obtain ⟨hk,rfl⟩:=Zfx hx
  rw [Int.zero_add]
  have hol:os.length=k:=by have:=hr.len;rw [length_take] at this;omega
  have hlim:(os.map D.int).length<lim:=by rw [length_map];show _<1000000;omega
  have c1:∀o5:Option D,(cE (f2 gLt (fV 3) (f2 Zjv (fC (.int 10)) (fC (.int 18))))) [some (.scr ns),some (.int i),some (iD ms),some (.int c),some (.int l),o5,some (.int k),o7]=.ok (decide (c<1000000000000000000)):=fun _=>Jg (Zn rfl (Zn rfl rfl Zhc) rfl)
  have ap:∀v:Int,iD (os++[v])=.lst (os.map D.int++[.int v]):=fun v=>congrArg D.lst map_append
  have hmk:=Zbm hms hk
  have ix:=Zak (ns:=ms) (i:=(k:Int)) (k:=k) rfl hk
  have md:∀z:Int,Zhe (.int z) (.int (ms.getD k 0))=some (.int (z % ms.getD k 0)):=fun z=>Zcg hmk.1
  have nn:∀z:Int,0≤z % ms.getD k 0∧z % ms.getD k 0<ms.getD k 0:=fun z=>⟨emod_nonneg _ (Int.ne_of_gt hmk.1),emod_lt_of_pos _ hmk.1⟩
  have k0:0≤(k:Int)∧(k:Int)<1000000:=by omega
  obtain ⟨x1,hx1⟩:=Xga c k0.1 k0.2
  obtain ⟨c2,hc2⟩:=Zwm ns hn (i:=(i+1+k) % 63) (emod_nonneg _ (by decide)) (Int.lt_trans (emod_lt_of_pos _ (by decide)) (by decide))
  obtain ⟨x2,hx2⟩:=Xga c2 k0.1 k0.2
  refine ⟨_,rfl,.inl ?_⟩
  by_cases a1:c<1000000000000000000
  ·refine ⟨[some (.scr ns),some (.int i),some (iD ms),some (.int c),some (.int l),some (iD (os++[x1 % ms.getD k 0])),some (.int k),o7],.inl ?_,l,_,_,o7,hr.push hk (nn x1).1 (nn x1).2,rfl⟩
   rw [ap]
   exact Zbw ((c1 _).trans (congrArg Dl.R.ok (decide_eq_true a1))) (Zfd rfl (Zn (Zq (Zc rfl (Zc rfl rfl)) hx1) (Zn rfl rfl ix) (md x1)) hlim)
  ·by_cases a2:0<l
   ·refine ⟨[some (.scr ns),some (.int i),some (iD ms),some (.int c),some (.int (l / ms.getD k 0)),some (iD (os++[l % ms.getD k 0])),some (.int k),o7],.inl ?_,_,_,_,o7,hr.push hk (nn l).1 (nn l).2,rfl⟩
    rw [ap]
    exact Yq ((c1 _).trans (congrArg Dl.R.ok (decide_eq_false a1))) (Zbw (Jg (Zn rfl rfl (congrArg (fun b=>some (D.bl b)) (decide_eq_true a2)))) (Zp (Zfd rfl (Zn rfl (Zn rfl rfl ix) (md l)) hlim) (Xl (Zn rfl (Zn rfl rfl ix) (div_ii hmk.1 hmk.2)))))
   ·refine ⟨[some (.scr ns),some (.int i),some (iD ms),some (.int c),some (.int l),some (iD (os++[x2 % ms.getD k 0])),some (.int k),some (.int c2)],.inl ?_,l,_,_,_,hr.push hk (nn x2).1 (nn x2).2,rfl⟩
    rw [ap]
    exact Yq ((c1 _).trans (congrArg Dl.R.ok (decide_eq_false a1))) (Yq (Jg (Zn rfl rfl (congrArg (fun b=>some (D.bl b)) (decide_eq_false a2)))) (Zp (Xl (Zq (Zc rfl (Zc (Zn (Zn (Zn rfl rfl rfl) rfl rfl) rfl (Zcg (by decide))) rfl)) hc2)) (Zfd rfl (Zn (Zq (Zc rfl (Zc rfl rfl)) hx2) (Zn rfl rfl ix) (md x2)) hlim)))
 ·rintro ρ ⟨l,os,o6,o7,hr,rfl⟩
  rw [Jj] at hr
  exact ⟨l,os,o6,o7,hr.all,rfl⟩
theorem Zqs (ns:List Int)(hn:ns.length≤63){i:Int}(h0:0≤i)(h1:i<1000)(ms:List Int)(hm:ms.length≤1000)(hms:∀m∈ms,0<m∧m<2 ^ 200):∃os,Yb [.scr ns,.int i,iD ms]=.ok (iD os)∧Row ms os:=Xig ns hn h0 h1 ms (le_trans hm (by decide)) hms
theorem Zgs (ws:List Int){i:Int}(h0:0≤i)(h1:i<ws.length):gIx (.lst (ws.map D.int)) (.int i)=some (.int (ws.getD i.toNat 0)):=Zak (by omega) (by omega)
theorem Zhz (l:List Int):∀n:Nat,(List.replicate n l).flatten.length=n*l.length
 | 0=>by simp
 | n+1=>by rw [replicate_succ,flatten_cons,length_append,Zhz l n,succ_mul,Nat.add_comm]
theorem Xha (l:List Int)(n:Nat):(List.replicate n (l.map D.int)).flatten=(List.replicate n l).flatten.map D.int:=by
 rw [List.map_flatten,List.map_replicate]
theorem Zwc {ws:List Int}{m:Int}(h0:0≤m)(h1:m≤200)(hl:ws.length≤1000):Zco (.lst (ws.map D.int)) (.int m)=some (iD (List.replicate m.toNat ws).flatten):=by
  simp only [Zco]
  rw [if_pos ⟨by omega,by
    rw [length_map]
    show ws.length*m.toNat≤1000000
    have:ws.length*m.toNat≤1000*200:=mul_le_mul hl (by omega)
    omega,by omega,Zfp ws⟩,Xha]
  rfl
theorem Zkv {xs ys:List Int}(h:xs.length+ys.length≤1000000):Jk (iD xs) (iD ys)=some (iD (xs++ys)):=by
 show (if (xs.map D.int).length+(ys.map D.int).length≤lim∧Yw (xs.map D.int)∧Yw (ys.map D.int) then some (D.lst (xs.map D.int++ys.map D.int)) else none)=_
 rw [if_pos ⟨by rw [length_map,length_map];exact h,Zfp _,Zfp _⟩,← map_append]
 rfl
theorem Zrl (x y:Int):∀(n k:Nat),k<n→(List.replicate n [x,y]).flatten.getD (2*k) 0=x∧(List.replicate n [x,y]).flatten.getD (2*k+1) 0=y
 | 0,k,h=>by omega
 | n+1,0,_=>by simp [replicate_succ,flatten_cons,List.getD]
 | n+1,k+1,h=>by
  have q:=Zrl x y n k (by omega)
  have e1:2*(k+1)=2*k+2:=by omega
  rw [replicate_succ,flatten_cons,e1]
  exact q
theorem Zsr (x y z:Int):∀(n k:Nat),k<n→(List.replicate n [x,y,z]).flatten.getD (3*k) 0=x∧(List.replicate n [x,y,z]).flatten.getD (3*k+1) 0=y∧(List.replicate n [x,y,z]).flatten.getD (3*k+2) 0=z
 | 0,k,h=>by omega
 | n+1,0,_=>by simp [replicate_succ,flatten_cons,List.getD]
 | n+1,k+1,h=>by
  have q:=Zsr x y z n k (by omega)
  have e1:3*(k+1)=3*k+3:=by omega
  rw [replicate_succ,flatten_cons,e1]
  exact q
theorem Zwf {l:List Int}{n:Nat}{z:Int}(h:z∈(List.replicate n l).flatten):z∈l:=by
 obtain ⟨l',hl,hz⟩:=List.mem_flatten.mp h
 rwa [(List.mem_replicate.mp hl).2] at hz
noncomputable def Zbr:List Str:=["a","ab","abc","b","ba","z","zzzzzzzz","roll","cut","by","aab","zz","kind","qsvw","fghjmp","x"]
theorem Xcc:∀j:Nat,j<16→∀k:Nat,k<16→Zbr.getD j ""=Zbr.getD k ""→j=k:=by decide +kernel
noncomputable def nameAt (s4 s5:Int)(k:Nat):Str:=Zbr.getD ((s4+(2*s5+1)*(k:Int)) % 16).toNat ""
theorem Xbq:∀t:Nat,t<4→∀j:Nat,j<8→∀k:Nat,k<8→((2*(t:Int)+1)*j - (2*(t:Int)+1)*k) % 16=0→j=k:=by decide +kernel
theorem Ztu {s4 s5:Int}(h0:0≤s5)(h1:s5<4){j k:Nat}(hj:j<8)(hk:k<8)(e:nameAt s4 s5 j=nameAt s4 s5 k):j=k:=by
 have lt:∀x:Int,(x % 16).toNat<16:=fun x=>(toNat_lt (emod_nonneg x (by decide))).mpr (emod_lt_of_pos x (by decide))
 have q:=congrArg Int.ofNat (Xcc _ (lt _) _ (lt _) e)
 have q1:(s4+(2*s5+1)*(j:Int)) % 16=(s4+(2*s5+1)*(k:Int)) % 16:=(Int.toNat_of_nonneg (emod_nonneg _ (by decide))).symm.trans (q.trans (Int.toNat_of_nonneg (emod_nonneg _ (by decide))))
 have q2:=Int.emod_eq_emod_iff_emod_sub_eq_zero.mp q1
 rw [Int.add_sub_add_left] at q2
 obtain ⟨t,rfl⟩:=Int.eq_ofNat_of_zero_le h0
 exact Xbq t (Int.ofNat_lt.mp h1) j hj k hk q2
theorem Zti (s4 s5:Int)(k:Nat):nameAt s4 s5 k∈Zbr:=by
 unfold nameAt
 have h:((s4+(2*s5+1)*(k:Int)) % 16).toNat<Zbr.length:=by show _<16;omega
 have e:Zbr.getD ((s4+(2*s5+1)*(k:Int)) % 16).toNat ""=Zbr[((s4+(2*s5+1)*(k:Int)) % 16).toNat]:=by simp [List.getD,h]
 rw [e]
 exact getElem_mem h
structure Zsb (k:Kd):Prop where
 nm:k.name∈Zbr
 w1:1≤k.w
 w2:k.w≤200
 o1:1≤k.wo
 o2:k.wo≤1000000000000000000
 a1:0≤k.al
 a2:k.al<1000000000000000000
structure Xnh (ks:List Kd):Prop where
 ok:∀k∈ks,Zsb k
 nd:(ks.map (·.name)).Nodup
theorem Xjq {i:Int}(h0:0≤i)(h1:i<16):gIx (.lst (Zbr.map D.str)) (.int i)=some (.str (Zbr.getD i.toNat "")):=Xol (k:=i.toNat) (by omega) (by
  have h:i.toNat<Zbr.length:=by show _<16;omega
  simp [List.getD,h])
theorem Zoh {ms:List Int}(h:∀m∈ms,0<m∧m≤1000000):∀m∈ms,0<m∧m<2 ^ 200:=fun m hm=>⟨(h m hm).1,Int.lt_of_le_of_lt (h m hm).2 (by decide)⟩
theorem four {x:Int}(h:0≤x∧x<4):x=0∨x=1∨x=2∨x=3:=by
 obtain ⟨n,rfl⟩:=Int.eq_ofNat_of_zero_le h.1
 match n,Int.ofNat_lt.mp h.2 with
 | 0,_=>exact .inl rfl
 | 1,_=>exact .inr (.inl rfl)
 | 2,_=>exact .inr (.inr (.inl rfl))
 | 3,_=>exact .inr (.inr (.inr rfl))
theorem Zqn {x m:Int}(hm:0<m):0≤x % m∧x % m<m:=⟨emod_nonneg _ (Int.ne_of_gt hm),emod_lt_of_pos _ hm⟩
theorem Xbo {d0 d1 d2 o9 o10 o11 o12 o13:Option D}{O:D}{T:List D}{fl gn bw wd am x3 x4 x5 x6 x7 x8:Int}{k:Nat}{nm:Str}
    (j0:gIx O (.int (3*(k:Int)+6))=some (.int x6)) (j1:gIx O (.int (3*(k:Int)+6+1))=some (.int x7)) (j2:gIx O (.int (3*(k:Int)+6+2))=some (.int x8))
    (j3:gIx O (.int 3)=some (.int x3)) (j4:gIx O (.int 4)=some (.int x4)) (j5:gIx O (.int 5)=some (.int x5))
    (ib:gIx (.lst [.int 150,.int 200]) (.int ((k:Int) % 2))=some (.int bw))
    (iw:gIx (.lst [.int 1,.int 2,.int 3,.int 4,.int 5,.int 6,.int 2,.int 3,.int 11,.int 40,.int bw]) (.int x6)=some (.int wd))
    (ia:gIx (.lst [.int 0,.int 0,.int 1,.int 2,.int 3,.int 12]) (.int x8)=some (.int am))
    (iN:gIx (.lst (Zbr.map D.str)) (.int ((x4+(2*x5+1)*(k:Int)) % 16))=some (.str nm))
    (w1:1≤wd∧wd≤200) (c7:0≤x7∧x7<40) (c3:0≤x3∧x3<4) (c5:0≤x5∧x5<4) (m1:0≤am∧am≤12) (sl:T.length<lim) :
    ∃wo:Int,(1≤wo∧wo≤1000)∧Zbs [d0,d1,d2,some (.lst (Zbr.map D.str)),some O,some (.int fl),some (.int gn),some (.lst T),some (.int k),o9,o10,o11,o12,o13] =
      .ok (.nx [d0,d1,d2,some (.lst (Zbr.map D.str)),some O,some (.int fl),some (.int gn),some (.lst (T++[.tup [.str nm,.int wd,.int (min (wo*gn) 1000000000000000000),.int (min (am*fl) 999999999999999999)]])),some (.int k),some (.int (3*(k:Int)+6)),some (.int wd),some (.int wo),some (.int (min (am*fl) 999999999999999999)),some (.str nm)]):=by
  obtain ⟨wo,hb,mid⟩:∃wo:Int,(1≤wo∧wo≤1000)∧∀Q:FS,(Xw (sIf (cE (f2 gEq (f2 gIx (fV 4) (fC (.int 3))) (fC (.int 1)))) (Yr 11 (f2 Jk (f2 Zco (fC (.int 3)) (fV 10)) (f2 Zhe (f2 gIx (fV 4) (f2 Jk (fV 9) (fC (.int 1)))) (fC (.int 4))))) sNx)
    (Xw (sIf (cE (f2 gEq (f2 gIx (fV 4) (fC (.int 3))) (fC (.int 2)))) (Yr 11 (f2 Jk (fC (.int 1)) (f2 Zhe (f2 gIx (fV 4) (f2 Jk (fV 9) (fC (.int 1)))) (fC (.int 3))))) sNx)
    (Xw (sIf (cE (f2 gEq (f2 gIx (fV 4) (fC (.int 3))) (fC (.int 3)))) (Yr 11 (f1 Xr (fV 10))) sNx) Q))) [d0,d1,d2,some (.lst (Zbr.map D.str)),some O,some (.int fl),some (.int gn),some (.lst T),some (.int k),some (.int (3*(k:Int)+6)),some (.int wd),some (.int (1+x7)),o12,o13] =
      Q [d0,d1,d2,some (.lst (Zbr.map D.str)),some O,some (.int fl),some (.int gn),some (.lst T),some (.int k),some (.int (3*(k:Int)+6)),some (.int wd),some (.int wo),o12,o13]:=by
    rcases four c3 with rfl | rfl | rfl | rfl
    · exact ⟨1+x7,⟨Int.le_add_of_nonneg_right c7.1,Int.le_trans (Int.add_le_add_left (Int.le_of_lt c7.2) 1) (by decide)⟩,fun Q=>Zp (Yq (Jg (Zn (Zn rfl rfl j3) rfl rfl)) rfl) (Zp (Yq (Jg (Zn (Zn rfl rfl j3) rfl rfl)) rfl) (Zp (Yq (Jg (Zn (Zn rfl rfl j3) rfl rfl)) rfl) rfl))⟩
    · exact ⟨3*wd+x7 % 4,⟨Int.le_trans (show (1:Int)≤3*1+0 by decide) (add_le_add (Int.mul_le_mul_of_nonneg_left w1.1 (by decide)) (Zqn (by decide)).1),Int.le_trans (add_le_add (Int.mul_le_mul_of_nonneg_left w1.2 (by decide)) (Int.le_of_lt (Zqn (by decide)).2)) (by decide)⟩,fun Q=>Zp (Zbw (Jg (Zn (Zn rfl rfl j3) rfl rfl)) (Xl (Zn (Zn rfl rfl (Zqf (by decide) (by decide))) (Zn (Zn rfl (Zn rfl rfl rfl) j1) rfl (Zcg (by decide))) rfl))) (Zp (Yq (Jg (Zn (Zn rfl rfl j3) rfl rfl)) rfl) (Zp (Yq (Jg (Zn (Zn rfl rfl j3) rfl rfl)) rfl) rfl))⟩
    · exact ⟨1+x7 % 3,⟨Int.le_add_of_nonneg_right (Zqn (by decide)).1,Int.le_trans (Int.add_le_add_left (Int.le_of_lt (Zqn (by decide)).2) 1) (by decide)⟩,fun Q=>Zp (Yq (Jg (Zn (Zn rfl rfl j3) rfl rfl)) rfl) (Zp (Zbw (Jg (Zn (Zn rfl rfl j3) rfl rfl)) (Xl (Zn rfl (Zn (Zn rfl (Zn rfl rfl rfl) j1) rfl (Zcg (by decide))) rfl))) (Zp (Yq (Jg (Zn (Zn rfl rfl j3) rfl rfl)) rfl) rfl))⟩
    · exact ⟨wd,⟨w1.1,Int.le_trans w1.2 (by decide)⟩,fun Q=>Zp (Yq (Jg (Zn (Zn rfl rfl j3) rfl rfl)) rfl) (Zp (Yq (Jg (Zn (Zn rfl rfl j3) rfl rfl)) rfl) (Zp (Zbw (Jg (Zn (Zn rfl rfl j3) rfl rfl)) (Xl (Zbv rfl rfl))) rfl))⟩
  exact ⟨wo,hb,Zp (Xl (Zn (Zn rfl rfl (Zqf (by decide) (by decide))) rfl rfl)) (Zp (Xl (Zbv (Zn (Zag (Zc rfl (Zc rfl (Zc rfl (Zc rfl (Zc rfl (Zc rfl (Zc rfl (Zc rfl (Zc rfl (Zc rfl (Zc (Zn rfl (Zn rfl rfl (Zcg (by decide))) ib) rfl))))))))))) rfl) (Zn rfl rfl j0) iw) rfl)) (Zp (Xl (Zn rfl (Zn rfl (Zn rfl rfl rfl) j1) rfl)) ((mid _).trans
    (Zp (Xl (Zag (Zc (Zn (Zn rfl (Zn rfl (Zn rfl rfl rfl) j2) ia) rfl (Zqf m1.1 (Int.le_trans m1.2 (by decide)))) (Zc (Zn (Zn rfl rfl Zhc) rfl (show Zgt (.int 1000000000000000000) (.int 1)=some (.int 999999999999999999) from rfl)) rfl)) (Xgo _ _)))
    (Zp (Xl (Zbv (Zn rfl (Zn (Zn (Zn rfl rfl j4) (Zn (Zn (Zn rfl (Zn rfl rfl j5) (Zqf (by decide) (by decide))) rfl rfl) rfl (Zqf (Int.add_nonneg (mul_nonneg (by decide) c5.1) (by decide)) (Int.le_trans (Int.add_le_add_right (Int.mul_le_mul_of_nonneg_left (Int.le_of_lt c5.2) (by decide)) 1) (by decide)))) rfl) rfl (Zcg (by decide))) iN) rfl))
    (Zfd rfl (Zag (Zc (Zbv rfl rfl) (Zc (Zbv rfl rfl) (Zc (Zag (Zc (Zn rfl rfl (Zqf (Int.le_trans (by decide) hb.1) (Int.le_trans hb.2 (by decide)))) (Zc (Zn rfl rfl Zhc) rfl)) (Xgo _ _)) (Zc (Zbv rfl rfl) rfl)))) rfl) sl))))))⟩
theorem under {x m:Int}{k:Nat}(h:k<x.toNat)(hx:x<m+1):k<m.toNat:=by omega
theorem Xen {P:Int→Prop}{l:List Int}{b:Int}(h:∀z∈l,P z)(hb:P b):∀z∈l++[b],P z:=List.forall_mem_append.mpr ⟨h,fun _ hz=>List.mem_singleton.mp hz▸hb⟩
theorem Xqo {k j m:Nat}(h:k<m)(hj:j<3):3*k+(j+6)<6+m*3:=by omega
theorem Xcj (ns:List Int)(hn:ns.length≤63){i m:Int}(h0:0≤i)(h1:i<1000)(m0:0≤m)(m1:m≤8):∃ks,Zaf [.scr ns,.int i,.int m]=.ok (tD ks)∧(ks.length:Int)≤m∧Xnh ks:=by
  have m8:m.toNat≤8:=Int.toNat_le.mpr m1
  have m24:6+m.toNat*3≤30:=Nat.add_le_add_left (Nat.mul_le_mul_right 3 m8) 6
  have ms_eq:Jk (iD [m+1,4,4,4,16,4]) (iD (List.replicate m.toNat [11,40,6]).flatten)=some (iD ([m+1,4,4,4,16,4]++(List.replicate m.toNat [11,40,6]).flatten)):=Zkv (by
    rw [Zhz]
    exact le_trans m24 (by decide))
  have mr:=Zwc (ws:=[11,40,6]) m0 (Int.le_trans m1 (by decide)) (by decide)
  have hml:([m+1,4,4,4,16,4]++(List.replicate m.toNat [(11:Int),40,6]).flatten).length=6+m.toNat*3:=by rw [length_append,Zhz];rfl
  obtain ⟨os,hos,R⟩:=Zqs ns hn h0 h1 ([m+1,4,4,4,16,4]++(List.replicate m.toNat [11,40,6]).flatten) (by rw [hml];exact le_trans m24 (by decide)) (Zoh (List.forall_mem_append.mpr ⟨List.forall_mem_cons.mpr ⟨⟨Int.lt_add_one_of_le m0,Int.le_trans (Int.add_le_add_right m1 1) (by decide)⟩,by decide⟩,fun z hz=>(by decide:∀z∈[(11:Int),40,6],0<z∧z≤1000000) z (Zwf hz)⟩))
  have hol:os.length=6+m.toNat*3:=by rw [R.len,hml]
  have hlt:∀{j:Nat},j<6→j<([m+1,4,4,4,16,4]++(List.replicate m.toNat [(11:Int),40,6]).flatten).length:=fun h=>by rw [hml];exact lt_of_lt_of_le h (le_add_right _ _)
  have hlo:∀{j:Nat},j<6→j<os.length:=fun h=>by rw [hol];exact lt_of_lt_of_le h (le_add_right _ _)
  have tri:∀k j:Nat,k<m.toNat→j<3→3*k+(j+6)<6+m.toNat*3:=fun _ _ h hj=>Xqo h hj
  have a0:0≤os.getD 0 0∧os.getD 0 0<m+1:=R.at_ 0 (hlt (by decide))
  have a1:0≤os.getD 1 0∧os.getD 1 0<4:=R.at_ 1 (hlt (by decide))
  have a2:0≤os.getD 2 0∧os.getD 2 0<4:=R.at_ 2 (hlt (by decide))
  have a3:0≤os.getD 3 0∧os.getD 3 0<4:=R.at_ 3 (hlt (by decide))
  have a4:0≤os.getD 4 0∧os.getD 4 0<16:=R.at_ 4 (hlt (by decide))
  have a5:0≤os.getD 5 0∧os.getD 5 0<4:=R.at_ 5 (hlt (by decide))
  have b3:∀k:Nat,k<m.toNat→(0≤os.getD (3*k+6) 0∧os.getD (3*k+6) 0<11)∧(0≤os.getD (3*k+7) 0∧os.getD (3*k+7) 0<40)∧(0≤os.getD (3*k+8) 0∧os.getD (3*k+8) 0<6):=fun k hk=>by
    obtain ⟨g1,g2,g3⟩:=Zsr 11 40 6 m.toNat k hk
    have e:∀j:Nat,([m+1,4,4,4,16,4]++(List.replicate m.toNat [(11:Int),40,6]).flatten).getD (j+6) 0=(List.replicate m.toNat [(11:Int),40,6]).flatten.getD j 0:=fun j=>rfl
    have r1:=R.at_ (3*k+6) (by rw [hml];exact tri k 0 hk (by decide))
    have r2:=R.at_ (3*k+7) (by rw [hml];exact tri k 1 hk (by decide))
    have r3:=R.at_ (3*k+8) (by rw [hml];exact tri k 2 hk (by decide))
    rw [e (3*k),g1] at r1
    rw [show 3*k+7=(3*k+1)+6 from rfl,e (3*k+1),g2] at r2
    rw [show 3*k+8=(3*k+2)+6 from rfl,e (3*k+2),g3] at r3
    exact ⟨r1,r2,r3⟩
  have ix:∀k:Nat,k<os.length→∀j:Int,j=(k:Int)→gIx (.lst (os.map D.int)) (.int j)=some (.int (os.getD k 0)):=fun k hk j e=>Zak e hk
  obtain ⟨fl,hfl⟩:∃fl,fl=([1,1,7,100000000000000000]:List Int).getD (os.getD 1 0).toNat 0:=⟨_,rfl⟩
  obtain ⟨gn,hgn⟩:∃gn,gn=([1,1,1000000,25000000000000000]:List Int).getD (os.getD 2 0).toNat 0:=⟨_,rfl⟩
  have fl1:1≤fl∧fl≤100000000000000000:=by
    rw [hfl]
    exact Zbm (P:=fun z=>1≤z∧z≤100000000000000000) (by decide) (show _<4 from (toNat_lt a1.1).mpr a1.2)
  have gn1:1≤gn∧gn≤25000000000000000:=by
    rw [hgn]
    exact Zbm (P:=fun z=>1≤z∧z≤25000000000000000) (by decide) (show _<4 from (toNat_lt a2.1).mpr a2.2)
  have i1:gIx (.lst [.int 1,.int 1,.int 7,.int 100000000000000000]) (.int (os.getD 1 0))=some (.int fl):=by rw [hfl];exact Zgs [1,1,7,100000000000000000] a1.1 a1.2
  have i2:gIx (.lst [.int 1,.int 1,.int 1000000,.int 25000000000000000]) (.int (os.getD 2 0))=some (.int gn):=by rw [hgn];exact Zgs [1,1,1000000,25000000000000000] a2.1 a2.2
  have key:=Zcb (b:=Xb 8) (s:=Zbs) (xs:=Zdt 0 (os.getD 0 0).toNat) (ρ:=[some (.scr ns),some (.int i),some (.int m),some (.lst (Zbr.map D.str)),some (iD os),some (.int fl),some (.int gn),some (.lst []),none,none,none,none,none,none])
    (P:=fun k ρ=>∃(ks:List Kd) (o8 o9 o10 o11 o12 o13:Option D),ks.length=k∧(∀x∈ks,Zsb x)∧ks.map (·.name)=(List.range k).map (nameAt (os.getD 4 0) (os.getD 5 0))∧ρ=[some (.scr ns),some (.int i),some (.int m),some (.lst (Zbr.map D.str)),some (iD os),some (.int fl),some (.int gn),some (tD ks),o8,o9,o10,o11,o12,o13])
    (Rr:=fun r=>∃(ks:List Kd) (o8 o9 o10 o11 o12 o13:Option D),ks.length=(os.getD 0 0).toNat∧(∀x∈ks,Zsb x)∧ks.map (·.name)=(List.range ks.length).map (nameAt (os.getD 4 0) (os.getD 5 0))∧r=.ok (.nx [some (.scr ns),some (.int i),some (.int m),some (.lst (Zbr.map D.str)),some (iD os),some (.int fl),some (.int gn),some (tD ks),o8,o9,o10,o11,o12,o13]))
    ⟨[],none,none,none,none,none,none,rfl,(fun _ h=>nomatch h),rfl,rfl⟩ ?_ ?_
  · obtain ⟨ks,o8,o9,o10,o11,o12,o13,kl,kok,knm,e⟩:=key
    have k8:ks.length≤8:=by rw [kl];exact Int.toNat_le.mpr (Int.le_trans (Int.lt_add_one_iff.mp a0.2) m1)
    refine ⟨ks,?_,by rw [kl,Int.toNat_of_nonneg a0.1];exact Int.lt_add_one_iff.mp a0.2,kok,?_⟩
    · have b1:-1000000000≤os.getD 0 0∧os.getD 0 0≤1000000:=⟨Int.le_trans (by decide) a0.1,Int.le_trans (Int.lt_add_one_iff.mp a0.2) (Int.le_trans m1 (by decide))⟩
      have hp:Jk (.lst [.str ("a":Str),.str ("ab":Str),.str ("abc":Str),.str ("b":Str),.str ("ba":Str),.str ("z":Str),.str ("zzzzzzzz":Str),.str ("roll":Str),.str ("cut":Str),.str ("by":Str)]) (.lst [.str ("aab":Str),.str ("zz":Str),.str ("kind":Str),.str ("qsvw":Str),.str ("fghjmp":Str),.str ("x":Str)])=some (.lst (Zbr.map D.str)):=rfl
      have mr':Zco (.lst [.int 11,.int 40,.int 6]) (.int m)=_:=mr
      have ms':Jk (.lst [.int (m+1),.int 4,.int 4,.int 4,.int 16,.int 4]) (iD (List.replicate m.toNat [11,40,6]).flatten)=_:=ms_eq
      generalize iD ([m+1,4,4,4,16,4]++(List.replicate m.toNat [11,40,6]).flatten)=Mv at hos ms'
      generalize iD (List.replicate m.toNat [11,40,6]).flatten=Mw at mr' ms'
      exact Yx (Zp (Xl rfl) (Zp (Xl (Zn rfl rfl hp)) (Zp (Xl (Zq (Zc rfl (Zc rfl (Zc (Zn (Zag (Zc (Zn rfl rfl rfl) rfl) rfl) (Zn rfl rfl mr') ms') rfl))) hos))
        (Zp (Xl (Zbv (Zn (Zag (Zc rfl (Zc rfl (Zc rfl (Zc (Zn rfl rfl Zso) rfl)))) rfl) (Zn rfl rfl (ix 1 (hlo (by decide)) 1 rfl)) i1) rfl))
        (Zp (Xl (Zbv (Zn (Zag (Zc rfl (Zc rfl (Zc (Zn rfl rfl (show Zjv (.int 10) (.int 6)=some (.int 1000000) by simp)) (Zc (Zn rfl (Zn rfl rfl Xfa) (show Zco (.int 25) (.int 1000000000000000)=some (.int 25000000000000000) from Zqf (by decide) (by decide))) rfl)))) rfl) (Zn rfl rfl (ix 2 (hlo (by decide)) 2 rfl)) i2) rfl))
        (Zp (Xl rfl) (Zp (Zdu (Zty (Zc (Zn rfl rfl (ix 0 (hlo (by decide)) 0 rfl)) rfl) b1) e) (Yv rfl))))))))
    · rw [knm,List.nodup_iff_pairwise_ne,List.pairwise_map]
      refine List.Pairwise.imp_of_mem ?_ (List.nodup_iff_pairwise_ne.mp List.nodup_range)
      intro i j hi hj hij e
      have hi:=List.mem_range.mp hi
      have hj:=List.mem_range.mp hj
      exact hij (Ztu a5.1 a5.2 (lt_of_lt_of_le hi (le_trans k8 (by decide))) (lt_of_lt_of_le hj (le_trans k8 (by decide))) e)
  · rintro k x ρ hx ⟨ks,o8,o9,o10,o11,o12,o13,kl,kok,knm,rfl⟩
    obtain ⟨hk,rfl⟩:=Zfx hx
    rw [Int.zero_add]
    have hkm:k<m.toNat:=under hk a0.2
    obtain ⟨c1,c2,c3⟩:=b3 k hkm
    have j0:=ix (3*k+6) (by rw [hol];exact tri k 0 hkm (by decide)) (3*k+6) rfl
    have j1:=ix (3*k+7) (by rw [hol];exact tri k 1 hkm (by decide)) (3*k+6+1) (Int.add_assoc _ 6 1)
    have j2:=ix (3*k+8) (by rw [hol];exact tri k 2 hkm (by decide)) (3*k+6+2) (Int.add_assoc _ 6 2)
    have j3:=ix 3 (hlo (by decide)) 3 rfl
    have j4:=ix 4 (hlo (by decide)) 4 rfl
    have j5:=ix 5 (hlo (by decide)) 5 rfl
    obtain ⟨bw,hbw⟩:∃bw,bw=([150,200]:List Int).getD ((k:Int) % 2).toNat 0:=⟨_,rfl⟩
    have k2:0≤(k:Int) % 2∧(k:Int) % 2<2:=⟨emod_nonneg _ (by decide),emod_lt_of_pos _ (by decide)⟩
    have bw1:1≤bw∧bw≤200:=by
      rw [hbw]
      exact Zbm (P:=fun z=>1≤z∧z≤200) (by decide) (show _<2 from (toNat_lt k2.1).mpr k2.2)
    have ib:gIx (.lst [.int 150,.int 200]) (.int ((k:Int) % 2))=some (.int bw):=by rw [hbw];exact Zgs [150,200] k2.1 k2.2
    obtain ⟨wd,hwd⟩:∃wd,wd=([1,2,3,4,5,6,2,3,11,40,bw]:List Int).getD (os.getD (3*k+6) 0).toNat 0:=⟨_,rfl⟩
    have wd1:1≤wd∧wd≤200:=by
      rw [hwd]
      exact Zbm (P:=fun z=>1≤z∧z≤200) (Xen (l:=[1,2,3,4,5,6,2,3,11,40]) (by decide) bw1) (show _<11 from (toNat_lt c1.1).mpr c1.2)
    have iw:gIx (.lst [.int 1,.int 2,.int 3,.int 4,.int 5,.int 6,.int 2,.int 3,.int 11,.int 40,.int bw]) (.int (os.getD (3*k+6) 0))=some (.int wd):=by rw [hwd];exact Zgs [1,2,3,4,5,6,2,3,11,40,bw] c1.1 c1.2
    obtain ⟨am,ham⟩:∃am,am=([0,0,1,2,3,12]:List Int).getD (os.getD (3*k+8) 0).toNat 0:=⟨_,rfl⟩
    have am1:0≤am∧am≤12:=by
      rw [ham]
      exact Zbm (P:=fun z=>0≤z∧z≤12) (by decide) (show _<6 from (toNat_lt c3.1).mpr c3.2)
    have ia:gIx (.lst [.int 0,.int 0,.int 1,.int 2,.int 3,.int 12]) (.int (os.getD (3*k+8) 0))=some (.int am):=by rw [ham];exact Zgs [0,0,1,2,3,12] c3.1 c3.2
    have iN:=Xjq (i:=(os.getD 4 0+(2*os.getD 5 0+1)*(k:Int)) % 16) (emod_nonneg _ (by decide)) (emod_lt_of_pos _ (by decide))
    have sl:(ks.map kD).length<lim:=by rw [length_map,kl];exact lt_of_lt_of_le hkm (le_trans m8 (by decide))
    obtain ⟨wo,wo1,turn⟩:=Xbo (d0:=some (.scr ns)) (d1:=some (.int i)) (d2:=some (.int m)) (o9:=o9) (o10:=o10) (o11:=o11) (o12:=o12) (o13:=o13) (fl:=fl) (gn:=gn) j0 j1 j2 j3 j4 j5 ib iw ia iN wd1 c2 a3 a5 am1 sl
    have pr:0≤am*fl:=mul_nonneg am1.1 (Int.le_trans (by decide) fl1.1)
    have wg:1≤wo*gn:=Int.mul_le_mul wo1.1 gn1.1 (by decide) (Int.le_trans (by decide) wo1.1)
    have kd:Zsb ⟨nameAt (os.getD 4 0) (os.getD 5 0) k,wd,min (wo*gn) 1000000000000000000,min (am*fl) 999999999999999999⟩:=⟨Zti _ _ _,wd1.1,wd1.2,Int.le_min.mpr ⟨wg,by decide⟩,Int.min_le_right _ _,Int.le_min.mpr ⟨pr,by decide⟩,Int.lt_of_le_of_lt (Int.min_le_right _ _) (by decide)⟩
    refine ⟨_,rfl,.inl ⟨[some (.scr ns),some (.int i),some (.int m),some (.lst (Zbr.map D.str)),some (iD os),some (.int fl),some (.int gn),some (tD (ks++[⟨nameAt (os.getD 4 0) (os.getD 5 0) k,wd,min (wo*gn) 1000000000000000000,min (am*fl) 999999999999999999⟩])),some (.int k),some (.int (3*k+6)),some (.int wd),some (.int wo),some (.int (min (am*fl) 999999999999999999)),some (.str (nameAt (os.getD 4 0) (os.getD 5 0) k))],.inl ?_,_,_,_,_,_,_,_,?_,?_,?_,rfl⟩⟩
    · rw [show tD (ks++[⟨nameAt (os.getD 4 0) (os.getD 5 0) k,wd,min (wo*gn) 1000000000000000000,min (am*fl) 999999999999999999⟩])=.lst (ks.map kD++[.tup [.str (nameAt (os.getD 4 0) (os.getD 5 0) k),.int wd,.int (min (wo*gn) 1000000000000000000),.int (min (am*fl) 999999999999999999)]]) from congrArg D.lst map_append]
      exact turn
    · rw [length_append,kl];rfl
    · intro x hx
      rcases List.mem_append.mp hx with h | h
      · exact kok x h
      · rw [List.mem_singleton.mp h];exact kd
    · rw [map_append,knm,List.range_succ,map_append]
      rfl
  · rintro ρ ⟨ks,o8,o9,o10,o11,o12,o13,kl,kok,knm,rfl⟩
    rw [Jj] at kl
    exact ⟨ks,o8,o9,o10,o11,o12,o13,kl,kok,by rw [kl];rw [Jj] at knm;exact knm,rfl⟩
theorem Xhg (ns:List Int)(hn:ns.length≤63){i m:Int}(h0:0≤i)(h1:i<1000)(m0:0≤m)(m1:m≤1000):∃fl:Int,Zav [.scr ns,.int i,.int m]=.ok (.int fl)∧1≤fl∧fl≤100000000000000000:=by
 obtain ⟨os,hos,R⟩:=Zqs ns hn h0 h1 [m+1,4] (by decide:2≤1000) (Zoh (List.forall_mem_cons.mpr ⟨⟨by omega,by omega⟩,by decide⟩))
 have hol:os.length=2:=R.len
 have a1:0≤os.getD 1 0∧os.getD 1 0<4:=R.at_ 1 (by decide:1<2)
 obtain ⟨fl,hfl⟩:∃fl,fl=([1,1,7,100000000000000000]:List Int).getD (os.getD 1 0).toNat 0:=⟨_,rfl⟩
 have fl1:1≤fl∧fl≤100000000000000000:=by
  rw [hfl]
  exact Zbm (P:=fun z=>1≤z∧z≤100000000000000000) (by decide) (show _<4 from (toNat_lt a1.1).mpr a1.2)
 have i1:gIx (.lst [.int 1,.int 1,.int 7,.int 100000000000000000]) (.int (os.getD 1 0))=some (.int fl):=by rw [hfl];exact Zgs [1,1,7,100000000000000000] a1.1 a1.2
 have i0:=Zak (ns:=os) (i:=1) (k:=1) rfl (by rw [hol];decide)
 exact ⟨fl,Yx (Yv (Zbv (Zn (Zag (Zc rfl (Zc rfl (Zc rfl (Zc (Zn rfl rfl Zso) rfl)))) rfl) (Zn (Zq (Zc rfl (Zc rfl (Zc (Zag (Zc (Zn rfl rfl rfl) rfl) rfl) rfl))) hos) rfl i0) i1) rfl)),fl1⟩
theorem Xlk (ns:List Int)(hn:ns.length≤63){i m fl:Int}(h0:0≤i)(h1:i<1000)(m0:0≤m)(m1:m≤200)(f0:1≤fl)(f1:fl≤100000000000000000):∃ws,Zat [.scr ns,.int i,.int m,.int fl]=.ok (iD ws)∧(ws.length:Int)≤m∧∀w∈ws,0≤w∧w≤1000000000000000000:=by
  have ms_eq:Jk (iD [m+1,4,3]) (iD (List.replicate m.toNat [8,5]).flatten)=some (iD ([m+1,4,3]++(List.replicate m.toNat [8,5]).flatten)):=Zkv (by
    rw [Zhz]
    show 3+m.toNat*2≤1000000
    omega)
  have mr:=Zwc (ws:=[8,5]) m0 (show m≤200 by omega) (by decide)
  have hml:([m+1,4,3]++(List.replicate m.toNat [(8:Int),5]).flatten).length=3+m.toNat*2:=by rw [length_append,Zhz];rfl
  obtain ⟨os,hos,R⟩:=Zqs ns hn h0 h1 ([m+1,4,3]++(List.replicate m.toNat [8,5]).flatten) (by omega) (Zoh (List.forall_mem_append.mpr ⟨List.forall_mem_cons.mpr ⟨⟨by omega,by omega⟩,by decide⟩,fun z hz=>(by decide:∀z∈[(8:Int),5],0<z∧z≤1000000) z (Zwf hz)⟩))
  have hol:os.length=3+m.toNat*2:=by rw [R.len,hml]
  have hlt:∀{j:Nat},j<3→j<([m+1,4,3]++(List.replicate m.toNat [(8:Int),5]).flatten).length:=fun h=>by rw [hml];exact lt_of_lt_of_le h (le_add_right _ _)
  have hlo:∀{j:Nat},j<3→j<os.length:=fun h=>by rw [hol];exact lt_of_lt_of_le h (le_add_right _ _)
  have tri:∀k j:Nat,k<m.toNat→j<2→2*k+(j+3)<3+m.toNat*2:=fun k j h hj=>by omega
  have a0:0≤os.getD 0 0∧os.getD 0 0<m+1:=R.at_ 0 (hlt (by decide))
  have a1:0≤os.getD 1 0∧os.getD 1 0<4:=R.at_ 1 (hlt (by decide))
  have a2:0≤os.getD 2 0∧os.getD 2 0<3:=R.at_ 2 (hlt (by decide))
  have b2:∀k:Nat,k<m.toNat→(0≤os.getD (2*k+3) 0∧os.getD (2*k+3) 0<8)∧(0≤os.getD (2*k+4) 0∧os.getD (2*k+4) 0<5):=fun k hk=>by
    obtain ⟨g1,g2⟩:=Zrl 8 5 m.toNat k hk
    have e:∀j:Nat,([m+1,4,3]++(List.replicate m.toNat [(8:Int),5]).flatten).getD (j+3) 0=(List.replicate m.toNat [(8:Int),5]).flatten.getD j 0:=fun j=>rfl
    have r1:=R.at_ (2*k+3) (by rw [hml];exact tri k 0 hk (by decide))
    have r2:=R.at_ (2*k+4) (by rw [hml];exact tri k 1 hk (by decide))
    rw [e (2*k),g1] at r1
    rw [show 2*k+4=(2*k+1)+3 from rfl,e (2*k+1),g2] at r2
    exact ⟨r1,r2⟩
  have ix:∀k:Nat,k<os.length→∀j:Int,j=(k:Int)→gIx (.lst (os.map D.int)) (.int j)=some (.int (os.getD k 0)):=fun k hk j e=>Zak e hk
  obtain ⟨gr,hgr,gr1⟩:∃gr:Int,gr=(if os.getD 2 0=0 then 1000000000000000000 else 9*fl)∧0≤gr∧gr≤1000000000000000000:=by
    refine ⟨_,rfl,?_⟩
    split
    · exact ⟨by decide,by decide⟩
    · exact ⟨mul_nonneg (by decide) (Int.le_trans (by decide) f0),Int.le_trans (Int.mul_le_mul_of_nonneg_left f1 (by decide)) (by decide)⟩
  obtain ⟨th,hth⟩:∃th,th=([0,1,3,6]:List Int).getD (os.getD 1 0).toNat 0:=⟨_,rfl⟩
  have ith:gIx (.lst [.int 0,.int 1,.int 3,.int 6]) (.int (os.getD 1 0))=some (.int th):=by rw [hth];exact Zgs [0,1,3,6] a1.1 a1.2
  have key:=Zcb (b:=Xb 7) (s:=Zem) (xs:=Zdt 0 (os.getD 0 0).toNat) (ρ:=[some (.scr ns),some (.int i),some (.int m),some (.int fl),some (iD os),some (.int gr),some (.lst []),none,none,none])
    (P:=fun k ρ=>∃(ws:List Int) (o7 o8 o9:Option D),ws.length=k∧(∀x∈ws,0≤x∧x≤1000000000000000000)∧ρ=[some (.scr ns),some (.int i),some (.int m),some (.int fl),some (iD os),some (.int gr),some (iD ws),o7,o8,o9])
    (Rr:=fun r=>∃(ws:List Int) (o7 o8 o9:Option D),ws.length=(os.getD 0 0).toNat∧(∀x∈ws,0≤x∧x≤1000000000000000000)∧r=.ok (.nx [some (.scr ns),some (.int i),some (.int m),some (.int fl),some (iD os),some (.int gr),some (iD ws),o7,o8,o9]))
    ⟨[],none,none,none,rfl,(fun _ h=>nomatch h),rfl⟩ ?_ ?_
  · obtain ⟨ws,o7,o8,o9,wl,wok,e⟩:=key
    refine ⟨ws,?_,by omega,wok⟩
    have b1:-1000000000≤os.getD 0 0∧os.getD 0 0≤1000000:=by omega
    have mr':Zco (.lst [.int 8,.int 5]) (.int m)=_:=mr
    have ms':Jk (.lst [.int (m+1),.int 4,.int 3]) (iD (List.replicate m.toNat [8,5]).flatten)=_:=ms_eq
    generalize iD ([m+1,4,3]++(List.replicate m.toNat [8,5]).flatten)=Mv at hos ms'
    generalize iD (List.replicate m.toNat [8,5]).flatten=Mw at mr' ms'
    have t1:Zco (.int 9) (.int fl)=some (.int (9*fl)):=Zqf (by decide) (by decide)
    have body:∀Q r,Q [some (.scr ns),some (.int i),some (.int m),some (.int fl),some (iD os),some (.int gr),none,none,none,none]=r→(Xw (Yr 5 (f2 Zco (fC (.int 9)) (fV 3))) (Xw (sIf (cE (f2 gEq (f2 gIx (fV 4) (fC (.int 2))) (fC (.int 0)))) (Yr 5 (f2 Zjv (fC (.int 10)) (fC (.int 18)))) sNx) Q)) [some (.scr ns),some (.int i),some (.int m),some (.int fl),some (iD os),none,none,none,none,none]=r:=fun Q r h=>by
      have c:∀z:Option D,(cE (f2 gEq (f2 gIx (fV 4) (fC (.int 2))) (fC (.int 0)))) [some (.scr ns),some (.int i),some (.int m),some (.int fl),some (iD os),z,none,none,none,none]=.ok (os.getD 2 0==0):=fun z=>Jg (Zn (Zn rfl rfl (ix 2 (hlo (by decide)) 2 rfl)) rfl rfl)
      by_cases d:os.getD 2 0=0
      · rw [if_pos d] at hgr
        exact Zp (Xl (Zn rfl rfl t1)) (Zp (Zbw ((c _).trans (by rw [d];rfl)) (Xl (Zn rfl rfl Zhc))) (by rw [hgr] at h;exact h))
      · rw [if_neg d] at hgr
        exact Zp (Xl (Zn rfl rfl t1)) (Zp (Yq ((c _).trans (congrArg Dl.R.ok (beq_false_of_ne d))) rfl) (by rw [hgr] at h;exact h))
    exact Yx (Zp (Xl (Zq (Zc rfl (Zc rfl (Zc (Zn (Zag (Zc (Zn rfl rfl rfl) rfl) rfl) (Zn rfl rfl mr') ms') rfl))) hos)) (body _ _ (Zp (Xl rfl) (Zp (Zdu (Zty (Zc (Zn rfl rfl (ix 0 (hlo (by decide)) 0 rfl)) rfl) b1) e) (Yv rfl)))))
  · rintro k x ρ hx ⟨ws,o7,o8,o9,wl,wok,rfl⟩
    obtain ⟨hk,rfl⟩:=Zfx hx
    rw [Int.zero_add]
    have hkm:k<m.toNat:=under hk a0.2
    obtain ⟨c1,c2⟩:=b2 k hkm
    have j0:=ix (2*k+3) (by rw [hol];exact tri k 0 hkm (by decide)) (2*k+3) rfl
    have j1:=ix (2*k+4) (by rw [hol];exact tri k 1 hkm (by decide)) (2*k+3+1) (Int.add_assoc _ 3 1)
    have jj:=ix 1 (hlo (by decide)) 1 rfl
    have sl:ws.length<lim:=by show _<1000000;omega
    obtain ⟨wt,hwt⟩:∃wt,wt=([fl,fl,2*fl,3*fl,gr]:List Int).getD (os.getD (2*k+4) 0).toNat 0:=⟨_,rfl⟩
    have wt1:0≤wt∧wt≤1000000000000000000:=by
      rw [hwt]
      have g:∀n:Int,1≤n→n≤3→0≤n*fl∧n*fl≤1000000000000000000:=fun n n0 n1=>⟨mul_nonneg (Int.le_trans (by decide) n0) (Int.le_trans (by decide) f0),Int.le_trans (Int.mul_le_mul n1 f1 (Int.le_trans (by decide) f0) (by decide)) (by decide)⟩
      have g1:0≤fl∧fl≤1000000000000000000:=⟨Int.le_trans (by decide) f0,Int.le_trans f1 (by decide)⟩
      exact Zbm (P:=fun z=>0≤z∧z≤1000000000000000000) (List.forall_mem_cons.mpr ⟨g1,List.forall_mem_cons.mpr ⟨g1,List.forall_mem_cons.mpr ⟨g 2 (by decide) (by decide),List.forall_mem_cons.mpr ⟨g 3 (by decide) (by decide),List.forall_mem_cons.mpr ⟨gr1,fun _ h=>nomatch h⟩⟩⟩⟩⟩) (show _<5 from (toNat_lt c2.1).mpr c2.2)
    have iw:gIx (.lst [.int fl,.int fl,.int (2*fl),.int (3*fl),.int gr]) (.int (os.getD (2*k+4) 0))=some (.int wt):=by rw [hwt];exact Zgs [fl,fl,2*fl,3*fl,gr] c2.1 c2.2
    have t1:Zco (.int 2) (.int fl)=some (.int (2*fl)):=Zqf (by decide) (by decide)
    have t2:Zco (.int 3) (.int fl)=some (.int (3*fl)):=Zqf (by decide) (by decide)
    have t3:Zco (.int 2) (.int (k:Int))=some (.int (2*k)):=Zqf (by decide) (by decide)
    have c:(cE (f2 gLt (f2 gIx (fV 4) (fV 8)) (f2 gIx (fA Jy (Zd (fC (.int 0)) (Zd (fC (.int 1)) (Zd (fC (.int 3)) (Zd (fC (.int 6)) Zu))))) (f2 gIx (fV 4) (fC (.int 1)))))) [some (.scr ns),some (.int i),some (.int m),some (.int fl),some (iD os),some (.int gr),some (iD ws),some (.int k),some (.int (2*k+3)),some (.int 0)]=.ok (decide (os.getD (2*k+3) 0<th)):=Jg (Zn (Zn rfl rfl j0) (Zn rfl (Zn rfl rfl jj) ith) (by simp))
    have sl':(ws.map D.int).length<lim:=by rw [length_map];exact sl
    have all:∀z:Int,0≤z∧z≤1000000000000000000→∀x∈ws++[z],0≤x∧x≤1000000000000000000:=fun z hz x hx=>by
      rcases List.mem_append.mp hx with h | h
      · exact wok x h
      · rw [List.mem_singleton.mp h];exact hz
    refine ⟨_,rfl,.inl ?_⟩
    by_cases d:os.getD (2*k+3) 0<th
    · refine ⟨[some (.scr ns),some (.int i),some (.int m),some (.int fl),some (iD os),some (.int gr),some (iD (ws++[wt])),some (.int k),some (.int (2*k+3)),some (.int wt)],.inl ?_,_,_,_,_,by rw [length_append,wl];rfl,all wt wt1,rfl⟩
      rw [show iD (ws++[wt])=.lst (ws.map D.int++[.int wt]) from congrArg D.lst map_append]
      exact Zp (Xl (Zn (Zn rfl rfl t3) rfl rfl)) (Zp (Xl rfl) (Zp (Zbw (c.trans (congrArg Dl.R.ok (decide_eq_true d))) (Xl (Zbv (Zn (Zag (Zc rfl (Zc rfl (Zc (Zn rfl rfl t1) (Zc (Zn rfl rfl t2) rfl)))) rfl) (Zn rfl (Zn rfl rfl rfl) j1) iw) rfl))) (Zfd rfl (Zbv rfl rfl) sl')))
    · refine ⟨[some (.scr ns),some (.int i),some (.int m),some (.int fl),some (iD os),some (.int gr),some (iD (ws++[0])),some (.int k),some (.int (2*k+3)),some (.int 0)],.inl ?_,_,_,_,_,by rw [length_append,wl];rfl,all 0 ⟨by decide,by decide⟩,rfl⟩
      rw [show iD (ws++[0])=.lst (ws.map D.int++[.int 0]) from congrArg D.lst map_append]
      exact Zp (Xl (Zn (Zn rfl rfl t3) rfl rfl)) (Zp (Xl rfl) (Zp (Yq (c.trans (congrArg Dl.R.ok (decide_eq_false d))) rfl) (Zfd rfl (Zbv rfl rfl) sl')))
  · rintro ρ ⟨ws,o7,o8,o9,wl,wok,rfl⟩
    rw [Jj] at wl
    exact ⟨ws,o7,o8,o9,wl,wok,rfl⟩
theorem Xcv (ns:List Int)(hn:ns.length≤63){i m c:Int}(h0:0≤i)(h1:i<900)(m0:0≤m)(m1:m≤200)(c0:0≤c)(c1:c≤8):∃ws ks,Jn [.scr ns,.int i,.int m,.int c]=.ok (.tup [iD ws,tD ks])∧(ws.length:Int)≤m∧(∀w∈ws,0≤w∧w≤1000000000000000000)∧(ks.length:Int)≤c∧Xnh ks:=by
 obtain ⟨fl,e1,f0,f1⟩:=Xhg ns hn h0 (show i<1000 by omega) c0 (show c≤1000 by omega)
 obtain ⟨ws,e2,w1,w2⟩:=Xlk ns hn (i:=i+1) (by omega) (by omega) m0 m1 f0 f1
 obtain ⟨ks,e3,k1,k2⟩:=Xcj ns hn h0 (show i<1000 by omega) c0 c1
 exact ⟨ws,ks,Yx (Zp (Xl (Zq (Zc rfl (Zc rfl (Zc rfl rfl))) e1)) (Yv (Zag (Zc (Zq (Zc rfl (Zc (Zn rfl rfl rfl) (Zc rfl (Zc rfl rfl)))) e2) (Zc (Zq (Zc rfl (Zc rfl (Zc rfl rfl))) e3) rfl)) rfl))),w1,w2,k1,k2⟩
end Dl
namespace Dl
noncomputable def S:Nat→(Nat→Int)→Int
 | 0,_=>0
 | n+1,f=>S n f+f n
theorem Jb {n:Nat}{f g:Nat→Int}(h:∀i,i<n→f i=g i):S n f=S n g:=by
 induction n with
 | zero=>rfl
 | succ n ih=>rw [S,S,ih fun i hi=>h i (by omega),h n (by omega)]
theorem Zxi (n:Nat)(f g:Nat→Int):S n f+S n g=S n fun i=>f i+g i:=by
 induction n with
 | zero=>rfl
 | succ n ih=>simp only [S];rw [← ih];omega
theorem Xra (n:Nat)(c:Int)(f:Nat→Int):c*S n f=S n fun i=>c*f i:=by
 induction n with
 | zero=>simp [S]
 | succ n ih=>simp only [S];rw [← ih,mul_add]
theorem Zjy {n:Nat}{f:Nat→Int}(h:∀i,i<n→f i=0):S n f=0:=by
 induction n with
 | zero=>rfl
 | succ n ih=>rw [S,ih fun i hi=>h i (by omega),h n (by omega)];rfl
theorem Zxm (n:Nat)(f:Nat→Int):S (n+1) f=f 0+S n fun i=>f (i+1):=by
 induction n with
 | zero=>simp [S]
 | succ n ih=>rw [S,ih,S];omega
theorem Xpv (n:Nat)(f:Nat→Int):S n f=S n fun i=>f (n - 1 - i):=by
 induction n generalizing f with
 | zero=>rfl
 | succ n ih =>
  rw [Zxm]
  rw [ih fun i=>f (i+1)]
  rw [S]
  have e:S n (fun i=>f (n+1 - 1 - i))=S n fun i=>f (n - 1 - i+1):=Jb fun i hi=>by congr 1;omega
  rw [e,show n+1 - 1 - n=0 by omega]
  omega
theorem Xee {n k:Nat}(hk:k<n)(v:Int):S n (fun i=>if i=k then v else 0)=v:=by
 induction n with
 | zero=>omega
 | succ n ih =>
  rw [S]
  by_cases h:k<n
  ·rw [ih h,if_neg (by omega)];omega
  ·have:n=k:=by omega
   subst this
   rw [Zjy fun i hi=>if_neg (by omega),if_pos rfl];omega
theorem Xgk (T:Nat→Nat→Int):∀d,S d (fun i=>S (i+1) fun l=>T (i - l) l)=S d fun m=>S (d - m) fun l=>T m l
 | 0=>rfl
 | d+1=>by
  rw [S,Xgk T d]
  have h1:S (d+1) (fun m=>S (d+1 - m) fun l=>T m l)=S (d+1) fun m=>(if m<d then S (d - m) fun l=>T m l else 0)+T m (d - m):=Jb fun m hm=>by
   by_cases h:m<d
   ·rw [if_pos h,show d+1 - m=(d - m)+1 by omega,S]
   ·have e:m=d:=by omega
    subst e
    rw [if_neg h,show m+1 - m=0+1 by omega,sub_self]
    simp [S]
  have h0:S (d+1) (fun m=>if m<d then S (d - m) fun l=>T m l else 0)=S d fun m=>if m<d then S (d - m) fun l=>T m l else 0:=by
   rw [S,if_neg (by omega)]
   omega
  rw [h1,← Zxi,h0]
  have h2:S d (fun m=>if m<d then S (d - m) fun l=>T m l else 0)=S d fun m=>S (d - m) fun l=>T m l:=Jb fun m hm=>if_pos hm
  have h3:S (d+1) (fun l=>T (d - l) l)=S (d+1) fun m=>T m (d - m):=by
   rw [Xpv]
   exact Jb fun i hi=>by
    have e1:d - (d+1 - 1 - i)=i:=by omega
    have e2:d+1 - 1 - i=d - i:=by omega
    rw [e1,e2]
  rw [h2,h3]
noncomputable def pth (e:Nat→Nat→Int)(a:Nat):Nat→List Int
 | 0=>[1]
 | d+1=>pth e a d++[S (d+1) fun i=>e (a+i) (a+d+1)*(pth e a d).getD i 0]
noncomputable def W (e:Nat→Nat→Int)(a d:Nat):Int:=(pth e a d).getD d 0
theorem Zoz (e:Nat→Nat→Int)(a:Nat):∀d,(pth e a d).length=d+1
 | 0=>rfl
 | d+1=>by rw [pth,length_append,Zoz e a d];rfl
theorem Xgt (e:Nat→Nat→Int)(a:Nat):∀(d i:Nat),i≤d→(pth e a d).getD i 0=W e a i
 | 0,i,h=>by
  have:i=0:=by omega
  subst this
  rfl
 | d+1,i,h=>by
  by_cases q:i=d+1
  ·subst q;rfl
  ·rw [pth]
   have hl:=Zoz e a d
   have hi:i<(pth e a d).length:=by omega
   have:∀x:Int,(pth e a d++[x]).getD i 0=(pth e a d).getD i 0:=fun x=>by simp [List.getD,getElem?_append_left hi]
   rw [this]
   exact Xgt e a d i (by omega)
theorem Zmn (e:Nat→Nat→Int)(a d:Nat):W e a (d+1)=S (d+1) fun i=>e (a+i) (a+d+1)*W e a i:=by
 have hl:=Zoz e a d
 have h:∀x:Int,(pth e a d++[x]).getD (d+1) 0=x:=fun x=>by simp [List.getD,← hl]
 unfold W
 rw [pth,h]
 exact Jb fun i hi=>by rw [Xgt e a d i (by omega)];rfl
theorem Zkp (e:Nat→Nat→Int):∀(d a:Nat),W e a (d+1)=S (d+1) fun i=>e a (a+d+1 - i)*W e (a+d+1 - i) i:=by
 intro d
 induction d using Nat.strongRecOn with
 | ind d ih =>
  intro a
  rw [Zmn,Zxm,Zxm]
  congr 1
  have h1:S d (fun i=>e (a+(i+1)) (a+d+1)*W e a (i+1))=S d fun i=>S (i+1) fun l=>(fun m l=>e (a+m+l+1) (a+d+1)*(e a (a+m+1)*W e (a+m+1) l)) (i - l) l:=Jb fun i hi=>by
   rw [ih i hi a,Xra]
   refine Jb fun l hl=>?_
   simp only []
   have e1:a+(i+1)=a+(i - l)+l+1:=by omega
   have e2:a+i+1 - l=a+(i - l)+1:=by omega
   rw [e1,e2]
  have h2:S d (fun i=>e a (a+d+1 - (i+1))*W e (a+d+1 - (i+1)) (i+1))=S d fun m=>S (d - m) fun l=>(fun m l=>e (a+m+l+1) (a+d+1)*(e a (a+m+1)*W e (a+m+1) l)) m l:=by
   rw [Xpv]
   refine Jb fun m hm=>?_
   have e1:a+d+1 - (d - 1 - m+1)=a+m+1:=by omega
   have e2:d - 1 - m+1=(d - m - 1)+1:=by omega
   rw [e1,e2,Zmn,Xra]
   have e3:d - m - 1+1=d - m:=by omega
   rw [e3]
   refine Jb fun l hl=>?_
   simp only []
   have e4:a+m+1+l=a+m+l+1:=by omega
   have e5:a+m+1+(d - m - 1)+1=a+d+1:=by omega
   rw [e4,e5]
   rw [← Int.mul_assoc,← Int.mul_assoc,Int.mul_comm (e a (a+m+1))]
  rw [h1,h2]
  exact Xgk (fun m l=>e (a+m+l+1) (a+d+1)*(e a (a+m+1)*W e (a+m+1) l)) d
theorem Xgc {e e':Nat→Nat→Int}{M:Nat}(h:∀x y,x<y→y≤M→e' x y=e (M - y) (M - x)):∀(d a:Nat),a+d≤M→W e' (M - a - d) d=W e a d:=by
 intro d
 induction d using Nat.strongRecOn with
 | ind d ih =>
  intro a ha
  cases d with
  | zero=>rfl
  | succ d =>
   rw [Zmn,Zkp]
   refine Jb fun i hi=>?_
   rw [h _ _ (by omega) (by omega)]
   have e1:M - (M - a - (d+1)+d+1)=a:=by omega
   have e2:M - (M - a - (d+1)+i)=a+d+1 - i:=by omega
   have e3:=ih i (by omega) (a+d+1 - i) (by omega)
   rw [show M - (a+d+1 - i) - i=M - a - (d+1) by omega] at e3
   rw [e1,e2,e3]
end Dl
namespace Dl
open PySem
theorem Zct (ns:List Int)(ks:List Kd)(e:Int)(hk:ks.length≤1000)(hw:∀k∈ks,1≤k.w):Yg [iD ns,tD ks,.int e]=.ok (tD (ks.filter fun k=>good ns k (e - k.w))):=by
 have hl:ks.length≤lim:=by show _≤1000000;omega
 have hc:=Xat (n:=3) (ρ:=[some (iD ns),some (tD ks),some (.int e)]) (enc:=kD) (p:=fun k=>good ns k (e - k.w)) (v:=kD) (xs:=ks)
  (c:=cE (Zx Zgf (Zd (fV 0) (Zd (fV 3) (Zd (f2 Zgt (fV 2) (f2 gIx (fV 3) (fC (.int 1)))) Zu))))) (e:=f1 Xr (fV 3)) rfl fun k hk=>by
   constructor
   ·simp [Zza ns k (e - k.w) (hw k hk)]
   ·intro _;simp
 simp [Yg,Zrn,tD,hl] at hc ⊢
 simp [hc]
noncomputable def Zik (ns:List Int)(ks:List Kd)(cs:List Int):Int:=cs.getD (cs.length - 1) 0+((ks.filter fun k=>good ns k ((cs.length:Int) - k.w)).map fun k=>cs.getD ((cs.length:Int) - k.w).toNat 0).sum
noncomputable def Zeg (ns:List Int)(ks:List Kd):Nat→List Int
 | 0=>[1]
 | j+1=>Zeg ns ks j++[Zik ns ks (Zeg ns ks j)]
theorem Zfb (ns:List Int)(ks:List Kd):∀j,(Zeg ns ks j).length=j+1
 | 0=>rfl
 | j+1=>by rw [Zeg,length_append,Zfb ns ks j];rfl
noncomputable def cnt (ns:List Int)(ks:List Kd)(j:Nat):Int:=(Zeg ns ks j).getD j 0
theorem Zvw (ns:List Int)(ks:List Kd):∀(j i:Nat),i≤j→(Zeg ns ks j).getD i 0=cnt ns ks i
 | 0,i,h=>by
  have:i=0:=by omega
  subst this
  rfl
 | j+1,i,h=>by
  by_cases e:i=j+1
  ·subst e;rfl
  ·rw [Zeg]
   have hl:=Zfb ns ks j
   have:(Zeg ns ks j++[Zik ns ks (Zeg ns ks j)]).getD i 0=(Zeg ns ks j).getD i 0:=by
    have:i<(Zeg ns ks j).length:=by omega
    simp [List.getD,getElem?_append_left this]
   rw [this]
   exact Zvw ns ks j i (by omega)
theorem Xj {ns:List Int}{k:Kd}{p:Int}(h:good ns k p=true):0≤p∧p+k.w≤ns.length:=by
 have:=of_decide_eq_true h
 exact ⟨this.1,this.2.1⟩
theorem Xcl (ns:List Int)(ks:List Kd):cnt ns ks 0=1:=rfl
theorem Zkr (ns:List Int)(ks:List Kd)(hw:∀k∈ks,1≤k.w)(j:Nat):cnt ns ks (j+1)=cnt ns ks j+((ks.filter fun k=>good ns k ((j+1:Nat) - k.w)).map fun k=>cnt ns ks (((j+1:Nat):Int) - k.w).toNat).sum:=by
 have hl:=Zfb ns ks j
 have e:cnt ns ks (j+1)=Zik ns ks (Zeg ns ks j):=by
  unfold cnt
  rw [Zeg]
  simp [List.getD,← hl]
 rw [e]
 unfold Zik
 rw [hl]
 congr 1
 congr 1
 refine map_congr_left fun k hk=>?_
 obtain ⟨hk,hg⟩:=List.mem_filter.mp hk
 have:=Xj hg
 have:=hw k hk
 exact Zvw ns ks j _ (by omega)
theorem Zeh {ns:List Int}{j:Nat}(h:ns.length=j+1):gIx (.lst (ns.map D.int)) (.int (-1))=some (.int (ns.getD j 0)):=by
 rw [Zkt (by intro z;rw [z] at h;simp at h),h,add_sub_cancel]
theorem Zex (ns:List Int)(ks:List Kd)(hn:ns.length≤1000)(hk:ks.length≤1000)(hw:∀k∈ks,1≤k.w):Xi [iD ns,tD ks]=.ok (.int (cnt ns ks ns.length)):=by
 have hf:=Zcb (b:=Xb 3) (s:=Jw) (xs:=Zdt 1 ns.length) (ρ:=[some (iD ns),some (tD ks),some (.lst [.int 1]),none,none])
  (P:=fun j ρ=>∃o3 o4,ρ=[some (iD ns),some (tD ks),some (iD (Zeg ns ks j)),o3,o4]) (Rr:=fun r=>∃o3 o4,r=.ok (.nx [some (iD ns),some (tD ks),some (iD (Zeg ns ks ns.length)),o3,o4])) ⟨none,none,rfl⟩ ?_ ?_
 ·obtain ⟨o3,o4,e⟩:=hf
  have hl:=Zfb ns ks ns.length
  have b:=Ziu (i:=1) (j:=(ns.length:Int)+1) (n:=ns.length) (by omega) (by omega) (by omega) (by omega) (by omega) (by omega)
  have i1:=Zeh hl
  simp only [iD] at e
  simp [-getD_eq_getElem?_getD,Xi,Zcs,iD,b,e,i1,cnt]
 ·rintro j x ρ hx ⟨o3,o4,rfl⟩
  obtain ⟨hj,rfl⟩:=Zfx hx
  have hl:=Zfb ns ks j
  have hi:(1:Int)+j=((j+1:Nat):Int):=by omega
  rw [hi]
  have he:=Zct ns ks ((j+1:Nat):Int) hk hw
  have hle:=length_filter_le (fun k=>good ns k (((j+1:Nat):Int) - k.w)) ks
  have hlim:(ks.filter fun k=>good ns k (((j+1:Nat):Int) - k.w)).length≤lim:=by show _≤1000000;omega
  generalize hfl:(ks.filter fun k=>good ns k (((j+1:Nat):Int) - k.w))=fs at he hlim
  have hc:=Zlr (n:=5) (ρ:=[some (iD ns),some (tD ks),some (iD (Zeg ns ks j)),some (.int ((j+1:Nat):Int)),o4]) (enc:=kD) (v:=fun k=>.int ((Zeg ns ks j).getD (((j+1:Nat):Int) - k.w).toNat 0)) (xs:=fs) (e:=f1 Xr (f2 gIx (fV 2) (f2 Zgt (fV 3) (f2 gIx (fV 5) (fC (.int 1)))))) rfl fun k hkf=>by
   rw [← hfl] at hkf
   obtain ⟨hk',hg⟩:=List.mem_filter.mp hkf
   have:=Xj hg
   have:=hw k hk'
   have i1:=Zak (ns:=Zeg ns ks j) (i:=((j+1:Nat):Int) - k.w) (k:=(((j+1:Nat):Int) - k.w).toNat) (by omega) (by omega)
   simp only [iD]
   simp only [natCast_add,Int.cast_ofNat_Int] at i1
   simp [-getD_eq_getElem?_getD,i1]
  have hcc:(fs.map fun k=>D.int ((Zeg ns ks j).getD (((j+1:Nat):Int) - k.w).toNat 0))=(fs.map fun k=>(Zeg ns ks j).getD (((j+1:Nat):Int) - k.w).toNat 0).map D.int:=by rw [map_map];rfl
  rw [hcc] at hc
  have i1:=Zeh hl
  have sl:(Zeg ns ks j).length<lim:=by show _<1000000;omega
  refine ⟨_,rfl,.inl ⟨[some (iD ns),some (tD ks),some (iD (Zeg ns ks (j+1))),some (.int ((j+1:Nat):Int)),some (iD (fs.map fun k=>(Zeg ns ks j).getD (((j+1:Nat):Int) - k.w).toNat 0))],.inl ?_,_,_,rfl⟩⟩
  have es:Zeg ns ks (j+1)=Zeg ns ks j++[(Zeg ns ks j).getD j 0+(fs.map fun k=>(Zeg ns ks j).getD (((j+1:Nat):Int) - k.w).toNat 0).sum]:=by
   rw [Zeg]
   unfold Zik
   rw [hl,hfl,add_sub_cancel]
  rw [es]
  generalize (fs.map fun k=>(Zeg ns ks j).getD (((j+1:Nat):Int) - k.w).toNat 0)=vs at hc
  simp only [tD,iD] at he hc
  generalize ((j+1:Nat):Int)=J at he hc
  simp [-getD_eq_getElem?_getD,Jw,iD,tD,he,hlim,hc,i1,sl]
 ·rintro ρ ⟨o3,o4,rfl⟩
  rw [Jj]
  exact ⟨o3,o4,rfl⟩
theorem Zkh (ns:List Int){i:Nat}(h:i≤ns.length):pre ns.reverse i=pre ns ns.length - pre ns (ns.length - i):=by
 unfold pre
 rw [List.take_reverse,List.sum_reverse,List.take_length]
 have e:=take_append_drop (ns.length - i) ns
 have:ns.sum=(ns.take (ns.length - i)).sum+(ns.drop (ns.length - i)).sum:=by rw [← sum_append,e]
 omega
theorem Zew {ns:List Int}{k:Kd}{p:Int}(hw:1≤k.w):good ns.reverse k p=good ns k (ns.length - p - k.w):=by
 unfold good
 apply decide_eq_decide.mpr
 rw [length_reverse]
 constructor
 ·rintro ⟨h1,h2,h3⟩
  refine ⟨by omega,by omega,?_⟩
  rw [Zkh ns (by omega),Zkh ns (by omega)] at h3
  rw [show ns.length - (p+k.w).toNat=((ns.length:Int) - p - k.w).toNat by omega,show ns.length - p.toNat=((ns.length:Int) - p - k.w+k.w).toNat by omega] at h3
  omega
 ·rintro ⟨h1,h2,h3⟩
  refine ⟨by omega,by omega,?_⟩
  rw [Zkh ns (by omega),Zkh ns (by omega)]
  rw [show ns.length - (p+k.w).toNat=((ns.length:Int) - p - k.w).toNat by omega,show ns.length - p.toNat=((ns.length:Int) - p - k.w+k.w).toNat by omega]
  omega
noncomputable def Xhe (ns:List Int)(ks:List Kd)(c b:Nat):Int:=(if b=c+1 then 1 else 0)+((ks.filter fun k=>good ns k c&&decide ((c:Int)+k.w=b)).length:Int)
theorem Zuf (ns:List Int)(f:Nat→Int)(j:Nat):∀ks:List Kd,(∀k∈ks,1≤k.w)→S (j+1) (fun i=>((ks.filter fun k=>good ns k i&&decide ((i:Int)+k.w=(j+1:Nat))).length:Int)*f i)=((ks.filter fun k=>good ns k ((j+1:Nat) - k.w)).map fun k=>f (((j+1:Nat):Int) - k.w).toNat).sum
 | [],_=>by simp;exact Zjy fun _ _=>rfl
 | k::ks,hw=>by
  have hk:=hw k (.head _)
  have ih:=Zuf ns f j ks fun x hx=>hw x (.tail _ hx)
  have split:S (j+1) (fun i=>(((k::ks).filter fun k=>good ns k i&&decide ((i:Int)+k.w=(j+1:Nat))).length:Int)*f i)=S (j+1) (fun i=>if (good ns k i&&decide ((i:Int)+k.w=(j+1:Nat)))=true then f i else 0)+S (j+1) (fun i=>((ks.filter fun k=>good ns k i&&decide ((i:Int)+k.w=(j+1:Nat))).length:Int)*f i):=by
   rw [Zxi]
   refine Jb fun i hi=>?_
   rw [filter_cons]
   split
   ·rw [length_cons,natCast_add,add_mul]
    simp only [Int.cast_ofNat_Int,Int.one_mul]
    omega
   ·omega
  rw [split,ih,filter_cons]
  by_cases hg:good ns k ((j+1:Nat) - k.w)=true
  ·obtain ⟨b1,b2⟩:=Xj hg
   rw [if_pos hg,map_cons,sum_cons]
   congr 1
   have:S (j+1) (fun i=>if (good ns k i&&decide ((i:Int)+k.w=(j+1:Nat)))=true then f i else 0)=S (j+1) fun i=>if i=(((j+1:Nat):Int) - k.w).toNat then f (((j+1:Nat):Int) - k.w).toNat else 0:=Jb fun i hi=>by
    by_cases e:i=(((j+1:Nat):Int) - k.w).toNat
    ·have e':(i:Int)=((j+1:Nat):Int) - k.w:=by omega
     rw [if_pos e,if_pos (by rw [e',hg];simp),← e]
    ·rw [if_neg e,if_neg (by simp only [Bool.and_eq_true,decide_eq_true_eq];omega)]
   rw [this,Xee (by omega)]
  ·rw [if_neg hg]
   rw [Zjy fun i hi=>if_neg ?_]
   ·omega
   ·intro z
    simp only [Bool.and_eq_true,decide_eq_true_eq] at z
    have e:(i:Int)=((j+1:Nat):Int) - k.w:=by omega
    rw [e] at z
    exact hg z.1
theorem Xpk (ns:List Int)(ks:List Kd)(hw:∀k∈ks,1≤k.w):∀j,cnt ns ks j=W (Xhe ns ks) 0 j:=by
 intro j
 induction j using Nat.strongRecOn with
 | ind j ih =>
  cases j with
  | zero=>rfl
  | succ j =>
   rw [Zkr ns ks hw,Zmn]
   have e1:S (j+1) (fun i=>Xhe ns ks (0+i) (0+j+1)*W (Xhe ns ks) 0 i)=S (j+1) fun i=>(if i=j then cnt ns ks j else 0)+((ks.filter fun k=>good ns k i&&decide ((i:Int)+k.w=(j+1:Nat))).length:Int)*cnt ns ks i:=Jb fun i hi=>by
    rw [← ih i (by omega),zero_add,zero_add]
    unfold Xhe
    rw [add_mul]
    congr 1
    by_cases e:i=j
    ·subst e;simp
    ·rw [if_neg (by omega),if_neg e,zero_mul]
   rw [e1,← Zxi,Xee (by omega),Zuf ns (cnt ns ks) j ks hw]
theorem Xhw (ns:List Int)(ks:List Kd)(hw:∀k∈ks,1≤k.w):cnt ns.reverse ks ns.length=cnt ns ks ns.length:=by
  rw [Xpk _ _ hw,Xpk _ _ hw]
  have:=Xgc (e:=Xhe ns ks) (e':=Xhe ns.reverse ks) (M:=ns.length) (fun x y hxy hy=>by
    unfold Xhe
    congr 1
    · by_cases h:y=x+1
      · rw [if_pos h,if_pos (by omega)]
      · rw [if_neg h,if_neg (by omega)]
    · congr 2
      refine filter_congr fun k hk=>?_
      rw [Zew (hw k hk)]
      by_cases h:(x:Int)+k.w=y
      · have e1:(ns.length:Int) - x - k.w=((ns.length - y:Nat):Int):=by omega
        have e2:((ns.length - y:Nat):Int)+k.w=((ns.length - x:Nat):Int):=by omega
        rw [e1,decide_eq_true h,decide_eq_true e2]
      · rw [decide_eq_false h,decide_eq_false (by omega),Bool.and_false,Bool.and_false]) ns.length 0 (by omega)
  simpa using this
noncomputable abbrev Cut:=List (Int×Str)×Int
noncomputable def addK (ns:List Int)(rows:List (List Cut))(e:Nat)(k:Kd):List Cut:=if good ns k ((e:Int) - k.w)=true then (rows.getD ((e:Int) - k.w).toNat []).map fun c=>(c.1++[((e:Int) - k.w,k.name)],c.2+k.wo) else []
noncomputable def rowOf (ns:List Int)(ks:List Kd)(rows:List (List Cut)):List Cut:=rows.getD (rows.length - 1) []++(ks.map (addK ns rows rows.length)).flatten
noncomputable def Zgw (ns:List Int)(ks:List Kd):Nat→List (List Cut)
 | 0=>[[([],0)]]
 | j+1=>Zgw ns ks j++[rowOf ns ks (Zgw ns ks j)]
theorem Zim (ns:List Int)(ks:List Kd):∀j,(Zgw ns ks j).length=j+1
 | 0=>rfl
 | j+1=>by rw [Zgw,length_append,Zim ns ks j];rfl
noncomputable def Zed (ns:List Int)(ks:List Kd)(j:Nat):List Cut:=(Zgw ns ks j).getD j []
theorem Zsg (ns:List Int)(ks:List Kd):∀(j i:Nat),i≤j→(Zgw ns ks j).getD i []=Zed ns ks i
 | 0,i,h=>by
  have:i=0:=by omega
  subst this
  rfl
 | j+1,i,h=>by
  by_cases e:i=j+1
  ·subst e;rfl
  ·rw [Zgw]
   have hl:=Zim ns ks j
   have hi:i<(Zgw ns ks j).length:=by omega
   have:∀x:List Cut,(Zgw ns ks j++[x]).getD i []=(Zgw ns ks j).getD i []:=fun x=>by simp [List.getD,getElem?_append_left hi]
   rw [this]
   exact Zsg ns ks j i (by omega)
theorem Zda (ns:List Int)(ks:List Kd)(hw:∀k∈ks,1≤k.w)(j:Nat):Zed ns ks (j+1)=Zed ns ks j++(ks.map fun k=>if good ns k ((j+1:Nat) - k.w)=true then (Zed ns ks (((j+1:Nat):Int) - k.w).toNat).map fun c=>(c.1++[(((j+1:Nat):Int) - k.w,k.name)],c.2+k.wo) else []).flatten:=by
 have hl:=Zim ns ks j
 have e:Zed ns ks (j+1)=rowOf ns ks (Zgw ns ks j):=by
  unfold Zed
  rw [Zgw]
  simp [List.getD,← hl]
 rw [e]
 unfold rowOf
 rw [hl,add_sub_cancel]
 congr 2
 refine map_congr_left fun k hk=>?_
 unfold addK
 split
 ·rename_i hg
  have:=Xj hg
  have:=hw k hk
  rw [Zsg ns ks j _ (by omega)]
 ·rfl
theorem Zqq (ns:List Int)(ks:List Kd)(hw:∀k∈ks,1≤k.w):∀j,((Zed ns ks j).length:Int)=cnt ns ks j:=by
 intro j
 induction j using Nat.strongRecOn with
 | ind j ih =>
  cases j with
  | zero=>rfl
  | succ j =>
   rw [Zda ns ks hw,Zkr ns ks hw,length_append,natCast_add,ih j (by omega)]
   congr 1
   have:∀l:List Kd,(∀k∈l,1≤k.w)→(((l.map fun k=>if good ns k ((j+1:Nat) - k.w)=true then (Zed ns ks (((j+1:Nat):Int) - k.w).toNat).map fun c=>((c.1++[(((j+1:Nat):Int) - k.w,k.name)],c.2+k.wo):Cut) else []).flatten.length:Nat):Int)=((l.filter fun k=>good ns k ((j+1:Nat) - k.w)).map fun k=>cnt ns ks (((j+1:Nat):Int) - k.w).toNat).sum:=by
    intro l hl
    induction l with
    | nil=>rfl
    | cons k l ihl =>
     have ihl:=ihl fun x hx=>hl x (.tail _ hx)
     have hk:=hl k (.head _)
     rw [map_cons,flatten_cons,length_append,natCast_add,ihl,filter_cons]
     by_cases hg:good ns k ((j+1:Nat) - k.w)=true
     ·have:=Xj hg
      rw [if_pos hg,if_pos hg,map_cons,sum_cons,length_map,ih _ (by omega)]
     ·rw [if_neg hg,if_neg hg];simp
   exact this ks hw
theorem Zxw (ns:List Int)(ks:List Kd)(hw:∀k∈ks,1≤k.w):∀j,(Zed ns ks j).length≤(ks.length+1) ^ j:=by
 intro j
 induction j using Nat.strongRecOn with
 | ind j ih =>
  cases j with
  | zero=>exact le_refl 1
  | succ j =>
   rw [Zda ns ks hw,length_append]
   have h0:=ih j (by omega)
   have:∀l:List Kd,(∀k∈l,1≤k.w)→(l.map fun k=>if good ns k ((j+1:Nat) - k.w)=true then (Zed ns ks (((j+1:Nat):Int) - k.w).toNat).map fun c=>((c.1++[(((j+1:Nat):Int) - k.w,k.name)],c.2+k.wo):Cut) else []).flatten.length≤l.length*(ks.length+1) ^ j:=by
    intro l hl
    induction l with
    | nil=>simp
    | cons k l ihl =>
     have ihl:=ihl fun x hx=>hl x (.tail _ hx)
     have hk:=hl k (.head _)
     rw [map_cons,flatten_cons,length_append,length_cons,succ_mul]
     by_cases hg:good ns k ((j+1:Nat) - k.w)=true
     ·have b:=Xj hg
      rw [if_pos hg,length_map]
      have h1:=ih (((j+1:Nat):Int) - k.w).toNat (by omega)
      have h2:(ks.length+1) ^ (((j+1:Nat):Int) - k.w).toNat≤(ks.length+1) ^ j:=Nat.pow_le_pow_right (by omega) (by omega)
      omega
     ·rw [if_neg hg,length_nil,zero_add];omega
   have h3:=this ks hw
   rw [Nat.pow_succ,Nat.mul_add,Nat.mul_comm]
   omega
mutual
theorem Zkg:∀d:D,dep d≤20→eqv d d=true
 | .non,_=>rfl
 | .bl b,_=>beq_self_eq_true b
 | .int b,_=>beq_self_eq_true b
 | .str b,_=>beq_self_eq_true b
 | .lst xs,h=>Zhm xs (Nat.le_of_succ_le h)
 | .tup xs,h=>Zhm xs (Nat.le_of_succ_le h)
 | .scr _,h=>absurd h (by decide:¬100≤20)
 | .rng _ _,h=>absurd h (by decide:¬100≤20)
 | .exc _ _,h=>absurd h (by decide:¬100≤20)
 | .obj _ _ _,h=>absurd h (by decide:¬100≤20)
 | .dct _ _,h=>absurd h (by decide:¬100≤20)
 | .dtt _ _,h=>absurd h (by decide:¬100≤20)
theorem Zhm:∀xs:List D,Zoe xs≤20→Xjo xs xs=true
 | [],_=>rfl
 | x::xs,h=>by
  have a:dep x≤20∧Zoe xs≤20:=Nat.max_le.mp h
  show (eqv x x&&Xjo xs xs)=true
  rw [Zkg x a.1,Zhm xs a.2]
  rfl
end
theorem Zst {d:D}(h:dep d≤20):gEq d d=some (.bl true):=by
 unfold gEq
 rw [if_pos ⟨h,h⟩,Zkg d h]
theorem Zqd {α:Type}{f:α→D}{n:Nat}(h:∀a,dep (f a)≤n):∀xs:List α,Zoe (xs.map f)≤n
 | []=>zero_le _
 | x::xs=>by
  rw [map_cons,Zoe]
  have:=h x
  have:=Zqd h xs
  omega
theorem Zgi:∀(r:List Int) (x:Int),x≤r.foldl max x∧∀y∈r,y≤r.foldl max x
 | [],x=>⟨Int.le_refl _,fun _ h=>nomatch h⟩
 | z::r,x=>by
  obtain ⟨h1,h2⟩:=Zgi r (max x z)
  rw [foldl_cons]
  refine ⟨by omega,fun y hy=>?_⟩
  rcases List.mem_cons.mp hy with e | e
  ·subst e;omega
  ·exact h2 y e
theorem Zfg:∀(r:List Int) (x:Int),r.foldl max x=x∨r.foldl max x∈r
 | [],x=>.inl rfl
 | z::r,x=>by
  rw [foldl_cons]
  rcases Zfg r (max x z) with h | h
  ·rw [h]
   by_cases hz:z≤x
   ·exact .inl (by omega)
   ·refine .inr ?_
    rw [show max x z=z by omega]
    exact .head _
  ·exact .inr (.tail _ h)
theorem Zzh {xs:List Int}{y:Int}(h:y∈xs):y≤Xbr xs:=by
 cases xs with
 | nil=>cases h
 | cons x r =>
  obtain ⟨h1,h2⟩:=Zgi r x
  show y≤r.foldl max x
  rcases List.mem_cons.mp h with e | e
  ·subst e;exact h1
  ·exact h2 y e
theorem Xdo {xs:List Int}(h:xs≠[]):Xbr xs∈xs:=by
 cases xs with
 | nil=>exact absurd rfl h
 | cons x r =>
  show r.foldl max x∈_
  rcases Zfg r x with e | e
  ·rw [e];exact .head _
  ·exact .tail _ e
noncomputable def Zsu (ns:List Int)(ks:List Kd)(ts:List Int):Int:=Xbr (ts.getD (ts.length - 1) 0::(ks.filter fun k=>good ns k ((ts.length:Int) - k.w)).map fun k=>ts.getD ((ts.length:Int) - k.w).toNat 0+k.wo)
noncomputable def hts (ns:List Int)(ks:List Kd):Nat→List Int
 | 0=>[0]
 | j+1=>hts ns ks j++[Zsu ns ks (hts ns ks j)]
theorem Zbq (ns:List Int)(ks:List Kd):∀j,(hts ns ks j).length=j+1
 | 0=>rfl
 | j+1=>by rw [hts,length_append,Zbq ns ks j];rfl
noncomputable def ht (ns:List Int)(ks:List Kd)(j:Nat):Int:=(hts ns ks j).getD j 0
theorem Zgd (ns:List Int)(ks:List Kd):∀(j i:Nat),i≤j→(hts ns ks j).getD i 0=ht ns ks i
 | 0,i,h=>by
  have:i=0:=by omega
  subst this
  rfl
 | j+1,i,h=>by
  by_cases e:i=j+1
  ·subst e;rfl
  ·have:=Zbq ns ks j
   rw [← Zgd ns ks j i (by omega),hts]
   simp only [List.getD]
   rw [getElem?_append_left (by omega)]
theorem Xhk (ns:List Int)(ks:List Kd):ht ns ks 0=0:=rfl
theorem Zhi (ns:List Int)(ks:List Kd)(hw:∀k∈ks,1≤k.w)(j:Nat):ht ns ks (j+1)=Xbr (ht ns ks j::(ks.filter fun k=>good ns k ((j+1:Nat) - k.w)).map fun k=>ht ns ks (((j+1:Nat):Int) - k.w).toNat+k.wo):=by
 have hl:=Zbq ns ks j
 have e:ht ns ks (j+1)=Zsu ns ks (hts ns ks j):=by
  unfold ht
  rw [hts]
  simp only [List.getD]
  rw [getElem?_append_right (by omega),hl]
  simp
 rw [e,Zsu,hl,show j+1 - 1=j by omega,Zgd ns ks j j (le_refl _)]
 congr 2
 refine map_congr_left fun k hk=>?_
 obtain ⟨k1,k2⟩:=List.mem_filter.mp hk
 have:=Xj k2
 have:=hw k k1
 rw [Zgd ns ks j _ (by omega)]
theorem Zhl (ns:List Int)(ks:List Kd)(hw:∀k∈ks,1≤k.w)(j:Nat):ht ns ks j≤ht ns ks (j+1):=by
 rw [Zhi ns ks hw j]
 exact Zzh (.head _)
theorem Zih (ns:List Int)(ks:List Kd)(hw:∀k∈ks,1≤k.w){k:Kd}(hk:k∈ks){p:Int}(hg:good ns k p=true):ht ns ks p.toNat+k.wo≤ht ns ks (p+k.w).toNat:=by
 have bd:=Xj hg
 have hw1:=hw k hk
 obtain ⟨j,hj⟩:∃j:Nat,p+k.w=((j+1:Nat):Int):=⟨(p+k.w - 1).toNat,by omega⟩
 have hp:p=((j+1:Nat):Int) - k.w:=by omega
 rw [hj,toNat_natCast,Zhi ns ks hw j,hp]
 refine Zzh (.tail _ (List.mem_map.mpr ⟨k,List.mem_filter.mpr ⟨hk,?_⟩,rfl⟩))
 rw [← hp]
 exact hg
theorem Xjk (ns:List Int)(ks:List Kd)(hw:∀k∈ks,1≤k.w)(j:Nat):ht ns ks (j+1)=ht ns ks j∨∃k∈ks,good ns k ((j+1:Nat) - k.w)=true∧ht ns ks (((j+1:Nat):Int) - k.w).toNat+k.wo=ht ns ks (j+1):=by
 have h:=Xdo (xs:=ht ns ks j::(ks.filter fun k=>good ns k ((j+1:Nat) - k.w)).map fun k=>ht ns ks (((j+1:Nat):Int) - k.w).toNat+k.wo) (fun e=>nomatch e)
 rw [← Zhi ns ks hw j] at h
 rcases List.mem_cons.mp h with e | e
 ·exact .inl e
 ·obtain ⟨k,k1,k2⟩:=List.mem_map.mp e
  obtain ⟨k3,k4⟩:=List.mem_filter.mp k1
  exact .inr ⟨k,k3,k4,k2⟩
theorem Zph (ns:List Int)(ks:List Kd)(ts:List Int){j:Nat}(hl:ts.length=j+1)(hj:j<1000)(hk:ks.length≤1000)(hw:∀k∈ks,1≤k.w):Zby [iD ns,tD ks,iD ts]=.ok (.int (Zsu ns ks ts)):=by
 have he:=Zct ns ks (ts.length:Int) hk hw
 have hc:=Zlr (n:=5) (ρ:=[some (iD ns),some (tD ks),some (iD ts),some (.int ts.length),none]) (enc:=kD) (v:=fun k:Kd=>.int (ts.getD ((ts.length:Int) - k.w).toNat 0+k.wo)) (xs:=ks.filter fun k=>good ns k ((ts.length:Int) - k.w))
  (e:=f2 Jk (f2 gIx (fV 2) (f2 Zgt (fV 3) (f2 gIx (fV 5) (fC (.int 1))))) (f2 gIx (fV 5) (fC (.int 2)))) rfl fun k hk=>by
   obtain ⟨k1,k2⟩:=List.mem_filter.mp hk
   have bd:=Xj k2
   have hw1:=hw k k1
   have ix:=Zak (ns:=ts) (i:=(ts.length:Int) - k.w) (k:=((ts.length:Int) - k.w).toNat) (by omega) (by omega)
   have ix':gIx (iD ts) (.int ((ts.length:Int) - k.w))=_:=ix
   exact Zn (Zn rfl (Zn rfl (Zn rfl rfl (Zzt k)) rfl) ix') (Zn rfl rfl (Xku k)) rfl
 have hlast:=Zeh (ns:=ts) hl
 have hlast':gIx (iD ts) (.int (-1))=_:=hlast
 have hlen:Zbh [iD ts]=some (.int ts.length):=by simp [iD]
 have hf:(ks.filter fun k=>good ns k ((ts.length:Int) - k.w)).length≤ks.length:=length_filter_le _ _
 unfold Zsu
 rw [show ts.length - 1=j by omega]
 have hmm:((ks.filter fun k=>good ns k ((ts.length:Int) - k.w)).map fun k:Kd=>D.int (ts.getD ((ts.length:Int) - k.w).toNat 0+k.wo))=((ks.filter fun k=>good ns k ((ts.length:Int) - k.w)).map fun k:Kd=>ts.getD ((ts.length:Int) - k.w).toNat 0+k.wo).map D.int:=by rw [map_map];rfl
 rw [hmm] at hc
 have hML:((ks.filter fun k=>good ns k ((ts.length:Int) - k.w)).map fun k:Kd=>ts.getD ((ts.length:Int) - k.w).toNat 0+k.wo).length≤1000:=by rw [length_map];omega
 have he':Yg [iD ns,tD ks,.int ts.length]=.ok (.lst ((ks.filter fun k=>good ns k ((ts.length:Int) - k.w)).map kD)):=he
 have hEL':((ks.filter fun k=>good ns k ((ts.length:Int) - k.w)).map kD).length≤lim:=by rw [length_map];show _≤1000000;omega
 have ha:=Zkv (xs:=[ts.getD j 0]) (ys:=(ks.filter fun k=>good ns k ((ts.length:Int) - k.w)).map fun k:Kd=>ts.getD ((ts.length:Int) - k.w).toNat 0+k.wo) (by rw [length_singleton];omega)
 have hmx:=Xbh (ns:=ts.getD j 0::(ks.filter fun k=>good ns k ((ts.length:Int) - k.w)).map fun k:Kd=>ts.getD ((ts.length:Int) - k.w).toNat 0+k.wo) (by simp)
 exact Yx (Zp (Xl (Zag (Zc rfl rfl) hlen)) (Zp (Xl (Zjd rfl (Zai (Zq (Zc rfl (Zc rfl (Zc rfl rfl))) he') hEL') hc)) (Yv (Zag (Zc (Zn (Zag (Zc (Zn rfl (Zbv rfl rfl) hlast') rfl) rfl) rfl ha) rfl) hmx))))
theorem Zdd (ns:List Int)(ks:List Kd)(hn:ns.length≤900)(hk:ks.length≤1000)(hw:∀k∈ks,1≤k.w):Yp [iD ns,tD ks]=.ok (iD (hts ns ks ns.length)):=by
  have h:=Xax (c:=cE (f2 gLe (fA Zbh (Zd (fV 2) Zu)) (fA Zbh (Zd (fV 0) Zu)))) (s:=Zhh) (n:=100000) (ρ:=[some (iD ns),some (tD ks),some (.lst [.int 0])]) ns.length (fun i=>[some (iD ns),some (tD ks),some (iD (hts ns ks i))]) rfl (by omega) (fun i hi=>by
      have hl:=Zbq ns ks i
      have nt:=Zph ns ks (hts ns ks i) (j:=i) hl (by omega) hk hw
      have l1:Zbh [iD (hts ns ks i)]=some (.int ((i+1:Nat):Int)):=by simp [iD,hl]
      have l2:Zbh [iD ns]=some (.int ns.length):=by simp [iD]
      have e1:iD (hts ns ks (i+1))=.lst ((hts ns ks i).map D.int++[.int (Zsu ns ks (hts ns ks i))]):=by
        rw [hts,iD,map_append]
        rfl
      refine ⟨?_,?_⟩
      · exact Jg (Zn (Zag (Zc rfl rfl) l1) (Zag (Zc rfl rfl) l2) (Xij (Int.ofNat_le.mpr hi)))
      · have hlim':((hts ns ks i).map D.int).length<lim:=by rw [length_map,hl];show _<1000000;omega
        rw [e1]
        exact Zfd rfl (Zq (Zc rfl (Zc rfl (Zc rfl rfl))) nt) hlim') (by
      have hl:=Zbq ns ks ns.length
      have l1:Zbh [iD (hts ns ks ns.length)]=some (.int ((ns.length+1:Nat):Int)):=by simp [iD,hl]
      have l2:Zbh [iD ns]=some (.int ns.length):=by simp [iD]
      generalize iD ns=A at *
      generalize iD (hts ns ks ns.length)=T at *
      simp [l1,l2]
      omega)
  generalize iD ns=A at *
  generalize tD ks=B at *
  generalize iD (hts ns ks ns.length)=T at *
  simp [Yp,Zng,h]
theorem Zyv {c:FT}{s:FS}{P:Nat→Env→Prop}(hs:∀e ρ,P e ρ→(e=0∧c ρ=.ok false)∨(c ρ=.ok true∧∃e' ρ',e'<e∧s ρ=.ok (.nx ρ')∧P e' ρ')):∀(e n:Nat) (ρ:Env),e<n→P e ρ→∃ρ',Zbz c s n ρ=.ok (.nx ρ')∧P 0 ρ':=by
 intro e
 induction e using Nat.strongRecOn with
 | _ e ih =>
  intro n ρ hn p
  obtain ⟨n,rfl⟩:∃k,n=k+1:=⟨n - 1,by omega⟩
  rcases hs e ρ p with ⟨e0,h⟩ | ⟨h,e',ρ',he,h2,p'⟩
  ·subst e0
   exact ⟨ρ,by simp [Zbz,h],p⟩
  ·obtain ⟨ρ2,q1,q2⟩:=ih e' he n ρ' (by omega) p'
   refine ⟨ρ2,?_,q2⟩
   simp only [Zbz,h,Zzl,if_true,h2]
   exact q1
theorem eq_str (a b:Str):gEq (.str a) (.str b)=some (.bl (a==b)):=rfl
theorem eq_int (a b:Int):gEq (.int a) (.int b)=some (.bl (a==b)):=rfl
theorem ne_int (a b:Int):gNe (.int a) (.int b)=some (.bl (!(a==b))):=rfl
theorem Zjz (ks:List Kd)(hk:ks.length≤1000)(nd:(ks.map (·.name)).Nodup){k:Kd}(hm:k∈ks):Zae [tD ks,.str k.name]=.ok (kD k):=by
 have hl:ks.length≤lim:=by show _≤1000000;omega
 have key:∀(l:List Kd) (o:Option D),(l.map (·.name)).Nodup→k∈l→Zcm (Xb 2) Zaz (l.map kD) [some (tD ks),some (.str k.name),o]=.ok (.ret (kD k)):=by
  intro l
  induction l with
  | nil=>intro o _ h;cases h
  | cons x l ih =>
   intro o nd h
   rw [map_cons,Zfi]
   rw [map_cons,List.nodup_cons] at nd
   by_cases e:x.name=k.name
   ·have ex:x=k:=by
     rcases List.mem_cons.mp h with q | q
     ·exact q.symm
     ·exact absurd (e▸List.mem_map.mpr ⟨k,q,rfl⟩) nd.1
    subst ex
    generalize tD ks=T
    simp [Zaz,eq_str]
   ·have hm:k∈l:=by
     rcases List.mem_cons.mp h with q | q
     ·exact absurd (by rw [q]) e
     ·exact q
    have:=ih (some (kD x)) nd.2 hm
    generalize tD ks=T at *
    have hs:Zaz [some T,some (.str k.name),some (kD x)]=.ok (.nx [some T,some (.str k.name),some (kD x)]):=by simp [Zaz,eq_str,e]
    simp [hs,this]
 have h:=key ks none nd hm
 have ht:tD ks=.lst (ks.map kD):=rfl
 have hl':(ks.map kD).length≤lim:=by rw [length_map];exact hl
 rw [ht] at h ⊢
 generalize ks.map kD=KK at *
 simp [Zae,Zmz,hl',h]
theorem Zmk (ns:List Int)(ks:List Kd)(hn:ns.length≤900)(hk:ks.length≤1000)(hw:∀k∈ks,1≤k.w){e:Nat}(he:e+1≤ns.length) :
  (ht ns ks (e+1)=ht ns ks e∧Jx [iD ns,tD ks,iD (hts ns ks ns.length),.int ((e+1:Nat):Int)]=.ok .non)∨
  ∃k∈ks,good ns k ((e+1:Nat) - k.w)=true∧ht ns ks (((e+1:Nat):Int) - k.w).toNat+k.wo=ht ns ks (e+1)∧Jx [iD ns,tD ks,iD (hts ns ks ns.length),.int ((e+1:Nat):Int)]=.ok (kD k):=by
 have hl:=Zbq ns ks ns.length
 have at_:∀(i:Int) (q:Nat),i=q→q≤ns.length→gIx (iD (hts ns ks ns.length)) (.int i)=some (.int (ht ns ks q)):=fun i q h1 h2=>by
  have:=Zak (ns:=hts ns ks ns.length) (i:=i) (k:=q) h1 (by omega)
  rw [Zgd ns ks _ _ h2] at this
  exact this
 have a1:=at_ ((e+1:Nat):Int) (e+1) rfl he
 have a2:=at_ (((e+1:Nat):Int) - 1) e (by omega) (by omega)
 by_cases hh:ht ns ks (e+1)=ht ns ks e
 ·refine .inl ⟨hh,?_⟩
  exact Yx (Zgp (Zbw (Jg (Zn (Zn rfl rfl a1) (Zn rfl (Zn rfl rfl rfl) a2) ((Zht _ _).trans (congrArg (fun b=>some (D.bl b)) (decide_eq_true hh))))) (Yv rfl)))
 ·refine .inr ?_
  have hend:=Zct ns ks ((e+1:Nat):Int) hk hw
  have key:=Zcb (b:=Xb 4) (s:=Zel) (xs:=(ks.filter fun k=>good ns k (((e+1:Nat):Int) - k.w)).map kD) (ρ:=[some (iD ns),some (tD ks),some (iD (hts ns ks ns.length)),some (.int ((e+1:Nat):Int)),none])
   (P:=fun i ρ=>(∃o,ρ=[some (iD ns),some (tD ks),some (iD (hts ns ks ns.length)),some (.int ((e+1:Nat):Int)),o])∧∀(j:Nat) (k:Kd),j<i→(ks.filter fun k=>good ns k (((e+1:Nat):Int) - k.w))[j]?=some k→ht ns ks (((e+1:Nat):Int) - k.w).toNat+k.wo≠ht ns ks (e+1))
   (Rr:=fun r=>∃k∈ks,good ns k ((e+1:Nat) - k.w)=true∧ht ns ks (((e+1:Nat):Int) - k.w).toNat+k.wo=ht ns ks (e+1)∧r=.ok (.ret (kD k))) ⟨⟨none,rfl⟩,fun _ _ h=>by omega⟩ ?_ ?_
  ·obtain ⟨k,k1,k2,k3,k4⟩:=key
   refine ⟨k,k1,k2,k3,?_⟩
   have hend':Yg [iD ns,tD ks,.int ((e+1:Nat):Int)]=.ok (.lst ((ks.filter fun k=>good ns k (((e+1:Nat):Int) - k.w)).map kD)):=hend
   have hEL:((ks.filter fun k=>good ns k (((e+1:Nat):Int) - k.w)).map kD).length≤lim:=by
    rw [length_map]
    have:=length_filter_le (fun k:Kd=>good ns k (((e+1:Nat):Int) - k.w)) ks
    show _≤1000000
    omega
   exact Yx (Zp (Yq (Jg (Zn (Zn rfl rfl a1) (Zn rfl (Zn rfl rfl rfl) a2) ((Zht _ _).trans (congrArg (fun b=>some (D.bl b)) (decide_eq_false hh))))) rfl) (Zgp (Zdu (Zai (Zq (Zc rfl (Zc rfl (Zc rfl rfl))) hend') hEL) k4)))
  ·rintro i x ρ hx ⟨⟨o,rfl⟩,hp⟩
   rw [getElem?_map] at hx
   obtain ⟨k,hk',rfl⟩:=Option.map_eq_some_iff.mp hx
   obtain ⟨k1,k2⟩:=List.mem_filter.mp (mem_of_getElem? hk')
   have bd:=Xj k2
   have hw1:=hw k k1
   have a3:=at_ (((e+1:Nat):Int) - k.w) (((e+1:Nat):Int) - k.w).toNat (by omega) (by omega)
   refine ⟨_,rfl,?_⟩
   by_cases q:ht ns ks (((e+1:Nat):Int) - k.w).toNat+k.wo=ht ns ks (e+1)
   ·refine .inr (.inl ⟨kD k,?_,k,k1,k2,q,rfl⟩)
    exact Zbw (Jg (Zn (Zn (Zn rfl (Zn rfl (Zn rfl rfl (Zzt k)) rfl) a3) (Zn rfl rfl (Xku k)) rfl) (Zn rfl rfl a1) ((Zht _ _).trans (congrArg (fun b=>some (D.bl b)) (decide_eq_true q))))) (Yv (Zbv rfl (Xdy k)))
   ·refine .inl ⟨[some (iD ns),some (tD ks),some (iD (hts ns ks ns.length)),some (.int ((e+1:Nat):Int)),some (kD k)],.inl ?_,⟨_,rfl⟩,fun j k' hj hk2=>?_⟩
    ·exact Yq (Jg (Zn (Zn (Zn rfl (Zn rfl (Zn rfl rfl (Zzt k)) rfl) a3) (Zn rfl rfl (Xku k)) rfl) (Zn rfl rfl a1) ((Zht _ _).trans (congrArg (fun b=>some (D.bl b)) (decide_eq_false q))))) rfl
    ·by_cases ej:j=i
     ·subst ej
      rw [hk'] at hk2
      cases hk2
      exact q
     ·exact hp j k' (by omega) hk2
  ·rintro ρ ⟨-,hp⟩
   exfalso
   rcases Xjk ns ks hw e with q | ⟨k,k1,k2,k3⟩
   ·exact hh q
   ·obtain ⟨j,hj,ej⟩:=List.getElem_of_mem (List.mem_filter (p:=fun k:Kd=>good ns k (((e+1:Nat):Int) - k.w)).mpr ⟨k1,k2⟩)
    refine hp j k (by rw [length_map];exact hj) ?_ k3
    rw [getElem?_eq_getElem hj,ej]
theorem Ziv (ns:List Int)(ks:List Kd):Zed ns ks 0=[([],0)]:=rfl
theorem Zbo (ns:List Int)(ks:List Kd)(hw:∀k∈ks,1≤k.w)(j:Nat)(c:Cut):c∈Zed ns ks (j+1)↔c∈Zed ns ks j∨∃k∈ks,good ns k ((j+1:Nat) - k.w)=true∧∃c'∈Zed ns ks (((j+1:Nat):Int) - k.w).toNat,c=(c'.1++[(((j+1:Nat):Int) - k.w,k.name)],c'.2+k.wo):=by
 rw [Zda ns ks hw j,List.mem_append]
 refine or_congr Iff.rfl ?_
 rw [List.mem_flatten]
 constructor
 ·rintro ⟨l,hl,hc⟩
  obtain ⟨k,k1,rfl⟩:=List.mem_map.mp hl
  split at hc
  ·rename_i hg
   obtain ⟨c',c1,rfl⟩:=List.mem_map.mp hc
   exact ⟨k,k1,hg,c',c1,rfl⟩
  ·cases hc
 ·rintro ⟨k,k1,hg,c',c1,rfl⟩
  refine ⟨_,List.mem_map.mpr ⟨k,k1,rfl⟩,?_⟩
  rw [if_pos hg]
  exact List.mem_map.mpr ⟨c',c1,rfl⟩
theorem Zuv (ns:List Int)(ks:List Kd)(hw:∀k∈ks,1≤k.w):∀j,(∀c∈Zed ns ks j,c.2≤ht ns ks j)∧∃c∈Zed ns ks j,c.2=ht ns ks j:=by
 intro j
 induction j using Nat.strongRecOn with
 | _ j ih =>
  cases j with
  | zero =>
   refine ⟨fun c hc=>?_,([],0),.head _,rfl⟩
   rw [Ziv] at hc
   rw [List.mem_singleton.mp hc]
   exact Int.le_refl _
  | succ j =>
   refine ⟨fun c hc=>?_,?_⟩
   ·rcases (Zbo ns ks hw j c).mp hc with h | ⟨k,k1,hg,c',c1,rfl⟩
    ·have:=(ih j (by omega)).1 c h
     have:=Zhl ns ks hw j
     omega
    ·have bd:=Xj hg
     have hw1:=hw k k1
     have h1:=(ih (((j+1:Nat):Int) - k.w).toNat (by omega)).1 c' c1
     have h2:=Zih ns ks hw k1 hg
     rw [show ((j+1:Nat):Int) - k.w+k.w=((j+1:Nat):Int) by omega,toNat_natCast] at h2
     show c'.2+k.wo≤_
     omega
   ·rcases Xjk ns ks hw j with h | ⟨k,k1,hg,h⟩
    ·obtain ⟨c,c1,c2⟩:=(ih j (by omega)).2
     exact ⟨c,(Zbo ns ks hw j c).mpr (.inl c1),by rw [h,c2]⟩
    ·have bd:=Xj hg
     have hw1:=hw k k1
     obtain ⟨c,c1,c2⟩:=(ih (((j+1:Nat):Int) - k.w).toNat (by omega)).2
     exact ⟨_,(Zbo ns ks hw j _).mpr (.inr ⟨k,k1,hg,c,c1,rfl⟩),by rw [← h,← c2]⟩
theorem Xle (ns:List Int)(ks:List Kd)(hn:ns.length≤900)(hk:ks.length≤1000)(hw:∀k∈ks,1≤k.w):∃ps,Je [iD ns,tD ks,iD (hts ns ks ns.length),.int ns.length]=.ok (psD ps)∧(ps,ht ns ks ns.length)∈Zed ns ks ns.length:=by
  obtain ⟨ρ',h1,h2⟩:=Zyv (c:=cE (f2 gGt (fV 3) (fC (.int 0)))) (s:=Zcj) (P:=fun e ρ=>e≤ns.length∧∃(ps:List (Int×Str)) (o:Option D),ps.length+e≤ns.length∧ρ=[some (iD ns),some (tD ks),some (iD (hts ns ks ns.length)),some (.int e),some (psD ps),o]∧∀c∈Zed ns ks e,(c.1++ps.reverse,c.2+(ht ns ks ns.length - ht ns ks e))∈Zed ns ks ns.length)
    (fun e ρ p=>by
      obtain ⟨he,ps,o,hps,rfl,hc⟩:=p
      cases e with
      | zero =>
        refine .inl ⟨rfl,?_⟩
        exact Jg (Zn rfl rfl rfl)
      | succ e =>
        refine .inr ⟨?_,?_⟩
        · exact Jg (Zn rfl rfl (congrArg (fun b=>some (D.bl b)) (decide_eq_true (Int.natCast_pos.mpr (Nat.succ_pos e)))))
        · rcases Zmk ns ks hn hk hw he with ⟨q1,q2⟩ | ⟨k,k1,hg,q1,q2⟩
          · refine ⟨e,[some (iD ns),some (tD ks),some (iD (hts ns ks ns.length)),some (.int e),some (psD ps),some .non],by omega,?_,by omega,ps,_,by omega,rfl,fun c c1=>?_⟩
            · have e1:((e+1:Nat):Int) - 1=(e:Int):=by omega
              exact Zp (Xl (Zq (Zc rfl (Zc rfl (Zc rfl (Zc rfl rfl)))) q2)) (Zbw (Jg (Zn rfl rfl rfl)) (Xmy rfl rfl (congrArg (fun z=>some (D.int z)) e1)))
            · have:=hc c ((Zbo ns ks hw e c).mpr (.inl c1))
              rw [q1] at this
              exact this
          · have bd:=Xj hg
            have hw1:=hw k k1
            obtain ⟨d,hd⟩:∃d:Nat,((e+1:Nat):Int) - k.w=(d:Int):=⟨(((e+1:Nat):Int) - k.w).toNat,by omega⟩
            refine ⟨d,[some (iD ns),some (tD ks),some (iD (hts ns ks ns.length)),some (.int d),some (psD (ps++[((d:Int),k.name)])),some (kD k)],by omega,?_,by omega,_,_,by rw [length_append,length_singleton];omega,rfl,fun c c1=>?_⟩
            · have hlim:(ps.map pD).length<lim:=by rw [length_map];show _<1000000;omega
              rw [show psD (ps++[((d:Int),k.name)])=.lst (ps.map pD++[.tup [.int d,.str k.name]]) from congrArg D.lst map_append]
              exact Zp (Xl (Zq (Zc rfl (Zc rfl (Zc rfl (Zc rfl rfl)))) q2)) (Yq (Jg (Zn rfl rfl rfl)) (Zp (Xmy rfl (Zn rfl rfl (Zzt k)) (congrArg (fun z=>some (D.int z)) hd)) (Zfd rfl (Zag (Zc (Zbv rfl rfl) (Zc (Zbv (Zn rfl rfl (kD_0 k)) rfl) rfl)) rfl) hlim)))
            · have hin:=(Zbo ns ks hw e (c.1++[((d:Int),k.name)],c.2+k.wo)).mpr (.inr ⟨k,k1,hg,c,by rw [hd];exact c1,by rw [hd]⟩)
              have:=hc _ hin
              rw [hd,toNat_natCast] at q1
              rw [reverse_append,List.reverse_singleton,← append_assoc]
              have e5:c.2+k.wo+(ht ns ks ns.length - ht ns ks (e+1))=c.2+(ht ns ks ns.length - ht ns ks d):=by omega
              simp only [e5] at this
              exact this) ns.length 100000 [some (iD ns),some (tD ks),some (iD (hts ns ks ns.length)),some (.int ns.length),some (.lst []),none] (by omega) ⟨le_refl _,[],none,by simp,rfl,fun c c1=>by simpa using c1⟩
  obtain ⟨-,ps,o,-,rfl,hc⟩:=h2
  have:=hc ([],0) (.head _)
  rw [Xhk] at this
  refine ⟨ps.reverse,?_,by simpa using this⟩
  have hr:Zha (.lst (ps.map pD))=some (.lst (ps.map pD).reverse):=if_pos (Xah ps)
  rw [show psD ps.reverse=.lst (ps.map pD).reverse from congrArg D.lst (List.map_reverse)]
  exact Yx (Zp (Xl rfl) (Zp h1 (Yv (Zbv rfl hr))))
theorem Zpn (ns:List Int)(ks:List Kd)(hn:ns.length≤900)(hk:ks.length≤1000)(hw:∀k∈ks,1≤k.w):∃ps,Zgo [iD ns,tD ks]=.ok (.tup [.int (ht ns ks ns.length),psD ps])∧(ps,ht ns ks ns.length)∈Zed ns ks ns.length:=by
 obtain ⟨ps,h1,h2⟩:=Xle ns ks hn hk hw
 refine ⟨ps,?_,h2⟩
 have hh:=Zdd ns ks hn hk hw
 have hl:=Zbq ns ks ns.length
 have ix:=Zeh (ns:=hts ns ks ns.length) hl
 rw [Zgd ns ks _ _ (le_refl _)] at ix
 have ix':gIx (iD (hts ns ks ns.length)) (.int (-1))=_:=ix
 have l2:Zbh [iD ns]=some (.int ns.length):=by simp [iD]
 generalize iD (hts ns ks ns.length)=T at *
 generalize iD ns=A at *
 generalize tD ks=B at *
 simp [Zgo,Xgn,hh,ix',l2,h1]
theorem Zfe {ns:List Int}{k:Kd}{p:Int}{c:Nat}(h0:1≤k.w)(h:p+k.w≤c)(hc:c≤ns.length):good (ns.take c) k p=good ns k p:=by
 have pt:∀i,i≤c→pre (ns.take c) i=pre ns i:=fun i hi=>by
  unfold pre
  rw [List.take_take,min_eq_left hi]
 unfold good
 apply decide_eq_decide.mpr
 have hl:(ns.take c).length=c:=by rw [length_take];omega
 constructor
 ·rintro ⟨a1,a2,a3⟩
  rw [pt _ (by omega),pt _ (by omega)] at a3
  exact ⟨a1,by omega,a3⟩
 ·rintro ⟨a1,a2,a3⟩
  rw [hl,pt _ (by omega),pt _ (by omega)]
  exact ⟨a1,by omega,a3⟩
theorem Zpc {ns:List Int}{ks:List Kd}(hw:∀k∈ks,1≤k.w){c:Nat}(hc:c≤ns.length):∀j,j≤c→ht (ns.take c) ks j=ht ns ks j:=by
 intro j
 induction j using Nat.strongRecOn with
 | _ j ih =>
  intro hj
  cases j with
  | zero=>rfl
  | succ j =>
   rw [Zhi _ ks hw j,Zhi ns ks hw j,ih j (by omega) (by omega)]
   have e:(ks.filter fun k=>good (ns.take c) k ((j+1:Nat) - k.w))=ks.filter fun k=>good ns k ((j+1:Nat) - k.w):=filter_congr fun k hk=>Zfe (hw k hk) (by omega) hc
   rw [e]
   congr 2
   refine map_congr_left fun k hk=>?_
   obtain ⟨k1,k2⟩:=List.mem_filter.mp hk
   have:=Xj k2
   have:=hw k k1
   rw [ih _ (by omega) (by omega)]
inductive Way (ns:List Int)(ks:List Kd):Nat→Nat→Int→Prop where
 | nil (a:Nat):Way ns ks a a 0
 | skip {a b:Nat} {w:Int}:Way ns ks a b w→b+1≤ns.length→Way ns ks a (b+1) w
 | piece {a b:Nat} {w:Int} {k:Kd}:Way ns ks a b w→k∈ks→good ns k (b:Int)=true→Way ns ks a (b+k.w.toNat) (w+k.wo)
section
variable {ns:List Int}{ks:List Kd}
theorem Way.le {a b:Nat}{w:Int}(h:Way ns ks a b w):a≤b:=by
 induction h with
 | nil=>exact le_refl _
 | skip _ _ ih=>omega
 | piece _ _ _ ih=>omega
theorem Way.trans {a b c:Nat}{w v:Int}(h:Way ns ks a b w)(g:Way ns ks b c v):Way ns ks a c (w+v):=by
 induction g with
 | nil=>rw [Int.add_zero];exact h
 | skip _ hb ih=>exact ih.skip hb
 | piece _ hk hg ih =>
  rw [← Int.add_assoc]
  exact ih.piece hk hg
theorem Way.one {a:Nat}(h:a+1≤ns.length):Way ns ks a (a+1) 0:=(Way.nil a).skip h
theorem Way.pc {a:Nat}{k:Kd}(hk:k∈ks)(hg:good ns k (a:Int)=true):Way ns ks a (a+k.w.toNat) k.wo:=by
 have:=(Way.nil (ns:=ns) (ks:=ks) a).piece hk hg
 rwa [Int.zero_add] at this
theorem Way.rev (hw:∀k∈ks,1≤k.w){a b:Nat}{w:Int}(h:Way ns ks a b w):a≤ns.length→Way ns.reverse ks (ns.length - b) (ns.length - a) w:=by
 induction h with
 | nil=>exact fun _=>.nil _
 | @skip b w h hb ih =>
  intro ha
  have i:=ih ha
  have o:=Way.one (ns:=ns.reverse) (ks:=ks) (a:=ns.length - (b+1)) (by rw [length_reverse];omega)
  rw [show ns.length - (b+1)+1=ns.length - b by omega] at o
  have:=o.trans i
  rwa [Int.zero_add] at this
 | @piece b w k h hk hg ih =>
  intro ha
  have i:=ih ha
  have bd:=Xj hg
  have h1:=hw k hk
  have hg':good ns.reverse k ((ns.length - (b+k.w.toNat):Nat):Int)=true:=by
   rw [Zew h1,show (ns.length:Int) - ((ns.length - (b+k.w.toNat):Nat):Int) - k.w=(b:Int) by omega]
   exact hg
  have o:=Way.pc (ns:=ns.reverse) hk hg'
  rw [show ns.length - (b+k.w.toNat)+k.w.toNat=ns.length - b by omega] at o
  have:=o.trans i
  rwa [Int.add_comm] at this
theorem Zjx (hw:∀k∈ks,1≤k.w):∀j,j≤ns.length→Way ns ks 0 j (ht ns ks j):=by
 intro j
 induction j using Nat.strongRecOn with
 | _ j ih =>
  intro hj
  cases j with
  | zero=>exact .nil 0
  | succ j =>
   rcases Xjk ns ks hw j with h | ⟨k,k1,hg,h⟩
   ·rw [h]
    exact (ih j (by omega) (by omega)).skip hj
   ·have bd:=Xj hg
    have h1:=hw k k1
    obtain ⟨q,hq⟩:∃q:Nat,((j+1:Nat):Int) - k.w=(q:Int):=⟨(((j+1:Nat):Int) - k.w).toNat,by omega⟩
    rw [hq] at hg h
    rw [toNat_natCast] at h
    have:=(ih q (by omega) (by omega)).piece k1 hg
    rw [h,show q+k.w.toNat=j+1 by omega] at this
    exact this
theorem Xbk {w:Int}(h:1≤w)(b:Nat):((b:Int)+w).toNat=b+w.toNat:=by
 obtain ⟨n,rfl⟩:=Int.eq_ofNat_of_zero_le (Int.le_trans (by decide) h)
 rfl
theorem Zlz (hw:∀k∈ks,1≤k.w){j:Nat}{w:Int}(h:Way ns ks 0 j w):w≤ht ns ks j:=by
 generalize ha:(0:Nat)=a at h
 induction h with
 | nil=>subst ha;exact Int.le_refl _
 | @skip b w h hb ih =>
  exact Int.le_trans ih (Zhl ns ks hw b)
 | @piece b w k h hk hg ih =>
  have:=Zih ns ks hw hk hg
  rw [toNat_natCast,Xbk (hw k hk)] at this
  exact Int.le_trans (Int.add_le_add_right ih _) this
theorem Xfr (hw:∀k∈ks,1≤k.w):ht ns.reverse ks ns.length=ht ns ks ns.length:=by
  have h1:=Zlz hw ((Zjx hw ns.length (le_refl _)).rev hw (zero_le _) |> fun (z:Way ns.reverse ks (ns.length - ns.length) (ns.length - 0) _)=>by
    rw [sub_self,sub_zero] at z
    exact z)
  have g:=(Zjx (ns:=ns.reverse) hw ns.length (by simp)).rev hw (zero_le _)
  rw [length_reverse,sub_self,sub_zero,reverse_reverse] at g
  have h2:=Zlz hw g
  omega
theorem Zrh (e:Nat)(i:Nat):pre (ns.drop e) i=pre ns (e+i) - pre ns e:=by
 have:=Zuz ns e (e+i) (le_add_right _ _)
 rw [Nat.add_sub_cancel_left] at this
 exact this
theorem Xau (a b c:Int):a - c - (b - c)=a - b:=by omega
theorem Zen {k:Kd}{e p:Nat}(h0:1≤k.w)(he:e≤ns.length):good (ns.drop e) k (p:Int)=good ns k ((e+p:Nat):Int):=by
 unfold good
 apply decide_eq_decide.mpr
 obtain ⟨n,hn⟩:=Int.eq_ofNat_of_zero_le (Int.le_trans (by decide) h0)
 have hl:(ns.drop e).length=ns.length - e:=length_drop
 have e1:(((e+p:Nat):Int)+(n:Int)).toNat=e+(p+n):=add_assoc e p n
 have e2:((p:Int)+(n:Int)).toNat=p+n:=rfl
 rw [hl,hn,Zrh,Zrh,toNat_natCast,toNat_natCast,e1,e2,Xau]
 have c:((p:Int)+(n:Int)≤((ns.length - e:Nat):Int))↔(((e+p:Nat):Int)+(n:Int)≤(ns.length:Int)):=by
  refine ⟨fun h=>?_,fun h=>?_⟩
  ·have h:p+n≤ns.length - e:=Int.ofNat_le.mp h
   have h:e+p+n≤ns.length:=add_assoc e p n▸Nat.add_le_of_le_sub' he h
   exact Int.ofNat_le.mpr h
  ·have h:e+p+n≤ns.length:=Int.ofNat_le.mp h
   have h:p+n≤ns.length - e:=Nat.le_sub_of_add_le (by rw [Nat.add_comm,← add_assoc];exact h)
   exact Int.ofNat_le.mpr h
 exact ⟨fun ⟨_,a2,a3⟩=>⟨Int.natCast_nonneg _,c.mp a2,a3⟩,fun ⟨_,a2,a3⟩=>⟨Int.natCast_nonneg _,c.mpr a2,a3⟩⟩
theorem Way.up (hw:∀k∈ks,1≤k.w){e:Nat}(he:e≤ns.length){a b:Nat}{w:Int}(h:Way (ns.drop e) ks a b w):Way ns ks (e+a) (e+b) w:=by
 induction h with
 | nil=>exact .nil _
 | skip _ hb ih =>
  rw [length_drop] at hb
  exact ih.skip (by omega)
 | piece _ hk hg ih =>
  rw [Zen (hw _ hk) he] at hg
  have:=ih.piece hk hg
  rwa [add_assoc] at this
theorem Way.down (hw:∀k∈ks,1≤k.w){e:Nat}(he:e≤ns.length){a b:Nat}{w:Int}(h:Way ns ks a b w):e≤a→Way (ns.drop e) ks (a - e) (b - e) w:=by
 induction h with
 | nil=>exact fun _=>.nil _
 | @skip b w h hb ih =>
  intro ha
  have hle:=le_trans ha h.le
  have i:=(ih ha).skip (by rw [length_drop,← Nat.sub_add_comm hle];exact Nat.sub_le_sub_right hb e)
  rw [← Nat.sub_add_comm hle] at i
  exact i
 | @piece b w k h hk hg ih =>
  intro ha
  have hle:=le_trans ha h.le
  have i:=(ih ha).piece hk (by rw [Zen (hw k hk) he,Nat.add_sub_of_le hle];exact hg)
  rw [← Nat.sub_add_comm hle] at i
  exact i
theorem Zwv (hw:∀k∈ks,1≤k.w){e:Nat}(he:e≤ns.length):ht ns.reverse ks (ns.length - e)=ht (ns.drop e) ks (ns.length - e):=by
 have g1:=Zjx (ns:=ns.drop e) hw (ns.length - e) (by rw [length_drop];omega)
 have g2:=(g1.up hw he).rev hw (by omega)
 rw [show ns.length - (e+(ns.length - e))=0 by omega,add_zero] at g2
 have h1:=Zlz hw g2
 have g3:=(Zjx (ns:=ns.reverse) hw (ns.length - e) (by rw [length_reverse];omega)).rev hw (zero_le _)
 rw [length_reverse,reverse_reverse,sub_zero,show ns.length - (ns.length - e)=e by omega] at g3
 have g4:=g3.down hw he (le_refl _)
 rw [sub_self] at g4
 have h2:=Zlz hw g4
 omega
end
noncomputable def V {α:Type}:R α→(α→Prop)→Prop
 | .ok a,Q=>Q a
 | .err _ _,_=>False
 | .bad,_=>False
@[simp] theorem V_ok {α:Type}(a:α)(Q:α→Prop):V (.ok a) Q=Q a:=(rfl)
theorem Zuk {α β:Type}(r:R α)(f:α→R β)(Q:β→Prop):V (r.bind f) Q=V r fun a=>V (f a) Q:=by cases r<;>rfl
theorem V.imp {α:Type}{r:R α}{Q Q':α→Prop}(h:V r Q)(g:∀a,Q a→Q' a):V r Q':=by
 cases r with
 | ok a=>exact g a h
 | err _ _=>exact h
 | bad=>exact h
theorem V.ex {α:Type}{r:R α}{Q:α→Prop}(h:V r Q):∃a,r=.ok a∧Q a:=by
 cases r with
 | ok a=>exact ⟨a,rfl,h⟩
 | err _ _=>exact h.elim
 | bad=>exact h.elim
theorem V.of {α:Type}{r:R α}{a:α}{Q:α→Prop}(e:r=.ok a)(h:Q a):V r Q:=by rw [e];exact h
noncomputable def turn (b:FB)(s:FS)(x:D)(ρ:Env):R Fl:=(b x ρ).calm.bind s
noncomputable def Tn (P:Env→Prop)(Q:Fl→Prop):Fl→Prop
 | .nx ρ=>P ρ
 | .cnt ρ=>P ρ
 | .brk ρ=>Q (.nx ρ)
 | .ret d=>Q (.ret d)
@[simp] theorem Tn_nx (P:Env→Prop)(Q:Fl→Prop)(ρ:Env):Tn P Q (.nx ρ)=P ρ:=(rfl)
@[simp] theorem Tn_cnt (P:Env→Prop)(Q:Fl→Prop)(ρ:Env):Tn P Q (.cnt ρ)=P ρ:=(rfl)
@[simp] theorem Tn_brk (P:Env→Prop)(Q:Fl→Prop)(ρ:Env):Tn P Q (.brk ρ)=Q (.nx ρ):=(rfl)
@[simp] theorem Tn_ret (P:Env→Prop)(Q:Fl→Prop)(d:D):Tn P Q (.ret d)=Q (.ret d):=(rfl)
theorem Xce {b:FB}{s:FS}{Q:Fl→Prop}{P:List D→Env→Prop}(hs:∀x r ρ,P (x::r) ρ→V (turn b s x ρ) (Tn (P r) Q))(hd:∀ρ,P [] ρ→Q (.nx ρ)):∀{xs:List D} {ρ:Env},P xs ρ→V (Zcm b s xs ρ) Q
 | [],ρ,h=>hd ρ h
 | x::xs,ρ,h=>by
  have t:=hs x xs ρ h
  unfold turn at t
  rw [Zuk] at t
  rw [Zfi,Zuk]
  refine t.imp fun ρ1 q=>?_
  rw [Zuk]
  refine q.imp fun fl q=>?_
  cases fl with
  | nx ρ2=>exact Xce hs hd q
  | cnt ρ2=>exact Xce hs hd q
  | brk ρ2=>exact q
  | ret d=>exact q
theorem Xfn {α:Type}{enc:α→D}{b:FB}{s:FS}{Q:Fl→Prop}{P:List α→Env→Prop}(hs:∀x r ρ,P (x::r) ρ→V (turn b s (enc x) ρ) (Tn (P r) Q))(hd:∀ρ,P [] ρ→Q (.nx ρ)){xs:List α}{ρ:Env}(h:P xs ρ):V (Zcm b s (xs.map enc) ρ) Q:=by
 refine Xce (P:=fun ds ρ=>∃ys:List α,ds=ys.map enc∧P ys ρ) (fun x r ρ p=>?_) (fun ρ p=>?_) ⟨xs,rfl,h⟩
 ·obtain ⟨ys,e,p⟩:=p
  cases ys with
  | nil=>cases e
  | cons y ys =>
   rw [map_cons,List.cons.injEq] at e
   obtain ⟨rfl,rfl⟩:=e
   refine (hs y ys ρ p).imp fun fl q=>?_
   cases fl with
   | nx ρ2=>exact ⟨ys,rfl,q⟩
   | cnt ρ2=>exact ⟨ys,rfl,q⟩
   | brk ρ2=>exact q
   | ret d=>exact q
 ·obtain ⟨ys,e,p⟩:=p
  cases ys with
  | nil=>exact hd ρ p
  | cons y ys=>cases e
theorem Xou {b:FB}{s:FS}{Q:Fl→Prop}{P:Nat→Env→Prop}{xs:List D}{ρ:Env}(h0:P 0 ρ)(hs:∀i x ρ,xs[i]?=some x→P i ρ→V (turn b s x ρ) (Tn (P (i+1)) Q))(hd:∀ρ,P xs.length ρ→Q (.nx ρ)):V (Zcm b s xs ρ) Q:=by
 refine Xce (P:=fun r ρ=>∃i,r=xs.drop i∧i≤xs.length∧P i ρ) (fun x r ρ p=>?_) (fun ρ p=>?_) ⟨0,rfl,zero_le _,h0⟩
 ·obtain ⟨i,e,hi,p⟩:=p
  have hl:i<xs.length:=by
   rcases Nat.lt_or_ge i xs.length with q | q
   ·exact q
   ·rw [List.drop_of_length_le q] at e;cases e
  rw [drop_eq_getElem_cons hl,List.cons.injEq] at e
  obtain ⟨rfl,rfl⟩:=e
  refine (hs i _ ρ (getElem?_eq_getElem hl) p).imp fun fl q=>?_
  cases fl with
  | nx ρ2=>exact ⟨i+1,rfl,hl,q⟩
  | cnt ρ2=>exact ⟨i+1,rfl,hl,q⟩
  | brk ρ2=>exact q
  | ret d=>exact q
 ·obtain ⟨i,e,hi,p⟩:=p
  have:i=xs.length:=by
   have:=congrArg List.length e
   rw [length_drop,length_nil] at this
   omega
  subst this
  exact hd ρ p
theorem Xoe {b:FB}{s:FS}{Q:Fl→Prop}{P:Nat→Env→Prop}{lo:Int}{n:Nat}{ρ:Env}(h0:P 0 ρ)(hs:∀i ρ,i<n→P i ρ→V (turn b s (.int (lo+i)) ρ) (Tn (P (i+1)) Q))(hd:∀ρ,P n ρ→Q (.nx ρ)):V (Zcm b s (Zdt lo n) ρ) Q:=
  Xou h0 (fun i x ρ hx p=>by
    obtain ⟨hi,rfl⟩:=Zfx hx
    exact hs i ρ hi p) (fun ρ p=>hd ρ (by rw [Jj] at p;exact p))
theorem Xfq {b:FB}{s:FS}{Q:Fl→Prop}{P:Nat→Env→Prop}{n:Nat}{ρ:Env}(h0:P 0 ρ)(hs:∀(i:Nat) ρ,i<n→P i ρ→V (turn b s (.int (i:Int)) ρ) (Tn (P (i+1)) Q))(hd:∀ρ,P n ρ→Q (.nx ρ)):V (Zcm b s (Zdt 0 n) ρ) Q:=
 Xoe h0 (fun i ρ hi p=>by rw [Int.zero_add];exact hs i ρ hi p) hd
@[simp] theorem Zff (i:Nat)(s:FS)(x:D)(ρ:Env):turn (Xb i) s x ρ=s (ρ.set i (some x)):=(rfl)
@[simp] theorem ev_fJoin (a b:FE)(ρ:Env):fJoin a b ρ=(a ρ).bind fun x=>match x with | .str s=>(b ρ).bind fun y=>oR (Xry (.str s) y) | _=>.bad:=(rfl)
@[simp] theorem calm_bad {α:Type}:(R.bad:R α).calm=.bad:=(rfl)
@[simp] theorem gLst_7 (a0 a1 a2 a3 a4 a5 a6:D):Jy [a0,a1,a2,a3,a4,a5,a6]=some (.lst [a0,a1,a2,a3,a4,a5,a6]):=rfl
@[simp] theorem gLst_8 (a0 a1 a2 a3 a4 a5 a6 a7:D):Jy [a0,a1,a2,a3,a4,a5,a6,a7]=some (.lst [a0,a1,a2,a3,a4,a5,a6,a7]):=rfl
@[simp] theorem gLst_9 (a0 a1 a2 a3 a4 a5 a6 a7 a8:D):Jy [a0,a1,a2,a3,a4,a5,a6,a7,a8]=some (.lst [a0,a1,a2,a3,a4,a5,a6,a7,a8]):=rfl
theorem add_str {x y:Str}{n m:Nat}(h:plain n x=true)(g:plain m y=true)(e:n+m≤1000):Jk (.str x) (.str y)=some (.str (x++y)):=by
 unfold Jk
 simp only []
 unfold plain at h g
 rw [Bool.and_eq_true] at h g
 have:=of_decide_eq_true h.1
 have:=of_decide_eq_true g.1
 rw [if_pos (by show _≤1000000;omega)]
noncomputable def eL:Nat→List Int→List D
 | _,[]=>[]
 | k,w::r=>.tup [.int (k:Int),.int w]::eL (k+1) r
theorem Zho {b:FB}{s:FS}{x:D}{xs:List D}{ρ ρ1:Env}(hb:b x ρ=.ok ρ1):Zcm b s (x::xs) ρ=(s ρ1).bind fun fl=>match fl with
  | .nx ρ2=>Zcm b s xs ρ2
  | .cnt ρ2=>Zcm b s xs ρ2
  | .brk ρ2=>.ok (.nx ρ2)
  | .ret d=>.ok (.ret d):=by
 rw [Zfi,hb]
 rfl
theorem Zsn {e:FE}{ρ:Env}{ws:List Int}(h:e ρ=.ok (iD ws)):fA Zbh (Zd e Zu) ρ=.ok (.int ws.length):=Zag (Zc h rfl) (by simp [iD,Zbh])
section
variable {ns:List Int}{ks:List Kd}
noncomputable def tg (ns:List Int)(ks:List Kd)(b:Nat):List Kd:=ks.filter fun k=>decide (ht ns ks ((b:Int) - k.w).toNat+k.wo=ht ns ks b)
noncomputable def be (ns:List Int)(ks:List Kd)(c b:Nat):Int:=(if b=c+1∧ht ns ks b=ht ns ks c then 1 else 0)+(((tg ns ks b).filter fun k=>good ns k c&&decide ((c:Int)+k.w=b)).length:Int)
noncomputable def cb (ns:List Int)(ks:List Kd)(e:Nat):Int:=W (be ns ks) 0 e
theorem Xfh {b:Nat}{k:Kd}(h:k∈tg ns ks b):k∈ks:=(List.mem_filter.mp h).1
theorem cnt_cons {α:Type}(p:α→Bool)(x:α)(l:List α):(((x::l).filter p).length:Int)=(if p x=true then 1 else 0)+((l.filter p).length:Int):=by
 rw [filter_cons]
 by_cases h:p x=true
 ·rw [if_pos h,if_pos h,length_cons]
  omega
 ·rw [if_neg h,if_neg h]
  omega
theorem Zdx {α:Type}(p:α→Bool)(f:α→Int)(x:α)(l:List α):(((x::l).filter p).map f).sum=(if p x=true then f x else 0)+((l.filter p).map f).sum:=by
 rw [filter_cons]
 by_cases h:p x=true
 ·rw [if_pos h,if_pos h]
  rfl
 ·rw [if_neg h,if_neg h]
  omega
theorem Zru (ns:List Int)(f:Nat→Int)(a d:Nat):∀l:List Kd,(∀k∈l,1≤k.w)→S (d+1) (fun i=>((l.filter fun k=>good ns k ((a+i:Nat):Int)&&decide (((a+i:Nat):Int)+k.w=((a+d+1:Nat):Int))).length:Int)*f i)=((l.filter fun k=>good ns k (((a+d+1:Nat):Int) - k.w)&&decide ((a:Int)≤((a+d+1:Nat):Int) - k.w)).map fun k=>f ((((a+d+1:Nat):Int) - k.w).toNat - a)).sum
 | [],_=>Zjy fun i _=>by simp
 | k::l,hl=>by
  have hk:=hl k (.head _)
  have ih:=Zru ns f a d l fun x hx=>hl x (.tail _ hx)
  rw [Zdx,← ih]
  have e1:(fun i=>(((k::l).filter fun k=>good ns k ((a+i:Nat):Int)&&decide (((a+i:Nat):Int)+k.w=((a+d+1:Nat):Int))).length:Int)*f i)=fun i=>(if (good ns k ((a+i:Nat):Int)&&decide (((a+i:Nat):Int)+k.w=((a+d+1:Nat):Int)))=true then 1 else 0)*f i+((l.filter fun k=>good ns k ((a+i:Nat):Int)&&decide (((a+i:Nat):Int)+k.w=((a+d+1:Nat):Int))).length:Int)*f i:=funext fun i=>by rw [cnt_cons,add_mul]
  rw [e1,← Zxi]
  congr 1
  obtain ⟨v,hv⟩:∃v,v=(if (good ns k (((a+d+1:Nat):Int) - k.w)&&decide ((a:Int)≤((a+d+1:Nat):Int) - k.w))=true then f ((((a+d+1:Nat):Int) - k.w).toNat - a) else 0):=⟨_,rfl⟩
  rw [← hv]
  by_cases hd:(a:Int)≤((a+d+1:Nat):Int) - k.w
  ·have e2:S (d+1) (fun i=>(if (good ns k ((a+i:Nat):Int)&&decide (((a+i:Nat):Int)+k.w=((a+d+1:Nat):Int)))=true then 1 else 0)*f i)=S (d+1) (fun i=>if i=(((a+d+1:Nat):Int) - k.w).toNat - a then v else 0):=Jb fun i hi=>by
    by_cases q:i=(((a+d+1:Nat):Int) - k.w).toNat - a
    ·have e3:((a+i:Nat):Int)=((a+d+1:Nat):Int) - k.w:=by omega
     rw [if_pos q,hv,e3,← q,decide_eq_true (show ((a+d+1:Nat):Int) - k.w+k.w=((a+d+1:Nat):Int) by omega),decide_eq_true hd]
     split
     ·rw [Int.one_mul]
     ·rw [zero_mul]
    ·rw [if_neg q,decide_eq_false (show ¬((a+i:Nat):Int)+k.w=((a+d+1:Nat):Int) by omega),Bool.and_false,if_neg Bool.false_ne_true,zero_mul]
   rw [e2]
   exact Xee (by omega) v
  ·rw [hv,decide_eq_false hd,Bool.and_false,if_neg Bool.false_ne_true]
   refine Zjy fun i hi=>?_
   rw [decide_eq_false (show ¬((a+i:Nat):Int)+k.w=((a+d+1:Nat):Int) by omega),Bool.and_false,if_neg Bool.false_ne_true,zero_mul]
theorem W_be (hw:∀k∈ks,1≤k.w)(a d:Nat):W (be ns ks) a (d+1)=(if ht ns ks (a+d+1)=ht ns ks (a+d) then W (be ns ks) a d else 0)+(((tg ns ks (a+d+1)).filter fun k=>good ns k (((a+d+1:Nat):Int) - k.w)&&decide ((a:Int)≤((a+d+1:Nat):Int) - k.w)).map fun k=>W (be ns ks) a ((((a+d+1:Nat):Int) - k.w).toNat - a)).sum:=by
 rw [Zmn,← Zru ns (W (be ns ks) a) a d (tg ns ks (a+d+1)) fun k hk=>hw k (Xfh hk)]
 obtain ⟨v,hv⟩:∃v,v=(if ht ns ks (a+d+1)=ht ns ks (a+d) then W (be ns ks) a d else 0):=⟨_,rfl⟩
 rw [← hv,← Xee (Nat.lt_succ_self d) v,Zxi]
 refine Jb fun i hi=>?_
 rw [show be ns ks (a+i) (a+d+1)=(if a+d+1=a+i+1∧ht ns ks (a+d+1)=ht ns ks (a+i) then 1 else 0)+(((tg ns ks (a+d+1)).filter fun k=>good ns k ((a+i:Nat):Int)&&decide (((a+i:Nat):Int)+k.w=((a+d+1:Nat):Int))).length:Int) from rfl,add_mul]
 congr 1
 by_cases e:i=d
 ·subst e
  rw [if_pos rfl,hv]
  by_cases q:ht ns ks (a+i+1)=ht ns ks (a+i)
  ·rw [if_pos ⟨rfl,q⟩,if_pos q,Int.one_mul]
  ·rw [if_neg (fun z=>q z.2),if_neg q,zero_mul]
 ·rw [if_neg e,if_neg (fun z=>e (by omega)),zero_mul]
theorem Zuo (hw:∀k∈ks,1≤k.w)(e:Nat):cb ns ks (e+1)=(if ht ns ks (e+1)=ht ns ks e then cb ns ks e else 0)+(((tg ns ks (e+1)).filter fun k=>good ns k (((e+1:Nat):Int) - k.w)).map fun k=>cb ns ks (((e+1:Nat):Int) - k.w).toNat).sum:=by
 have h:=W_be (ns:=ns) (ks:=ks) hw 0 e
 rw [show 0+e+1=e+1 by omega,show 0+e=e by omega] at h
 unfold cb
 rw [h]
 congr 1
 have hf:((tg ns ks (e+1)).filter fun k=>good ns k (((e+1:Nat):Int) - k.w)&&decide (((0:Nat):Int)≤((e+1:Nat):Int) - k.w))=(tg ns ks (e+1)).filter fun k=>good ns k (((e+1:Nat):Int) - k.w):=by
  refine filter_congr fun k _=>?_
  by_cases g:good ns k (((e+1:Nat):Int) - k.w)=true
  ·have:=(Xj g).1
   rw [g,Bool.true_and]
   exact decide_eq_true (by omega)
  ·rw [Bool.eq_false_iff.mpr g,Bool.false_and]
 rw [hf]
 rfl
noncomputable def rs (ns:List Int)(ks:List Kd)(e:Nat):Int:=ht ns.reverse ks (ns.length - e)
theorem Xoq (hw:∀k∈ks,1≤k.w){a:Nat}(ha:a≤ns.length):Way ns ks a ns.length (rs ns ks a):=by
 have h:=Zjx (ns:=ns.drop a) (ks:=ks) hw (ns.length - a) (by rw [length_drop];exact le_refl _)
 have h2:=Way.up hw ha h
 rw [add_zero,show a+(ns.length - a)=ns.length by omega] at h2
 unfold rs
 rw [Zwv hw ha]
 exact h2
theorem Xrp (hw:∀k∈ks,1≤k.w){a:Nat}(ha:a≤ns.length):ht ns ks a+rs ns ks a≤ht ns ks ns.length:=Zlz hw ((Zjx hw a ha).trans (Xoq hw ha))
theorem Xlm (hw:∀k∈ks,1≤k.w){a:Nat}(ha:a+1≤ns.length):rs ns ks (a+1)≤rs ns ks a:=by
 unfold rs
 rw [show ns.length - a=ns.length - (a+1)+1 by omega]
 exact Zhl _ _ hw _
theorem Xla (hw:∀k∈ks,1≤k.w){k:Kd}(hk:k∈ks){a b:Nat}(hg:good ns k (a:Int)=true)(hb:(a:Int)+k.w=b):rs ns ks b+k.wo≤rs ns ks a:=by
 have h1:=hw k hk
 have h2:=Xj hg
 have hg':good ns.reverse k ((ns.length:Int) - b)=true:=by
  rw [Zew h1,show (ns.length:Int) - ((ns.length:Int) - b) - k.w=a by omega]
  exact hg
 have h3:=Zih ns.reverse ks hw hk hg'
 rw [show ((ns.length:Int) - b).toNat=ns.length - b by omega,show ((ns.length:Int) - b+k.w).toNat=ns.length - a by omega] at h3
 exact h3
theorem Xnl:rs ns ks ns.length=0:=by
 unfold rs
 rw [sub_self]
 rfl
noncomputable def re (ns:List Int)(ks:List Kd)(c b:Nat):Int:=be ns.reverse ks (ns.length - b) (ns.length - c)
theorem W_re {a:Nat}(ha:a≤ns.length):cb ns.reverse ks (ns.length - a)=W (re ns ks) a (ns.length - a):=by
  have h:=Xgc (e:=re ns ks) (e':=be ns.reverse ks) (M:=ns.length) (fun x y hx hy=>by
    unfold re
    rw [show ns.length - (ns.length - x)=x by omega,show ns.length - (ns.length - y)=y by omega]) (ns.length - a) a (by omega)
  rw [show ns.length - a - (ns.length - a)=0 by omega] at h
  exact h
theorem Xhc (c b:Nat):be ns ks c b=(if b=c+1∧ht ns ks b=ht ns ks c then 1 else 0)+((ks.filter fun k=>(good ns k (c:Int)&&decide ((c:Int)+k.w=b))&&decide (ht ns ks c+k.wo=ht ns ks b)).length:Int):=by
 unfold be tg
 rw [filter_filter]
 congr 3
 refine filter_congr fun k _=>?_
 by_cases h:(c:Int)+k.w=b
 ·rw [show ((b:Int) - k.w).toNat=c by omega]
 ·rw [decide_eq_false h,Bool.and_false,Bool.false_and,Bool.false_and]
theorem Xqu (hw:∀k∈ks,1≤k.w){c b:Nat}(hc:c<b)(hb:b≤ns.length):re ns ks c b=(if b=c+1∧rs ns ks c=rs ns ks b then 1 else 0)+((ks.filter fun k=>(good ns k (c:Int)&&decide ((c:Int)+k.w=b))&&decide (rs ns ks b+k.wo=rs ns ks c)).length:Int):=by
 unfold re
 rw [Xhc]
 have e1:(ns.length - c=ns.length - b+1∧ht ns.reverse ks (ns.length - c)=ht ns.reverse ks (ns.length - b))↔(b=c+1∧rs ns ks c=rs ns ks b):=⟨fun z=>⟨by omega,z.2⟩,fun z=>⟨by omega,z.2⟩⟩
 congr 1
 ·by_cases h:b=c+1∧rs ns ks c=rs ns ks b
  ·rw [if_pos h,if_pos (e1.mpr h)]
  ·rw [if_neg h,if_neg (fun z=>h (e1.mp z))]
 ·congr 2
  refine filter_congr fun k hk=>?_
  have h1:=hw k hk
  by_cases h:(c:Int)+k.w=b
  ·rw [Zew h1,show (ns.length:Int) - ((ns.length - b:Nat):Int) - k.w=(c:Int) by omega,decide_eq_true h,decide_eq_true (show ((ns.length - b:Nat):Int)+k.w=((ns.length - c:Nat):Int) by omega)]
   rfl
  ·rw [decide_eq_false h,decide_eq_false (show ¬((ns.length - b:Nat):Int)+k.w=((ns.length - c:Nat):Int) by omega)]
   rw [Bool.and_false,Bool.and_false,Bool.false_and,Bool.false_and]
theorem len_pos {α:Type}{p:α→Bool}{l:List α}(h:((l.filter p).length:Int)≠0):∃x∈l,p x=true:=by
 cases e:l.filter p with
 | nil=>rw [e] at h;exact absurd rfl h
 | cons x r =>
  have:x∈l.filter p:=by rw [e];exact .head _
  exact ⟨x,(List.mem_filter.mp this).1,(List.mem_filter.mp this).2⟩
theorem Xkm (hw:∀k∈ks,1≤k.w){c b:Nat}(hc:c<b)(hb:b≤ns.length)(h:be ns ks c b≠0):ht ns ks b+rs ns ks b≤ht ns ks c+rs ns ks c:=by
 rw [Xhc] at h
 by_cases h1:b=c+1∧ht ns ks b=ht ns ks c
 ·obtain ⟨e,h2⟩:=h1
  subst e
  have:=Xlm (ns:=ns) (ks:=ks) hw hb
  omega
 ·rw [if_neg h1,Int.zero_add] at h
  obtain ⟨k,hk,hp⟩:=len_pos h
  rw [Bool.and_eq_true,Bool.and_eq_true] at hp
  have:=Xla hw hk hp.1.1 (of_decide_eq_true hp.1.2)
  have:=of_decide_eq_true hp.2
  omega
theorem Xkq (hw:∀k∈ks,1≤k.w){c b:Nat}(hc:c<b)(hb:b≤ns.length)(h:re ns ks c b≠0):ht ns ks c+rs ns ks c≤ht ns ks b+rs ns ks b:=by
 rw [Xqu hw hc hb] at h
 by_cases h1:b=c+1∧rs ns ks c=rs ns ks b
 ·obtain ⟨e,h2⟩:=h1
  subst e
  have:=Zhl ns ks hw c
  omega
 ·rw [if_neg h1,Int.zero_add] at h
  obtain ⟨k,hk,hp⟩:=len_pos h
  rw [Bool.and_eq_true,Bool.and_eq_true] at hp
  have h3:=Zih ns ks hw hk hp.1.1
  have h4:=of_decide_eq_true hp.1.2
  rw [show ((c:Int)).toNat=c by omega,show ((c:Int)+k.w).toNat=b by omega] at h3
  have:=of_decide_eq_true hp.2
  omega
theorem Xsa (hw:∀k∈ks,1≤k.w):∀(d b:Nat),b+d=ns.length→ht ns ks b+rs ns ks b≠ht ns ks ns.length→W (be ns ks) b d=0:=fun d=>by
 induction d using Nat.strongRecOn with
 | ind d ih =>
  intro b hb hne
  cases d with
  | zero =>
   rw [add_zero] at hb
   rw [hb,Xnl] at hne
   omega
  | succ d =>
   rw [Zkp]
   refine Zjy fun i hi=>?_
   by_cases h:ht ns ks (b+d+1 - i)+rs ns ks (b+d+1 - i)=ht ns ks ns.length
   ·have:be ns ks b (b+d+1 - i)=0:=by
     by_cases q:be ns ks b (b+d+1 - i)=0
     ·exact q
     ·have h1:=Xkm hw (by omega) (by omega) q
      have h2:=Xrp (ns:=ns) (ks:=ks) hw (a:=b) (by omega)
      omega
    rw [this,zero_mul]
   ·rw [ih i (by omega) (b+d+1 - i) (by omega) h,mul_zero]
theorem Xpy (hw:∀k∈ks,1≤k.w):∀(d a:Nat),a+d=ns.length→ht ns ks a+rs ns ks a=ht ns ks ns.length→W (be ns ks) a d=W (re ns ks) a d:=fun d=>by
 induction d using Nat.strongRecOn with
 | ind d ih =>
  intro a ha he
  cases d with
  | zero=>rfl
  | succ d =>
   rw [Zkp,Zkp]
   refine Jb fun i hi=>?_
   have hb:a+d+1 - i≤ns.length:=by omega
   have hc:a<a+d+1 - i:=by omega
   obtain ⟨b,hbe⟩:∃b,b=a+d+1 - i:=⟨_,rfl⟩
   rw [← hbe] at hb hc ⊢
   by_cases h:ht ns ks b+rs ns ks b=ht ns ks ns.length
   ·rw [ih i (by omega) b (by omega) h]
    congr 1
    rw [Xhc,Xqu hw hc hb]
    congr 1
    ·have:(b=a+1∧ht ns ks b=ht ns ks a)↔(b=a+1∧rs ns ks a=rs ns ks b):=⟨fun z=>⟨z.1,by omega⟩,fun z=>⟨z.1,by omega⟩⟩
     by_cases q:b=a+1∧ht ns ks b=ht ns ks a
     ·rw [if_pos q,if_pos (this.mp q)]
     ·rw [if_neg q,if_neg (fun z=>q (this.mpr z))]
    ·congr 2
     refine filter_congr fun k _=>?_
     congr 1
     exact decide_eq_decide.mpr ⟨fun z=>by omega,fun z=>by omega⟩
   ·rw [Xsa hw i b (by omega) h,mul_zero]
    have:re ns ks a b=0:=by
     by_cases q:re ns ks a b=0
     ·exact q
     ·have h1:=Xkq hw hc hb q
      have h2:=Xrp (ns:=ns) (ks:=ks) hw (a:=b) hb
      omega
    rw [this,zero_mul]
noncomputable def Zyx (ns:List Int)(ks:List Kd)(e:Nat):List Cut:=(Zed ns ks e).filter fun c=>decide (c.2=ht ns ks e)
noncomputable def Xiu (ns:List Int)(ks:List Kd)(F:Cut→Int)(e:Nat):Int:=((Zyx ns ks e).map F).sum
theorem Zxo (hw:∀k∈ks,1≤k.w)(F:Cut→Int)(e:Nat):Xiu ns ks F (e+1)=(if ht ns ks (e+1)=ht ns ks e then Xiu ns ks F e else 0) +
  (((tg ns ks (e+1)).filter fun k=>good ns k (((e+1:Nat):Int) - k.w)).map fun k=>Xiu ns ks (fun c=>F (c.1++[(((e+1:Nat):Int) - k.w,k.name)],c.2+k.wo)) (((e+1:Nat):Int) - k.w).toNat).sum:=by
 have hle:=Zuv ns ks hw
 have hm:=Zhl ns ks hw e
 have p1:((((Zed ns ks e).filter fun c=>decide (c.2=ht ns ks (e+1))).map F).sum:Int)=if ht ns ks (e+1)=ht ns ks e then Xiu ns ks F e else 0:=by
  by_cases h:ht ns ks (e+1)=ht ns ks e
  ·rw [if_pos h,h]
   rfl
  ·rw [if_neg h,List.filter_eq_nil_iff.mpr fun c hc z=>?_]
   ·rfl
   ·have:=(hle e).1 c hc
    have:=of_decide_eq_true z
    omega
 have p2:∀l:List Kd,(∀k∈l,k∈ks)→(((((l.map fun k=>if good ns k (((e+1:Nat):Int) - k.w)=true then (Zed ns ks (((e+1:Nat):Int) - k.w).toNat).map fun c=>((c.1++[(((e+1:Nat):Int) - k.w,k.name)],c.2+k.wo):Cut) else []).flatten).filter fun c=>decide (c.2=ht ns ks (e+1))).map F).sum:Int) =
   ((l.filter fun k=>good ns k (((e+1:Nat):Int) - k.w)&&decide (ht ns ks (((e+1:Nat):Int) - k.w).toNat+k.wo=ht ns ks (e+1))).map fun k=>Xiu ns ks (fun c=>F (c.1++[(((e+1:Nat):Int) - k.w,k.name)],c.2+k.wo)) (((e+1:Nat):Int) - k.w).toNat).sum:=fun l=>by
  induction l with
  | nil=>exact fun _=>rfl
  | cons k l ih =>
   intro hl
   rw [map_cons,flatten_cons,filter_append,map_append,sum_append,ih fun x hx=>hl x (.tail _ hx),Zdx]
   congr 1
   have hk:=hl k (.head _)
   by_cases g:good ns k (((e+1:Nat):Int) - k.w)=true
   ·rw [if_pos g,g,Bool.true_and,List.filter_map,map_map]
    have hb:=Xj g
    have h1:=Zih ns ks hw hk g
    rw [show (((e+1:Nat):Int) - k.w+k.w).toNat=e+1 by omega] at h1
    by_cases t:ht ns ks (((e+1:Nat):Int) - k.w).toNat+k.wo=ht ns ks (e+1)
    ·rw [if_pos (decide_eq_true t)]
     unfold Xiu Zyx
     have e2:((Zed ns ks (((e+1:Nat):Int) - k.w).toNat).filter ((fun c:Cut=>decide (c.2=ht ns ks (e+1)))∘fun c=>(c.1++[(((e+1:Nat):Int) - k.w,k.name)],c.2+k.wo)))=(Zed ns ks (((e+1:Nat):Int) - k.w).toNat).filter fun c=>decide (c.2=ht ns ks (((e+1:Nat):Int) - k.w).toNat):=filter_congr fun c _=>by
      show decide (c.2+k.wo=ht ns ks (e+1))=_
      exact decide_eq_decide.mpr ⟨fun z=>by omega,fun z=>by omega⟩
     rw [e2]
     rfl
    ·rw [if_neg (fun z=>t (of_decide_eq_true z)),List.filter_eq_nil_iff.mpr fun c hc z=>?_]
     ·rfl
     ·have:=(hle (((e+1:Nat):Int) - k.w).toNat).1 c hc
      have z:c.2+k.wo=ht ns ks (e+1):=of_decide_eq_true z
      omega
   ·rw [if_neg g,Bool.eq_false_iff.mpr g,Bool.false_and,if_neg Bool.false_ne_true]
    rfl
 show ((((Zed ns ks (e+1)).filter fun c=>decide (c.2=ht ns ks (e+1))).map F).sum:Int)=_
 rw [Zda ns ks hw e,filter_append,map_append,sum_append,p1]
 congr 1
 refine (p2 ks fun _ h=>h).trans ?_
 unfold tg
 rw [filter_filter]
theorem Xea (hw:∀k∈ks,1≤k.w):∀e,Xiu ns ks (fun _=>1) e=cb ns ks e:=fun e=>by
 induction e using Nat.strongRecOn with
 | ind e ih =>
  cases e with
  | zero=>rfl
  | succ e =>
   rw [Zxo hw,Zuo hw,ih e (by omega)]
   congr 2
   refine map_congr_left fun k hk=>?_
   have hk':=List.mem_filter.mp hk
   have h1:=hw k (Xfh hk'.1)
   have h2:=(Xj hk'.2).1
   exact ih _ (by omega)
theorem Xdr {α:Type}(l:List α):((l.map fun _=>(1:Int)).sum:Int)=l.length:=by
 induction l with
 | nil=>rfl
 | cons x l ih =>
  rw [map_cons,sum_cons,ih,length_cons]
  omega
theorem Zrg (hw:∀k∈ks,1≤k.w)(e:Nat):((Zyx ns ks e).length:Int)=cb ns ks e:=by
 rw [← Xea hw,← Xdr]
 rfl
theorem Xrg {α:Type}(p:α→Bool)(f:α→Int)(l:List α):(((l.filter p).map f).sum:Int)=(l.map fun x=>if p x=true then f x else 0).sum:=by
 induction l with
 | nil=>rfl
 | cons x l ih=>rw [Zdx,map_cons,sum_cons,ih]
theorem Zpf (ns:List Int):Zar [iD ns]=.ok (iD ns.reverse):=Yx (Yv (Zbv rfl (by simp [Zha,iD])))
theorem Xmt (hn:ns.length≤900)(hk:ks.length≤1000)(hw:∀k∈ks,1≤k.w):Zix [iD ns,tD ks]=.ok (iD (hts ns.reverse ks ns.length).reverse):=by
 have h2:=Zdd ns.reverse ks (by simp;omega) hk hw
 rw [length_reverse] at h2
 exact Yx (Yv (Zbv (Zq (Zc (Zq (Zc rfl rfl) (Zpf ns)) (Zc rfl rfl)) h2) (by simp [Zha,iD])))
theorem Zvc {e:Nat}(he:e≤ns.length){i:Int}(hi:i=(e:Int)):gIx (iD (hts ns ks ns.length)) (.int i)=some (.int (ht ns ks e)):=by
 have:=Zbq ns ks ns.length
 rw [← Zgd ns ks ns.length e he]
 exact Zak hi (by omega)
theorem rs_ix {e:Nat}(he:e≤ns.length){i:Int}(hi:i=(e:Int)):gIx (iD (hts ns.reverse ks ns.length).reverse) (.int i)=some (.int (rs ns ks e)):=by
 have hl:=Zbq ns.reverse ks ns.length
 have h:=Zak (ns:=(hts ns.reverse ks ns.length).reverse) (i:=i) (k:=e) hi (by rw [length_reverse];omega)
 refine h.trans ?_
 congr 2
 rw [getD_eq_getElem?_getD,List.getElem?_reverse (by omega),hl,← getD_eq_getElem?_getD,show ns.length+1 - 1 - e=ns.length - e by omega]
 exact Zgd ns.reverse ks ns.length _ (by omega)
noncomputable abbrev Stp:=Int×List (Int×Str)
noncomputable def stD (s:Stp):D:=.tup [.int s.1,psD s.2]
noncomputable def kst (e:Nat)(k:Kd):Stp:=((e:Int) - k.w,[((e:Int) - k.w,k.name)])
noncomputable def stL (ns:List Int)(ks:List Kd)(e:Nat):List Stp:=(if ht ns ks (e - 1)=ht ns ks e then [((e:Int) - 1,[])] else [])++((ks.filter fun k=>good ns k ((e:Int) - k.w)).filter fun k=>decide (ht ns ks ((e:Int) - k.w).toNat+k.wo=ht ns ks e)).map (kst e)
theorem Zft {e:Nat}(he:e≤ns.length){A T:D}:∀(xs:List Kd) (ss:List Stp) (a b:Option D),(∀k∈xs,good ns k ((e:Int) - k.w)=true∧1≤k.w)→ss.length+xs.length≤10000→
  ∃a' b',Zcm (Xb 5) Jf (xs.map kD) [some A,some T,some (iD (hts ns ks ns.length)),some (.int e),some (.lst (ss.map stD)),a,b]=.ok (.nx [some A,some T,some (iD (hts ns ks ns.length)),some (.int e),some (.lst ((ss++(xs.filter fun k=>decide (ht ns ks ((e:Int) - k.w).toNat+k.wo=ht ns ks e)).map (kst e)).map stD)),a',b'])
 | [],ss,a,b,_,_=>⟨a,b,by rw [filter_nil,map_nil,map_nil,append_nil];rfl⟩
 | k::xs,ss,a,b,h,hl=>by
  rw [length_cons] at hl
  obtain ⟨hg,h1⟩:=h k (.head _)
  have hb:=Xj hg
  have i1:=Zvc (ns:=ns) (ks:=ks) (e:=((e:Int) - k.w).toNat) (i:=(e:Int) - k.w) (by omega) (by omega)
  have i2:=Zvc (ns:=ns) (ks:=ks) (e:=e) (i:=(e:Int)) he rfl
  rw [map_cons,Zho (ρ1:=[some A,some T,some (iD (hts ns ks ns.length)),some (.int e),some (.lst (ss.map stD)),some (kD k),b]) rfl,filter_cons]
  have s0:Yr 6 (f2 Zgt (fV 3) (f2 gIx (fV 5) (fC (.int 1)))) [some A,some T,some (iD (hts ns ks ns.length)),some (.int e),some (.lst (ss.map stD)),some (kD k),b]=.ok (.nx [some A,some T,some (iD (hts ns ks ns.length)),some (.int e),some (.lst (ss.map stD)),some (kD k),some (.int ((e:Int) - k.w))]):=Xl (Zn rfl (Zn rfl rfl (Zzt k)) rfl)
  by_cases t:ht ns ks ((e:Int) - k.w).toNat+k.wo=ht ns ks e
  ·have c:cE (f2 gEq (f2 Jk (f2 gIx (fV 2) (fV 6)) (f2 gIx (fV 5) (fC (.int 2)))) (f2 gIx (fV 2) (fV 3))) [some A,some T,some (iD (hts ns ks ns.length)),some (.int e),some (.lst (ss.map stD)),some (kD k),some (.int ((e:Int) - k.w))]=.ok true:=Jg (Zn (Zn (Zn rfl rfl i1) (Zn rfl rfl (Xku k)) rfl) (Zn rfl rfl i2) ((Zht _ _).trans (Xij t)))
   have ap:Zjp 4 (fA Zca (Zd (f1 Xr (fV 6)) (Zd (fA Jy (Zd (fA Zca (Zd (f1 Xr (fV 6)) (Zd (f1 Xr (f2 gIx (fV 5) (fC (.int 0)))) Zu))) Zu)) Zu))) [some A,some T,some (iD (hts ns ks ns.length)),some (.int e),some (.lst (ss.map stD)),some (kD k),some (.int ((e:Int) - k.w))]=.ok (.nx [some A,some T,some (iD (hts ns ks ns.length)),some (.int e),some (.lst ((ss++[kst e k]).map stD)),some (kD k),some (.int ((e:Int) - k.w))]):=by
    rw [map_append]
    exact Zfd (xs:=ss.map stD) (d:=stD (kst e k)) rfl (Zag (Zc (Zbv rfl rfl) (Zc (Zag (Zc (Zag (Zc (Zbv rfl rfl) (Zc (Zbv (Zn rfl rfl (kD_0 k)) rfl) rfl)) rfl) rfl) rfl) rfl)) rfl) (by rw [length_map];show _<1000000;omega)
   obtain ⟨a',b',ih⟩:=Zft he xs (ss++[kst e k]) (some (kD k)) (some (.int ((e:Int) - k.w))) (fun x hx=>h x (.tail _ hx)) (by rw [length_append];simp only [length_cons,length_nil];omega)
   refine ⟨a',b',?_⟩
   rw [if_pos (decide_eq_true t),show Jf [some A,some T,some (iD (hts ns ks ns.length)),some (.int e),some (.lst (ss.map stD)),some (kD k),b]=_ from Zp s0 (Zbw c ap)]
   show Zcm _ _ (xs.map kD) _=_
   rw [ih,append_assoc]
   rfl
  ·have c:cE (f2 gEq (f2 Jk (f2 gIx (fV 2) (fV 6)) (f2 gIx (fV 5) (fC (.int 2)))) (f2 gIx (fV 2) (fV 3))) [some A,some T,some (iD (hts ns ks ns.length)),some (.int e),some (.lst (ss.map stD)),some (kD k),some (.int ((e:Int) - k.w))]=.ok false:=Jg (Zn (Zn (Zn rfl rfl i1) (Zn rfl rfl (Xku k)) rfl) (Zn rfl rfl i2) ((Zht _ _).trans (Xae t)))
   obtain ⟨a',b',ih⟩:=Zft he xs ss (some (kD k)) (some (.int ((e:Int) - k.w))) (fun x hx=>h x (.tail _ hx)) (by omega)
   refine ⟨a',b',?_⟩
   rw [if_neg (fun z=>t (of_decide_eq_true z)),show Jf [some A,some T,some (iD (hts ns ks ns.length)),some (.int e),some (.lst (ss.map stD)),some (kD k),b]=_ from Zp s0 (Yq c rfl)]
   exact ih
theorem Xct (hk:ks.length≤1000)(hw:∀k∈ks,1≤k.w){e:Nat}(h1:1≤e)(he:e≤ns.length):Zad [iD ns,tD ks,iD (hts ns ks ns.length),.int e]=.ok (.lst ((stL ns ks e).map stD)):=by
 have en:=Zct ns ks (e:Int) hk hw
 have i1:=Zvc (ns:=ns) (ks:=ks) (e:=e - 1) (i:=(e:Int) - 1) (by omega) (by omega)
 have i2:=Zvc (ns:=ns) (ks:=ks) (e:=e) (i:=(e:Int)) he rfl
 have hfl:(ks.filter fun k=>good ns k ((e:Int) - k.w)).length≤ks.length:=length_filter_le _ _
 have lp:∀ss:List Stp,ss.length≤1→∃a b,Zcm (Xb 5) Jf ((ks.filter fun k=>good ns k ((e:Int) - k.w)).map kD) [some (iD ns),some (tD ks),some (iD (hts ns ks ns.length)),some (.int e),some (.lst (ss.map stD)),none,none]=.ok (.nx [some (iD ns),some (tD ks),some (iD (hts ns ks ns.length)),some (.int e),some (.lst ((ss++((ks.filter fun k=>good ns k ((e:Int) - k.w)).filter fun k=>decide (ht ns ks ((e:Int) - k.w).toNat+k.wo=ht ns ks e)).map (kst e)).map stD)),a,b]):=fun ss hss=>Zft he _ ss none none (fun k hk'=>⟨(List.mem_filter.mp hk').2,hw k (List.mem_filter.mp hk').1⟩) (by omega)
 have jl:∀ss:List Stp,Zah (Zx Yg (Zd (fV 0) (Zd (fV 1) (Zd (fV 3) Zu)))) [some (iD ns),some (tD ks),some (iD (hts ns ks ns.length)),some (.int e),some (.lst (ss.map stD)),none,none]=.ok ((ks.filter fun k=>good ns k ((e:Int) - k.w)).map kD):=fun ss=>Zai (Zq (Zc rfl (Zc rfl (Zc rfl rfl))) en) (by rw [length_map];show _≤1000000;omega)
 unfold stL
 by_cases t:ht ns ks (e - 1)=ht ns ks e
 ·rw [if_pos t]
  obtain ⟨a,b,q⟩:=lp [((e:Int) - 1,[])] (le_refl 1)
  exact Yx (Zp (Xl rfl) (Zp (Zbw (Jg (Zn (Zn rfl (Zn rfl rfl rfl) i1) (Zn rfl rfl i2) ((Zht _ _).trans (Xij t)))) (Zfd (xs:=[]) rfl (Zag (Zc (Zn rfl rfl rfl) (Zc rfl rfl)) rfl) (by decide))) (Zp (Zdu (jl [((e:Int) - 1,[])]) q) (Yv rfl))))
 ·rw [if_neg t]
  obtain ⟨a,b,q⟩:=lp [] (by decide)
  exact Yx (Zp (Xl rfl) (Zp (Yq (Jg (Zn (Zn rfl (Zn rfl rfl rfl) i1) (Zn rfl rfl i2) ((Zht _ _).trans (Xae t)))) rfl) (Zp (Zdu (jl []) q) (Yv rfl))))
noncomputable def cbs (ns:List Int)(ks:List Kd)(n:Nat):List Int:=(List.range (n+1)).map (cb ns ks)
theorem Zis (n:Nat):(cbs ns ks n).length=n+1:=by simp [cbs]
theorem Zqi {n e:Nat}(he:e≤n):(cbs ns ks n).getD e 0=cb ns ks e:=by
 unfold cbs
 rw [getD_eq_getElem?_getD,getElem?_map,List.getElem?_range (by omega)]
 rfl
theorem Xre {n e:Nat}(he:e≤n){i:Int}(hi:i=(e:Int)):gIx (iD (cbs ns ks n)) (.int i)=some (.int (cb ns ks e)):=by
 rw [← Zqi (ns:=ns) (ks:=ks) he]
 exact Zak hi (by rw [Zis];omega)
theorem Xdi (n:Nat):cbs ns ks (n+1)=cbs ns ks n++[cb ns ks (n+1)]:=by
 unfold cbs
 rw [List.range_succ,map_append]
 rfl
theorem Xie (hw:∀k∈ks,1≤k.w)(e:Nat):((stL ns ks (e+1)).map fun s=>cb ns ks s.1.toNat).sum=cb ns ks (e+1):=by
 rw [Zuo hw]
 unfold stL
 rw [map_append,sum_append,show e+1 - 1=e by omega]
 congr 1
 ·by_cases h:ht ns ks e=ht ns ks (e+1)
  ·rw [if_pos h,if_pos h.symm]
   show cb ns ks (((e+1:Nat):Int) - 1).toNat+0=_
   rw [show (((e+1:Nat):Int) - 1).toNat=e by omega]
   omega
  ·rw [if_neg h,if_neg (fun z=>h z.symm)]
   rfl
 ·rw [map_map,filter_filter]
  unfold tg
  rw [filter_filter]
  congr 1
  have:(ks.filter fun k=>decide (ht ns ks (((e+1:Nat):Int) - k.w).toNat+k.wo=ht ns ks (e+1))&&good ns k (((e+1:Nat):Int) - k.w))=ks.filter fun k=>good ns k (((e+1:Nat):Int) - k.w)&&decide (ht ns ks (((e+1:Nat):Int) - k.w).toNat+k.wo=ht ns ks (e+1)):=filter_congr fun k _=>Bool.and_comm _ _
  rw [this]
  rfl
theorem Xnx (hw:∀k∈ks,1≤k.w){e:Nat}:∀s∈stL ns ks (e+1),0≤s.1∧s.1≤e:=fun s hs=>by
 unfold stL at hs
 rcases List.mem_append.mp hs with h | h
 ·split at h
  ·rw [List.mem_singleton.mp h]
   show 0≤((e+1:Nat):Int) - 1∧((e+1:Nat):Int) - 1≤e
   omega
  ·cases h
 ·obtain ⟨k,hk,rfl⟩:=List.mem_map.mp h
  have hk1:=List.mem_filter.mp (List.mem_filter.mp hk).1
  have h1:=hw k hk1.1
  have h2:=(Xj hk1.2).1
  show 0≤((e+1:Nat):Int) - k.w∧((e+1:Nat):Int) - k.w≤e
  omega
theorem Zia (hn:ns.length≤900)(hk:ks.length≤1000)(hw:∀k∈ks,1≤k.w):Yf [iD ns,tD ks]=.ok (iD (cbs ns ks ns.length)):=by
 have hh:=Zdd ns ks hn hk hw
 have key:V (Zcm (Xb 4) Zbg (Zdt 1 ns.length) [some (iD ns),some (tD ks),some (iD (hts ns ks ns.length)),some (iD (cbs ns ks 0)),none,none]) (fun fl=>∃a b,fl=.nx [some (iD ns),some (tD ks),some (iD (hts ns ks ns.length)),some (iD (cbs ns ks ns.length)),a,b]):=by
  refine Xoe (P:=fun i ρ=>∃a b,ρ=[some (iD ns),some (tD ks),some (iD (hts ns ks ns.length)),some (iD (cbs ns ks i)),a,b]) ⟨none,none,rfl⟩ (fun i ρ hi q=>?_) (fun ρ q=>?_)
  ·obtain ⟨a,b,rfl⟩:=q
   have st:=Xct (ns:=ns) hk hw (e:=i+1) (by omega) (by omega)
   have hlen:(stL ns ks (i+1)).length≤10000:=by
    unfold stL
    rw [length_append,length_map]
    have h1:=length_filter_le (fun k=>decide (ht ns ks (((i+1:Nat):Int) - k.w).toNat+k.wo=ht ns ks (i+1))) (ks.filter fun k=>good ns k (((i+1:Nat):Int) - k.w))
    have h2:=length_filter_le (fun k=>good ns k (((i+1:Nat):Int) - k.w)) ks
    have h3:(if ht ns ks (i+1 - 1)=ht ns ks (i+1) then [(((i+1:Nat):Int) - 1,([]:List (Int×Str)))] else []).length≤1:=by split<;>simp
    omega
   rw [Zff]
   refine V.of (a:=.nx [some (iD ns),some (tD ks),some (iD (hts ns ks ns.length)),some (iD (cbs ns ks (i+1))),some (.int (1+(i:Int))),some (.lst ((stL ns ks (i+1)).map stD))]) ?_ (by exact ⟨_,_,rfl⟩)
   have e1:(1+(i:Int))=((i+1:Nat):Int):=by omega
   show Zbg [some (iD ns),some (tD ks),some (iD (hts ns ks ns.length)),some (iD (cbs ns ks i)),some (.int (1+(i:Int))),b]=_
   rw [e1]
   refine Zp (Xl (Zq (Zc rfl (Zc rfl (Zc rfl (Zc rfl rfl)))) st)) ?_
   have cm:Zcl 6 1 (Zah (fV 5)) (Xb 6) Zoc (f1 Xr (f2 gIx (fV 3) (f2 gIx (fV 6) (fC (.int 0))))) [some (iD ns),some (tD ks),some (iD (hts ns ks ns.length)),some (iD (cbs ns ks i)),some (.int ((i+1:Nat):Int)),some (.lst ((stL ns ks (i+1)).map stD))]=.ok (iD ((stL ns ks (i+1)).map fun s=>cb ns ks s.1.toNat)):=by
    unfold iD
    rw [map_map]
    refine Zjd rfl (Zai (xs:=(stL ns ks (i+1)).map stD) rfl (by rw [length_map];show _≤1000000;omega)) (Zlr rfl fun s hs=>?_)
    have hb:=Xnx (ns:=ns) hw s hs
    exact Zbv (Zn rfl (Zn rfl rfl (show gIx (stD s) (.int 0)=some (.int s.1) from rfl)) (Xre (ns:=ns) (ks:=ks) (n:=i) (e:=s.1.toNat) (by omega) (by omega))) rfl
   have sm:Zud [iD ((stL ns ks (i+1)).map fun s=>cb ns ks s.1.toNat)]=some (.int (cb ns ks (i+1))):=by
    rw [← Xie hw]
    exact sum_ints _
   refine Eq.trans (Zfd (xs:=(cbs ns ks i).map D.int) (d:=.int (cb ns ks (i+1))) rfl (Zag (Zc cm rfl) sm) (by rw [length_map,Zis];show _<1000000;omega)) ?_
   rw [Xdi]
   simp [iD]
  ·obtain ⟨a,b,rfl⟩:=q
   exact ⟨a,b,rfl⟩
 obtain ⟨fl,h1,a,b,rfl⟩:=key.ex
 refine Yx (Zp (Xl (Zq (Zc rfl (Zc rfl rfl)) hh)) (Zp (Xl rfl) (Zp (Zdu (Xfs (Zc rfl (Zc (Zn (Zsn rfl) rfl rfl) rfl)) (Ziu (n:=ns.length) (by omega) (by omega) (by omega) (by omega) (by omega) (by omega))) h1) (Yv rfl))))
noncomputable abbrev PK:=Nat×Kd
noncomputable def nm (x:PK):Int×Str:=((x.1:Int),x.2.name)
noncomputable def enN (x:PK):Nat:=((x.1:Int)+x.2.w).toNat
noncomputable def Xqx (ns:List Int)(ks:List Kd)(p:Nat):List PK:=(ks.filter fun k=>good ns k (p:Int)).map fun k=>(p,k)
noncomputable def Zcn (ns:List Int)(ks:List Kd)(n:Nat):List PK:=((List.range n).map (Xqx ns ks)).flatten
noncomputable def may (ns:List Int)(ks:List Kd)(x:PK):Bool:=decide (ht ns ks x.1+x.2.wo+rs ns ks (enN x)=ht ns ks ns.length)
noncomputable def Xmp (ns:List Int)(ks:List Kd)(x:PK):Bool:=decide (cb ns ks x.1*cb ns.reverse ks (ns.length - enN x)=cb ns ks ns.length)
noncomputable def Xda (ns:List Int)(ks:List Kd):List PK:=(Zcn ns ks ns.length).filter (may ns ks)
noncomputable def Xch (ns:List Int)(ks:List Kd):List PK:=(Xda ns ks).filter (Xmp ns ks)
noncomputable def nsD (xs:List PK):D:=psD (xs.map nm)
theorem Xde (p:Nat):(Xqx ns ks p).length≤ks.length:=by
 unfold Xqx
 rw [length_map]
 exact length_filter_le _ _
theorem Znn (n:Nat):Zcn ns ks (n+1)=Zcn ns ks n++Xqx ns ks n:=by
 unfold Zcn
 rw [List.range_succ,map_append,flatten_append]
 simp
theorem Zes:∀n,(Zcn ns ks n).length≤n*ks.length
 | 0=>by simp [Zcn]
 | n+1=>by
  have h1:=Zes n
  have h2:=Xde (ns:=ns) (ks:=ks) n
  rw [Znn,length_append,succ_mul]
  omega
theorem Zgj {n:Nat}{x:PK}(h:x∈Zcn ns ks n):x.1<n∧x.2∈ks∧good ns x.2 (x.1:Int)=true:=by
 obtain ⟨l,hl,hx⟩:=List.mem_flatten.mp h
 obtain ⟨p,hp,rfl⟩:=List.mem_map.mp hl
 obtain ⟨k,hk,rfl⟩:=List.mem_map.mp hx
 obtain ⟨h1,h2⟩:=List.mem_filter.mp hk
 exact ⟨List.mem_range.mp hp,h1,h2⟩
theorem Zfq (xs:List PK):nsD xs=.lst (xs.map fun x=>pD (nm x)):=by
 unfold nsD psD
 rw [map_map]
 rfl
theorem Xiy (xs:List PK)(x:PK):nsD (xs++[x])=.lst ((xs.map nm).map pD++[.tup [.int x.1,.str x.2.name]]):=by
 unfold nsD psD
 rw [map_append,map_append]
 rfl
theorem Xnb (xs:List PK):((xs.map nm).map pD).length=xs.length:=by rw [length_map,length_map]
theorem Zwp {α β:Type}(L:List β)(f:α→β)(p:α→Bool)(dn:List α)(k:α):L++((dn++[k]).filter p).map f=if p k=true then (L++(dn.filter p).map f)++[f k] else L++(dn.filter p).map f:=by
 rw [filter_append,filter_cons]
 split
 ·rw [filter_nil,map_append,append_assoc]
  rfl
 ·rw [filter_nil,append_nil]
theorem Zvv (hn:ns.length≤900)(hk:ks.length≤100)(hw:∀k∈ks,1≤k.w):Jm [iD ns,tD ks]=.ok (nsD (Zcn ns ks ns.length)):=by
 have inner:∀(p:Nat),p<ns.length→∀(o:Option D),V (Zcm (Xb 4) Zdm (ks.map kD) [some (iD ns),some (tD ks),some (nsD (Zcn ns ks p)),some (.int p),o]) (fun fl=>∃o',fl=.nx [some (iD ns),some (tD ks),some (nsD (Zcn ns ks (p+1))),some (.int p),o']):=fun p hp o=>by
  refine Xfn (P:=fun r ρ=>∃dn o,dn++r=ks∧ρ=[some (iD ns),some (tD ks),some (nsD (Zcn ns ks p++(dn.filter fun k=>good ns k (p:Int)).map fun k=>(p,k))),some (.int p),o]) (fun k r ρ h=>?_) (fun ρ h=>?_) ⟨[],o,rfl,by rw [filter_nil,map_nil,append_nil]⟩
  ·obtain ⟨dn,o,e,rfl⟩:=h
   have hkm:k∈ks:=by rw [← e];exact mem_append_right _ (.head _)
   have hf:=Zza ns k (p:Int) (hw k hkm)
   have e2:(dn++[k])++r=ks:=by rw [append_assoc];exact e
   have hdl:dn.length≤ks.length:=by rw [← e,length_append];omega
   have hs:=Zwp (Zcn ns ks p) (fun k=>(p,k)) (fun k=>good ns k (p:Int)) dn k
   rw [Zff]
   have hl1:=Zes (ns:=ns) (ks:=ks) p
   have hl2:p*ks.length≤900*100:=mul_le_mul (by omega) hk
   have hl3:=length_filter_le (fun k=>good ns k (p:Int)) dn
   have hl4:(Zcn ns ks p++(dn.filter fun k=>good ns k (p:Int)).map fun k=>(p,k)).length<1000000:=by
    rw [length_append,length_map]
    omega
   generalize Zcn ns ks p++(dn.filter fun k=>good ns k (p:Int)).map (fun k=>(p,k))=L at *
   cases g:good ns k (p:Int) with
   | false =>
    rw [g] at hf hs
    rw [if_neg Bool.false_ne_true] at hs
    refine V.of (a:=.nx [some (iD ns),some (tD ks),some (nsD L),some (.int p),some (kD k)]) (Yq (Jg (Zq (Zc rfl (Zc rfl (Zc rfl rfl))) hf)) rfl) ?_
    exact ⟨dn++[k],_,e2,by rw [hs]⟩
   | true =>
    rw [g] at hf hs
    rw [if_pos rfl] at hs
    refine V.of (a:=.nx [some (iD ns),some (tD ks),some (nsD (L++[(p,k)])),some (.int p),some (kD k)]) ?_ (by exact ⟨dn++[k],_,e2,by rw [hs]⟩)
    rw [Xiy]
    exact Zbw (Jg (Zq (Zc rfl (Zc rfl (Zc rfl rfl))) hf)) (Zfd (xs:=(L.map nm).map pD) rfl (Zag (Zc (Zbv rfl rfl) (Zc (Zbv (Zn rfl rfl (kD_0 k)) rfl) rfl)) rfl) (by rw [Xnb];exact hl4))
  ·obtain ⟨dn,o,e,rfl⟩:=h
   rw [append_nil] at e
   subst e
   exact ⟨o,by rw [Znn];rfl⟩
 have outer:V (Zcm (Xb 3) Zdn (Zdt 0 ns.length) [some (iD ns),some (tD ks),some (nsD (Zcn ns ks 0)),none,none]) (fun fl=>∃a b,fl=.nx [some (iD ns),some (tD ks),some (nsD (Zcn ns ks ns.length)),a,b]):=by
  refine Xfq (P:=fun p ρ=>∃a b,ρ=[some (iD ns),some (tD ks),some (nsD (Zcn ns ks p)),a,b]) ⟨none,none,rfl⟩ (fun p ρ hp h=>?_) (fun ρ h=>?_)
  ·obtain ⟨a,b,rfl⟩:=h
   rw [Zff]
   obtain ⟨fl,h1,o',rfl⟩:=(inner p hp b).ex
   exact V.of (Zdu (Zai (xs:=ks.map kD) rfl (by rw [length_map];show _≤1000000;omega)) h1) ⟨_,_,rfl⟩
  ·obtain ⟨a,b,rfl⟩:=h
   exact ⟨a,b,rfl⟩
 obtain ⟨fl,h1,a,b,rfl⟩:=outer.ex
 exact Yx (Zp (Xl rfl) (Zp (Zdu (Zty (Zc (Zsn rfl) rfl) (by omega)) h1) (Yv rfl)))
theorem Zwz (hk:ks.length≤1000)(nd:(ks.map (·.name)).Nodup){x:PK}(hx:x.2∈ks):Jp [tD ks,pD (nm x)]=.ok (.int ((x.1:Int)+x.2.w)):=
 Yx (Yv (Zn (Zn rfl rfl (pD_0 _)) (Zn (Zq (Zc rfl (Zc (Zn rfl rfl (pD_1 _)) rfl)) (Zjz ks hk nd hx)) rfl (Zzt _)) rfl))
theorem Xek:gIx (iD (hts ns ks ns.length)) (.int (-1))=some (.int (ht ns ks ns.length)):=by
 have hl:=Zbq ns ks ns.length
 have h:=Zkt (ns:=hts ns ks ns.length) (fun z=>by rw [z] at hl;cases hl)
 rw [hl,add_sub_cancel,Zgd ns ks ns.length _ (le_refl _)] at h
 exact h
theorem Xep (n:Nat):gIx (iD (cbs ns ks n)) (.int (-1))=some (.int (cb ns ks n)):=by
 have hl:=Zis (ns:=ns) (ks:=ks) n
 have h:=Zkt (ns:=cbs ns ks n) (fun z=>by rw [z] at hl;cases hl)
 rw [hl,add_sub_cancel,Zqi (le_refl _)] at h
 exact h
theorem Xqz {x:PK}(h:good ns x.2 (x.1:Int)=true)(h1:1≤x.2.w):enN x≤ns.length∧((x.1:Int)+x.2.w)=((enN x:Nat):Int):=by
 have:=Xj h
 unfold enN
 omega
theorem Zpd (hn:ns.length≤900)(hk:ks.length≤100)(hw:∀k∈ks,1≤k.w)(nd:(ks.map (·.name)).Nodup):Zfa [iD ns,tD ks]=.ok (nsD (Xda ns ks)):=by
 have hh:=Zdd ns ks hn (by omega) hw
 have tt:=Xmt (ns:=ns) (ks:=ks) hn (by omega) hw
 have pp:=Zvv hn hk hw
 have hl1:=Zes (ns:=ns) (ks:=ks) ns.length
 have hl2:ns.length*ks.length≤900*100:=mul_le_mul hn hk
 rw [Zfq] at pp
 have cm:Zcl 4 1 (Zah (Zx Jm (Zd (fV 0) (Zd (fV 1) Zu)))) (Xb 4) (cE (f2 gEq (Zx Yh (Zd (fV 1) (Zd (fV 2) (Zd (fV 3) (Zd (fV 4) Zu))))) (f2 gIx (fV 2) (f1 Zod (fC (.int 1)))))) (f1 Xr (fV 4)) [some (iD ns),some (tD ks),some (iD (hts ns ks ns.length)),some (iD (hts ns.reverse ks ns.length).reverse)]=.ok (.lst ((Xda ns ks).map fun x=>pD (nm x))):=by
  refine Zjd rfl (Zai (Zq (Zc rfl (Zc rfl rfl)) pp) (by rw [length_map];show _≤1000000;omega)) (Xat rfl fun x hx=>⟨?_,fun _=>Zbv rfl rfl⟩)
  obtain ⟨h1,h2,h3⟩:=Zgj hx
  obtain ⟨h4,h5⟩:=Xqz h3 (hw _ h2)
  have gw:Yh [tD ks,iD (hts ns ks ns.length),iD (hts ns.reverse ks ns.length).reverse,pD (nm x)]=.ok (.int (ht ns ks x.1+x.2.wo+rs ns ks (enN x))):=
   Yx (Yv (Zn (Zn (Zn rfl (Zn rfl rfl (pD_0 _)) (Zvc (e:=x.1) (by omega) rfl)) (Zn (Zq (Zc rfl (Zc (Zn rfl rfl (pD_1 _)) rfl)) (Zjz ks (by omega) nd h2)) rfl (Xku _)) rfl) (Zn rfl (Zq (Zc rfl (Zc rfl rfl)) (Zwz (by omega) nd h2)) (rs_ix h4 h5)) rfl))
  exact Jg (Zn (Zq (Zc rfl (Zc rfl (Zc rfl (Zc rfl rfl)))) gw) (Zn rfl rfl Xek) (Zht _ _))
 rw [Zfq]
 exact Yx (Zp (Xl (Zq (Zc rfl (Zc rfl rfl)) hh)) (Zp (Xl (Zq (Zc rfl (Zc rfl rfl)) tt)) (Yv cm)))
theorem Xcy (hn:ns.length≤900)(hk:ks.length≤8)(hw:∀k∈ks,1≤k.w){e:Nat}(he:e≤900):(cb ns ks e).natAbs<2 ^ 4000:=by
 have h1:=Zrg (ns:=ns) hw e
 have h2:(Zyx ns ks e).length≤(Zed ns ks e).length:=length_filter_le _ _
 have h3:=Zxw ns ks hw e
 have h4:(ks.length+1) ^ e≤16 ^ e:=Nat.pow_le_pow_left (by omega) e
 have h5:(16:Nat) ^ e≤16 ^ 900:=Nat.pow_le_pow_right (by decide) he
 have h6:(16:Nat) ^ 900<2 ^ 4000:=by
  rw [show (16:Nat)=2 ^ 4 from rfl,← Nat.pow_mul]
  exact Nat.pow_lt_pow_right (by decide) (by decide)
 have h7:(cb ns ks e).natAbs=(Zyx ns ks e).length:=by rw [← h1];rfl
 rw [h7]
 exact Nat.lt_of_le_of_lt (le_trans h2 (le_trans h3 (le_trans h4 h5))) h6
theorem Xio (hn:ns.length≤900)(hk:ks.length≤8)(hw:∀k∈ks,1≤k.w){a b:Nat}(ha:a≤ns.length)(hb:b≤ns.length):Zjl (.int (cb ns ks a)) (.int (cb ns.reverse ks b))=some (.int (cb ns ks a*cb ns.reverse ks b)):=
 if_pos ⟨Xcy hn hk hw (by omega),Xcy (by rw [length_reverse];exact hn) hk hw (by omega)⟩
theorem Xpo {e:Nat}(he:e≤ns.length){i:Int}(hi:i=(e:Int)):gIx (iD (cbs ns.reverse ks ns.length).reverse) (.int i)=some (.int (cb ns.reverse ks (ns.length - e))):=by
 have hl:=Zis (ns:=ns.reverse) (ks:=ks) ns.length
 have h:=Zak (ns:=(cbs ns.reverse ks ns.length).reverse) (i:=i) (k:=e) hi (by rw [length_reverse];omega)
 refine h.trans ?_
 congr 2
 rw [getD_eq_getElem?_getD,List.getElem?_reverse (by omega),hl,← getD_eq_getElem?_getD,show ns.length+1 - 1 - e=ns.length - e by omega]
 exact Zqi (by omega)
theorem Zyq (xs:List Int):Zha (iD xs)=some (iD xs.reverse):=by simp [Zha,iD]
theorem Xjg (hn:ns.length≤900)(hk:ks.length≤100):(Xda ns ks).length≤90000:=by
 have hl1:=Zes (ns:=ns) (ks:=ks) ns.length
 have hl2:ns.length*ks.length≤900*100:=mul_le_mul hn hk
 have:=length_filter_le (may ns ks) (Zcn ns ks ns.length)
 unfold Xda
 omega
theorem Zrj (hn:ns.length≤900)(hk:ks.length≤8)(hw:∀k∈ks,1≤k.w)(nd:(ks.map (·.name)).Nodup):Zfs [iD ns,tD ks]=.ok (nsD (Xch ns ks)):=by
 have c1:=Zia (ns:=ns) hn (by omega) hw
 have c2:=Zia (ns:=ns.reverse) (by rw [length_reverse];exact hn) (by omega) hw
 rw [length_reverse] at c2
 have mm:=Zpd hn (by omega) hw nd
 have hl:=Xjg (ns:=ns) (ks:=ks) hn (by omega)
 rw [Zfq] at mm
 have cm:Zcl 4 1 (Zah (Zx Zfa (Zd (fV 0) (Zd (fV 1) Zu)))) (Xb 4) (cE (f2 gEq (f2 Zjl (f2 gIx (fV 2) (f2 gIx (fV 4) (fC (.int 0)))) (f2 gIx (fV 3) (Zx Jp (Zd (fV 1) (Zd (fV 4) Zu))))) (f2 gIx (fV 2) (f1 Zod (fC (.int 1)))))) (f1 Xr (fV 4)) [some (iD ns),some (tD ks),some (iD (cbs ns ks ns.length)),some (iD (cbs ns.reverse ks ns.length).reverse)]=.ok (.lst ((Xch ns ks).map fun x=>pD (nm x))):=by
  refine Zjd rfl (Zai (Zq (Zc rfl (Zc rfl rfl)) mm) (by rw [length_map];show _≤1000000;omega)) (Xat rfl fun x hx=>⟨?_,fun _=>Zbv rfl rfl⟩)
  obtain ⟨h1,h2,h3⟩:=Zgj (List.mem_filter.mp hx).1
  obtain ⟨h4,h5⟩:=Xqz h3 (hw _ h2)
  exact Jg (Zn (Zn (Zn rfl (Zn rfl rfl (pD_0 _)) (Xre (e:=x.1) (by omega) rfl)) (Zn rfl (Zq (Zc rfl (Zc rfl rfl)) (Zwz (by omega) nd h2)) (Xpo h4 h5)) (Xio hn hk hw (by omega) (by omega))) (Zn rfl rfl (Xep _)) (Zht _ _))
 rw [Zfq]
 exact Yx (Zp (Xl (Zq (Zc rfl (Zc rfl rfl)) c1)) (Zp (Xl (Zbv (Zq (Zc (Zq (Zc rfl rfl) (Zpf ns)) (Zc rfl rfl)) c2) (Zyq _))) (Yv cm)))
end
structure T2 (S:Int→Prop)(m:Int)(o:Option Int):Prop where
 has:S m
 top:∀x,S x→x≤m
 non:o=none→∀x,S x→x=m
 som:∀b,o=some b→S b∧b<m∧∀x,S x→x<m→x≤b
theorem T2.same36 {S:Int→Prop}{m m':Int}{o o':Option Int}(a:T2 S m o)(b:T2 S m' o'):m=m'∧o=o':=by
 have e:m=m':=Int.le_antisymm (b.top _ a.has) (a.top _ b.has)
 subst e
 refine ⟨rfl,?_⟩
 cases o with
 | none =>
  cases o' with
  | none=>rfl
  | some y =>
   obtain ⟨h1,h2,-⟩:=b.som y rfl
   have:=a.non rfl y h1
   omega
 | some x =>
  obtain ⟨h1,h2,h3⟩:=a.som x rfl
  cases o' with
  | none =>
   have:=b.non rfl x h1
   omega
  | some y =>
   obtain ⟨g1,g2,g3⟩:=b.som y rfl
   have:=h3 y g1 g2
   have:=g3 x h1 h2
   rw [show x=y by omega]
theorem T2.upto {X S:Int→Prop}{m:Int}{o:Option Int}(h1:∀x,X x→S x)(h2:∀x,S x→X x∨∃b c,X b∧X c∧x<b∧b<c)(t:T2 X m o):T2 S m o where
 has:=h1 _ t.has
 top:=fun x hx=>by
  rcases h2 x hx with h | ⟨b,c,hb,hc,l1,l2⟩
  ·exact t.top x h
  ·have:=t.top c hc
   omega
 non:=fun e x hx=>by
  rcases h2 x hx with h | ⟨b,c,hb,hc,l1,l2⟩
  ·exact t.non e x h
  ·have:=t.non e b hb
   have:=t.non e c hc
   omega
 som:=fun y e=>by
  obtain ⟨g1,g2,g3⟩:=t.som y e
  refine ⟨h1 _ g1,g2,fun x hx hl=>?_⟩
  rcases h2 x hx with h | ⟨b,c,hb,hc,l1,l2⟩
  ·exact g3 x h hl
  ·have:=t.top c hc
   have:=g3 b hb (by omega)
   omega
theorem T2.congr {X S:Int→Prop}{m:Int}{o:Option Int}(h:∀x,X x↔S x)(t:T2 X m o):T2 S m o:=t.upto (fun x=>(h x).mp) fun x hx=>.inl ((h x).mpr hx)
noncomputable def asc (m:Int):Option Int→List Int
 | none=>[m]
 | some b=>[b,m]
noncomputable def Zdk:Option Int→D
 | none=>.non
 | some b=>.int b
def Two (f:Int→Option Int→List Int):Prop:=∀m o,(∀y,y∈f m o↔y=m∨o=some y)∧(f m o).length≤2∧f m o≠[]
theorem Zkq:Two asc:=fun m o=>by
 cases o with
 | none=>exact ⟨fun y=>by simp [asc],by simp [asc],by simp [asc]⟩
 | some b=>exact ⟨fun y=>by simp [asc,or_comm,eq_comm],by simp [asc],by simp [asc]⟩
theorem T2.near {S:Int→Prop}{m:Int}{o:Option Int}{f:Int→Option Int→List Int}(hf:Two f)(t:T2 S m o){y:Int}(hy:S y):y∈f m o∨∃b c,b∈f m o∧c∈f m o∧y<b∧b<c:=by
 have q:=(hf m o).1
 by_cases e:y=m
 ·exact .inl ((q y).mpr (.inl e))
 ·have hl:=t.top y hy
  cases o with
  | none=>exact absurd (t.non rfl y hy) e
  | some b =>
   obtain ⟨g1,g2,g3⟩:=t.som b rfl
   have:=g3 y hy (by omega)
   by_cases e2:y=b
   ·exact .inl ((q y).mpr (.inr (by rw [e2])))
   ·exact .inr ⟨b,m,(q b).mpr (.inr rfl),(q m).mpr (.inl rfl),by omega,g2⟩
def Wr (ns:List Int)(ks:List Kd)(j:Nat)(x:Int):Prop:=∃c∈Zed ns ks j,c.2=x
section
variable {ns:List Int}{ks:List Kd}
theorem Zhn {x:Int}:Wr ns ks 0 x↔x=0:=by
 unfold Wr
 rw [Ziv]
 constructor
 ·rintro ⟨c,hc,rfl⟩
  rw [List.mem_singleton.mp hc]
 ·rintro rfl
  exact ⟨_,List.mem_singleton.mpr rfl,rfl⟩
theorem Zhs (hw:∀k∈ks,1≤k.w){j:Nat}{x:Int}:Wr ns ks (j+1) x↔Wr ns ks j x∨∃k∈ks,good ns k ((j+1:Nat) - k.w)=true∧∃y,Wr ns ks (((j+1:Nat):Int) - k.w).toNat y∧x=y+k.wo:=by
 constructor
 ·rintro ⟨c,hc,rfl⟩
  rcases (Zbo ns ks hw j c).mp hc with h | ⟨k,k1,hg,c',h1,rfl⟩
  ·exact .inl ⟨c,h,rfl⟩
  ·exact .inr ⟨k,k1,hg,c'.2,⟨c',h1,rfl⟩,rfl⟩
 ·rintro (⟨c,hc,rfl⟩ | ⟨k,k1,hg,y,⟨c,hc,rfl⟩,rfl⟩)
  ·exact ⟨c,(Zbo ns ks hw j c).mpr (.inl hc),rfl⟩
  ·exact ⟨_,(Zbo ns ks hw j _).mpr (.inr ⟨k,k1,hg,c,hc,rfl⟩),rfl⟩
theorem Zrt (hw:∀k∈ks,1≤k.w):∀(j:Nat),j≤ns.length→∀x,Wr ns ks j x↔Way ns ks 0 j x:=by
 intro j
 induction j using Nat.strongRecOn with
 | _ j ih =>
  intro hj x
  cases j with
  | zero =>
   rw [Zhn]
   constructor
   ·rintro rfl;exact .nil 0
   ·intro h
    generalize hz:(0:Nat)=z at h
    cases h with
    | nil=>rfl
    | skip=>cases hz
    | piece _ hk _=>have:=hw _ hk;omega
  | succ j =>
   rw [Zhs hw]
   constructor
   ·rintro (h | ⟨k,k1,hg,y,hy,rfl⟩)
    ·exact ((ih j (by omega) (by omega) x).mp h).skip hj
    ·have bd:=Xj hg
     have h1:=hw k k1
     have p:=((ih _ (by omega) (by omega) y).mp hy).piece k1 (by rw [show (((((j+1:Nat):Int) - k.w).toNat:Nat):Int)=((j+1:Nat):Int) - k.w by omega];exact hg)
     rwa [show (((j+1:Nat):Int) - k.w).toNat+k.w.toNat=j+1 by omega] at p
   ·intro h
    generalize hz:j+1=z at h
    cases h with
    | nil=>cases hz
    | @skip b w h hb =>
     cases hz
     exact .inl ((ih j (by omega) (by omega) x).mpr h)
    | @piece b w k h hk hg =>
     have h1:=hw k hk
     have bd:=Xj hg
     have hb:((b+k.w.toNat:Nat):Int) - k.w=(b:Int):=by omega
     refine .inr ⟨k,hk,by rw [hb];exact hg,w,?_,rfl⟩
     rw [hb,toNat_natCast]
     exact (ih b (by omega) (by omega) w).mpr h
theorem Xrq (hw:∀k∈ks,1≤k.w)(x:Int):Wr ns.reverse ks ns.length x↔Wr ns ks ns.length x:=by
 rw [Zrt hw _ (by simp),Zrt hw _ (le_refl _)]
 constructor
 ·intro h
  have:=h.rev hw (zero_le _)
  rw [reverse_reverse,length_reverse,sub_self,sub_zero] at this
  exact this
 ·intro h
  have:=h.rev hw (zero_le _)
  rw [sub_self,sub_zero] at this
  exact this
noncomputable def Zeu (ns:List Int)(ks:List Kd)(rows:List (List Int))(j:Nat):List Int:=rows.getD j []++((ks.filter fun k=>good ns k (((j+1:Nat):Int) - k.w)).map fun k=>(rows.getD (((j+1:Nat):Int) - k.w).toNat []).map (·+k.wo)).flatten
def Zej (ns:List Int)(ks:List Kd)(f:Int→Option Int→List Int)(rows:List (List Int)):Prop:=∀i,i<rows.length→∃m o,T2 (Wr ns ks i) m o∧rows.getD i []=f m o
theorem Zbb {rows:List (List Int)}{j:Nat}{x:Int}:x∈Zeu ns ks rows j↔x∈rows.getD j []∨∃k∈ks,good ns k (((j+1:Nat):Int) - k.w)=true∧∃y∈rows.getD (((j+1:Nat):Int) - k.w).toNat [],x=y+k.wo:=by
 unfold Zeu
 rw [List.mem_append,List.mem_flatten]
 constructor
 ·rintro (h | ⟨l,hl,hx⟩)
  ·exact .inl h
  ·obtain ⟨k,hk,rfl⟩:=List.mem_map.mp hl
   obtain ⟨k1,k2⟩:=List.mem_filter.mp hk
   obtain ⟨y,hy,rfl⟩:=List.mem_map.mp hx
   exact .inr ⟨k,k1,k2,y,hy,rfl⟩
 ·rintro (h | ⟨k,k1,k2,y,hy,rfl⟩)
  ·exact .inl h
  ·exact .inr ⟨_,List.mem_map.mpr ⟨k,List.mem_filter.mpr ⟨k1,k2⟩,rfl⟩,List.mem_map.mpr ⟨y,hy,rfl⟩⟩
theorem Xkj (hw:∀k∈ks,1≤k.w){f:Int→Option Int→List Int}(hf:Two f){rows:List (List Int)}{j:Nat}(hl:rows.length=j+1)(hr:Zej ns ks f rows){m:Int}{o:Option Int}(t:T2 (·∈Zeu ns ks rows j) m o):T2 (Wr ns ks (j+1)) m o:=by
 have sub:∀i,i<rows.length→∀y,y∈rows.getD i []→Wr ns ks i y:=fun i hi y hy=>by
  obtain ⟨m',o',t',e⟩:=hr i hi
  rw [e] at hy
  rcases ((hf m' o').1 y).mp hy with z | z
  ·rw [z];exact t'.has
  ·exact (t'.som y z).1
 have near:∀i,i<rows.length→∀y,Wr ns ks i y→y∈rows.getD i []∨∃b c,b∈rows.getD i []∧c∈rows.getD i []∧y<b∧b<c:=fun i hi y hy=>by
  obtain ⟨m',o',t',e⟩:=hr i hi
  rw [e]
  exact t'.near hf hy
 refine t.upto (fun x hx=>?_) fun x hx=>?_
 ·rcases Zbb.mp hx with h | ⟨k,k1,hg,y,hy,rfl⟩
  ·exact (Zhs hw).mpr (.inl (sub j (by omega) x h))
  ·have bd:=Xj hg
   have h1:=hw k k1
   exact (Zhs hw).mpr (.inr ⟨k,k1,hg,y,sub _ (by omega) y hy,rfl⟩)
 ·rcases (Zhs hw).mp hx with h | ⟨k,k1,hg,y,hy,rfl⟩
  ·rcases near j (by omega) x h with z | ⟨b,c,hb,hc,l1,l2⟩
   ·exact .inl (Zbb.mpr (.inl z))
   ·exact .inr ⟨b,c,Zbb.mpr (.inl hb),Zbb.mpr (.inl hc),l1,l2⟩
  ·have bd:=Xj hg
   have h1:=hw k k1
   rcases near _ (by omega) y hy with z | ⟨b,c,hb,hc,l1,l2⟩
   ·exact .inl (Zbb.mpr (.inr ⟨k,k1,hg,y,z,rfl⟩))
   ·exact .inr ⟨b+k.wo,c+k.wo,Zbb.mpr (.inr ⟨k,k1,hg,b,hb,rfl⟩),Zbb.mpr (.inr ⟨k,k1,hg,c,hc,rfl⟩),by omega,by omega⟩
theorem Zjb {f:Int→Option Int→List Int}(hf:Two f){rows:List (List Int)}(hr:Zej ns ks f rows)(i:Nat):(rows.getD i []).length≤2:=by
 by_cases hi:i<rows.length
 ·obtain ⟨m,o,-,e⟩:=hr i hi
  rw [e]
  exact (hf m o).2.1
 ·rw [getD_eq_getElem?_getD,getElem?_eq_none (by omega)]
  exact zero_le _
theorem Zny {α:Type}(g:α→List Int)(hg:∀a,(g a).length≤2):∀l:List α,((l.map g).flatten).length≤2*l.length
 | []=>le_refl _
 | a::l=>by
  have:=Zny g hg l
  have:=hg a
  rw [map_cons,flatten_cons,length_append,length_cons]
  omega
theorem Zys {f:Int→Option Int→List Int}(hf:Two f){rows:List (List Int)}(hr:Zej ns ks f rows)(hk:ks.length≤8)(j:Nat):(Zeu ns ks rows j).length≤18:=by
 unfold Zeu
 rw [length_append]
 have h1:=Zjb hf hr j
 have h2:=Zny (fun k:Kd=>(rows.getD (((j+1:Nat):Int) - k.w).toNat []).map (·+k.wo)) (fun k=>by rw [length_map];exact Zjb hf hr _) (ks.filter fun k=>good ns k (((j+1:Nat):Int) - k.w))
 have h3:=length_filter_le (fun k=>good ns k (((j+1:Nat):Int) - k.w)) ks
 omega
theorem Xed {f:Int→Option Int→List Int}(hf:Two f){rows:List (List Int)}{j:Nat}(hl:rows.length=j+1)(hr:Zej ns ks f rows):Zeu ns ks rows j≠[]:=fun e=>by
 obtain ⟨m,o,-,e2⟩:=hr j (by omega)
 unfold Zeu at e
 exact (hf m o).2.2 (e2▸(List.append_eq_nil_iff.mp e).1)
theorem Zxj {f:Int→Option Int→List Int}(h0:f 0 none=[0]):Zej ns ks f [[0]]:=fun i hi=>by
 have:i=0:=by simp at hi;exact hi
 subst this
 refine ⟨0,none,⟨Zhn.mpr rfl,fun x hx=>by rw [Zhn.mp hx];exact Int.le_refl _,fun _ x hx=>Zhn.mp hx,fun b e=>(nomatch e)⟩,h0.symm⟩
theorem Xcb {f:Int→Option Int→List Int}{rows:List (List Int)}(hr:Zej ns ks f rows){m:Int}{o:Option Int}(t:T2 (Wr ns ks rows.length) m o):Zej ns ks f (rows++[f m o]):=fun i hi=>by
 rw [length_append,length_singleton] at hi
 by_cases h:i<rows.length
 ·obtain ⟨m',o',t',e⟩:=hr i h
  refine ⟨m',o',t',?_⟩
  rw [← e,getD_eq_getElem?_getD,getD_eq_getElem?_getD,getElem?_append_left h]
 ·have:i=rows.length:=by omega
  subst this
  exact ⟨m,o,t,by rw [getD_eq_getElem?_getD,getElem?_append_right (le_refl _)];simp⟩
theorem Xfi (hw:∀k∈ks,1≤k.w):cb ns.reverse ks ns.length=cb ns ks ns.length:=by
  have h1:=W_re (ns:=ns) (ks:=ks) (a:=0) (zero_le _)
  have h2:=Xpy (ns:=ns) (ks:=ks) hw ns.length 0 (by omega) (by
    show ht ns ks 0+rs ns ks 0=_
    have:rs ns ks 0=ht ns ks ns.length:=Xfr hw
    rw [this]
    show (0:Int)+_=_
    omega)
  rw [sub_zero] at h1
  rw [h1,← h2]
  rfl
theorem Zkz {α:Type}{C:Int}{f g:α→Int}:∀{l:List α},(∀x∈l,C*f x≤g x)→C*(l.map f).sum≤(l.map g).sum
 | [],_=>by simp
 | x::l,h=>by
  have h1:=h x (mem_cons_self ..)
  have h2:=Zkz (l:=l) fun y hy=>h y (mem_cons_of_mem _ hy)
  rw [map_cons,map_cons,sum_cons,sum_cons,mul_add]
  omega
theorem Zsj (hw:∀k∈ks,1≤k.w)(j:Nat):cnt ns ks (j+1)=cnt ns ks j+(ks.map fun k=>if good ns k ((j+1:Nat) - k.w)=true then cnt ns ks (((j+1:Nat):Int) - k.w).toNat else 0).sum:=by
 rw [Zkr ns ks hw,Xrg]
theorem Xrm (hw:∀k∈ks,1≤k.w)(j:Nat):0≤cnt ns ks j:=by
 rw [← Zqq ns ks hw]
 exact Int.natCast_nonneg _
theorem Xaj (hw:∀k∈ks,1≤k.w){c:Nat}(hc:c≤ns.length):∀j,j≤c→cnt (ns.take c) ks j=cnt ns ks j:=by
 intro j
 induction j using Nat.strongRecOn with
 | _ j ih =>
  intro hj
  cases j with
  | zero=>rfl
  | succ j =>
   rw [Zsj hw,Zsj hw,ih j (by omega) (by omega)]
   congr 2
   refine map_congr_left fun k hk=>?_
   have h1:=hw k hk
   rw [Zfe h1 (by omega) hc]
   split
   ·rename_i hg
    have:=Xj hg
    exact ih _ (by omega) (by omega)
   ·rfl
theorem Zxe (hw:∀k∈ks,1≤k.w){a:Nat}(ha:a≤ns.length):∀i,a+i≤ns.length→cnt ns ks a*cnt (ns.drop a) ks i≤cnt ns ks (a+i):=by
 intro i
 induction i using Nat.strongRecOn with
 | _ i ih =>
  intro hi
  cases i with
  | zero =>
   rw [Xcl,Int.mul_one]
   exact Int.le_refl _
  | succ i =>
   rw [← add_assoc,Zsj (ns:=ns) hw,Zsj (ns:=ns.drop a) hw,mul_add]
   refine add_le_add (ih i (by omega) (by omega)) (Zkz fun k hk=>?_)
   have h1:=hw k hk
   split
   ·rename_i hg
    have bd:=Xj hg
    have e1:(((i+1:Nat):Int) - k.w)=(((((i+1:Nat):Int) - k.w).toNat:Nat):Int):=by omega
    have hg2:good ns k ((a+i+1:Nat) - k.w)=true:=by
     rw [e1,Zen h1 ha] at hg
     rw [show ((a+i+1:Nat):Int) - k.w=((a+(((i+1:Nat):Int) - k.w).toNat:Nat):Int) by omega]
     exact hg
    rw [if_pos hg2,show (((a+i+1:Nat):Int) - k.w).toNat=a+(((i+1:Nat):Int) - k.w).toNat by omega]
    exact ih _ (by omega) (by omega)
   ·rw [mul_zero]
    split
    ·exact Xrm hw _
    ·exact Int.le_refl _
noncomputable def nW (ns:List Int)(ks:List Kd)(j:Nat)(x:Int):Int:=(((Zed ns ks j).filter fun c=>decide (c.2=x)).length:Int)
theorem Xlg (x:Int):nW ns ks 0 x=if x=0 then 1 else 0:=by
 unfold nW
 rw [Ziv]
 by_cases h:x=0
 ·subst h;rfl
 ·rw [if_neg h,List.filter_cons_of_neg (by simp;exact fun e=>h e.symm)]
  rfl
theorem Xru (j:Nat)(x:Int):0≤nW ns ks j x:=Int.natCast_nonneg _
theorem Ziq {α β:Type}(p:β→Bool)(f:α→List β):∀l:List α,((((l.map f).flatten.filter p).length:Nat):Int)=(l.map fun a=>(((f a).filter p).length:Int)).sum
 | []=>rfl
 | a::l=>by
  rw [map_cons,flatten_cons,filter_append,length_append,map_cons,sum_cons,natCast_add,Ziq p f l]
theorem Zkm (hw:∀k∈ks,1≤k.w)(j:Nat)(x:Int):nW ns ks (j+1) x=nW ns ks j x+(ks.map fun k=>if good ns k ((j+1:Nat) - k.w)=true then nW ns ks (((j+1:Nat):Int) - k.w).toNat (x - k.wo) else 0).sum:=by
 unfold nW
 rw [Zda ns ks hw,filter_append,length_append,natCast_add,Ziq]
 congr 2
 refine map_congr_left fun k hk=>?_
 split
 ·rw [List.filter_map,length_map]
  congr 2
  refine filter_congr fun c _=>?_
  show decide (c.2+k.wo=x)=decide (c.2=x - k.wo)
  congr 1
  exact propext ⟨fun h=>by omega,fun h=>by omega⟩
 ·rfl
theorem Xip (hw:∀k∈ks,1≤k.w){c:Nat}(hc:c≤ns.length):∀j,j≤c→∀x,nW (ns.take c) ks j x=nW ns ks j x:=by
 intro j
 induction j using Nat.strongRecOn with
 | _ j ih =>
  intro hj x
  cases j with
  | zero=>rfl
  | succ j =>
   rw [Zkm hw,Zkm hw,ih j (by omega) (by omega)]
   congr 2
   refine map_congr_left fun k hk=>?_
   have h1:=hw k hk
   rw [Zfe h1 (by omega) hc]
   split
   ·rename_i hg
    have:=Xj hg
    exact ih _ (by omega) (by omega) _
   ·rfl
theorem Xdz (hw:∀k∈ks,1≤k.w){a:Nat}(ha:a≤ns.length)(h:Int):∀i,a+i≤ns.length→∀x,nW ns ks a h*nW (ns.drop a) ks i x≤nW ns ks (a+i) (h+x):=by
 intro i
 induction i using Nat.strongRecOn with
 | _ i ih =>
  intro hi x
  cases i with
  | zero =>
   rw [Xlg]
   split
   ·rename_i e
    rw [e,Int.mul_one,Int.add_zero]
    exact Int.le_refl _
   ·rw [mul_zero]
    exact Xru _ _
  | succ i =>
   rw [← add_assoc,Zkm (ns:=ns) hw,Zkm (ns:=ns.drop a) hw,mul_add]
   refine add_le_add (ih i (by omega) (by omega) x) (Zkz fun k hk=>?_)
   have h1:=hw k hk
   split
   ·rename_i hg
    have bd:=Xj hg
    have e1:(((i+1:Nat):Int) - k.w)=(((((i+1:Nat):Int) - k.w).toNat:Nat):Int):=by omega
    have hg2:good ns k ((a+i+1:Nat) - k.w)=true:=by
     rw [e1,Zen h1 ha] at hg
     rw [show ((a+i+1:Nat):Int) - k.w=((a+(((i+1:Nat):Int) - k.w).toNat:Nat):Int) by omega]
     exact hg
    rw [if_pos hg2,show (((a+i+1:Nat):Int) - k.w).toNat=a+(((i+1:Nat):Int) - k.w).toNat by omega]
    rw [show h+x - k.wo=h+(x - k.wo) by omega]
    exact ih _ (by omega) (by omega) _
   ·rw [mul_zero]
    split
    ·exact Xru _ _
    ·exact Int.le_refl _
theorem Xhh (hw:∀k∈ks,1≤k.w)(e:Nat):nW ns ks e (ht ns ks e)=cb ns ks e:=Zrg hw e
theorem Xaa (hw:∀k∈ks,1≤k.w){a:Nat}(ha:a≤ns.length)(hs:ht ns ks a+ht (ns.drop a) ks (ns.length - a)=ht ns ks ns.length):cb (ns.take a) ks a*cb (ns.drop a) ks (ns.length - a)≤cb ns ks ns.length:=by
 rw [← Xhh hw,← Xhh hw,← Xhh hw,Zpc hw ha a (le_refl _),Xip hw ha a (le_refl _),← hs]
 have:=Xdz (ns:=ns) hw ha (ht ns ks a) (ns.length - a) (by omega) (ht (ns.drop a) ks (ns.length - a))
 rwa [show a+(ns.length - a)=ns.length by omega] at this
theorem Zky (hw:∀k∈ks,1≤k.w){a:Nat}(ha:a≤ns.length){x y:Int}(hx:Wr (ns.take a) ks a x)(hy:Wr (ns.drop a) ks (ns.length - a) y):Wr ns ks ns.length (x+y):=by
 have p1:∀j,j≤a→∀x,Wr (ns.take a) ks j x→Way ns ks 0 j x:=by
  intro j
  induction j using Nat.strongRecOn with
  | _ j ih =>
   intro hj x h
   cases j with
   | zero =>
    rw [Zhn] at h
    rw [h]
    exact .nil 0
   | succ j =>
    rcases (Zhs hw).mp h with h | ⟨k,k1,hg,y,h5,rfl⟩
    ·exact (ih j (by omega) (by omega) x h).skip (by omega)
    ·have h1:=hw k k1
     have bd:=Xj hg
     rw [Zfe (c:=a) h1 (by omega) ha] at hg
     have p:=(ih ((((j+1:Nat):Int) - k.w).toNat) (by omega) (by omega) y h5).piece k1 (by rw [show (((((j+1:Nat):Int) - k.w).toNat:Nat):Int)=((j+1:Nat):Int) - k.w by omega];exact hg)
     rwa [show (((j+1:Nat):Int) - k.w).toNat+k.w.toNat=j+1 by omega] at p
 have q1:=p1 a (le_refl _) x hx
 have q2:=((Zrt hw _ (by rw [length_drop];exact le_refl _) y).mp hy).up hw ha
 rw [add_zero,show a+(ns.length - a)=ns.length by omega] at q2
 exact (Zrt hw _ (le_refl _) _).mpr (q1.trans q2)
theorem Xiz (hw:∀k∈ks,1≤k.w){j:Nat}{m:Int}{o:Option Int}(t:T2 (Wr ns ks j) m o):m=ht ns ks j:=by
 obtain ⟨h1,c,hc,e⟩:=Zuv ns ks hw j
 obtain ⟨c',hc',e'⟩:=t.has
 have h2:=h1 c' hc'
 have h3:=t.top c.2 ⟨c,hc,rfl⟩
 omega
end
theorem Zvs (ks:List Int)(n x:Int):x∈Zdl ks n↔x∈ks∨x=n:=by
 unfold Zdl
 split
 ·rename_i h
  constructor
  ·exact .inl
  ·rintro (z | rfl)
   ·exact z
   ·exact h
 ·simp
theorem Zka:∀(ns ks:List Int) (x:Int),x∈Yl ks ns↔x∈ks∨x∈ns
 | [],ks,x=>by simp [Yl]
 | n::ns,ks,x=>by
  rw [Yl,Zka ns _ x,Zvs,List.mem_cons,or_assoc]
theorem Xci {ks:List Int}(h:ks.Nodup)(n:Int):(Zdl ks n).Nodup:=by
 unfold Zdl
 split
 ·exact h
 ·rename_i hn
  refine List.nodup_append.mpr ⟨h,by simp,fun a ha b hb e=>?_⟩
  rw [List.mem_singleton] at hb
  subst hb e
  exact hn ha
theorem Zlt:∀(ns ks:List Int),ks.Nodup→(Yl ks ns).Nodup
 | [],ks,h=>h
 | n::ns,ks,h=>Zlt ns _ (Xci h n)
theorem Xeo (l:List Int):(sortI l).Pairwise (·≤·):=by
 have:=List.pairwise_mergeSort (le:=fun a b:Int=>decide (a≤b)) (fun a b c h1 h2=>by simp at *;omega) (fun a b=>by simp;omega) l
 exact this.imp fun h=>by simpa using h
theorem Zxg {α:Type}(l:List α):cut l (some (-2)) none=l.drop (l.length - 2):=by
 unfold cut
 have h1:Zzs l.length 0 (some (-2))=l.length - 2:=by
  unfold Zzs
  simp
  try omega
 have h2:Zzs l.length l.length none=l.length:=rfl
 rw [h1,h2]
 exact take_of_length_le (by rw [length_drop];omega)
theorem Xpi:∀(Y:List Int),Y≠[]→Y.Pairwise (·<·)→∃m o,T2 (·∈Y) m o∧Y.drop (Y.length - 2)=asc m o
 | [],h,_=>absurd rfl h
 | [m],_,_=>⟨m,none,⟨List.mem_singleton.mpr rfl,fun x hx=>by rw [List.mem_singleton.mp hx];exact Int.le_refl _,fun _ x hx=>List.mem_singleton.mp hx,fun b z=>(nomatch z)⟩,rfl⟩
 | [b,m],_,hp=>by
  have hl:b<m:=by simp at hp;exact hp
  refine ⟨m,some b,⟨by simp,fun x hx=>?_,fun z=>(nomatch z),fun c z=>?_⟩,rfl⟩
  ·simp at hx
   omega
  ·cases z
   refine ⟨by simp,hl,fun x hx h=>?_⟩
   simp at hx
   omega
 | a::b::c::Y,_,hp=>by
  obtain ⟨h1,h2⟩:=List.pairwise_cons.mp hp
  obtain ⟨m,o,t,e⟩:=Xpi (b::c::Y) (by simp) h2
  refine ⟨m,o,t.upto (fun x hx=>mem_cons_of_mem _ hx) fun x hx=>?_,?_⟩
  ·rcases List.mem_cons.mp hx with rfl | hx
   ·exact .inr ⟨b,c,by simp,by simp,h1 b (by simp),(List.pairwise_cons.mp h2).1 c (by simp)⟩
   ·exact .inl hx
  ·rw [← e]
   simp only [length_cons]
   rw [show Y.length+1+1+1 - 2=(Y.length+1+1 - 2)+1 by omega,List.drop_succ_cons]
theorem Zyf (X:List Int)(h:X≠[]):∃m o,T2 (·∈X) m o∧cut (sortI (Yl [] X)) (some (-2)) none=asc m o:=by
 have hp:=List.mergeSort_perm (Yl [] X) (fun a b:Int=>decide (a≤b))
 have hm:∀x,x∈sortI (Yl [] X)↔x∈X:=fun x=>by
  rw [show sortI (Yl [] X)=(Yl [] X).mergeSort (fun a b:Int=>decide (a≤b)) from rfl,hp.mem_iff,Zka]
  simp
 have nd:(sortI (Yl [] X)).Nodup:=hp.nodup_iff.mpr (Zlt X [] nodup_nil)
 have up:(sortI (Yl [] X)).Pairwise (·<·):=by
  have:=(Xeo (Yl [] X)).and nd
  exact this.imp fun h=>by omega
 have hne:sortI (Yl [] X)≠[]:=fun e=>by
  obtain ⟨x,r,rfl⟩:=List.exists_cons_of_ne_nil h
  have:=(hm x).mpr (mem_cons_self ..)
  rw [e] at this
  cases this
 obtain ⟨m,o,t,e⟩:=Xpi _ hne up
 exact ⟨m,o,t.congr hm,by rw [Zxg];exact e⟩
noncomputable def Jd:FS:=
 (Zjp 3 (fA Zca (Zd (f2 Zgt (fV 2) (Zx Jp (Zd (fV 1) (Zd (fA Zca (Zd (fV 4) (Zd (fV 5) Zu))) Zu)))) (Zd (f1 Xr (fV 5)) Zu))))
noncomputable def Zer:FS:=
  (Xw (Yr 3 (fA Jy Zu))
    (Xw (Zjo (Zah (fV 0)) (Zls (Jt (Xb 4) (Jt (Xb 5) Zlo))) Jd)
    (Xw (Yr 6 (fA Zuw (Zd (Zcl 7 1 (Zah (fV 3)) (Xb 7) Zoc (Zx Jv (Zd (fV 7) (Zd (fV 1) Zu)))) Zu)))
    (Zac (Zcl 7 2 (Zah (fV 6)) (Zls (Jt (Xb 7) (Jt (Xb 8) Zlo))) Zoc (fA Zca (Zd (f1 Xr (fV 7)) (Zd (f1 Xr (f2 gIx (f2 gIx (fV 1) (fV 8)) (fC (.int 0)))) Zu))))))))
noncomputable def Xe (ds:List D):R D:=(run 7 Zer ds).calm
noncomputable def Zap:FS:=
 (Xho 4 (Zcl 6 1 (Zah (f2 gIx (fV 2) (f2 Zgt (fV 3) (f2 gIx (fV 5) (fC (.int 1)))))) (Xb 6) Zoc (f2 Jk (fV 6) (f2 gIx (fV 5) (fC (.int 2))))))
noncomputable def Zaq:FS:=
  (Xw (Yr 4 (fA Zxf (Zd (f2 gIx (fV 2) (f1 Zod (fC (.int 1)))) Zu)))
    (Xw (Zjo (Zah (Zx Yg (Zd (fV 0) (Zd (fV 1) (Zd (fV 3) Zu))))) (Xb 5) Zap)
    (Zjp 2 (fSl gSl (f1 Zkc (fV 4)) (Zic (f1 Zod (fC (.int 2)))) Znq))))
noncomputable def Zie:FS:=
  (Xw (Yr 2 (fA Jy (Zd (fA Jy (Zd (fC (.int 0)) Zu)) Zu)))
    (Xw (Zjo (Zmi (Zd (fC (.int 1)) (Zd (f2 Jk (fA Zbh (Zd (fV 0) Zu)) (fC (.int 1))) Zu))) (Xb 3) Zaq)
    (Xw (sIf (cE (f2 gEq (fA Zbh (Zd (f2 gIx (fV 2) (f1 Zod (fC (.int 1)))) Zu)) (fC (.int 1)))) (Zac (fC .non)) sNx)
    (Zac (f1 Xr (f2 gIx (f2 gIx (fV 2) (f1 Zod (fC (.int 1)))) (fC (.int 0))))))))
noncomputable def Yc (ds:List D):R D:=(run 6 Zie ds).calm
noncomputable def Xd:FS:=
 (sIf (Xix (cE (f2 Zke (f2 gIx (fV 8) (fV 9)) (fC .non))) (cOr (cE (f2 gIs (fV 7) (fC .non))) (cE (f2 gLt (fV 7) (f2 Jk (f2 gIx (fV 8) (fV 9)) (f2 gIx (fV 6) (f2 Zgt (fC (.int 1)) (fV 9)))))))) (Zac (fC (.bl false))) sNx)
noncomputable def Zau:FS:=
  (Xw (Xay (fA Zca (Zd (fSl gSl (fV 0) Znq (Zic (fV 2))) (Zd (fSl gSl (fV 0) (Zic (fV 2)) Znq) Zu))) (Zls (Jt (Xb 3) (Jt (Xb 4) Zlo))))
    (Xw (sIf (cE (f2 gGt (f2 Zjl (Zx Xi (Zd (fV 3) (Zd (fV 1) Zu))) (Zx Xi (Zd (fV 4) (Zd (fV 1) Zu)))) (Zx Xi (Zd (fV 0) (Zd (fV 1) Zu))))) (Zac (fC (.bl false))) sNx)
    (Xw (Yr 5 (f1 Xr (f2 gIx (Zx Zgo (Zd (fV 0) (Zd (fV 1) Zu))) (fC (.int 0)))))
    (Xw (Yr 6 (fA Jy (Zd (f1 Xr (f2 gIx (Zx Zgo (Zd (fV 3) (Zd (fV 1) Zu))) (fC (.int 0)))) (Zd (f1 Xr (f2 gIx (Zx Zgo (Zd (fV 4) (Zd (fV 1) Zu))) (fC (.int 0)))) Zu))))
    (Xw (Yr 7 (Zx Yc (Zd (fV 0) (Zd (fV 1) Zu))))
    (Xw (sIf (cOr (Xix (cE (f2 Zke (fV 7) (fC .non))) (Xmr (cE (f2 gLt (fV 7) (fV 5))))) (cE (f2 gGt (fA Zud (Zd (fV 6) Zu)) (fV 5)))) (Zac (fC (.bl false))) sNx)
    (Xw (sIf (cE (f2 gLt (fA Zud (Zd (fV 6) Zu)) (fV 5))) (Zac (fC (.bl true))) sNx)
    (Xw (sIf (cE (f2 gGt (f2 Zjl (Zx Xz (Zd (fV 3) (Zd (fV 1) Zu))) (Zx Xz (Zd (fV 4) (Zd (fV 1) Zu)))) (Zx Xz (Zd (fV 0) (Zd (fV 1) Zu))))) (Zac (fC (.bl false))) sNx)
    (Xw (Yr 8 (fA Jy (Zd (Zx Yc (Zd (fV 3) (Zd (fV 1) Zu))) (Zd (Zx Yc (Zd (fV 4) (Zd (fV 1) Zu))) Zu))))
    (Xw (Zjo (Zjj (Zd (fC (.int 2)) Zu)) (Xb 9) Xd)
    (Zac (fC (.bl true)))))))))))))
noncomputable def Xo (ds:List D):R D:=(run 10 Zau ds).calm
noncomputable def Zbd:FS:=
  (Xw (Yr 2 (Zx Zar (Zd (fV 0) Zu)))
    (Xw (sIf (cE (f2 gNe (Zx Xi (Zd (fV 2) (Zd (fV 1) Zu))) (Zx Xi (Zd (fV 0) (Zd (fV 1) Zu))))) (Zac (fC (.bl false))) sNx)
    (Xw (sIf (cE (f2 gNe (Zx Xz (Zd (fV 2) (Zd (fV 1) Zu))) (Zx Xz (Zd (fV 0) (Zd (fV 1) Zu))))) (Zac (fC (.bl false))) sNx)
    (Xw (sIf (cE (f2 gNe (Zx Yc (Zd (fV 2) (Zd (fV 1) Zu))) (Zx Yc (Zd (fV 0) (Zd (fV 1) Zu))))) (Zac (fC (.bl false))) sNx)
    (Xw (Yr 3 (fA Zbh (Zd (fV 0) Zu)))
    (Xw (sIf (cE (f2 gNe (Zx Zfa (Zd (fV 2) (Zd (fV 1) Zu))) (Zx Xe (Zd (Zx Zfa (Zd (fV 0) (Zd (fV 1) Zu))) (Zd (fV 1) (Zd (fV 3) Zu)))))) (Zac (fC (.bl false))) sNx)
    (Zac (f2 gEq (Zx Zfs (Zd (fV 2) (Zd (fV 1) Zu))) (Zx Xe (Zd (Zx Zfs (Zd (fV 0) (Zd (fV 1) Zu))) (Zd (fV 1) (Zd (fV 3) Zu))))))))))))
noncomputable def Xn (ds:List D):R D:=(run 4 Zbd ds).calm
noncomputable def Xor:FS:=
  (Xw (Yr 1 (fC (.int 40)))
    (Xw (Yr 2 (Zx Yb (Zd (fV 0) (Zd (fC (.int 2)) (Zd (fA Jy (Zd (fC (.int 8)) (Zd (fC (.int 201)) Zu))) Zu)))))
    (Xw (sIf (cE (f2 gEq (f2 gIx (fV 2) (fC (.int 0))) (fC (.int 0)))) (Yr 1 (fC (.int 200))) sNx)
    (Xw (Xay (Zx Jn (Zd (fV 0) (Zd (fC (.int 0)) (Zd (fV 1) (Zd (fC (.int 8)) Zu))))) (Zls (Jt (Xb 3) (Jt (Xb 4) Zlo))))
    (Xw (sIf (Xmr (cE (Zx Xn (Zd (fV 3) (Zd (fV 4) Zu))))) (Zac (fC (.bl false))) sNx)
    (Zac (Zx Xo (Zd (fV 3) (Zd (fV 4) (Zd (f2 Zhe (f2 gIx (fV 2) (fC (.int 1))) (f2 Jk (fA Zbh (Zd (fV 3) Zu)) (fC (.int 1)))) Zu))))))))))
noncomputable def Xad (ds:List D):R D:=(run 5 Xor ds).calm
noncomputable def Zfc (rows:List (List Int)):D:=.lst (rows.map iD)
theorem Xap {rows:List (List Int)}{i:Int}{k:Nat}(e:i=(k:Int))(h:k<rows.length):gIx (Zfc rows) (.int i)=some (iD (rows.getD k [])):=Xol e (by simp [h,List.getD])
theorem Zkd {rows:List (List Int)}{j:Nat}(h:rows.length=j+1):gIx (Zfc rows) (.int (-1))=some (iD (rows.getD j [])):=by
 show atD (rows.map iD) (-1)=_
 unfold atD ixD
 have e:((-1:Int)+((j:Int)+1)).toNat=j:=by omega
 have hj:rows[j]?=some rows[j]:=getElem?_eq_getElem (by omega)
 simp [h,List.getD,show (1:Int)≤(j:Int)+1 by omega,e,hj]
theorem Xjx {i:Nat}{e:FE}{ρ:Env}{xs ys:List D}(hv:ρ[i]?=some (some (.lst xs)))(h:e ρ=.ok (.lst ys))(hl:xs.length+ys.length≤1000000):Xho i e ρ=.ok (.nx (ρ.set i (some (.lst (xs++ys))))):=by
 simp [Xho,hv,h,show xs.length+ys.length≤lim from hl]
section
variable {ns:List Int}{ks:List Kd}
noncomputable def Ztg (rows:List (List Int))(J:Nat)(g:List Kd):List Int:=(g.map fun k=>(rows.getD (((J:Nat):Int) - k.w).toNat []).map (·+k.wo)).flatten
theorem Ztw (rows:List (List Int))(J:Nat)(k:Kd)(g:List Kd):Ztg rows J (k::g)=(rows.getD (((J:Nat):Int) - k.w).toNat []).map (·+k.wo)++Ztg rows J g:=by
 unfold Ztg
 rw [map_cons,flatten_cons]
theorem Xgi {A B:D}{rows:List (List Int)}{J:Nat}(h2:∀i,(rows.getD i []).length≤2):∀(g:List Kd) (X:List Int) (o5:Option D),(∀k∈g,0≤(J:Int) - k.w∧(J:Int) - k.w<rows.length)→X.length+2*g.length≤1000→
  ∃o5',Zcm (Xb 5) Zap (g.map kD) [some A,some B,some (Zfc rows),some (.int J),some (iD X),o5]=.ok (.nx [some A,some B,some (Zfc rows),some (.int J),some (iD (X++Ztg rows J g)),o5'])
 | [],X,o5,_,_=>⟨o5,by rw [show Ztg rows J []=[] from rfl,append_nil];rfl⟩
 | k::g,X,o5,hg,hl=>by
  obtain ⟨b0,b1⟩:=hg k (mem_cons_self ..)
  have hx:=Xap (rows:=rows) (i:=(J:Int) - k.w) (k:=((J:Int) - k.w).toNat) (by omega) (by omega)
  have h3:=h2 ((J:Int) - k.w).toNat
  rw [Ztw,map_cons,← append_assoc]
  obtain ⟨L,eL⟩:∃L,rows.getD ((J:Int) - k.w).toNat []=L:=⟨_,rfl⟩
  rw [eL] at hx h3 ⊢
  obtain ⟨o5',e⟩:=Xgi (A:=A) (B:=B) h2 g (X++L.map (·+k.wo)) (some (kD k)) (fun k' hk'=>hg k' (mem_cons_of_mem _ hk')) (by rw [length_append,length_map];rw [length_cons] at hl;omega)
  refine ⟨o5',?_⟩
  rw [Zho rfl]
  have hc:=Zlr (n:=6) (ρ:=[some A,some B,some (Zfc rows),some (.int J),some (iD X),some (kD k)]) (enc:=D.int) (v:=fun x=>.int (x+k.wo)) (xs:=L) (e:=f2 Jk (fV 6) (f2 gIx (fV 5) (fC (.int 2)))) rfl fun x _=>Zn rfl (Zn rfl rfl (Xku k)) rfl
  have hL:(L.map D.int).length≤lim:=by rw [length_map];exact le_trans h3 (by decide)
  have hs:Zap ([some A,some B,some (Zfc rows),some (.int J),some (iD X),o5].set 5 (some (kD k)))=.ok (.nx [some A,some B,some (Zfc rows),some (.int J),some (iD (X++L.map (·+k.wo))),some (kD k)]):=by
   unfold Zap
   rw [show iD (X++L.map (·+k.wo))=.lst (X.map D.int++L.map fun x=>D.int (x+k.wo)) by simp [iD]]
   exact Xjx rfl (Zjd rfl (Zai (Zn rfl (Zn rfl (Zn rfl rfl (Zzt k)) rfl) hx) hL) hc) (by rw [length_map,length_map];rw [length_cons] at hl;omega)
  rw [hs]
  exact e
theorem Zcx (ns:List Int)(ks:List Kd)(hn:ns.length≤900)(hk:ks.length≤8)(hw:∀k∈ks,1≤k.w):∃m o,T2 (Wr ns ks ns.length) m o∧Yc [iD ns,tD ks]=.ok (Zdk o):=by
  have hf:=Zcb (b:=Xb 3) (s:=Zaq) (xs:=Zdt 1 ns.length) (ρ:=[some (iD ns),some (tD ks),some (Zfc [[0]]),none,none,none])
    (P:=fun j ρ=>∃rows o3 o4 o5,rows.length=j+1∧Zej ns ks asc rows∧ρ=[some (iD ns),some (tD ks),some (Zfc rows),o3,o4,o5]) (Rr:=fun r=>∃rows o3 o4 o5,rows.length=ns.length+1∧Zej ns ks asc rows∧r=.ok (.nx [some (iD ns),some (tD ks),some (Zfc rows),o3,o4,o5])) ⟨[[0]],none,none,none,rfl,Zxj rfl,rfl⟩ ?_ ?_
  · obtain ⟨rows,o3,o4,o5,hl,hr,e⟩:=hf
    obtain ⟨m,o,t,eo⟩:=hr ns.length (by omega)
    refine ⟨m,o,t,?_⟩
    have b:=Ziu (i:=1) (j:=(ns.length:Int)+1) (n:=ns.length) (by omega) (by omega) (by omega) (by omega) (by omega) (by omega)
    have hx:=Zkd hl
    rw [eo] at hx
    have hle:Zbh [iD ns]=some (.int ns.length):=by simp [Zbh,iD]
    have hlo:Zbh [iD (asc m o)]=some (.int (asc m o).length):=by simp [Zbh,iD]
    have head:∀{q:FS} {d:D},q [some (iD ns),some (tD ks),some (Zfc rows),o3,o4,o5]=.ok (.ret d)→(Xw (Yr 2 (fA Jy (Zd (fA Jy (Zd (fC (.int 0)) Zu)) Zu))) (Xw (Zjo (Zmi (Zd (fC (.int 1)) (Zd (f2 Jk (fA Zbh (Zd (fV 0) Zu)) (fC (.int 1))) Zu))) (Xb 3) Zaq) q)) [some (iD ns),some (tD ks),none,none,none,none]=.ok (.ret d):=fun {q d} h =>
      Zp (Xl rfl) (Zp (Zdu (Xfs (Zc rfl (Zc (Zn (Zag (Zc rfl rfl) hle) rfl rfl) rfl)) b) e) h)
    unfold Yc Zie
    cases o with
    | none=>exact Yx (head (Zgp (Zbw (Jg (Zn (Zag (Zc (Zn rfl rfl hx) rfl) hlo) rfl rfl)) (Yv rfl))))
    | some y=>exact Yx (head (Zp (Yq (Jg (Zn (Zag (Zc (Zn rfl rfl hx) rfl) hlo) rfl rfl)) rfl) (Yv (Zbv (Zn (Zn rfl rfl hx) rfl rfl) rfl))))
  · rintro j x ρ hx ⟨rows,o3,o4,o5,hl,hr,rfl⟩
    obtain ⟨hj,rfl⟩:=Zfx hx
    rw [show (1:Int)+j=((j+1:Nat):Int) by omega]
    have he:=Zct ns ks ((j+1:Nat):Int) (by omega) hw
    have hxl:=Zkd hl
    have hle:=length_filter_le (fun k=>good ns k (((j+1:Nat):Int) - k.w)) ks
    have hr2:=Zjb Zkq hr
    obtain ⟨o5',e⟩:=Xgi (A:=iD ns) (B:=tD ks) (J:=j+1) hr2 (ks.filter fun k=>good ns k (((j+1:Nat):Int) - k.w)) (rows.getD j []) o5 (fun k hkf=>by
      obtain ⟨k1,hg⟩:=List.mem_filter.mp hkf
      have:=Xj hg
      have:=hw k k1
      omega) (by have:=hr2 j;omega)
    have hX:Zeu ns ks rows j=rows.getD j []++Ztg rows (j+1) (ks.filter fun k=>good ns k (((j+1:Nat):Int) - k.w)):=rfl
    rw [← hX] at e
    have hXl:=Zys Zkq hr hk j
    obtain ⟨m,o,t,ec⟩:=Zyf (Zeu ns ks rows j) (Xed Zkq hl hr)
    have hls:Zxf [iD (rows.getD j [])]=some (iD (rows.getD j [])):=by simp [Zxf,iD]
    have hso:Zkc (iD (Zeu ns ks rows j))=some (iD (sortI (Yl [] (Zeu ns ks rows j)))):=by
      simp [Zkc,iD,show (Zeu ns ks rows j).length<64 by omega]
    have hsl:gSl (iD (sortI (Yl [] (Zeu ns ks rows j)))) (some (-2)) none=some (iD (asc m o)):=by rw [← ec];exact Zof _ _ _
    have hlim:((ks.filter fun k=>good ns k (((j+1:Nat):Int) - k.w)).map kD).length≤lim:=by rw [length_map];exact le_trans (le_trans hle hk) (by decide)
    refine ⟨_,rfl,.inl ⟨[some (iD ns),some (tD ks),some (Zfc (rows++[asc m o])),some (.int ((j+1:Nat):Int)),some (iD (Zeu ns ks rows j)),o5'],.inl ?_,rows++[asc m o],_,_,_,by rw [length_append,length_singleton,hl],Xcb hr (by rw [hl];exact Xkj hw Zkq hl hr t),rfl⟩⟩
    rw [show Zfc (rows++[asc m o])=.lst (rows.map iD++[iD (asc m o)]) by simp [Zfc]]
    have hrl:(rows.map iD).length<lim:=by rw [length_map,hl];show _<1000000;omega
    unfold Zaq
    exact Zp (Xl (Zag (Zc (Zn rfl rfl hxl) rfl) hls)) (Zp (Zdu (Zai (Zq (Zc rfl (Zc rfl (Zc rfl rfl))) he) hlim) e) (Zfd rfl (r_sl (Zbv rfl hso) (Zpg rfl) rfl hsl) hrl))
  · rintro ρ ⟨rows,o3,o4,o5,hl,hr,rfl⟩
    rw [Jj] at hl
    exact ⟨rows,o3,o4,o5,hl,hr,rfl⟩
end
noncomputable def ixK (ks:List Kd)(k:Kd):Nat:=ks.findIdx fun j=>decide (j.name=k.name)
theorem Zma {ks:List Kd}{k:Kd}(h:k∈ks):ixK ks k<ks.length:=List.findIdx_lt_length_of_exists ⟨k,h,decide_eq_true rfl⟩
theorem Zlm {ks:List Kd}{k:Kd}(h:k∈ks):(ks[ixK ks k]'(Zma h)).name=k.name:=by
 have:=List.findIdx_getElem (w:=Zma h)
 exact of_decide_eq_true this
theorem Xic {ks:List Kd}{k:Kd}{i:Nat}(hi:i<ixK ks k)(hl:i<ks.length):ks[i].name≠k.name:=by
 have:=List.not_of_lt_findIdx hi
 simpa using this
theorem Xlj (ks:List Kd)(hk:ks.length≤1000){k:Kd}(h:k∈ks)(i:Int):Jv [.tup [.int i,.str k.name],tD ks]=.ok (.tup [.int i,.int (ixK ks k:Int)]):=by
 have lt:Zbh [tD ks]=some (.int ks.length):=by simp [tD]
 have hb:(-1000000000:Int)≤(ks.length:Int)∧(ks.length:Int)≤1000000:=by omega
 have ixt:∀p,(hp:p<ks.length)→gIx (tD ks) (.int (p:Int))=some (kD ks[p]):=fun p hp=>Xol (k:=p) rfl (by rw [getElem?_map,getElem?_eq_getElem hp];rfl)
 have k0:∀k:Kd,gIx (kD k) (.int 0)=some (.str k.name):=fun k=>Xfv (k:=0) rfl rfl
 have p1:gIx (.tup [.int i,.str k.name]) (.int 1)=some (.str k.name):=rfl
 have p0:gIx (.tup [.int i,.str k.name]) (.int 0)=some (.int i):=rfl
 have loop:V (Zcm (Xb 2) Zet (Zdt 0 ks.length) [some (.tup [.int i,.str k.name]),some (tD ks),none]) (fun fl=>fl=.ret (.tup [.int i,.int (ixK ks k:Int)])):=by
  refine Xfq (P:=fun p ρ=>p≤ixK ks k∧∃o,ρ=[some (.tup [.int i,.str k.name]),some (tD ks),o]) ⟨zero_le _,none,rfl⟩ (fun p ρ hp q=>?_) (fun ρ q=>?_)
  ·obtain ⟨q1,o,rfl⟩:=q
   rw [Zff]
   by_cases e:p=ixK ks k
   ·have hn:ks[p].name=k.name:=by subst e;exact Zlm h
    refine V.of (a:=.ret (.tup [.int i,.int (ixK ks k:Int)])) ?_ (by exact rfl)
    rw [← e]
    have he:gEq (.str ks[p].name) (.str k.name)=some (.bl true):=by rw [hn];exact Zst (zero_le _)
    exact Zbw (Jg (Zn (Zn (Zn rfl rfl (ixt p hp)) rfl (k0 _)) (Zn rfl rfl p1) he)) (Yv (Zag (Zc (Zbv (Zn rfl rfl p0) rfl) (Zc (Zbv rfl rfl) rfl)) rfl))
   ·have hn:=Xic (ks:=ks) (k:=k) (i:=p) (by omega) hp
    refine V.of (a:=.nx [some (.tup [.int i,.str k.name]),some (tD ks),some (.int (p:Int))]) ?_ (by exact ⟨by omega,_,rfl⟩)
    have he:gEq (.str ks[p].name) (.str k.name)=some (.bl false):=by simp [hn]
    exact Yq (Jg (Zn (Zn (Zn rfl rfl (ixt p hp)) rfl (k0 _)) (Zn rfl rfl p1) he)) rfl
  ·have:=Zma h
   obtain ⟨q1,_⟩:=q
   omega
 obtain ⟨fl,h1,rfl⟩:=loop.ex
 exact Yx (Zgp (Zdu (Zty (Zc (Zag (Zc rfl rfl) lt) rfl) hb |>.trans (by rw [toNat_natCast])) h1))
def lxI (p q:Int×Int):Prop:=p.1<q.1∨(p.1=q.1∧p.2<q.2)
noncomputable def Zpm (p:Int×Int):Pr:=(p.1,.inl p.2)
theorem Zyn (p q:Int×Int):Zee (Zpm p) (Zpm q)=true↔lxI p q:=by
 unfold Zee lxI Zpm
 by_cases e:p.1=q.1
 ·rw [if_pos e]
  show decide (p.2<q.2)=true↔_
  rw [decide_eq_true_iff]
  constructor
  ·exact fun h=>.inr ⟨e,h⟩
  ·rintro (h | h)
   ·omega
   ·exact h.2
 ·rw [if_neg e,decide_eq_true_iff]
  constructor
  ·exact fun h=>.inl h
  ·rintro (h | h)
   ·exact h
   ·exact absurd h.1 e
theorem Xfx (c:Int×Int):∀l:List (Int×Int),l.Pairwise (fun x y=>¬lxI y x)→∃m:List (Int×Int),Xdd (Zpm c) (l.map Zpm)=m.map Zpm∧m.Pairwise (fun x y=>¬lxI y x)∧m.Perm (c::l)
 | [],_=>⟨[c],rfl,pairwise_singleton _ _,.refl _⟩
 | d::l,h=>by
  obtain ⟨h1,h2⟩:=List.pairwise_cons.mp h
  rw [map_cons,Xdd]
  by_cases q:Zee (Zpm c) (Zpm d)=true
  ·rw [if_pos q]
   have q:=(Zyn c d).mp q
   refine ⟨c::d::l,rfl,List.pairwise_cons.mpr ⟨fun y hy=>?_,h⟩,.refl _⟩
   rcases List.mem_cons.mp hy with e | e
   ·subst e
    unfold lxI at *
    omega
   ·have:=h1 y e
    unfold lxI at *
    omega
  ·rw [if_neg q]
   have q:¬lxI c d:=fun z=>q ((Zyn c d).mpr z)
   obtain ⟨m,e1,e2,e3⟩:=Xfx c l h2
   refine ⟨d::m,by rw [e1];rfl,List.pairwise_cons.mpr ⟨fun y hy=>?_,e2⟩,(e3.cons d).trans (.swap c d l)⟩
   rcases List.mem_cons.mp (e3.mem_iff.mp hy) with e | e
   ·subst e;exact q
   ·exact h1 y e
theorem Zuj:∀l:List (Int×Int),∃m:List (Int×Int),Zhu (l.map Zpm)=m.map Zpm∧m.Pairwise (fun x y=>¬lxI y x)∧m.Perm l
 | []=>⟨[],rfl,.nil,.refl _⟩
 | c::l=>by
  obtain ⟨m,e1,e2,e3⟩:=Zuj l
  obtain ⟨m',f1,f2,f3⟩:=Xfx c m e2
  refine ⟨m',?_,f2,f3.trans (e3.cons c)⟩
  show Xdd (Zpm c) (Zhu (l.map Zpm))=_
  rw [e1]
  exact f1
theorem Xlv {l m:List (Int×Int)}(hp:m.Perm l)(hu:m.Pairwise (fun x y=>¬lxI y x)):Zhu (l.map Zpm)=m.map Zpm:=by
  obtain ⟨m',e1,e2,e3⟩:=Zuj l
  have:m'=m:=List.Perm.eq_of_pairwise (le:=fun x y=>¬lxI y x) (fun x y _ _ h1 h2=>by
    unfold lxI at h1 h2
    exact Prod.ext (by omega) (by omega)) e2 hu (e3.trans hp.symm)
  rw [e1,this]
section
variable {ns:List Int}{ks:List Kd}
theorem ap_in {n:Nat}{p:Nat}{k:Kd}(hp:p<n)(hk:k∈ks)(hg:good ns k (p:Int)=true):(p,k)∈Zcn ns ks n:=
 List.mem_flatten.mpr ⟨Xqx ns ks p,List.mem_map.mpr ⟨p,List.mem_range.mpr hp,rfl⟩,List.mem_map.mpr ⟨k,List.mem_filter.mpr ⟨hk,hg⟩,rfl⟩⟩
theorem Zle (nd:(ks.map (·.name)).Nodup){i:Nat}(hi:i<ks.length):ixK ks ks[i]=i:=by
 have h:=Zma (getElem_mem hi)
 have e:=Zlm (getElem_mem hi)
 have z:(ks.map (·.name))[ixK ks ks[i]]'(by rw [length_map];exact h)=(ks.map (·.name))[i]'(by rw [length_map];exact hi):=by rw [List.getElem_map,List.getElem_map];exact e
 rcases Nat.lt_trichotomy (ixK ks ks[i]) i with q | q | q
 ·exact absurd z (List.pairwise_iff_getElem.mp nd _ _ _ _ q)
 ·exact q
 ·exact absurd z.symm (List.pairwise_iff_getElem.mp nd _ _ _ _ q)
theorem Xif (nd:(ks.map (·.name)).Nodup){a b:Kd}(ha:a∈ks)(hb:b∈ks)(e:ixK ks a=ixK ks b):a=b:=by
 obtain ⟨i,hi,rfl⟩:=List.getElem_of_mem ha
 obtain ⟨j,hj,rfl⟩:=List.getElem_of_mem hb
 rw [Zle nd hi,Zle nd hj] at e
 subst e
 rfl
noncomputable def spI (ks:List Kd)(x:PK):Int×Int:=((x.1:Int),(ixK ks x.2:Int))
theorem Xqd (nd:(ks.map (·.name)).Nodup)(n:Nat):(Zcn ns ks n).Pairwise (fun x y=>lxI (spI ks x) (spI ks y)):=by
 have hks:ks.Pairwise (fun a b=>ixK ks a<ixK ks b):=List.pairwise_iff_getElem.mpr fun i j hi hj hij=>by rw [Zle nd hi,Zle nd hj];exact hij
 refine List.pairwise_flatten.mpr ⟨fun l hl=>?_,?_⟩
 ·obtain ⟨p,_,rfl⟩:=List.mem_map.mp hl
  refine List.pairwise_map.mpr ((hks.filter _).imp fun h=>.inr ⟨rfl,?_⟩)
  exact Int.ofNat_lt.mpr h
 ·refine List.pairwise_map.mpr (List.pairwise_lt_range.imp fun h x hx y hy=>.inl ?_)
  obtain ⟨k,_,rfl⟩:=List.mem_map.mp hx
  obtain ⟨k',_,rfl⟩:=List.mem_map.mp hy
  exact Int.ofNat_lt.mpr h
theorem Zqj (nd:(ks.map (·.name)).Nodup)(n:Nat):(Zcn ns ks n).Nodup:=(Xqd (ns:=ns) nd n).imp fun h e=>by
 subst e
 unfold lxI at h
 omega
noncomputable def bkI (ks:List Kd)(n:Nat)(x:PK):Int×Int:=((n:Int) - ((x.1:Int)+x.2.w),(ixK ks x.2:Int))
end
theorem Zzd:∀l:List (Int×Int),Znc (l.map fun z=>D.tup [.int z.1,.int z.2])=some (l.map Zpm)
 | []=>rfl
 | z::l=>by
  show ((Zvt (D.tup [.int z.1,.int z.2])).bind fun c=>(Znc (l.map fun z=>D.tup [.int z.1,.int z.2])).bind fun cs=>some (c::cs))=_
  rw [Zzd l]
  rfl
theorem Xdu {l m:List (Int×Int)}(hl:l.length≤100000)(hp:m.Perm l)(hu:m.Pairwise (fun x y=>¬lxI y x)):Zuw [.lst (l.map fun z=>D.tup [.int z.1,.int z.2])]=some (.lst (m.map fun z=>D.tup [.int z.1,.int z.2])):=by
  show ((Znc (l.map fun z=>D.tup [.int z.1,.int z.2])).bind fun cs=>if cs.length≤100000∧((cs.all fun p=>p.2.isLeft)=true∨(cs.all fun p=>p.2.isRight)=true) then some (D.lst ((Zhu cs).map prD)) else none)=_
  rw [Zzd,Option.bind_some,if_pos ⟨by rw [length_map];exact hl,.inl (List.all_eq_true.mpr fun x hx=>by
    obtain ⟨y,_,rfl⟩:=List.mem_map.mp hx
    rfl)⟩,Xlv hp hu,map_map]
  rfl
noncomputable def Zqk (n:Nat)(x:PK):PK:=(((n:Int) - x.1 - x.2.w).toNat,x.2)
section
variable {ns:List Int}{ks:List Kd}
theorem Zgc (hw:∀k∈ks,1≤k.w){x:PK}(hx:x∈Zcn ns ks ns.length):Zqk ns.length x∈Zcn ns.reverse ks ns.length∧Zqk ns.length (Zqk ns.length x)=x∧enN x≤ns.length∧(Zqk ns.length x).1=ns.length - enN x∧enN (Zqk ns.length x)=ns.length - x.1∧x.1<ns.length:=by
 obtain ⟨h1,h2,h3⟩:=Zgj hx
 have w1:=hw _ h2
 have bd:=Xj h3
 have e1:enN x=x.1+x.2.w.toNat:=by unfold enN;omega
 refine ⟨ap_in (by omega) h2 ?_,?_,by rw [e1];omega,?_,?_,h1⟩
 ·rw [Zew w1,Int.toNat_of_nonneg (by omega),show (ns.length:Int) - ((ns.length:Int) - x.1 - x.2.w) - x.2.w=x.1 by omega]
  exact h3
 ·refine Prod.ext ?_ rfl
  show ((ns.length:Int) - ((((ns.length:Int) - x.1 - x.2.w).toNat:Nat):Int) - x.2.w).toNat=x.1
  omega
 ·rw [e1]
  show ((ns.length:Int) - x.1 - x.2.w).toNat=_
  omega
 ·show ((((((ns.length:Int) - x.1 - x.2.w).toNat:Nat):Int)+x.2.w)).toNat=_
  omega
theorem Zrs (hw:∀k∈ks,1≤k.w){x:PK}(hx:x∈Zcn ns ks ns.length):bkI ks ns.length x=spI ks (Zqk ns.length x):=by
 obtain ⟨h1,h2,h3⟩:=Zgj hx
 have w1:=hw _ h2
 have bd:=Xj h3
 refine Prod.ext ?_ rfl
 show (ns.length:Int) - ((x.1:Int)+x.2.w)=((((ns.length:Int) - x.1 - x.2.w).toNat:Nat):Int)
 omega
theorem Zpp (nd:(ks.map (·.name)).Nodup)(hw:∀k∈ks,1≤k.w){p q:PK→Bool}(hpq:∀x∈Zcn ns ks ns.length,q (Zqk ns.length x)=p x):(((Zcn ns.reverse ks ns.length).filter q).map (spI ks)).Perm (((Zcn ns ks ns.length).filter p).map (bkI ks ns.length)):=by
 have hne:∀{l:List PK} {f:PK→Int×Int},l.Nodup→(∀x∈l,∀y∈l,f x=f y→x=y)→(l.map f).Nodup:=fun {l f} h hi=>List.pairwise_map.mpr (List.Pairwise.imp_of_mem (fun hx hy hn he=>hn (hi _ hx _ hy he)) h)
 have inj:∀(ms:List Int) (x y:PK),x∈Zcn ms ks ns.length→y∈Zcn ms ks ns.length→spI ks x=spI ks y→x=y:=fun ms x y hx hy e=>by
  have e1:(x.1:Int)=y.1:=congrArg Prod.fst e
  have e2:(ixK ks x.2:Int)=ixK ks y.2:=congrArg Prod.snd e
  exact Prod.ext (by omega) (Xif nd (Zgj hx).2.1 (Zgj hy).2.1 (by omega))
 have hr:ns.reverse.length=ns.length:=length_reverse
 refine (List.perm_ext_iff_of_nodup (hne ((Zqj nd _).filter _) fun x hx y hy e=>?_) (hne ((Zqj nd _).filter _) fun x hx y hy e=>?_)).mpr fun z=>⟨fun hz=>?_,fun hz=>?_⟩
 ·exact inj _ x y (List.mem_filter.mp hx).1 (List.mem_filter.mp hy).1 e
 ·have hx:=(List.mem_filter.mp hx).1
  have hy:=(List.mem_filter.mp hy).1
  rw [Zrs hw hx,Zrs hw hy] at e
  have:=inj ns.reverse _ _ (Zgc hw hx).1 (Zgc hw hy).1 e
  rw [← (Zgc hw hx).2.1,this,(Zgc hw hy).2.1]
 ·obtain ⟨x,hx,rfl⟩:=List.mem_map.mp hz
  obtain ⟨hx,hq⟩:=List.mem_filter.mp hx
  have m:=Zgc (ns:=ns.reverse) (ks:=ks) hw (x:=x) (by rw [hr];exact hx)
  rw [hr,reverse_reverse] at m
  refine List.mem_map.mpr ⟨Zqk ns.length x,List.mem_filter.mpr ⟨m.1,?_⟩,?_⟩
  ·rw [← hpq _ m.1,m.2.1]
   exact hq
  ·rw [Zrs hw m.1,m.2.1]
 ·obtain ⟨x,hx,rfl⟩:=List.mem_map.mp hz
  obtain ⟨hx,hp⟩:=List.mem_filter.mp hx
  exact List.mem_map.mpr ⟨Zqk ns.length x,List.mem_filter.mpr ⟨(Zgc hw hx).1,by rw [hpq x hx];exact hp⟩,(Zrs hw hx).symm⟩
theorem Zvh (hw:∀k∈ks,1≤k.w){x:PK}(hx:x∈Zcn ns ks ns.length):may ns.reverse ks (Zqk ns.length x)=may ns ks x:=by
 obtain ⟨-,-,h1,h2,h3,h4⟩:=Zgc hw hx
 unfold may
 congr 1
 have e1:ht ns.reverse ks (Zqk ns.length x).1=rs ns ks (enN x):=by rw [h2];rfl
 have e2:rs ns.reverse ks (enN (Zqk ns.length x))=ht ns ks x.1:=by
  unfold rs
  rw [reverse_reverse,length_reverse,h3,show ns.length - (ns.length - x.1)=x.1 by omega]
 have e3:ht ns.reverse ks ns.reverse.length=ht ns ks ns.length:=by rw [length_reverse];exact Xfr hw
 rw [e1,e2,e3]
 exact propext ⟨fun h=>by show _+x.2.wo+_=_;have h:rs ns ks (enN x)+x.2.wo+ht ns ks x.1=_:=h;omega,fun h=>by show rs ns ks (enN x)+x.2.wo+ht ns ks x.1=_;omega⟩
theorem Xdf (hw:∀k∈ks,1≤k.w){x:PK}(hx:x∈Zcn ns ks ns.length):Xmp ns.reverse ks (Zqk ns.length x)=Xmp ns ks x:=by
 obtain ⟨-,-,h1,h2,h3,h4⟩:=Zgc hw hx
 unfold Xmp
 congr 1
 rw [h2,h3,reverse_reverse,length_reverse,show ns.length - (ns.length - x.1)=x.1 by omega,Xfi hw,Int.mul_comm]
end
noncomputable def bkD (n:Nat)(x:PK):D:=.tup [.int ((n:Int) - ((x.1:Int)+x.2.w)),.str x.2.name]
theorem Xky {ks:List Kd}{L M:List PK}{n:Nat}(hk:ks.length≤8)(nd:(ks.map (·.name)).Nodup)(hpm:(M.map (spI ks)).Perm (L.map (bkI ks n)))(hup:M.Pairwise (fun x y=>lxI (spI ks x) (spI ks y)))(hmL:∀x∈L,x.2∈ks)(hmR:∀x∈M,x.2∈ks)(hl1:L.length≤1600)(hl2:M.length≤1600):Xe [nsD L,tD ks,.int (n:Int)]=.ok (nsD M):=by
 have loop:V (Zcm (Zls (Jt (Xb 4) (Jt (Xb 5) Zlo))) Jd (L.map fun x=>pD (nm x)) [some (nsD L),some (tD ks),some (.int (n:Int)),some (.lst []),none,none,none])
   (fun fl=>∃o4 o5,fl=.nx [some (nsD L),some (tD ks),some (.int (n:Int)),some (.lst (L.map (bkD n))),o4,o5,none]):=by
  refine Xfn (P:=fun r ρ=>∃(l:List PK) (o4 o5:Option D),l++r=L∧ρ=[some (nsD L),some (tD ks),some (.int (n:Int)),some (.lst (l.map (bkD n))),o4,o5,none]) (fun x r ρ q=>?_) (fun ρ q=>?_) ⟨[],none,none,rfl,rfl⟩
  ·obtain ⟨l,o4,o5,e,rfl⟩:=q
   have hx:x∈L:=by rw [← e];simp
   have h9:l.length≤1600:=by
    have h1:=congrArg List.length e
    rw [length_append] at h1
    omega
   have en:=Zwz (x:=x) (by omega) nd (hmL x hx)
   refine V.of (a:=.nx [some (nsD L),some (tD ks),some (.int (n:Int)),some (.lst ((l++[x]).map (bkD n))),some (.int (x.1:Int)),some (.str x.2.name),none]) ?_ (by exact ⟨l++[x],_,_,by rw [← e,append_assoc];rfl,rfl⟩)
   show Jd [some (nsD L),some (tD ks),some (.int (n:Int)),some (.lst (l.map (bkD n))),some (.int (x.1:Int)),some (.str x.2.name),none]=_
   rw [map_append]
   have ev:fA Zca (Zd (f2 Zgt (fV 2) (Zx Jp (Zd (fV 1) (Zd (fA Zca (Zd (fV 4) (Zd (fV 5) Zu))) Zu)))) (Zd (f1 Xr (fV 5)) Zu)) [some (nsD L),some (tD ks),some (.int (n:Int)),some (.lst (l.map (bkD n))),some (.int (x.1:Int)),some (.str x.2.name),none]=.ok (bkD n x):=Zag (Zc (Zn rfl (Zq (Zc rfl (Zc (Zag (Zc rfl (Zc rfl rfl)) rfl) rfl)) en) rfl) (Zc (Zbv rfl rfl) rfl)) rfl
   exact Zfd (i:=3) (xs:=l.map (bkD n)) rfl ev (by rw [length_map];show _<1000000;omega)
  ·obtain ⟨l,o4,o5,e,rfl⟩:=q
   rw [append_nil] at e
   subst e
   exact ⟨o4,o5,rfl⟩
 obtain ⟨fl,h1,o4,o5,rfl⟩:=loop.ex
 have c1:Zck 1 (Xb 7) Zoc (Zx Jv (Zd (fV 7) (Zd (fV 1) Zu))) [some (nsD L),some (tD ks),some (.int (n:Int)),some (.lst (L.map (bkD n))),o4,o5,none] (L.map (bkD n))=.ok ((L.map (bkI ks n)).map fun z=>D.tup [.int z.1,.int z.2]):=by
  rw [map_map]
  exact Zlr rfl fun x hx=>Zq (Zc rfl (Zc rfl rfl)) (Xlj ks (by omega) (hmL x hx) _)
 have so:=Xdu (by rw [length_map];omega) hpm (List.pairwise_map.mpr (hup.imp fun h=>by unfold lxI at *;omega))
 have ixt:∀p,(hp:p<ks.length)→gIx (tD ks) (.int (p:Int))=some (kD ks[p]):=fun p hp=>Xol (k:=p) rfl (by rw [getElem?_map,getElem?_eq_getElem hp];rfl)
 have k0:∀k:Kd,gIx (kD k) (.int 0)=some (.str k.name):=fun k=>Xfv (k:=0) rfl rfl
 have c2:∀o6,Zck 2 (Zls (Jt (Xb 7) (Jt (Xb 8) Zlo))) Zoc (fA Zca (Zd (f1 Xr (fV 7)) (Zd (f1 Xr (f2 gIx (f2 gIx (fV 1) (fV 8)) (fC (.int 0)))) Zu))) [some (nsD L),some (tD ks),some (.int (n:Int)),some (.lst (L.map (bkD n))),o4,o5,o6] (M.map fun x=>D.tup [.int (x.1:Int),.int (ixK ks x.2:Int)])=.ok (M.map fun x=>pD (nm x)):=fun o6 =>
  Xqa rfl fun x hx=>by
   have hm:=hmR x hx
   exact Zag (Zc (Zbv rfl rfl) (Zc (Zbv (Zn (Zn rfl rfl (ixt _ (Zma hm))) rfl ((k0 _).trans (by rw [Zlm hm]))) rfl) rfl)) rfl
 rw [Zfq M]
 refine Yx (Zp (Xl (Zag rfl rfl)) (Zp (Zdu (Zai (xs:=L.map fun x=>pD (nm x)) (congrArg R.ok (Zfq _)) (by rw [length_map];show _≤1000000;omega)) h1) (Zp (Xl (Zag (Zc (Zjd rfl (Zai (xs:=L.map (bkD n)) rfl (by rw [length_map];show _≤1000000;omega)) c1) rfl) so)) (Yv (Zjd rfl (Zai (xs:=M.map fun x:PK=>D.tup [.int (x.1:Int),.int (ixK ks x.2:Int)]) (congrArg (fun z=>R.ok (D.lst z)) (by rw [map_map];rfl)) (by rw [length_map];show _≤1000000;omega)) (c2 _))))))
theorem Zsc (ns:List Int)(ks:List Kd)(hn:ns.length≤200)(hk:ks.length≤8)(hw:∀k∈ks,1≤k.w)(nd:(ks.map (·.name)).Nodup){p q:PK→Bool}(hpq:∀x∈Zcn ns ks ns.length,q (Zqk ns.length x)=p x):Xe [nsD ((Zcn ns ks ns.length).filter p),tD ks,.int (ns.length:Int)]=.ok (nsD ((Zcn ns.reverse ks ns.length).filter q)):=by
 have hl:∀(ms:List Int) (f:PK→Bool),((Zcn ms ks ns.length).filter f).length≤1600:=fun ms f=>by
  have h0:=length_filter_le f (Zcn ms ks ns.length)
  have h1:=Zes (ns:=ms) (ks:=ks) ns.length
  have h2:ns.length*ks.length≤200*8:=mul_le_mul (by omega) hk
  omega
 exact Xky hk nd (Zpp nd hw hpq) ((Xqd (ns:=ns.reverse) nd ns.length).filter _) (fun x hx=>(Zgj (List.mem_filter.mp hx).1).2.1) (fun x hx=>(Zgj (List.mem_filter.mp hx).1).2.1) (hl ns p) (hl ns.reverse q)
theorem Zlv {d:D}(h:dep d≤20):gNe d d=some (.bl false):=by
 unfold gNe
 rw [if_pos ⟨h,h⟩,Zkg d h]
 rfl
theorem Zxx (xs:List PK):dep (nsD xs)≤20:=by
 have h:=Zqd (f:=pD) (n:=1) (fun x=>by simp [pD,dep,Zoe]) (xs.map nm)
 unfold nsD psD dep
 omega
theorem Xhq (o:Option Int):dep (Zdk o)≤20:=by
 cases o<;>simp [Zdk,dep]
section
variable {ns:List Int}{ks:List Kd}
theorem Xlb (n:Nat):gIx (iD (cbs ns ks n)) (.int (-1))=some (.int (cb ns ks n)):=by
 have h:=Zeh (ns:=cbs ns ks n) (j:=n) (Zis n)
 rw [Zqi (le_refl _)] at h
 exact h
theorem Zdb (hn:ns.length≤900)(hk:ks.length≤1000)(hw:∀k∈ks,1≤k.w):Xz [iD ns,tD ks]=.ok (.int (cb ns ks ns.length)):=
 Yx (Yv (Zbv (Zn (Zq (Zc rfl (Zc rfl rfl)) (Zia hn hk hw)) rfl (Xlb _)) rfl))
theorem Zqe (hk:ks.length≤8)(hw:∀k∈ks,1≤k.w){e:Nat}(he:e≤900):(cnt ns ks e).natAbs<2 ^ 4000:=by
 have h1:=Zqq ns ks hw e
 have h3:=Zxw ns ks hw e
 have h4:(ks.length+1) ^ e≤16 ^ e:=Nat.pow_le_pow_left (by omega) e
 have h5:(16:Nat) ^ e≤16 ^ 900:=Nat.pow_le_pow_right (by decide) he
 have h6:(16:Nat) ^ 900<2 ^ 4000:=by
  rw [show (16:Nat)=2 ^ 4 from rfl,← Nat.pow_mul]
  exact Nat.pow_lt_pow_right (by decide) (by decide)
 have h7:(cnt ns ks e).natAbs=(Zed ns ks e).length:=by rw [← h1];rfl
 rw [h7]
 exact Nat.lt_of_le_of_lt (le_trans h3 (le_trans h4 h5)) h6
theorem Xfd (hn:ns.length≤200)(hk:ks.length≤8)(hw:∀k∈ks,1≤k.w)(nd:(ks.map (·.name)).Nodup):Xn [iD ns,tD ks]=.ok (.bl true):=by
  have hr:ns.reverse.length=ns.length:=length_reverse
  have c1:=Zex ns ks (by omega) (by omega) hw
  have c2:=Zex ns.reverse ks (by omega) (by omega) hw
  rw [hr,Xhw ns ks hw] at c2
  have b1:=Zdb (ns:=ns) (ks:=ks) (by omega) (by omega) hw
  have b2:=Zdb (ns:=ns.reverse) (ks:=ks) (by omega) (by omega) hw
  rw [hr,Xfi hw] at b2
  obtain ⟨m,o,t,r1⟩:=Zcx ns ks (by omega) hk hw
  obtain ⟨m',o',t',r2⟩:=Zcx ns.reverse ks (by omega) hk hw
  have eo:o'=o:=(T2.same36 t' (t.congr fun x=>by rw [hr];exact (Xrq hw x).symm)).2
  subst eo
  have y1:=Zpd (ns:=ns) (ks:=ks) (by omega) (by omega) hw nd
  have y2:=Zpd (ns:=ns.reverse) (ks:=ks) (by omega) (by omega) hw nd
  have z1:=Zrj (ns:=ns) (ks:=ks) (by omega) hk hw nd
  have z2:=Zrj (ns:=ns.reverse) (ks:=ks) (by omega) hk hw nd
  have f1_:=Zsc ns ks hn hk hw nd (p:=may ns ks) (q:=may ns.reverse ks) fun x hx=>Zvh hw hx
  have f2_:=Zsc ns ks hn hk hw nd (p:=fun x=>Xmp ns ks x&&may ns ks x) (q:=fun x=>Xmp ns.reverse ks x&&may ns.reverse ks x) fun x hx=>by rw [Zvh hw hx,Xdf hw hx]
  rw [← filter_filter,← filter_filter] at f2_
  have e1:Xda ns.reverse ks=(Zcn ns.reverse ks ns.length).filter (may ns.reverse ks):=by unfold Xda;rw [hr]
  rw [← e1] at f1_ f2_
  have f1':Xe [nsD (Xda ns ks),tD ks,.int (ns.length:Int)]=.ok (nsD (Xda ns.reverse ks)):=f1_
  have f2':Xe [nsD (Xch ns ks),tD ks,.int (ns.length:Int)]=.ok (nsD (Xch ns.reverse ks)):=f2_
  have hle:Zbh [iD ns]=some (.int ns.length):=by simp [Zbh,iD]
  have ni:∀i:Int,gNe (.int i) (.int i)=some (.bl false):=fun i=>by rw [ne_int];simp
  unfold Xn Zbd
  exact Yx (Zp (Xl (Zq (Zc rfl rfl) (Zpf ns)))
    (Zp (Yq (Jg (Zn (Zq (Zc rfl (Zc rfl rfl)) c2) (Zq (Zc rfl (Zc rfl rfl)) c1) (ni _))) rfl)
    (Zp (Yq (Jg (Zn (Zq (Zc rfl (Zc rfl rfl)) b2) (Zq (Zc rfl (Zc rfl rfl)) b1) (ni _))) rfl)
    (Zp (Yq (Jg (Zn (Zq (Zc rfl (Zc rfl rfl)) r2) (Zq (Zc rfl (Zc rfl rfl)) r1) (Zlv (Xhq _)))) rfl)
    (Zp (Xl (Zag (Zc rfl rfl) hle))
    (Zp (Yq (Jg (Zn (Zq (Zc rfl (Zc rfl rfl)) y2) (Zq (Zc (Zq (Zc rfl (Zc rfl rfl)) y1) (Zc rfl (Zc rfl rfl))) f1') (Zlv (Zxx _)))) rfl)
    (Yv (Zn (Zq (Zc rfl (Zc rfl rfl)) z2) (Zq (Zc (Zq (Zc rfl (Zc rfl rfl)) z1) (Zc rfl (Zc rfl rfl))) f2') (Zst (Zxx _))))))))))
theorem Xkc {A B C L R H:D}{P0 P1:Int}{o o1 o2:Option Int}(h1:∀b,o1=some b→∃y,o=some y∧b+P1≤y)(h2:∀b,o2=some b→∃y,o=some y∧b+P0≤y):∃o9,Zcm (Xb 9) Xd (Zdt 0 2) [some A,some B,some C,some L,some R,some H,some (.lst [.int P0,.int P1]),some (Zdk o),some (.lst [Zdk o1,Zdk o2]),none]=.ok (.nx [some A,some B,some C,some L,some R,some H,some (.lst [.int P0,.int P1]),some (Zdk o),some (.lst [Zdk o1,Zdk o2]),o9]):=by
 have one:∀(x:Int) (oo:Option Int) (P:Int),gIx (.lst [Zdk o1,Zdk o2]) (.int x)=some (Zdk oo)→gIx (.lst [.int P0,.int P1]) (.int (1 - x))=some (.int P)→(∀b,oo=some b→∃y,o=some y∧b+P≤y)→
   Xd [some A,some B,some C,some L,some R,some H,some (.lst [.int P0,.int P1]),some (Zdk o),some (.lst [Zdk o1,Zdk o2]),some (.int x)]=.ok (.nx [some A,some B,some C,some L,some R,some H,some (.lst [.int P0,.int P1]),some (Zdk o),some (.lst [Zdk o1,Zdk o2]),some (.int x)]):=fun x oo P e1 e2 h=>by
  unfold Xd
  cases oo with
  | none=>exact Yq (Zxr (Jg (Zn (Zn rfl rfl e1) rfl rfl))) rfl
  | some b =>
   obtain ⟨y,rfl,hy⟩:=h b rfl
   exact Yq (Zxz (Jg (Zn (Zn rfl rfl e1) rfl rfl)) (Zmy (Jg (Zn rfl rfl rfl)) (Jg (Zn rfl (Zn (Zn rfl rfl e1) (Zn rfl (Zn rfl rfl rfl) e2) rfl) (Xae (p:=y<b+P) (by omega)))))) rfl
 have st:∀(x:Int) (xs:List D) (o9:Option D) (oo:Option Int) (P:Int),gIx (.lst [Zdk o1,Zdk o2]) (.int x)=some (Zdk oo)→gIx (.lst [.int P0,.int P1]) (.int (1 - x))=some (.int P)→(∀b,oo=some b→∃y,o=some y∧b+P≤y)→
   Zcm (Xb 9) Xd (.int x::xs) [some A,some B,some C,some L,some R,some H,some (.lst [.int P0,.int P1]),some (Zdk o),some (.lst [Zdk o1,Zdk o2]),o9]=Zcm (Xb 9) Xd xs [some A,some B,some C,some L,some R,some H,some (.lst [.int P0,.int P1]),some (Zdk o),some (.lst [Zdk o1,Zdk o2]),some (.int x)]:=fun x xs o9 oo P e1 e2 h=>by
  have e:=Zho (b:=Xb 9) (s:=Xd) (x:=.int x) (xs:=xs) (ρ:=[some A,some B,some C,some L,some R,some H,some (.lst [.int P0,.int P1]),some (Zdk o),some (.lst [Zdk o1,Zdk o2]),o9]) (ρ1:=[some A,some B,some C,some L,some R,some H,some (.lst [.int P0,.int P1]),some (Zdk o),some (.lst [Zdk o1,Zdk o2]),some (.int x)]) rfl
  rw [one x oo P e1 e2 h] at e
  exact e
 have e0:Zdt 0 2=[.int 0,.int 1]:=rfl
 refine ⟨some (.int 1),?_⟩
 rw [e0]
 exact (st 0 _ _ o1 P1 rfl rfl h1).trans ((st 1 _ _ o2 P0 rfl rfl h2).trans rfl)
theorem Xdv (hn:ns.length≤200)(hk:ks.length≤8)(hw:∀k∈ks,1≤k.w){a:Nat}(ha:a≤ns.length):Xo [iD ns,tD ks,.int (a:Int)]=.ok (.bl true):=by
  have hl1:(ns.take a).length=a:=by rw [length_take];omega
  have hl2:(ns.drop a).length=ns.length - a:=length_drop
  have s1:gSl (iD ns) none (some (a:Int))=some (iD (ns.take a)):=by
    refine (Zof ns _ _).trans ?_
    rw [Xgf (by omega),toNat_natCast]
    rfl
  have s2:gSl (iD ns) (some (a:Int)) none=some (iD (ns.drop a)):=by
    refine (Zof ns _ _).trans ?_
    rw [Xbf (by omega),toNat_natCast]
    rfl
  have c0:=Zex ns ks (by omega) (by omega) hw
  have c1:=Zex (ns.take a) ks (by omega) (by omega) hw
  have c2:=Zex (ns.drop a) ks (by omega) (by omega) hw
  rw [hl1,Xaj hw ha a (le_refl _)] at c1
  rw [hl2] at c2
  have cp:=Zxe (ns:=ns) (ks:=ks) hw ha (ns.length - a) (by omega)
  rw [show a+(ns.length - a)=ns.length by omega] at cp
  have m1:Zjl (.int (cnt ns ks a)) (.int (cnt (ns.drop a) ks (ns.length - a)))=some (.int (cnt ns ks a*cnt (ns.drop a) ks (ns.length - a))):=if_pos ⟨Zqe hk hw (by omega),Zqe hk hw (by omega)⟩
  obtain ⟨p0,w0,-⟩:=Zpn ns ks (by omega) (by omega) hw
  obtain ⟨p1,w1,-⟩:=Zpn (ns.take a) ks (by omega) (by omega) hw
  obtain ⟨p2,w2,-⟩:=Zpn (ns.drop a) ks (by omega) (by omega) hw
  rw [hl1,Zpc hw ha a (le_refl _)] at w1
  rw [hl2] at w2
  obtain ⟨h0,o0,t0,r0⟩:=Zcx ns ks (by omega) hk hw
  obtain ⟨h1,o1,t1,r1⟩:=Zcx (ns.take a) ks (by omega) hk hw
  obtain ⟨h2,o2,t2,r2⟩:=Zcx (ns.drop a) ks (by omega) hk hw
  rw [hl1] at t1
  rw [hl2] at t2
  have e0:=Xiz hw t0
  have e1:=Xiz hw t1
  have e2:=Xiz hw t2
  rw [Zpc hw ha a (le_refl _)] at e1
  subst e0 e1 e2
  have hsum:ht ns ks a+ht (ns.drop a) ks (ns.length - a)≤ht ns ks ns.length:=t0.top _ (Zky hw ha t1.has t2.has)
  have gs:Zud [.lst [.int (ht ns ks a),.int (ht (ns.drop a) ks (ns.length - a))]]=some (.int (ht ns ks a+ht (ns.drop a) ks (ns.length - a))):=by
    simp [Zud,intsOf]
  have gt0:∀{x y:Int},x≤y→gGt (.int x) (.int y)=some (.bl false):=fun {x y} h=>Xae (p:=x > y) (by omega)
  unfold Xo Zau
  refine Yx (Zp (Xiw (Zag (Zc (r_sl rfl rfl (Zpg rfl) s1) (Zc (r_sl rfl (Zpg rfl) rfl s2) rfl)) rfl) rfl)
    (Zp (Yq (Jg (Zn (Zn (Zq (Zc rfl (Zc rfl rfl)) c1) (Zq (Zc rfl (Zc rfl rfl)) c2) m1) (Zq (Zc rfl (Zc rfl rfl)) c0) (gt0 cp))) rfl)
    (Zp (Xl (Zbv (Zn (Zq (Zc rfl (Zc rfl rfl)) w0) rfl rfl) rfl))
    (Zp (Xl (Zag (Zc (Zbv (Zn (Zq (Zc rfl (Zc rfl rfl)) w1) rfl rfl) rfl) (Zc (Zbv (Zn (Zq (Zc rfl (Zc rfl rfl)) w2) rfl rfl) rfl) rfl)) rfl))
    (Zp (Xl (Zq (Zc rfl (Zc rfl rfl)) r0)) (Zp (Yq ?_ rfl) ?_))))))
  · cases o0 with
    | none=>exact Zmy (Zxr (Jg (Zn rfl rfl rfl))) (Jg (Zn (Zag (Zc rfl rfl) gs) rfl (gt0 hsum)))
    | some y=>exact Zmy (Zxz (Jg (Zn rfl rfl rfl)) (Zuu (b:=true) (Jg (Zn rfl rfl (Xij (p:=y<ht ns ks ns.length) (t0.som y rfl).2.1))))) (Jg (Zn (Zag (Zc rfl rfl) gs) rfl (gt0 hsum)))
  by_cases hlt:ht ns ks a+ht (ns.drop a) ks (ns.length - a)<ht ns ks ns.length
  · exact Zgp (Zbw (Jg (Zn (Zag (Zc rfl rfl) gs) rfl (Xij (p:=_<_) hlt))) (Yv rfl))
  · have heq:ht ns ks a+ht (ns.drop a) ks (ns.length - a)=ht ns ks ns.length:=by omega
    have b0:=Zdb (ns:=ns) (ks:=ks) (by omega) (by omega) hw
    have b1:=Zdb (ns:=ns.take a) (ks:=ks) (by omega) (by omega) hw
    have b2:=Zdb (ns:=ns.drop a) (ks:=ks) (by omega) (by omega) hw
    rw [hl1] at b1
    rw [hl2] at b2
    have m2:Zjl (.int (cb (ns.take a) ks a)) (.int (cb (ns.drop a) ks (ns.length - a)))=some (.int (cb (ns.take a) ks a*cb (ns.drop a) ks (ns.length - a))):=if_pos ⟨Xcy (by omega) hk hw (by omega),Xcy (by omega) hk hw (by omega)⟩
    have bp:=Xaa (ns:=ns) (ks:=ks) hw ha heq
    obtain ⟨o9,hlp⟩:=Xkc (A:=iD ns) (B:=tD ks) (C:=.int (a:Int)) (L:=iD (ns.take a)) (R:=iD (ns.drop a)) (H:=.int (ht ns ks ns.length)) (P0:=ht ns ks a) (P1:=ht (ns.drop a) ks (ns.length - a)) (o:=o0) (o1:=o1) (o2:=o2)
      (fun b eb=>by
        obtain ⟨g1,g2,-⟩:=t1.som b eb
        have hin:=Zky hw ha g1 t2.has
        cases o0 with
        | none=>have:=t0.non rfl _ hin;omega
        | some y=>exact ⟨y,rfl,(t0.som y rfl).2.2 _ hin (by omega)⟩)
      (fun b eb=>by
        obtain ⟨g1,g2,-⟩:=t2.som b eb
        have hin:=Zky hw ha t1.has g1
        cases o0 with
        | none=>have:=t0.non rfl _ hin;omega
        | some y=>exact ⟨y,rfl,by have:=(t0.som y rfl).2.2 _ hin (by omega);omega⟩)
    exact Zp (Yq (Jg (Zn (Zag (Zc rfl rfl) gs) rfl (Xae (p:=_<_) hlt))) rfl)
      (Zp (Yq (Jg (Zn (Zn (Zq (Zc rfl (Zc rfl rfl)) b1) (Zq (Zc rfl (Zc rfl rfl)) b2) m2) (Zq (Zc rfl (Zc rfl rfl)) b0) (gt0 bp))) rfl)
      (Zp (Xl (Zag (Zc (Zq (Zc rfl (Zc rfl rfl)) r1) (Zc (Zq (Zc rfl (Zc rfl rfl)) r2) rfl)) rfl))
      (Zp (Zdu (Zty rfl (by decide)) hlp) (Yv rfl))))
end
theorem Ztv (ns:List Int)(h:ns.length≤63):Xad [.scr ns]=.ok (.bl true):=by
 obtain ⟨os,hrow,hos⟩:=Zqs ns h (i:=2) (by omega) (by omega) [8,201] (by simp) (by simp)
 obtain ⟨v,u,rfl⟩:∃v u,os=[v,u]:=by
  have:=hos.1
  match os,this with
  | [v,u],_=>exact ⟨v,u,rfl⟩
 have hrow':Yb [.scr ns,.int 2,.lst [.int 8,.int 201]]=.ok (.lst [.int v,.int u]):=hrow
 have key:∀m:Int,0≤m→m≤200→∃(C T U:D) (l:Int),Jn [.scr ns,.int 0,.int m,.int 8]=.ok (.tup [C,T])∧Xn [C,T]=.ok (.bl true)∧Zbh [C]=some (.int l)∧Zhe (.int u) (.int (l+1))=some U∧Xo [C,T,U]=.ok (.bl true):=by
  intro m m0 m1
  obtain ⟨ws,ks,hd,hl,-,hk,ht_⟩:=Xcv ns h (i:=0) (m:=m) (c:=8) (by omega) (by omega) m0 m1 (by omega) (by omega)
  have hw:∀k∈ks,1≤k.w:=fun k hk=>(ht_.ok k hk).w1
  have hk8:ks.length≤8:=by omega
  have hwl:ws.length≤200:=by omega
  have t1:=Xfd hwl hk8 hw ht_.nd
  have hle:Zbh [iD ws]=some (.int ws.length):=by simp [Zbh,iD]
  have hmod:Zhe (.int u) (.int ((ws.length:Int)+1))=some (.int (u % ((ws.length:Int)+1))):=if_pos (by omega)
  have hb0:0≤u % ((ws.length:Int)+1):=emod_nonneg _ (by omega)
  have hb1:u % ((ws.length:Int)+1)<(ws.length:Int)+1:=emod_lt_of_pos _ (by omega)
  obtain ⟨a,ea⟩:∃a:Nat,u % ((ws.length:Int)+1)=(a:Int):=⟨(u % ((ws.length:Int)+1)).toNat,by omega⟩
  rw [ea] at hmod hb1
  have t2:=Xdv (ns:=ws) (ks:=ks) hwl hk8 hw (a:=a) (by omega)
  exact ⟨_,_,_,_,hd,t1,hle,hmod,t2⟩
 unfold Xad Xor
 by_cases hv:v=0
 ·subst hv
  obtain ⟨C,T,U,l,hd,t1,hle,hmod,t2⟩:=key 200 (by omega) (by omega)
  exact Yx (Zp (Xl rfl) (Zp (Xl (Zq (Zc rfl (Zc rfl (Zc (Zag (Zc rfl (Zc rfl rfl)) rfl) rfl))) hrow')) (Zp (Zbw (Jg (Zn (Zn rfl rfl rfl) rfl rfl)) (Xl rfl)) (Zp (Xiw (Zq (Zc rfl (Zc rfl (Zc rfl (Zc rfl rfl)))) hd) rfl) (Zp (Yq (Zuu (b:=true) (Jg (Zq (Zc rfl (Zc rfl rfl)) t1))) rfl) (Yv (Zq (Zc rfl (Zc rfl (Zc (Zn (Zn rfl rfl rfl) (Zn (Zag (Zc rfl rfl) hle) rfl rfl) hmod) rfl))) t2)))))))
 ·obtain ⟨C,T,U,l,hd,t1,hle,hmod,t2⟩:=key 40 (by omega) (by omega)
  exact Yx (Zp (Xl rfl) (Zp (Xl (Zq (Zc rfl (Zc rfl (Zc (Zag (Zc rfl (Zc rfl rfl)) rfl) rfl))) hrow')) (Zp (Yq (Jg (Zn (Zn rfl rfl rfl) rfl ((Zht _ _).trans (Xae hv)))) rfl) (Zp (Xiw (Zq (Zc rfl (Zc rfl (Zc rfl (Zc rfl rfl)))) hd) rfl) (Zp (Yq (Zuu (b:=true) (Jg (Zq (Zc rfl (Zc rfl rfl)) t1))) rfl) (Yv (Zq (Zc rfl (Zc rfl (Zc (Zn (Zn rfl rfl rfl) (Zn (Zag (Zc rfl rfl) hle) rfl rfl) hmod) rfl))) t2)))))))
end Dl
set_option maxHeartbeats 4000000
namespace K38
open PySem PySem.Spec PyProof.Rows L2
open Dl (D R FE FT FA FO FS FI FB Fl)
noncomputable def top (i:Nat):Stmt:=PySem.Challenge.pw_selvage_k38_whole_seen_from_behind.main.body.getD i (.Pass ⟨0,0,0,0⟩)
noncomputable abbrev Zpk:Stmt:=top 5
noncomputable abbrev Zpi:Stmt:=top 6
noncomputable abbrev Zlf:Stmt:=top 8
noncomputable abbrev Xin:Stmt:=top 10
noncomputable abbrev Zdz:Stmt:=top 11
noncomputable abbrev Zol:Stmt:=top 12
noncomputable abbrev Zld:Stmt:=top 14
noncomputable abbrev Zep:Stmt:=top 15
noncomputable abbrev Zli:Stmt:=top 16
noncomputable abbrev Zux:Stmt:=top 17
noncomputable abbrev Zga:Stmt:=top 18
noncomputable abbrev Zcd:Stmt:=top 19
noncomputable abbrev Xhm:Stmt:=top 20
noncomputable abbrev Zaa:Stmt:=top 22
noncomputable abbrev Zdv:Stmt:=top 23
noncomputable abbrev Zbk:Stmt:=top 24
noncomputable abbrev Zdq:Stmt:=top 25
noncomputable abbrev Zbu:Stmt:=top 27
noncomputable abbrev Xfc:Stmt:=top 28
noncomputable abbrev Zrf:Stmt:=top 29
noncomputable abbrev Zdf:Stmt:=top 30
noncomputable abbrev Zfr:Stmt:=top 32
noncomputable abbrev Zif:Stmt:=top 33
noncomputable abbrev Zjc:Stmt:=top 34
noncomputable abbrev Zds:Stmt:=top 35
noncomputable abbrev Zfz:Stmt:=top 36
noncomputable abbrev Zfn:Stmt:=top 37
noncomputable abbrev Zea:Stmt:=top 38
noncomputable abbrev Zfy:Stmt:=top 39
noncomputable abbrev Yi:Stmt:=top 40
noncomputable abbrev Js:Stmt:=top 41
noncomputable abbrev Jr:Stmt:=top 42
noncomputable abbrev Xmh:Stmt:=top 43
theorem Zqo:Xc ["roll","begin","end"] ["roll","begin","end"] (Zm Zpk):=⟨rfl,rfl,rfl,by decide +kernel,rfl,by decide +kernel,by decide +kernel⟩
theorem Zsa:Xc ["roll"] ["roll"] (Zm Zpi):=⟨rfl,rfl,rfl,by decide +kernel,rfl,by decide +kernel,by decide +kernel⟩
theorem Zly:Xc ["table","name","kind"] ["table","name"] (Zm Zlf):=⟨rfl,rfl,rfl,by decide +kernel,rfl,by decide +kernel,by decide +kernel⟩
theorem Xgr:Xc ["roll","kind","place","end"] ["roll","kind","place"] (Zm Xin):=⟨rfl,rfl,rfl,by decide +kernel,rfl,by decide +kernel,by decide +kernel⟩
theorem Zgm:Xc ["roll","table","pieces","place","kind"] ["roll","table"] (Zm Zdz):=⟨rfl,rfl,rfl,by decide +kernel,rfl,by decide +kernel,by decide +kernel⟩
theorem Zqm:Xc ["table","piece"] ["table","piece"] (Zm Zol):=⟨rfl,rfl,rfl,by decide +kernel,rfl,by decide +kernel,by decide +kernel⟩
theorem Zqg:Xc ["roll","table","end"] ["roll","table","end"] (Zm Zld):=⟨rfl,rfl,rfl,by decide +kernel,rfl,by decide +kernel,by decide +kernel⟩
theorem Zju:Xc ["roll","table","tops","end","worths"] ["roll","table","tops"] (Zm Zep):=⟨rfl,rfl,rfl,by decide +kernel,rfl,by decide +kernel,by decide +kernel⟩
theorem Znh:Xc ["roll","table","tops"] ["roll","table"] (Zm Zli):=⟨rfl,rfl,rfl,by decide +kernel,rfl,by decide +kernel,by decide +kernel⟩
theorem Zyu:Xc ["roll","table"] ["roll","table"] (Zm Zux):=⟨rfl,rfl,rfl,by decide +kernel,rfl,by decide +kernel,by decide +kernel⟩
theorem Zig:Xc ["roll","table","tops","end","kind"] ["roll","table","tops","end"] (Zm Zga):=⟨rfl,rfl,rfl,by decide +kernel,rfl,by decide +kernel,by decide +kernel⟩
theorem Zdo:Xc ["roll","table","tops","end","pieces","kind"] ["roll","table","tops","end"] (Zm Zcd):=⟨rfl,rfl,rfl,by decide +kernel,rfl,by decide +kernel,by decide +kernel⟩
theorem Xgz:Xc ["roll","table","tops"] ["roll","table"] (Zm Xhm):=⟨rfl,rfl,rfl,by decide +kernel,rfl,by decide +kernel,by decide +kernel⟩
theorem Zdc:Xc ["roll","table","numbers","end","with_last"] ["roll","table"] (Zm Zaa):=⟨rfl,rfl,rfl,by decide +kernel,rfl,by decide +kernel,by decide +kernel⟩
theorem Zgu:Xc ["roll","table","tops","end","steps","kind","begin"] ["roll","table","tops","end"] (Zm Zdv):=⟨rfl,rfl,rfl,by decide +kernel,rfl,by decide +kernel,by decide +kernel⟩
theorem Zez:Xc ["roll","table","tops","numbers","end","steps"] ["roll","table"] (Zm Zbk):=⟨rfl,rfl,rfl,by decide +kernel,rfl,by decide +kernel,by decide +kernel⟩
theorem Zgk:Xc ["roll","table"] ["roll","table"] (Zm Zdq):=⟨rfl,rfl,rfl,by decide +kernel,rfl,by decide +kernel,by decide +kernel⟩
theorem Zcw:Xc ["table","tops","rests","piece"] ["table","tops","rests","piece"] (Zm Zbu):=⟨rfl,rfl,rfl,by decide +kernel,rfl,by decide +kernel,by decide +kernel⟩
theorem Xgb:Xc ["roll","table","tops","rests"] ["roll","table"] (Zm Xfc):=⟨rfl,rfl,rfl,by decide +kernel,rfl,by decide +kernel,by decide +kernel⟩
theorem Zvi:Xc ["roll","table","ahead","behind"] ["roll","table"] (Zm Zrf):=⟨rfl,rfl,rfl,by decide +kernel,rfl,by decide +kernel,by decide +kernel⟩
theorem Zhk:Xc ["roll","table","greatest","end","worths","kind"] ["roll","table"] (Zm Zdf):=⟨rfl,rfl,rfl,by decide +kernel,rfl,by decide +kernel,by decide +kernel⟩
theorem Zhj:Xc ["_law_script","_law_place","_law_seed","_law_cell_here"] ["_law_script","_law_place"] (Zm Zfr):=⟨rfl,rfl,rfl,by decide +kernel,rfl,by decide +kernel,by decide +kernel⟩
theorem Zjs:Xc ["_law_cell_here","_law_k","_law_one","_law_two"] ["_law_cell_here","_law_k"] (Zm Zif):=⟨rfl,rfl,rfl,by decide +kernel,rfl,by decide +kernel,by decide +kernel⟩
theorem Zkb:Xc ["_law_script","_law_place","_law_sizes","_law_cell_here","_law_left","_law_some","_law_k","_law_other"] ["_law_script","_law_place","_law_sizes"] (Zm Zjc):=⟨rfl,rfl,rfl,by decide +kernel,rfl,by decide +kernel,by decide +kernel⟩
theorem Zge:Xc ["_law_script","_law_place","_law_most","_law_pool","_law_some","_law_flaw_here","_law_gain","_law_table_here","_law_k","_law_at","_law_width","_law_worth","_law_allowed","_law_name"] ["_law_script","_law_place","_law_most"] (Zm Zds):=⟨rfl,rfl,rfl,by decide +kernel,rfl,by decide +kernel,by decide +kernel⟩
theorem Zhr:Xc ["_law_script","_law_place","_law_most"] ["_law_script","_law_place","_law_most"] (Zm Zfz):=⟨rfl,rfl,rfl,by decide +kernel,rfl,by decide +kernel,by decide +kernel⟩
theorem Zhy:Xc ["_law_script","_law_place","_law_most","_law_flaw_here","_law_some","_law_great","_law_roll_here","_law_k","_law_at","_law_weight"] ["_law_script","_law_place","_law_most","_law_flaw_here"] (Zm Zfn):=⟨rfl,rfl,rfl,by decide +kernel,rfl,by decide +kernel,by decide +kernel⟩
theorem Zgn:Xc ["_law_script","_law_place","_law_most","_law_kinds","_law_flaw_here"] ["_law_script","_law_place","_law_most","_law_kinds"] (Zm Zea):=⟨rfl,rfl,rfl,by decide +kernel,rfl,by decide +kernel,by decide +kernel⟩
theorem Zio:Xc ["_law_piece","_law_table_here","_law_k"] ["_law_piece","_law_table_here"] (Zm Zfy):=⟨rfl,rfl,rfl,by decide +kernel,rfl,by decide +kernel,by decide +kernel⟩
theorem Zbj:Xc ["_law_pieces","_law_table_here","_law_count","_law_found","_law_place","_law_name","_law_spots"] ["_law_pieces","_law_table_here","_law_count"] (Zm Yi):=⟨rfl,rfl,rfl,by decide +kernel,rfl,by decide +kernel,by decide +kernel⟩
theorem Zbe:Xc ["_law_roll_here","_law_table_here","_law_other","_law_count"] ["_law_roll_here","_law_table_here"] (Zm Js):=⟨rfl,rfl,rfl,by decide +kernel,rfl,by decide +kernel,by decide +kernel⟩
theorem Zbf:Xc ["_law_roll_here","_law_table_here","_law_at","_law_left","_law_right","_law_high","_law_parts","_law_second","_law_lower","_law_k"] ["_law_roll_here","_law_table_here","_law_at"] (Zm Jr):=⟨rfl,rfl,rfl,by decide +kernel,rfl,by decide +kernel,by decide +kernel⟩
theorem Xog:Xc ["_law_script","_law_most","_law_some","_law_roll_here","_law_table_here"] ["_law_script"] (Zm Xmh):=⟨rfl,rfl,rfl,by decide +kernel,rfl,by decide +kernel,by decide +kernel⟩
structure Txt (mg:Str→Option Value):Prop where
 sum:mg "sum"=none
 len:mg "len"=none
 list:mg "list"=none
 reversed:mg "reversed"=none
 range:mg "range"=none
 max:mg "max"=none
 sorted:mg "sorted"=none
 set:mg "set"=none
 min:mg "min"=none
section
variable {P:Program}{w:World}{K:Frag}{C:String→Addr}{mg:Str→Option Value}{base:Heap}{f:Addr}{fd:FuncData}
theorem Xcm (F:Fun K "spoilt" "spoilt" Zpk f fd)(T:Txt mg):Zan P w K mg base CX0 7 f fd ["roll","begin","end"] (spD K C 3 2 Dl.Zdi):=by
  refine F.okC Zqo (Γ':=[]) (Δ':=[]) rfl fun cdv A outer s H E hr=>?_
  have sc:=Zqo
  have hu:_+64<cLine:=hr.units
  exact ⟨_,(Zg [] [] (Jo (Xmn (Zzk (Xt Znx Zgl (Zk 1) Ze (Xp _)) (Zzk (Xt Zni Zgq (Zk 2) (Xm (r:=Zbi K) Xx Yu rfl T.len PySem.boot_len (Zb (Zk 0) Zi Za) (he:=Za)) (Xp _)) (Zrc (Xt Zni Zgq (Zk 1) (Zk 2) (Xp _)))))) (Zl Zrm) Xv)
      (Zl (Xg (Xm (r:=Xgm K) (Zev rfl) Zir rfl T.sum PyProof.Rows.boot_sum (Zb (Zzq K (Zk 0) (Zfo (Zk 1)) (Zfo (Zk 2))) Zi Xq) (he:=Xq)))))⟩
theorem Xey (F:Fun K "turned" "turned" Zpi f fd)(T:Txt mg):Zan P w K mg base CX0 7 f fd ["roll"] (spD K C 1 2 Dl.Zar):=by
 refine F.okC Zsa (Γ':=[]) (Δ':=[]) rfl fun cdv A outer s H E hr=>?_
 have sc:=Zsa
 have hu:_+64<cLine:=hr.units
 exact ⟨_,(Zl (Xg (Zla K rfl T.list rfl T.reversed (Zk 0) Za)))⟩
theorem Zyc (F:Fun K "kind_of" "kind_of" Zlf f fd)(T:Txt mg):Zan P w K mg base CX0 7 f fd ["table","name"] (spD K C 2 2 Dl.Zae):=by
  refine F.okC Zly (Γ':=[]) (Δ':=[]) rfl fun cdv A outer s H E hr=>?_
  have sc:=Zly
  have hu:_+64<cLine:=hr.units
  exact ⟨_,(Zg [] [] (Zam [] [] PassesOwn.never rfl (Jc (Zk 0)) (Yt (i:=2) (hN:=sc.nd) (hi:=rfl) (hx:=Or.inl rfl)) (Zl (Jo (Xt (r:=Znl K) (Zaw hu) Zax (Zs K (Zk 2) Ze Zj) (Zk 1) (Xp _)) (Zl (Xg (Zz (Zk 2)))) Xv)))
      (Zl Zrm))⟩
theorem Zop (F:Fun K "_law_cell" "_law_cell" Zfr f fd)(T:Txt mg):Zan P w K mg base CX0 7 f fd ["_law_script","_law_place"] (spD K C 2 2 Dl.Ju):=by
  refine F.okC Zhj (Γ':=[]) (Δ':=[]) rfl fun cdv A outer s H E hr=>?_
  have sc:=Zhj
  have hu:_+64<cLine:=hr.units
  exact ⟨_,(Zg [] [] (Jo (Xt Znx Zgl (Zk 1) (Xm (r:=Zbi K) Xx Yu rfl T.len PySem.boot_len (Zb (Zk 0) Zi Za) (he:=Za)) (Xp _)) (Zl (Xg (Zz (Zs K (Zk 0) (Zk 1) Xu)))) Xv)
      (Zg [2] [2] (Zt (i:=2) sc.nd rfl (Or.inl rfl) Ze)
      (Zg [2] [2] (Zam [2] [2] PassesOwn.never rfl (Jc (Zzq K (Zk 0) Zll (Zfo Ze))) (Yt (i:=3) (hN:=sc.nd) (hi:=rfl) (hx:=Or.inl rfl)) (Zl (Zt (i:=2) sc.nd rfl (Or.inl rfl) (Zr Zay Ji (Zr Zw Zv (Zr Zw Zv (Zr Ym Yo (Zk 2) Ze) (Zr Zay Ji (Zk 3) Ze)) Ze) Ze))))
      (Zl (Xg (Zr Zay Ji (Zr Zw Zv (Zk 2) (Zr Ym Yo Ze (Zk 1))) Ze))))))⟩
theorem Zsw (F:Fun K "_law_mix" "_law_mix" Zif f fd)(T:Txt mg):Zan P w K mg base CX0 7 f fd ["_law_cell_here","_law_k"] (spD K C 2 2 Dl.Zas):=by
  refine F.okC Zjs (Γ':=[]) (Δ':=[]) rfl fun cdv A outer s H E hr=>?_
  have sc:=Zjs
  have hu:_+64<cLine:=hr.units
  exact ⟨_,(Zg [2] [2] (Zt (i:=2) sc.nd rfl (Or.inl rfl) (Zr Zay Ji (Zr Zeq Zcf (Zr Zw Zv (Zr Zw Zv (Zr Zay Ji (Zk 0) Ze) (Zr Ym Yo Ze (Zk 1))) Ze) Ze) Ze))
      (Zg [2,3] [2,3] (Zt (i:=3) sc.nd rfl (Or.inl rfl) (Zr Zay Ji (Zr Zw Zv (Zr Zw Zv (Zr Ym Yo (Zk 2) Ze) (Zr Ym Yo (Zr Ym Yo Ze (Zk 1)) (Zk 1))) Ze) Ze))
      (Zl (Xg (Zr Zrr Zvx (Zk 3) Ze)))))⟩
theorem Zpa (F:Fun K "_law_spot" "_law_spot" Zfy f fd)(T:Txt mg):Zan P w K mg base CX0 7 f fd ["_law_piece","_law_table_here"] (spD K C 2 2 Dl.Jv):=by
  refine F.okC Zio (Γ':=[]) (Δ':=[]) rfl fun cdv A outer s H E hr=>?_
  have sc:=Zio
  have hu:_+64<cLine:=hr.units
  exact ⟨_,(Zg [] [] (Zam [] [] PassesOwn.never rfl (Zfu rfl T.range (Zb (Xm (r:=Zbi K) Xx Yu rfl T.len PySem.boot_len (Zb (Zk 1) Zi Za) (he:=Za)) Zi Xa)) (Yt (i:=2) (hN:=sc.nd) (hi:=rfl) (hx:=Or.inl rfl)) (Zl (Jo (Xt (r:=Znl K) (Zaw hu) Zax (Zs K (Zs K (Zk 1) (Zk 2) Xu) Ze Zj) (Zs K (Zk 0) Ze Zj) (Xp _)) (Zl (Xg (Zch (Zh (Zz (Zs K (Zk 0) Ze Zj)) (Zh (Zz (Zk 2)) Zi Za) Xq)))) Xv)))
      (Zl (Xg (Zch (Zh (Zz (Zs K (Zk 0) Ze Zj)) (Zh (Xm (r:=Zbi K) Xx Yu rfl T.len PySem.boot_len (Zb (Zk 1) Zi Za) (he:=Za)) Zi Xa) Xq)))))⟩
theorem Xnm (F:Fun K "fits" "fits" Xin f fd)(T:Txt mg)(Dspoilt:Def P w K mg base CX0 7 "spoilt" ["roll","begin","end"] (spD K C 3 2 Dl.Zdi)):Zan P w K mg base CX0 8 f fd ["roll","kind","place"] (spD K C 3 2 Dl.Zgf):=by
  refine F.okC Xgr (Γ':=[]) (Δ':=[]) rfl fun cdv A outer s H E hr=>?_
  have sc:=Xgr
  have hu:_+64<cLine:=hr.units
  exact ⟨_,(Zg [3] [3] (Zt (i:=3) sc.nd rfl (Or.inl rfl) (Zr Zw Zv (Zk 2) (Zs K (Zk 1) Ze Zj)))
      (Zg [3] [3] (Jo (Xmn (Zzk (Xt Znx Zgl (Zk 2) Ze (Xp _)) (Zrc (Xt Zni Zgq (Zk 3) (Xm (r:=Zbi K) Xx Yu rfl T.len PySem.boot_len (Zb (Zk 0) Zi Za) (he:=Za)) (Xp _))))) (Zl (Xg Zgx)) Xv)
      (Zl (Xg (Xgl Xrn Xfl (Zo Dspoilt (hr.mono (by decide)) rfl Xk (Zb (Zk 0) (Zb (Zk 2) (Zb (Zk 3) Zi Za) Za) Za) (he:=Za)) (Zs K (Zk 1) Ze Zj) (Xp _))))))⟩
theorem Xer (F:Fun K "end_of" "end_of" Zol f fd)(T:Txt mg)(Dkind_of:Def P w K mg base CX0 7 "kind_of" ["table","name"] (spD K C 2 2 Dl.Zae)):Zan P w K mg base CX0 8 f fd ["table","piece"] (spD K C 2 2 Dl.Jp):=by
 refine F.okC Zqm (Γ':=[]) (Δ':=[]) rfl fun cdv A outer s H E hr=>?_
 have sc:=Zqm
 have hu:_+64<cLine:=hr.units
 exact ⟨_,(Zl (Xg (Zr Zw Zv (Zs K (Zk 1) Ze Zj) (Zs K (Zo Dkind_of (hr.mono (by decide)) rfl Xk (Zb (Zk 0) (Zb (Zs K (Zk 1) Ze Zj) Zi Xq) Za) (he:=Za)) Ze Zj))))⟩
theorem Ztd (F:Fun K "_law_row" "_law_row" Zjc f fd)(T:Txt mg)(D_law_cell:Def P w K mg base CX0 7 "_law_cell" ["_law_script","_law_place"] (spD K C 2 2 Dl.Ju))(D_law_mix:Def P w K mg base CX0 7 "_law_mix" ["_law_cell_here","_law_k"] (spD K C 2 2 Dl.Zas)):Zan P w K mg base CX0 8 f fd ["_law_script","_law_place","_law_sizes"] (spD K C 3 2 Dl.Yb):=by
  refine F.okC Zkb (Γ':=[]) (Δ':=[]) rfl fun cdv A outer s H E hr=>?_
  have sc:=Zkb
  have hu:_+64<cLine:=hr.units
  exact ⟨_,(Zg [3] [3] (Zt (i:=3) sc.nd rfl (Or.inl rfl) (Zo D_law_cell (hr.mono (by decide)) rfl Xk (Zb (Zk 0) (Zb (Zk 1) Zi Za) Za) (he:=Za)))
      (Zg [3,4] [3,4] (Zt (i:=4) sc.nd rfl (Or.inl rfl) (Zz (Zk 3)))
      (Zg [3,4,5] [3,4,5] (Zt (i:=5) sc.nd rfl (Or.inl rfl) (Ye Zi))
      (Zg [3,4,5] [3,4,5] (Zam [3,4,5] [3,4,5] PassesOwn.never rfl (Zfu rfl T.range (Zb (Xm (r:=Zbi K) Xx Yu rfl T.len PySem.boot_len (Zb (Zk 2) Zi Za) (he:=Za)) Zi Xa)) (Yt (i:=6) (hN:=sc.nd) (hi:=rfl) (hx:=Or.inl rfl)) (Zl (Jo (Xt Znx Zgl (Zk 3) (Zr Zeq Zcf Ze Ze) (Xp _)) (Zl (Zbn (i:=5) (he:=(Zr Zay Ji (Zo D_law_mix (hr.mono (by decide)) rfl Xk (Zb (Zk 3) (Zb (Zk 6) Zi Za) Za) (he:=Za)) (Zs K (Zk 2) (Zk 6) Xu))) (hse:=Zy))) (Zl (Jo (Xt Zni Zgq (Zk 4) Ze (Xp _)) (Zg [3,4,5] [3,4,5] (Zbn (i:=5) (he:=(Zr Zay Ji (Zk 4) (Zs K (Zk 2) (Zk 6) Xu))) (hse:=Zy))
      (Zl (Zt (i:=4) sc.nd rfl (Or.inl rfl) (Zr Zrr Zvx (Zk 4) (Zs K (Zk 2) (Zk 6) Xu))))) (Zbp [3,4,5,7] [3,4,5,7] (Zg [3,4,5,7] [3,4,5,7] (Zt (i:=7) sc.nd rfl (Or.inl rfl) (Zo D_law_cell (hr.mono (by decide)) rfl Xk (Zb (Zk 0) (Zb (Zr Zay Ji (Zr Zw Zv (Zr Zw Zv (Zk 1) Ze) (Zk 6)) Ze) Zi Zy) Za) (he:=Za)))
      (Zl (Zbn (i:=5) (he:=(Zr Zay Ji (Zo D_law_mix (hr.mono (by decide)) rfl Xk (Zb (Zk 7) (Zb (Zk 6) Zi Za) Za) (he:=Za)) (Zs K (Zk 2) (Zk 6) Xu))) (hse:=Zy))))))))))
      (Zl (Xg (Zon 5)))))))⟩
theorem Znb (F:Fun K "all_pieces" "all_pieces" Zdz f fd)(T:Txt mg)(Dfits:Def P w K mg base CX0 8 "fits" ["roll","kind","place"] (spD K C 3 2 Dl.Zgf)):Zan P w K mg base CX0 9 f fd ["roll","table"] (spD K C 2 2 Dl.Jm):=by
  refine F.okC Zgm (Γ':=[]) (Δ':=[]) rfl fun cdv A outer s H E hr=>?_
  have sc:=Zgm
  have hu:_+64<cLine:=hr.units
  exact ⟨_,(Zg [2] [2] (Zt (i:=2) sc.nd rfl (Or.inl rfl) (Ye Zi))
      (Zg [2] [2] (Zam [2] [2] PassesOwn.never rfl (Zfu rfl T.range (Zb (Xm (r:=Zbi K) Xx Yu rfl T.len PySem.boot_len (Zb (Zk 0) Zi Za) (he:=Za)) Zi Xa)) (Yt (i:=3) (hN:=sc.nd) (hi:=rfl) (hx:=Or.inl rfl)) (Zl (Zam [2] [2] PassesOwn.never rfl (Jc (Zk 1)) (Yt (i:=4) (hN:=sc.nd) (hi:=rfl) (hx:=Or.inl rfl)) (Zl (Jo (Zxa (Zo Dfits (hr.mono (by decide)) rfl Xk (Zb (Zk 0) (Zb (Zk 4) (Zb (Zk 3) Zi Za) Za) Za) (he:=Za))) (Zl (Zbn (i:=2) (he:=(Zch (Zh (Zz (Zk 3)) (Zh (Zz (Zs K (Zk 4) Ze Zj)) Zi Xq) Za))) (hse:=Zbl))) Xv)))))
      (Zl (Xg (Zon 2)))))⟩
theorem Xdw (F:Fun K "ending" "ending" Zld f fd)(T:Txt mg)(Dfits:Def P w K mg base CX0 8 "fits" ["roll","kind","place"] (spD K C 3 2 Dl.Zgf)):Zan P w K mg base CX0 9 f fd ["roll","table","end"] (spD K C 3 2 Dl.Yg):=by
 refine F.okC Zqg (Γ':=[]) (Δ':=[]) rfl fun cdv A outer s H E hr=>?_
 have sc:=Zqg
 have hu:_+64<cLine:=hr.units
 exact ⟨_,(Zl (Xg (Zdy (n:=3) (Zm Zld) ["roll","table","end"] ["roll","table","end"] ["kind"] ⟨rfl,by decide +kernel,by decide +kernel,by decide +kernel,by decide +kernel,by decide +kernel,rfl,by decide +kernel⟩ (Jc (Zk 1)) (fun _ _ _ _ _=>(Zbt 3 (hN:=(by decide +kernel:List.Nodup (["roll","table","end","kind"]:List Str))))) (fun _ _ _ _ _=>Zpl (Zxa (Zo Dfits (hr.mono (by decide)) rfl Xk (Zb (Zk 0 (hv:=Or.inr (Or.inl rfl))) (Zb (Zk 3 (hv:=Or.inl rfl)) (Zb (Zr Zci Zal (Zk 2 (hv:=Or.inr (Or.inl rfl))) (Zs K (Zk 3 (hv:=Or.inl rfl)) Ze Zj)) Zi Zy) Za) Za) (he:=Za)))) (fun _ _ _ _ _=>(Zz (Zk 3 (hv:=Or.inl rfl)))))))⟩
theorem Zja (F:Fun K "greatest_with" "greatest_with" Zbu f fd)(T:Txt mg)(Dend_of:Def P w K mg base CX0 8 "end_of" ["table","piece"] (spD K C 2 2 Dl.Jp))(Dkind_of:Def P w K mg base CX0 7 "kind_of" ["table","name"] (spD K C 2 2 Dl.Zae)):Zan P w K mg base CX0 9 f fd ["table","tops","rests","piece"] (spD K C 4 2 Dl.Yh):=by
 refine F.okC Zcw (Γ':=[]) (Δ':=[]) rfl fun cdv A outer s H E hr=>?_
 have sc:=Zcw
 have hu:_+64<cLine:=hr.units
 exact ⟨_,(Zl (Xg (Zr Zw Zv (Zr Zw Zv (Zs K (Zk 1) (Zs K (Zk 3) Ze Zj) Jh) (Zs K (Zo Dkind_of (hr.mono (by decide)) rfl Xk (Zb (Zk 0) (Zb (Zs K (Zk 3) Ze Zj) Zi Xq) Za) (he:=Za)) Ze Zj)) (Zs K (Zk 2) (Zo Dend_of (hr.mono (by decide)) rfl Xk (Zb (Zk 0) (Zb (Zk 3) Zi Za) Za) (he:=Za)) Zjw))))⟩
theorem Zlx (F:Fun K "_law_table" "_law_table" Zds f fd)(T:Txt mg)(D_law_row:Def P w K mg base CX0 8 "_law_row" ["_law_script","_law_place","_law_sizes"] (spD K C 3 2 Dl.Yb)):Zan P w K mg base CX0 9 f fd ["_law_script","_law_place","_law_most"] (spD K C 3 2 Dl.Zaf):=by
  refine F.okC Zge (Γ':=[]) (Δ':=[]) rfl fun cdv A outer s H E hr=>?_
  have sc:=Zge
  have hu:_+64<cLine:=hr.units
  exact ⟨_,(Zg [3] [3] (Zt (i:=3) sc.nd rfl (Or.inl rfl) (Ye (Zh Zao (Zh Zao (Zh Zao (Zh Zao (Zh Zao (Zh Zao (Zh Zao (Zh Zao (Zh Zao (Zh Zao Zi Zf) Zf) Zf) Zf) Zf) Zf) Zf) Zf) Zf) Zf)))
      (Zg [3] [3] (Zt (i:=3) sc.nd rfl (Or.inl rfl) (Zr Zw Zv (Zk 3) (Ye (Zh Zao (Zh Zao (Zh Zao (Zh Zao (Zh Zao (Zh Zao Zi Zf) Zf) Zf) Zf) Zf) Zf))))
      (Zg [3,4] [3,4] (Zt (i:=4) sc.nd rfl (Or.inl rfl) (Zo D_law_row (hr.mono (by decide)) rfl Xk (Zb (Zk 0) (Zb (Zk 1) (Zb (Zr Zw Zv (Ye (Zh (Zr Zw Zv (Zk 2) Ze) (Zh Ze (Zh Ze (Zh Ze (Zh Ze (Zh Ze Zi Zf) Zf) Zf) Zf) Zf) Zy)) (Zr Ym Yo (Ye (Zh Ze (Zh Ze (Zh Ze Zi Zf) Zf) Zf)) (Zk 2))) Zi Zy) Za) Za) (he:=Za)))
      (Zg [3,4,5] [3,4,5] (Zt (i:=5) sc.nd rfl (Or.inl rfl) (Zz (Zs K (Ye (Zh Ze (Zh Ze (Zh Ze (Zh (Zr Zeq Zcf Ze Ze) Zi Zy) Zf) Zf) Zf)) (Zs K (Zk 4) Ze Zj) Jh)))
      (Zg [3,4,5,6] [3,4,5,6] (Zt (i:=6) sc.nd rfl (Or.inl rfl) (Zz (Zs K (Ye (Zh Ze (Zh Ze (Zh (Zr Zeq Zcf Ze Ze) (Zh (Zr Ym Yo Ze (Zr Zeq Zcf Ze Ze)) Zi Zy) Zy) Zf) Zf)) (Zs K (Zk 4) Ze Zj) Jh)))
      (Zg [3,4,5,6,7] [3,4,5,6,7] (Zt (i:=7) sc.nd rfl (Or.inl rfl) (Ye Zi))
      (Zg [3,4,5,6,7] [3,4,5,6,7] (Zam [3,4,5,6,7] [3,4,5,6,7] PassesOwn.never rfl (Zfu rfl T.range (Zb (Zs K (Zk 4) Ze Zj) Zi Xq)) (Yt (i:=8) (hN:=sc.nd) (hi:=rfl) (hx:=Or.inl rfl)) (Zbp [3,4,5,6,7,9,10,11,12,13] [3,4,5,6,7,9,10,11,12,13] (Zg [3,4,5,6,7,9] [3,4,5,6,7,9] (Zt (i:=9) sc.nd rfl (Or.inl rfl) (Zr Zw Zv (Zr Ym Yo Ze (Zk 8)) Ze))
      (Zg [3,4,5,6,7,9,10] [3,4,5,6,7,9,10] (Zt (i:=10) sc.nd rfl (Or.inl rfl) (Zz (Zs K (Zpe (Zb Ze (Zb Ze (Zb Ze (Zb Ze (Zb Ze (Zb Ze (Zb Ze (Zb Ze (Zb Ze (Zb Ze (Zb (Zs K (Ye (Zh Ze (Zh Ze Zi Zf) Zf)) (Zr Zay Ji (Zk 8) Ze) plain_bin) Zi Xq) Zf) Zf) Zf) Zf) Zf) Zf) Zf) Zf) Zf) Zf)) (Zs K (Zk 4) (Zk 9) Xu) Jh)))
      (Zg [3,4,5,6,7,9,10,11] [3,4,5,6,7,9,10,11] (Zt (i:=11) sc.nd rfl (Or.inl rfl) (Zr Zw Zv Ze (Zs K (Zk 4) (Zr Zw Zv (Zk 9) Ze) plain_bin)))
      (Zg [3,4,5,6,7,9,10,11] [3,4,5,6,7,9,10,11] (Jo (Xt (r:=Znl K) (Zaw hu) Zax (Zs K (Zk 4) Ze Zj) Ze (Xp _)) (Zl (Zt (i:=11) sc.nd rfl (Or.inl rfl) (Zr Zw Zv (Zr Ym Yo Ze (Zk 10)) (Zr Zay Ji (Zs K (Zk 4) (Zr Zw Zv (Zk 9) Ze) plain_bin) Ze)))) Xv)
      (Zg [3,4,5,6,7,9,10,11] [3,4,5,6,7,9,10,11] (Jo (Xt (r:=Znl K) (Zaw hu) Zax (Zs K (Zk 4) Ze Zj) Ze (Xp _)) (Zl (Zt (i:=11) sc.nd rfl (Or.inl rfl) (Zr Zw Zv Ze (Zr Zay Ji (Zs K (Zk 4) (Zr Zw Zv (Zk 9) Ze) plain_bin) Ze)))) Xv)
      (Zg [3,4,5,6,7,9,10,11] [3,4,5,6,7,9,10,11] (Jo (Xt (r:=Znl K) (Zaw hu) Zax (Zs K (Zk 4) Ze Zj) Ze (Xp _)) (Zl (Zt (i:=11) sc.nd rfl (Or.inl rfl) (Zz (Zk 10)))) Xv)
      (Zg [3,4,5,6,7,9,10,11,12] [3,4,5,6,7,9,10,11,12] (Zt (i:=12) sc.nd rfl (Or.inl rfl) (Xm (r:=Xff) (Zlu rfl) Zxc rfl T.min PyProof.Rows.boot_min (Zb (Zr Ym Yo (Zs K (Ye (Zh Ze (Zh Ze (Zh Ze (Zh Ze (Zh Ze (Zh Ze Zi Zf) Zf) Zf) Zf) Zf) Zf)) (Zs K (Zk 4) (Zr Zw Zv (Zk 9) Ze) plain_bin) Jh) (Zk 5)) (Zb (Zr Zci Zal (Zr Zeq Zcf Ze Ze) Ze) Zi Zy) Zy) (he:=Zy)))
      (Zg [3,4,5,6,7,9,10,11,12,13] [3,4,5,6,7,9,10,11,12,13] (Zt (i:=13) sc.nd rfl (Or.inl rfl) (Zz (Zs K (Zk 3) (Zr Zay Ji (Zr Zw Zv (Zs K (Zk 4) Ze Zj) (Zr Ym Yo (Zr Zw Zv (Zr Ym Yo Ze (Zs K (Zk 4) Ze Zj)) Ze) (Zk 8))) Ze) plain_bin)))
      (Zl (Zbn (i:=7) (he:=(Zch (Zh (Zz (Zk 13)) (Zh (Zz (Zk 10)) (Zh (Xm (r:=Xff) (Zlu rfl) Zxc rfl T.min PyProof.Rows.boot_min (Zb (Zr Ym Yo (Zk 11) (Zk 6)) (Zb (Zr Zeq Zcf Ze Ze) Zi Zy) Zy) (he:=Zy)) (Zh (Zz (Zk 12)) Zi Za) Xa) Za) Za))) (hse:=Zbl)))))))))))))
      (Zl (Xg (Zon 7))))))))))⟩
theorem Zox (F:Fun K "_law_flaw" "_law_flaw" Zfz f fd)(T:Txt mg)(D_law_row:Def P w K mg base CX0 8 "_law_row" ["_law_script","_law_place","_law_sizes"] (spD K C 3 2 Dl.Yb)):Zan P w K mg base CX0 9 f fd ["_law_script","_law_place","_law_most"] (spD K C 3 2 Dl.Zav):=by
 refine F.okC Zhr (Γ':=[]) (Δ':=[]) rfl fun cdv A outer s H E hr=>?_
 have sc:=Zhr
 have hu:_+64<cLine:=hr.units
 exact ⟨_,(Zl (Xg (Zz (Zs K (Ye (Zh Ze (Zh Ze (Zh Ze (Zh (Zr Zeq Zcf Ze Ze) Zi Zy) Zf) Zf) Zf)) (Zs K (Zo D_law_row (hr.mono (by decide)) rfl Xk (Zb (Zk 0) (Zb (Zk 1) (Zb (Ye (Zh (Zr Zw Zv (Zk 2) Ze) (Zh Ze Zi Zf) Zy)) Zi Zcr) Za) Za) (he:=Za)) Ze Zj) Jh))))⟩
theorem Zpq (F:Fun K "_law_roll" "_law_roll" Zfn f fd)(T:Txt mg)(D_law_row:Def P w K mg base CX0 8 "_law_row" ["_law_script","_law_place","_law_sizes"] (spD K C 3 2 Dl.Yb)):Zan P w K mg base CX0 9 f fd ["_law_script","_law_place","_law_most","_law_flaw_here"] (spD K C 4 2 Dl.Zat):=by
  refine F.okC Zhy (Γ':=[]) (Δ':=[]) rfl fun cdv A outer s H E hr=>?_
  have sc:=Zhy
  have hu:_+64<cLine:=hr.units
  exact ⟨_,(Zg [4] [4] (Zt (i:=4) sc.nd rfl (Or.inl rfl) (Zo D_law_row (hr.mono (by decide)) rfl Xk (Zb (Zk 0) (Zb (Zk 1) (Zb (Zr Zw Zv (Ye (Zh (Zr Zw Zv (Zk 2) Ze) (Zh Ze (Zh Ze Zi Zf) Zf) Zy)) (Zr Ym Yo (Ye (Zh Ze (Zh Ze Zi Zf) Zf)) (Zk 2))) Zi Zy) Za) Za) (he:=Za)))
      (Zg [4,5] [4,5] (Zt (i:=5) sc.nd rfl (Or.inl rfl) (Zr Ym Yo Ze (Zk 3)))
      (Zg [4,5] [4,5] (Jo (Xt (r:=Znl K) (Zaw hu) Zax (Zs K (Zk 4) Ze Zj) Ze (Xp _)) (Zl (Zt (i:=5) sc.nd rfl (Or.inl rfl) (Zr Zeq Zcf Ze Ze))) Xv)
      (Zg [4,5,6] [4,5,6] (Zt (i:=6) sc.nd rfl (Or.inl rfl) (Ye Zi))
      (Zg [4,5,6] [4,5,6] (Zam [4,5,6] [4,5,6] PassesOwn.never rfl (Zfu rfl T.range (Zb (Zs K (Zk 4) Ze Zj) Zi Xq)) (Yt (i:=7) (hN:=sc.nd) (hi:=rfl) (hx:=Or.inl rfl)) (Zbp [4,5,6,8,9] [4,5,6,8,9] (Zg [4,5,6,8] [4,5,6,8] (Zt (i:=8) sc.nd rfl (Or.inl rfl) (Zr Zw Zv (Zr Ym Yo Ze (Zk 7)) Ze))
      (Zg [4,5,6,8,9] [4,5,6,8,9] (Zt (i:=9) sc.nd rfl (Or.inl rfl) Ze)
      (Zg [4,5,6,8,9] [4,5,6,8,9] (Jo (Xt Znx Zgl (Zs K (Zk 4) (Zk 8) Xu) (Zs K (Ye (Zh Ze (Zh Ze (Zh Ze (Zh Ze Zi Zf) Zf) Zf) Zf)) (Zs K (Zk 4) Ze Zj) Jh) (Xp _)) (Zl (Zt (i:=9) sc.nd rfl (Or.inl rfl) (Zz (Zs K (Zpe (Zb (Zk 3) (Zb (Zk 3) (Zb (Zr Ym Yo Ze (Zk 3)) (Zb (Zr Ym Yo Ze (Zk 3)) (Zb (Zk 5) Zi Za) Zy) Zy) Za) Za)) (Zs K (Zk 4) (Zr Zw Zv (Zk 8) Ze) plain_bin) Jh)))) Xv)
      (Zl (Zbn (i:=6) (he:=(Zz (Zk 9))) (hse:=Za))))))))
      (Zl (Xg (Zon 6))))))))⟩
theorem Zfj (F:Fun K "_law_from_behind" "_law_from_behind" Yi f fd)(T:Txt mg)(D_law_spot:Def P w K mg base CX0 7 "_law_spot" ["_law_piece","_law_table_here"] (spD K C 2 2 Dl.Jv))(Dend_of:Def P w K mg base CX0 8 "end_of" ["table","piece"] (spD K C 2 2 Dl.Jp)):Zan P w K mg base CX0 9 f fd ["_law_pieces","_law_table_here","_law_count"] (spD K C 3 2 Dl.Xe):=by
  refine F.okC Zbj (Γ':=[]) (Δ':=[]) rfl fun cdv A outer s H E hr=>?_
  have sc:=Zbj
  have hu:_+64<cLine:=hr.units
  exact ⟨_,(Zg [3] [3] (Zt (i:=3) sc.nd rfl (Or.inl rfl) (Ye Zi))
      (Zg [3] [3] (Zam [3] [3] PassesOwn.never rfl (Jc (Zk 0)) (Xot rfl (Zql (Yt (i:=4) (hN:=sc.nd) (hi:=rfl) (hx:=Or.inl rfl)) (Zql (Yt (i:=5) (hN:=sc.nd) (hi:=rfl) (hx:=Or.inl rfl)) Xln))) (Zl (Zbn (i:=3) (he:=(Zch (Zh (Zr Zci Zal (Zk 2) (Zo Dend_of (hr.mono (by decide)) rfl Xk (Zb (Zk 1) (Zb (Xjs (Zb (Zk 4) (Zb (Zk 5) Zi Za) Za)) Zi Zbl) Za) (he:=Za))) (Zh (Zz (Zk 5)) Zi Za) Zy))) (hse:=Zbl))))
      (Zg [3,6] [3,6] (Zt (i:=6) sc.nd rfl (Or.inl rfl) (Xm (r:=Zvg K) (Zlp hu) Zyd rfl T.sorted PyProof.Rows.boot_sorted (Zb (Zdy (n:=7) (Zm Yi) ["_law_pieces","_law_table_here","_law_count","_law_found","_law_place","_law_name","_law_spots"] ["_law_pieces","_law_table_here","_law_count","_law_found","_law_place","_law_name","_law_spots"] ["_law_piece"] ⟨rfl,by decide +kernel,by decide +kernel,by decide +kernel,by decide +kernel,by decide +kernel,rfl,by decide +kernel⟩ (Jc (Zk 3)) (fun _ _ _ _ _=>(Zbt 7 (hN:=(by decide +kernel:List.Nodup (["_law_pieces","_law_table_here","_law_count","_law_found","_law_place","_law_name","_law_spots","_law_piece"]:List Str))))) (fun _ _ _ _ _=>Zfl) (fun _ _ _ _ _=>(Zo D_law_spot (hr.mono (by decide)) rfl Xk (Zb (Zk 7 (hv:=Or.inl rfl)) (Zb (Zk 1 (hv:=Or.inr (Or.inl rfl))) Zi Za) Za) (he:=Za)))) Zi Zcq) (he:=Zcq)))
      (Zl (Xg (Zdy (n:=7) (Zm Yi) ["_law_pieces","_law_table_here","_law_count","_law_found","_law_place","_law_name","_law_spots"] ["_law_pieces","_law_table_here","_law_count","_law_found","","_law_name","_law_spots"] ["_law_place","_law_k"] ⟨rfl,by decide +kernel,by decide +kernel,by decide +kernel,by decide +kernel,by decide +kernel,rfl,by decide +kernel⟩ (Jc (Zk 6)) (fun _ _ _ _ _=>(Xqs K (Zqx (Zbt 7 (hN:=(by decide +kernel:List.Nodup (["_law_pieces","_law_table_here","_law_count","_law_found","","_law_name","_law_spots","_law_place","_law_k"]:List Str)))) (Zqx (Zbt 8 (hN:=(by decide +kernel:List.Nodup (["_law_pieces","_law_table_here","_law_count","_law_found","","_law_name","_law_spots","_law_place","_law_k"]:List Str)))) Xil)))) (fun _ _ _ _ _=>Zfl) (fun _ _ _ _ _=>(Zch (Zh (Zz (Zk 7 (hv:=Or.inl rfl))) (Zh (Zz (Zs K (Zs K (Zk 1 (hv:=Or.inr (Or.inl rfl))) (Zk 8 (hv:=Or.inl rfl)) Xu) Ze Zj)) Zi Xq) Za)))))))))⟩
theorem Zta (F:Fun K "next_top" "next_top" Zep f fd)(T:Txt mg)(Dending:Def P w K mg base CX0 9 "ending" ["roll","table","end"] (spD K C 3 2 Dl.Yg)):Zan P w K mg base CX0 10 f fd ["roll","table","tops"] (spD K C 3 2 Dl.Zby):=by
  refine F.okC Zju (Γ':=[]) (Δ':=[]) rfl fun cdv A outer s H E hr=>?_
  have sc:=Zju
  have hu:_+64<cLine:=hr.units
  exact ⟨_,(Zg [3] [3] (Zt (i:=3) sc.nd rfl (Or.inr rfl) (Xm (r:=Zbi K) Xx Yu rfl T.len PySem.boot_len (Zb (Zk 2) Zi Za) (he:=Za)))
      (Zg [3,4] [3,4] (Zwa (i:=4) (n:=5) (Zm Zep) ["roll","table","tops","end","worths"] ["roll","table","tops","end","worths"] ["kind"] ⟨rfl,by decide +kernel,by decide +kernel,by decide +kernel,by decide +kernel,by decide +kernel,rfl,by decide +kernel⟩ rfl rfl (Jc (Zo Dending (hr.mono (by decide)) rfl Xk (Zb (Zk 0) (Zb (Zk 1) (Zb (Zk 3) Zi Za) Za) Za) (he:=Za))) (fun _ _ _ _ _=>(Zbt 5 (hN:=(by decide +kernel:List.Nodup (["roll","table","tops","end","worths","kind"]:List Str))))) (fun _ _ _ _ _=>Zfl) (fun _ _ _ _ _=>(Zr Zw Zv (Zs K (Zk 2 (hv:=Or.inr (Or.inl rfl))) (Zr Zci Zal (Zk 3 (hv:=Or.inr (Or.inl rfl))) (Zs K (Zk 5 (hv:=Or.inl rfl)) Ze Zj)) plain_bin) (Zs K (Zk 5 (hv:=Or.inl rfl)) Ze Zj))))
      (Zl (Xg (Xm (r:=Zxq K) (Zzr rfl) Xma rfl T.max PyProof.Rows.boot_max (Zb (Zr Zw Zv (Zpe (Zb (Zs K (Zk 2) (Zcv Ze) Zab) Zi Xq)) (Zk 4)) Zi Zy) (he:=Zy))))))⟩
theorem Zpx (F:Fun K "last_kind" "last_kind" Zga f fd)(T:Txt mg)(Dending:Def P w K mg base CX0 9 "ending" ["roll","table","end"] (spD K C 3 2 Dl.Yg)):Zan P w K mg base CX0 10 f fd ["roll","table","tops","end"] (spD K C 4 2 Dl.Jx):=by
  refine F.okC Zig (Γ':=[]) (Δ':=[]) rfl fun cdv A outer s H E hr=>?_
  have sc:=Zig
  have hu:_+64<cLine:=hr.units
  exact ⟨_,(Zg [] [] (Jo (Xt (r:=Znl K) (Zaw hu) Zax (Zs K (Zk 2) (Zk 3) Xu) (Zs K (Zk 2) (Zr Zci Zal (Zk 3) Ze) plain_bin) (Xp _)) (Zl (Xg Ziz)) Xv)
      (Zg [] [] (Zam [] [] PassesOwn.never rfl (Jc (Zo Dending (hr.mono (by decide)) rfl Xk (Zb (Zk 0) (Zb (Zk 1) (Zb (Zk 3) Zi Za) Za) Za) (he:=Za))) (Yt (i:=4) (hN:=sc.nd) (hi:=rfl) (hx:=Or.inl rfl)) (Zl (Jo (Xt (r:=Znl K) (Zaw hu) Zax (Zr Zw Zv (Zs K (Zk 2) (Zr Zci Zal (Zk 3) (Zs K (Zk 4) Ze Zj)) plain_bin) (Zs K (Zk 4) Ze Zj)) (Zs K (Zk 2) (Zk 3) Xu) (Xp _)) (Zl (Xg (Zz (Zk 4)))) Xv)))
      (Zl (Xg Ziz))))⟩
theorem Zip (F:Fun K "cutting_count" "cutting_count" Zaa f fd)(T:Txt mg)(Dending:Def P w K mg base CX0 9 "ending" ["roll","table","end"] (spD K C 3 2 Dl.Yg)):Zan P w K mg base CX0 10 f fd ["roll","table"] (spD K C 2 2 Dl.Xi):=by
  refine F.okC Zdc (Γ':=[]) (Δ':=[]) rfl fun cdv A outer s H E hr=>?_
  have sc:=Zdc
  have hu:_+64<cLine:=hr.units
  exact ⟨_,(Zg [2] [2] (Zt (i:=2) sc.nd rfl (Or.inr rfl) (Ye (Zh Ze Zi Zf)))
      (Zg [2] [2] (Zam [2] [2] PassesOwn.never rfl (Zpy rfl T.range (Zb Ze (Zb (Zr Zw Zv (Xm (r:=Zbi K) Xx Yu rfl T.len PySem.boot_len (Zb (Zk 0) Zi Za) (he:=Za)) Ze) Zi Zy) Zf)) (Yt (i:=3) (hN:=sc.nd) (hi:=rfl) (hx:=Or.inr rfl)) (Zbp [2,4] [2,4] (Zg [2,4] [2,4] (Zwa (i:=4) (n:=5) (Zm Zaa) ["roll","table","numbers","end","with_last"] ["roll","table","numbers","end","with_last"] ["kind"] ⟨rfl,by decide +kernel,by decide +kernel,by decide +kernel,by decide +kernel,by decide +kernel,rfl,by decide +kernel⟩ rfl rfl (Jc (Zo Dending (hr.mono (by decide)) rfl Xk (Zb (Zk 0) (Zb (Zk 1) (Zb (Zk 3) Zi Za) Za) Za) (he:=Za))) (fun _ _ _ _ _=>(Zbt 5 (hN:=(by decide +kernel:List.Nodup (["roll","table","numbers","end","with_last","kind"]:List Str))))) (fun _ _ _ _ _=>Zfl) (fun _ _ _ _ _=>(Zz (Zs K (Zk 2 (hv:=Or.inr (Or.inl rfl))) (Zr Zci Zal (Zk 3 (hv:=Or.inr (Or.inl rfl))) (Zs K (Zk 5 (hv:=Or.inl rfl)) Ze Zj)) plain_bin))))
      (Zl (Zbn (i:=2) (he:=(Zr Zw Zv (Zs K (Zk 2) (Zcv Ze) Zab) (Xm (r:=Xgm K) (Zev rfl) Zir rfl T.sum PyProof.Rows.boot_sum (Zb (Zk 4) Zi Za) (he:=Za)))) (hse:=Zy))))))
      (Zl (Xg (Zz (Zs K (Zk 2) (Zcv Ze) Zab))))))⟩
theorem Zna (F:Fun K "best_steps" "best_steps" Zdv f fd)(T:Txt mg)(Dending:Def P w K mg base CX0 9 "ending" ["roll","table","end"] (spD K C 3 2 Dl.Yg)):Zan P w K mg base CX0 10 f fd ["roll","table","tops","end"] (spD K C 4 2 Dl.Zad):=by
  refine F.okC Zgu (Γ':=[]) (Δ':=[]) rfl fun cdv A outer s H E hr=>?_
  have sc:=Zgu
  have hu:_+64<cLine:=hr.units
  exact ⟨_,(Zg [4] [4] (Zt (i:=4) sc.nd rfl (Or.inl rfl) (Ye Zi))
      (Zg [4] [4] (Jo (Xt (r:=Znl K) (Zaw hu) Zax (Zs K (Zk 2) (Zr Zci Zal (Zk 3) Ze) plain_bin) (Zs K (Zk 2) (Zk 3) Xu) (Xp _)) (Zl (Zbn (i:=4) (he:=(Zch (Zh (Zr Zci Zal (Zk 3) Ze) (Zh (Ye Zi) Zi Zcr) Zy))) (hse:=Zbl))) Xv)
      (Zg [4] [4] (Zam [4] [4] PassesOwn.never rfl (Jc (Zo Dending (hr.mono (by decide)) rfl Xk (Zb (Zk 0) (Zb (Zk 1) (Zb (Zk 3) Zi Za) Za) Za) (he:=Za))) (Yt (i:=5) (hN:=sc.nd) (hi:=rfl) (hx:=Or.inl rfl)) (Zbp [4,6] [4,6] (Zg [4,6] [4,6] (Zt (i:=6) sc.nd rfl (Or.inl rfl) (Zr Zci Zal (Zk 3) (Zs K (Zk 5) Ze Zj)))
      (Zl (Jo (Xt (r:=Znl K) (Zaw hu) Zax (Zr Zw Zv (Zs K (Zk 2) (Zk 6) Xu) (Zs K (Zk 5) Ze Zj)) (Zs K (Zk 2) (Zk 3) Xu) (Xp _)) (Zl (Zbn (i:=4) (he:=(Zch (Zh (Zz (Zk 6)) (Zh (Ye (Zh (Zch (Zh (Zz (Zk 6)) (Zh (Zz (Zs K (Zk 5) Ze Zj)) Zi Xq) Za)) Zi Zbl)) Zi Zcr) Za))) (hse:=Zbl))) Xv)))))
      (Zl (Xg (Zon 4))))))⟩
theorem Zou (F:Fun K "runner_up" "runner_up" Zdf f fd)(T:Txt mg)(Dending:Def P w K mg base CX0 9 "ending" ["roll","table","end"] (spD K C 3 2 Dl.Yg)):Zan P w K mg base CX0 10 f fd ["roll","table"] (spD K C 2 2 Dl.Yc):=by
  refine F.okC Zhk (Γ':=[]) (Δ':=[]) rfl fun cdv A outer s H E hr=>?_
  have sc:=Zhk
  have hu:_+64<cLine:=hr.units
  exact ⟨_,(Zg [2] [2] (Zt (i:=2) sc.nd rfl (Or.inl rfl) (Ye (Zh (Ye (Zh Ze Zi Zf)) Zi Zcr)))
      (Zg [2] [2] (Zam [2] [2] PassesOwn.never rfl (Zpy rfl T.range (Zb Ze (Zb (Zr Zw Zv (Xm (r:=Zbi K) Xx Yu rfl T.len PySem.boot_len (Zb (Zk 0) Zi Za) (he:=Za)) Ze) Zi Zy) Zf)) (Yt (i:=3) (hN:=sc.nd) (hi:=rfl) (hx:=Or.inl rfl)) (Zbp [2,4] [2,4] (Zg [2,4] [2,4] (Zt (i:=4) sc.nd rfl (Or.inl rfl) (Zxh (r:=Zwy K) (Zts rfl) Xcx rfl T.list PyProof.Rows.boot_list (Zb (Zs K (Zk 2) (Zcv Ze) Zab) Zi Xq) (he:=Xq)))
      (Zg [2,4] [2,4] (Zam [2,4] [2,4] PassesOwn.never rfl (Jc (Zo Dending (hr.mono (by decide)) rfl Xk (Zb (Zk 0) (Zb (Zk 1) (Zb (Zk 3) Zi Za) Za) Za) (he:=Za))) (Yt (i:=5) (hN:=sc.nd) (hi:=rfl) (hx:=Or.inr rfl)) (Zl (Xlr K (i:=4) (Zdy (n:=6) (Zm Zdf) ["roll","table","greatest","end","worths","kind"] ["roll","table","greatest","end","worths","kind"] ["worth"] ⟨rfl,by decide +kernel,by decide +kernel,by decide +kernel,by decide +kernel,by decide +kernel,rfl,by decide +kernel⟩ (Jc (Zs K (Zk 2) (Zr Zci Zal (Zk 3) (Zs K (Zk 5) Ze Zj)) plain_bin)) (fun _ _ _ _ _=>(Zbt 6 (hN:=(by decide +kernel:List.Nodup (["roll","table","greatest","end","worths","kind","worth"]:List Str))))) (fun _ _ _ _ _=>Zfl) (fun _ _ _ _ _=>(Zr Zw Zv (Zk 6 (hv:=Or.inl rfl)) (Zs K (Zk 5 (hv:=Or.inr (Or.inl rfl))) Ze Zj)))) Zcq)))
      (Zl (Zbn (i:=2) (he:=(Zzq K (Xdx K rfl T.sorted rfl T.set (Zk 4) Za) (Zfo (Zcv Ze)) Zll)) (hse:=Xq)))))))
      (Zg [2] [2] (Jo (Xt (r:=Znl K) (Zaw hu) Zax (Xm (r:=Zbi K) Xx Yu rfl T.len PySem.boot_len (Zb (Zs K (Zk 2) (Zcv Ze) Zab) Zi Xq) (he:=Xq)) Ze (Xp _)) (Zl (Xg Ziz)) Xv)
      (Zl (Xg (Zz (Zs K (Zs K (Zk 2) (Zcv Ze) Zab) Ze Zj)))))))⟩
theorem Zmc (F:Fun K "_law_drawn" "_law_drawn" Zea f fd)(T:Txt mg)(D_law_flaw:Def P w K mg base CX0 9 "_law_flaw" ["_law_script","_law_place","_law_most"] (spD K C 3 2 Dl.Zav))(D_law_roll:Def P w K mg base CX0 9 "_law_roll" ["_law_script","_law_place","_law_most","_law_flaw_here"] (spD K C 4 2 Dl.Zat))(D_law_table:Def P w K mg base CX0 9 "_law_table" ["_law_script","_law_place","_law_most"] (spD K C 3 2 Dl.Zaf)):Zan P w K mg base CX0 10 f fd ["_law_script","_law_place","_law_most","_law_kinds"] (spD K C 4 2 Dl.Jn):=by
  refine F.okC Zgn (Γ':=[]) (Δ':=[]) rfl fun cdv A outer s H E hr=>?_
  have sc:=Zgn
  have hu:_+64<cLine:=hr.units
  exact ⟨_,(Zg [4] [4] (Zt (i:=4) sc.nd rfl (Or.inl rfl) (Zo D_law_flaw (hr.mono (by decide)) rfl Xk (Zb (Zk 0) (Zb (Zk 1) (Zb (Zk 3) Zi Za) Za) Za) (he:=Za)))
      (Zl (Xg (Zch (Zh (Zo D_law_roll (hr.mono (by decide)) rfl Xk (Zb (Zk 0) (Zb (Zr Zw Zv (Zk 1) Ze) (Zb (Zk 2) (Zb (Zk 4) Zi Za) Za) Zy) Za) (he:=Za)) (Zh (Zo D_law_table (hr.mono (by decide)) rfl Xk (Zb (Zk 0) (Zb (Zk 1) (Zb (Zk 3) Zi Za) Za) Za) (he:=Za)) Zi Xa) Xa)))))⟩
theorem Zxt (F:Fun K "heights" "heights" Zli f fd)(T:Txt mg)(Dnext_top:Def P w K mg base CX0 10 "next_top" ["roll","table","tops"] (spD K C 3 2 Dl.Zby)):Zan P w K mg base CX0 11 f fd ["roll","table"] (spD K C 2 2 Dl.Yp):=by
  refine F.okC Znh (Γ':=[]) (Δ':=[]) rfl fun cdv A outer s H E hr=>?_
  have sc:=Znh
  have hu:_+64<cLine:=hr.units
  exact ⟨_,(Zg [2] [2] (Zt (i:=2) sc.nd rfl (Or.inl rfl) (Ye (Zh Ze Zi Zf)))
      (Zg [2] [2] (Zrk 100000 PassesOwn.never (Xt Xrn Xfl (Xm (r:=Zbi K) Xx Yu rfl T.len PySem.boot_len (Zb (Zk 2) Zi Za) (he:=Za)) (Xm (r:=Zbi K) Xx Yu rfl T.len PySem.boot_len (Zb (Zk 0) Zi Za) (he:=Za)) (Xp _)) (Zl (Zbn (i:=2) (he:=(Zo Dnext_top (hr.mono (by decide)) rfl Xk (Zb (Zk 0) (Zb (Zk 1) (Zb (Zk 2) Zi Za) Za) Za) (he:=Za))) (hse:=Xa))))
      (Zl (Xg (Zon 2)))))⟩
theorem Zjg (F:Fun K "told_cutting" "told_cutting" Zcd f fd)(T:Txt mg)(Dlast_kind:Def P w K mg base CX0 10 "last_kind" ["roll","table","tops","end"] (spD K C 4 2 Dl.Jx)):Zan P w K mg base CX0 11 f fd ["roll","table","tops","end"] (spD K C 4 2 Dl.Je):=by
  refine F.okC Zdo (Γ':=[]) (Δ':=[]) rfl fun cdv A outer s H E hr=>?_
  have sc:=Zdo
  have hu:_+64<cLine:=hr.units
  exact ⟨_,(Zg [4] [4] (Zt (i:=4) sc.nd rfl (Or.inl rfl) (Ye Zi))
      (Zg [4] [4] (Zrk 100000 PassesOwn.never (Xt Zni Zgq (Zk 3) Ze (Xp _)) (Zbp [3,4,5] [3,4,5] (Zg [4,5] [4,5] (Zt (i:=5) sc.nd rfl (Or.inl rfl) (Zo Dlast_kind (hr.mono (by decide)) rfl Xk (Zb (Zk 0) (Zb (Zk 1) (Zb (Zk 2) (Zb (Zk 3) Zi Za) Za) Za) Za) (he:=Za)))
      (Zl (Jo (Xt Xft Xgq (Zk 5) Ziz (Xp _)) (Zl (Xgw (i:=3) Zyt Xfm sc.nd rfl (Or.inl rfl) Ze)) (Zg [3,4,5] [3,4,5] (Xgw (i:=3) Zyt Xfm sc.nd rfl (Or.inl rfl) (Zs K (Zk 5) Ze Zj))
      (Zl (Zbn (i:=4) (he:=(Zch (Zh (Zz (Zk 3)) (Zh (Zz (Zs K (Zk 5) Ze Zj)) Zi Xq) Za))) (hse:=Zbl)))))))))
      (Zl (Xg (Zla K rfl T.list rfl T.reversed (Zk 4) Za)))))⟩
theorem Xlw (F:Fun K "tails" "tails" Zux f fd)(T:Txt mg)(Dheights:Def P w K mg base CX0 11 "heights" ["roll","table"] (spD K C 2 2 Dl.Yp))(Dturned:Def P w K mg base CX0 7 "turned" ["roll"] (spD K C 1 2 Dl.Zar)):Zan P w K mg base CX0 12 f fd ["roll","table"] (spD K C 2 2 Dl.Zix):=by
 refine F.okC Zyu (Γ':=[]) (Δ':=[]) rfl fun cdv A outer s H E hr=>?_
 have sc:=Zyu
 have hu:_+64<cLine:=hr.units
 exact ⟨_,(Zl (Xg (Zla K rfl T.list rfl T.reversed (Zo Dheights (hr.mono (by decide)) rfl Xk (Zb (Zo Dturned (hr.mono (by decide)) rfl Xk (Zb (Zk 0) Zi Za) (he:=Za)) (Zb (Zk 1) Zi Za) Xa) (he:=Xa)) Xa)))⟩
theorem Xpc (F:Fun K "best" "best" Xhm f fd)(T:Txt mg)(Dheights:Def P w K mg base CX0 11 "heights" ["roll","table"] (spD K C 2 2 Dl.Yp))(Dtold_cutting:Def P w K mg base CX0 11 "told_cutting" ["roll","table","tops","end"] (spD K C 4 2 Dl.Je)):Zan P w K mg base CX0 12 f fd ["roll","table"] (spD K C 2 2 Dl.Zgo):=by
  refine F.okC Xgz (Γ':=[]) (Δ':=[]) rfl fun cdv A outer s H E hr=>?_
  have sc:=Xgz
  have hu:_+64<cLine:=hr.units
  exact ⟨_,(Zg [2] [2] (Zt (i:=2) sc.nd rfl (Or.inl rfl) (Zo Dheights (hr.mono (by decide)) rfl Xk (Zb (Zk 0) (Zb (Zk 1) Zi Za) Za) (he:=Za)))
      (Zl (Xg (Zch (Zh (Zz (Zs K (Zk 2) (Zcv Ze) Zab)) (Zh (Zo Dtold_cutting (hr.mono (by decide)) rfl Xk (Zb (Zk 0) (Zb (Zk 1) (Zb (Zk 2) (Zb (Xm (r:=Zbi K) Xx Yu rfl T.len PySem.boot_len (Zb (Zk 0) Zi Za) (he:=Za)) Zi Xa) Za) Za) Za) (he:=Za)) Zi Xa) Xq)))))⟩
theorem Zkn (F:Fun K "best_counts" "best_counts" Zbk f fd)(T:Txt mg)(Dheights:Def P w K mg base CX0 11 "heights" ["roll","table"] (spD K C 2 2 Dl.Yp))(Dbest_steps:Def P w K mg base CX0 10 "best_steps" ["roll","table","tops","end"] (spD K C 4 2 Dl.Zad)):Zan P w K mg base CX0 12 f fd ["roll","table"] (spD K C 2 2 Dl.Yf):=by
  refine F.okC Zez (Γ':=[]) (Δ':=[]) rfl fun cdv A outer s H E hr=>?_
  have sc:=Zez
  have hu:_+64<cLine:=hr.units
  exact ⟨_,(Zg [2] [2] (Zt (i:=2) sc.nd rfl (Or.inl rfl) (Zo Dheights (hr.mono (by decide)) rfl Xk (Zb (Zk 0) (Zb (Zk 1) Zi Za) Za) (he:=Za)))
      (Zg [2,3] [2,3] (Zt (i:=3) sc.nd rfl (Or.inr rfl) (Ye (Zh Ze Zi Zf)))
      (Zg [2,3] [2,3] (Zam [2,3] [2,3] PassesOwn.never rfl (Zpy rfl T.range (Zb Ze (Zb (Zr Zw Zv (Xm (r:=Zbi K) Xx Yu rfl T.len PySem.boot_len (Zb (Zk 0) Zi Za) (he:=Za)) Ze) Zi Zy) Zf)) (Yt (i:=4) (hN:=sc.nd) (hi:=rfl) (hx:=Or.inl rfl)) (Zbp [2,3,5] [2,3,5] (Zg [2,3,5] [2,3,5] (Zt (i:=5) sc.nd rfl (Or.inl rfl) (Zo Dbest_steps (hr.mono (by decide)) rfl Xk (Zb (Zk 0) (Zb (Zk 1) (Zb (Zk 2) (Zb (Zk 4) Zi Za) Za) Za) Za) (he:=Za)))
      (Zl (Zbn (i:=3) (he:=(Xm (r:=Xgm K) (Zev rfl) Zir rfl T.sum PyProof.Rows.boot_sum (Zb (Zdy (n:=6) (Zm Zbk) ["roll","table","tops","numbers","end","steps"] ["roll","table","tops","numbers","end","steps"] ["step"] ⟨rfl,by decide +kernel,by decide +kernel,by decide +kernel,by decide +kernel,by decide +kernel,rfl,by decide +kernel⟩ (Jc (Zk 5)) (fun _ _ _ _ _=>(Zbt 6 (hN:=(by decide +kernel:List.Nodup (["roll","table","tops","numbers","end","steps","step"]:List Str))))) (fun _ _ _ _ _=>Zfl) (fun _ _ _ _ _=>(Zz (Zs K (Zk 3 (hv:=Or.inr (Or.inl rfl))) (Zs K (Zk 6 (hv:=Or.inl rfl)) Ze Zj) Jh)))) Zi Zcq) (he:=Zcq))) (hse:=Xa))))))
      (Zl (Xg (Zon 3))))))⟩
theorem Znw (F:Fun K "best_count" "best_count" Zdq f fd)(T:Txt mg)(Dbest_counts:Def P w K mg base CX0 12 "best_counts" ["roll","table"] (spD K C 2 2 Dl.Yf)):Zan P w K mg base CX0 13 f fd ["roll","table"] (spD K C 2 2 Dl.Xz):=by
 refine F.okC Zgk (Γ':=[]) (Δ':=[]) rfl fun cdv A outer s H E hr=>?_
 have sc:=Zgk
 have hu:_+64<cLine:=hr.units
 exact ⟨_,(Zl (Xg (Zz (Zs K (Zo Dbest_counts (hr.mono (by decide)) rfl Xk (Zb (Zk 0) (Zb (Zk 1) Zi Za) Za) (he:=Za)) (Zcv Ze) Zab))))⟩
theorem Xmu (F:Fun K "mays" "mays" Xfc f fd)(T:Txt mg)(Dheights:Def P w K mg base CX0 11 "heights" ["roll","table"] (spD K C 2 2 Dl.Yp))(Dtails:Def P w K mg base CX0 12 "tails" ["roll","table"] (spD K C 2 2 Dl.Zix))(Dall_pieces:Def P w K mg base CX0 9 "all_pieces" ["roll","table"] (spD K C 2 2 Dl.Jm))(Dgreatest_with:Def P w K mg base CX0 9 "greatest_with" ["table","tops","rests","piece"] (spD K C 4 2 Dl.Yh)):Zan P w K mg base CX0 13 f fd ["roll","table"] (spD K C 2 2 Dl.Zfa):=by
  refine F.okC Xgb (Γ':=[]) (Δ':=[]) rfl fun cdv A outer s H E hr=>?_
  have sc:=Xgb
  have hu:_+64<cLine:=hr.units
  exact ⟨_,(Zg [2] [2] (Zt (i:=2) sc.nd rfl (Or.inr rfl) (Zo Dheights (hr.mono (by decide)) rfl Xk (Zb (Zk 0) (Zb (Zk 1) Zi Za) Za) (he:=Za)))
      (Zg [2,3] [2,3] (Zt (i:=3) sc.nd rfl (Or.inr rfl) (Zo Dtails (hr.mono (by decide)) rfl Xk (Zb (Zk 0) (Zb (Zk 1) Zi Za) Za) (he:=Za)))
      (Zl (Xg (Zdy (n:=4) (Zm Xfc) ["roll","table","tops","rests"] ["roll","table","tops","rests"] ["piece"] ⟨rfl,by decide +kernel,by decide +kernel,by decide +kernel,by decide +kernel,by decide +kernel,rfl,by decide +kernel⟩ (Jc (Zo Dall_pieces (hr.mono (by decide)) rfl Xk (Zb (Zk 0) (Zb (Zk 1) Zi Za) Za) (he:=Za))) (fun _ _ _ _ _=>(Zbt 4 (hN:=(by decide +kernel:List.Nodup (["roll","table","tops","rests","piece"]:List Str))))) (fun _ _ _ _ _=>Zpl (Xt (r:=Znl K) (Zaw hu) Zax (Zo Dgreatest_with (hr.mono (by decide)) rfl Xk (Zb (Zk 1 (hv:=Or.inr (Or.inl rfl))) (Zb (Zk 2 (hv:=Or.inr (Or.inl rfl))) (Zb (Zk 3 (hv:=Or.inr (Or.inl rfl))) (Zb (Zk 4 (hv:=Or.inl rfl)) Zi Za) Za) Za) Za) (he:=Za)) (Zs K (Zk 2 (hv:=Or.inr (Or.inl rfl))) (Zcv Ze) Zab) (Xp _))) (fun _ _ _ _ _=>(Zz (Zk 4 (hv:=Or.inl rfl)))))))))⟩
theorem Xib (F:Fun K "musts" "musts" Zrf f fd)(T:Txt mg)(Dbest_counts:Def P w K mg base CX0 12 "best_counts" ["roll","table"] (spD K C 2 2 Dl.Yf))(Dmays:Def P w K mg base CX0 13 "mays" ["roll","table"] (spD K C 2 2 Dl.Zfa))(Dturned:Def P w K mg base CX0 7 "turned" ["roll"] (spD K C 1 2 Dl.Zar))(Dend_of:Def P w K mg base CX0 8 "end_of" ["table","piece"] (spD K C 2 2 Dl.Jp)):Zan P w K mg base CX0 14 f fd ["roll","table"] (spD K C 2 2 Dl.Zfs):=by
  refine F.okC Zvi (Γ':=[]) (Δ':=[]) rfl fun cdv A outer s H E hr=>?_
  have sc:=Zvi
  have hu:_+64<cLine:=hr.units
  exact ⟨_,(Zg [2] [2] (Zt (i:=2) sc.nd rfl (Or.inr rfl) (Zo Dbest_counts (hr.mono (by decide)) rfl Xk (Zb (Zk 0) (Zb (Zk 1) Zi Za) Za) (he:=Za)))
      (Zg [2,3] [2,3] (Zt (i:=3) sc.nd rfl (Or.inr rfl) (Zla K rfl T.list rfl T.reversed (Zo Dbest_counts (hr.mono (by decide)) rfl Xk (Zb (Zo Dturned (hr.mono (by decide)) rfl Xk (Zb (Zk 0) Zi Za) (he:=Za)) (Zb (Zk 1) Zi Za) Xa) (he:=Xa)) Xa))
      (Zl (Xg (Zdy (n:=4) (Zm Zrf) ["roll","table","ahead","behind"] ["roll","table","ahead","behind"] ["piece"] ⟨rfl,by decide +kernel,by decide +kernel,by decide +kernel,by decide +kernel,by decide +kernel,rfl,by decide +kernel⟩ (Jc (Zo Dmays (hr.mono (by decide)) rfl Xk (Zb (Zk 0) (Zb (Zk 1) Zi Za) Za) (he:=Za))) (fun _ _ _ _ _=>(Zbt 4 (hN:=(by decide +kernel:List.Nodup (["roll","table","ahead","behind","piece"]:List Str))))) (fun _ _ _ _ _=>Zpl (Xt (r:=Znl K) (Zaw hu) Zax (Zr Zor Zlg (Zs K (Zk 2 (hv:=Or.inr (Or.inl rfl))) (Zs K (Zk 4 (hv:=Or.inl rfl)) Ze Zj) Jh) (Zs K (Zk 3 (hv:=Or.inr (Or.inl rfl))) (Zo Dend_of (hr.mono (by decide)) rfl Xk (Zb (Zk 1 (hv:=Or.inr (Or.inl rfl))) (Zb (Zk 4 (hv:=Or.inl rfl)) Zi Za) Za) (he:=Za)) Zjw)) (Zs K (Zk 2 (hv:=Or.inr (Or.inl rfl))) (Zcv Ze) Zab) (Xp _))) (fun _ _ _ _ _=>(Zz (Zk 4 (hv:=Or.inl rfl)))))))))⟩
theorem Zdw (F:Fun K "_law_parted_right" "_law_parted_right" Jr f fd)(T:Txt mg)(Drunner_up:Def P w K mg base CX0 10 "runner_up" ["roll","table"] (spD K C 2 2 Dl.Yc))(Dcutting_count:Def P w K mg base CX0 10 "cutting_count" ["roll","table"] (spD K C 2 2 Dl.Xi))(Dbest:Def P w K mg base CX0 12 "best" ["roll","table"] (spD K C 2 2 Dl.Zgo))(Dbest_count:Def P w K mg base CX0 13 "best_count" ["roll","table"] (spD K C 2 2 Dl.Xz)):Zan P w K mg base CX0 14 f fd ["_law_roll_here","_law_table_here","_law_at"] (spD K C 3 2 Dl.Xo):=by
  refine F.okC Zbf (Γ':=[]) (Δ':=[]) rfl fun cdv A outer s H E hr=>?_
  have sc:=Zbf
  have hu:_+64<cLine:=hr.units
  exact ⟨_,(Zg [3,4] [3,4] (Xoo (i:=3) (j:=4) rfl sc.nd rfl rfl (Zh (Zzq K (Zk 0) Zll (Zfo (Zk 2))) (Zh (Zzq K (Zk 0) (Zfo (Zk 2)) Zll) Zi Xq) Xq) (Zlc (i:=3) sc.nd rfl (Or.inl rfl) (Zlc (i:=4) sc.nd rfl (Or.inl rfl) Xgg)))
      (Zg [3,4] [3,4] (Jo (Xt Zni Zgq (Zr Zor Zlg (Zo Dcutting_count (hr.mono (by decide)) rfl Xk (Zb (Zk 3) (Zb (Zk 1) Zi Za) Za) (he:=Za)) (Zo Dcutting_count (hr.mono (by decide)) rfl Xk (Zb (Zk 4) (Zb (Zk 1) Zi Za) Za) (he:=Za))) (Zo Dcutting_count (hr.mono (by decide)) rfl Xk (Zb (Zk 0) (Zb (Zk 1) Zi Za) Za) (he:=Za)) (Xp _)) (Zl (Xg Zgx)) Xv)
      (Zg [3,4,5] [3,4,5] (Zt (i:=5) sc.nd rfl (Or.inl rfl) (Zz (Zs K (Zo Dbest (hr.mono (by decide)) rfl Xk (Zb (Zk 0) (Zb (Zk 1) Zi Za) Za) (he:=Za)) Ze Zj)))
      (Zg [3,4,5,6] [3,4,5,6] (Zt (i:=6) sc.nd rfl (Or.inl rfl) (Ye (Zh (Zz (Zs K (Zo Dbest (hr.mono (by decide)) rfl Xk (Zb (Zk 3) (Zb (Zk 1) Zi Za) Za) (he:=Za)) Ze Zj)) (Zh (Zz (Zs K (Zo Dbest (hr.mono (by decide)) rfl Xk (Zb (Zk 4) (Zb (Zk 1) Zi Za) Za) (he:=Za)) Ze Zj)) Zi Xq) Xq)))
      (Zg [3,4,5,6,7] [3,4,5,6,7] (Zt (i:=7) sc.nd rfl (Or.inl rfl) (Zo Drunner_up (hr.mono (by decide)) rfl Xk (Zb (Zk 0) (Zb (Zk 1) Zi Za) Za) (he:=Za)))
      (Zg [3,4,5,6,7] [3,4,5,6,7] (Jo (Xmn (Zzk (Xmn (Xfg (Xt Zvj Zmu (Zk 7) Ziz (Xp _)) (Zup (Xfj (Xt Znx Zgl (Zk 7) (Zk 5) (Xp _)))))) (Zrc (Xt Zni Zgq (Xm (r:=Xgm K) (Zev rfl) Zir rfl T.sum PyProof.Rows.boot_sum (Zb (Zk 6) Zi Za) (he:=Za)) (Zk 5) (Xp _))))) (Zl (Xg Zgx)) Xv)
      (Zg [3,4,5,6,7] [3,4,5,6,7] (Jo (Xt Znx Zgl (Xm (r:=Xgm K) (Zev rfl) Zir rfl T.sum PyProof.Rows.boot_sum (Zb (Zk 6) Zi Za) (he:=Za)) (Zk 5) (Xp _)) (Zl (Xg Zgx)) Xv)
      (Zg [3,4,5,6,7] [3,4,5,6,7] (Jo (Xt Zni Zgq (Zr Zor Zlg (Zo Dbest_count (hr.mono (by decide)) rfl Xk (Zb (Zk 3) (Zb (Zk 1) Zi Za) Za) (he:=Za)) (Zo Dbest_count (hr.mono (by decide)) rfl Xk (Zb (Zk 4) (Zb (Zk 1) Zi Za) Za) (he:=Za))) (Zo Dbest_count (hr.mono (by decide)) rfl Xk (Zb (Zk 0) (Zb (Zk 1) Zi Za) Za) (he:=Za)) (Xp _)) (Zl (Xg Zgx)) Xv)
      (Zg [3,4,5,6,7,8] [3,4,5,6,7,8] (Zt (i:=8) sc.nd rfl (Or.inl rfl) (Ye (Zh (Zo Drunner_up (hr.mono (by decide)) rfl Xk (Zb (Zk 3) (Zb (Zk 1) Zi Za) Za) (he:=Za)) (Zh (Zo Drunner_up (hr.mono (by decide)) rfl Xk (Zb (Zk 4) (Zb (Zk 1) Zi Za) Za) (he:=Za)) Zi Xa) Xa)))
      (Zg [3,4,5,6,7,8] [3,4,5,6,7,8] (Zam [3,4,5,6,7,8] [3,4,5,6,7,8] PassesOwn.never rfl (Zfu rfl T.range (Zb Ze Zi Zf)) (Yt (i:=9) (hN:=sc.nd) (hi:=rfl) (hx:=Or.inl rfl)) (Zl (Jo (Xmn (Xfg (Xt Zvj Zmu (Zs K (Zk 8) (Zk 9) Xu) Ziz (Xp _)) (Zup (Xmn (Zzk (Xt Xft Xgq (Zk 7) Ziz (Xp _)) (Zrc (Xt Znx Zgl (Zk 7) (Zr Zw Zv (Zs K (Zk 8) (Zk 9) Xu) (Zs K (Zk 6) (Zr Zci Zal Ze (Zk 9)) plain_bin)) (Xp _)))))))) (Zl (Xg Zgx)) Xv)))
      (Zl (Xg Zgx))))))))))))⟩
theorem Zdr (F:Fun K "_law_turned_right" "_law_turned_right" Js f fd)(T:Txt mg)(Dturned:Def P w K mg base CX0 7 "turned" ["roll"] (spD K C 1 2 Dl.Zar))(Dcutting_count:Def P w K mg base CX0 10 "cutting_count" ["roll","table"] (spD K C 2 2 Dl.Xi))(Dbest_count:Def P w K mg base CX0 13 "best_count" ["roll","table"] (spD K C 2 2 Dl.Xz))(Drunner_up:Def P w K mg base CX0 10 "runner_up" ["roll","table"] (spD K C 2 2 Dl.Yc))(Dmays:Def P w K mg base CX0 13 "mays" ["roll","table"] (spD K C 2 2 Dl.Zfa))(D_law_from_behind:Def P w K mg base CX0 9 "_law_from_behind" ["_law_pieces","_law_table_here","_law_count"] (spD K C 3 2 Dl.Xe))(Dmusts:Def P w K mg base CX0 14 "musts" ["roll","table"] (spD K C 2 2 Dl.Zfs)):Zan P w K mg base CX0 15 f fd ["_law_roll_here","_law_table_here"] (spD K C 2 2 Dl.Xn):=by
  refine F.okC Zbe (Γ':=[]) (Δ':=[]) rfl fun cdv A outer s H E hr=>?_
  have sc:=Zbe
  have hu:_+64<cLine:=hr.units
  exact ⟨_,(Zg [2] [2] (Zt (i:=2) sc.nd rfl (Or.inl rfl) (Zo Dturned (hr.mono (by decide)) rfl Xk (Zb (Zk 0) Zi Za) (he:=Za)))
      (Zg [2] [2] (Jo (Xt (r:=Xmo K) (Zqz hu) Zss (Zo Dcutting_count (hr.mono (by decide)) rfl Xk (Zb (Zk 2) (Zb (Zk 1) Zi Za) Za) (he:=Za)) (Zo Dcutting_count (hr.mono (by decide)) rfl Xk (Zb (Zk 0) (Zb (Zk 1) Zi Za) Za) (he:=Za)) (Xp _)) (Zl (Xg Zgx)) Xv)
      (Zg [2] [2] (Jo (Xt (r:=Xmo K) (Zqz hu) Zss (Zo Dbest_count (hr.mono (by decide)) rfl Xk (Zb (Zk 2) (Zb (Zk 1) Zi Za) Za) (he:=Za)) (Zo Dbest_count (hr.mono (by decide)) rfl Xk (Zb (Zk 0) (Zb (Zk 1) Zi Za) Za) (he:=Za)) (Xp _)) (Zl (Xg Zgx)) Xv)
      (Zg [2] [2] (Jo (Xt (r:=Xmo K) (Zqz hu) Zss (Zo Drunner_up (hr.mono (by decide)) rfl Xk (Zb (Zk 2) (Zb (Zk 1) Zi Za) Za) (he:=Za)) (Zo Drunner_up (hr.mono (by decide)) rfl Xk (Zb (Zk 0) (Zb (Zk 1) Zi Za) Za) (he:=Za)) (Xp _)) (Zl (Xg Zgx)) Xv)
      (Zg [2,3] [2,3] (Zt (i:=3) sc.nd rfl (Or.inl rfl) (Xm (r:=Zbi K) Xx Yu rfl T.len PySem.boot_len (Zb (Zk 0) Zi Za) (he:=Za)))
      (Zg [2,3] [2,3] (Jo (Xt (r:=Xmo K) (Zqz hu) Zss (Zo Dmays (hr.mono (by decide)) rfl Xk (Zb (Zk 2) (Zb (Zk 1) Zi Za) Za) (he:=Za)) (Zo D_law_from_behind (hr.mono (by decide)) rfl Xk (Zb (Zo Dmays (hr.mono (by decide)) rfl Xk (Zb (Zk 0) (Zb (Zk 1) Zi Za) Za) (he:=Za)) (Zb (Zk 1) (Zb (Zk 3) Zi Za) Za) Xa) (he:=Xa)) (Xp _)) (Zl (Xg Zgx)) Xv)
      (Zl (Xg (Xgl (r:=Znl K) (Zaw hu) Zax (Zo Dmusts (hr.mono (by decide)) rfl Xk (Zb (Zk 2) (Zb (Zk 1) Zi Za) Za) (he:=Za)) (Zo D_law_from_behind (hr.mono (by decide)) rfl Xk (Zb (Zo Dmusts (hr.mono (by decide)) rfl Xk (Zb (Zk 0) (Zb (Zk 1) Zi Za) Za) (he:=Za)) (Zb (Zk 1) (Zb (Zk 3) Zi Za) Za) Xa) (he:=Xa)) (Xp _))))))))))⟩
theorem oklaw (F:Fun K "law" "law" Xmh f fd)(T:Txt mg)(D_law_row:Def P w K mg base CX0 8 "_law_row" ["_law_script","_law_place","_law_sizes"] (spD K C 3 2 Dl.Yb))(D_law_drawn:Def P w K mg base CX0 10 "_law_drawn" ["_law_script","_law_place","_law_most","_law_kinds"] (spD K C 4 2 Dl.Jn))(D_law_parted_right:Def P w K mg base CX0 14 "_law_parted_right" ["_law_roll_here","_law_table_here","_law_at"] (spD K C 3 2 Dl.Xo))(D_law_turned_right:Def P w K mg base CX0 15 "_law_turned_right" ["_law_roll_here","_law_table_here"] (spD K C 2 2 Dl.Xn)):Zan P w K mg base CX0 16 f fd ["_law_script"] (spD K C 1 2 Dl.Xad):=by
  refine F.okC Xog (Γ':=[]) (Δ':=[]) rfl fun cdv A outer s H E hr=>?_
  have sc:=Xog
  have hu:_+64<cLine:=hr.units
  exact ⟨_,(Zg [1] [1] (Zt (i:=1) sc.nd rfl (Or.inl rfl) Ze)
      (Zg [1,2] [1,2] (Zt (i:=2) sc.nd rfl (Or.inl rfl) (Zo D_law_row (hr.mono (by decide)) rfl Xk (Zb (Zk 0) (Zb Ze (Zb (Ye (Zh Ze (Zh Ze Zi Zf) Zf)) Zi Zcr) Zf) Za) (he:=Za)))
      (Zg [1,2] [1,2] (Jo (Xt (r:=Znl K) (Zaw hu) Zax (Zs K (Zk 2) Ze Zj) Ze (Xp _)) (Zl (Zt (i:=1) sc.nd rfl (Or.inl rfl) Ze)) Xv)
      (Zg [1,2,3,4] [1,2,3,4] (Zya rfl (Zo D_law_drawn (hr.mono (by decide)) rfl Xk (Zb (Zk 0) (Zb Ze (Zb (Zk 1) (Zb Ze Zi Zf) Za) Zf) Za) (he:=Za)) (Zlc (i:=3) sc.nd rfl (Or.inl rfl) (Zlc (i:=4) sc.nd rfl (Or.inl rfl) Xgg)))
      (Zg [1,2,3,4] [1,2,3,4] (Jo (Xfj (Zxa (Zo D_law_turned_right (hr.mono (by decide)) rfl Xk (Zb (Zk 3) (Zb (Zk 4) Zi Za) Za) (he:=Za)))) (Zl (Xg Zgx)) Xv)
      (Zl (Xg (Zo D_law_parted_right (hr.mono (by decide)) rfl Xk (Zb (Zk 3) (Zb (Zk 4) (Zb (Zr Zay Ji (Zs K (Zk 2) Ze Zj) (Zr Zw Zv (Xm (r:=Zbi K) Xx Yu rfl T.len PySem.boot_len (Zb (Zk 3) Zi Za) (he:=Za)) Ze)) Zi Zy) Za) Za) (he:=Za)))))))))⟩
end
noncomputable def Xhv (K:Frag):Sp:=fun vs H Q _=>∃(a:Addr) (ns:List Int),vs=[.ref a]∧FzL K H a (ns.map V.int)∧ns.length≤63∧∀H',Q (.bl true) H'
theorem fz_of {K:Frag}{H:Hp}{a:Addr}{xs:List V}(hO:Only H)(h:SqL K H a xs):FzL K H a xs:=by
 rcases h with (h | h) | h
 ·rcases hO a with z | ⟨o,ys,z⟩
  ·rw [h] at z;cases z
  ·rw [h] at z;cases z
 ·exact .inl h
 ·exact .inr h
theorem Xeq (ns:List Int)(h:ns.length≤63):Dl.Xad [.scr ns]=.ok (.bl true):=Dl.Ztv ns h
theorem all_mk {l:PySem.W.OpenLaw}{w:World}{K:Frag}{h:Heap}{mg:Str→Option Value}{fa f1 f2 f3 f4 f5 f6 f7 f8 f9 f10 f11 f12 f13 f14 f15 f16 f17 f18 f19 f20 f21 f22 f23 f24 f25 f26 f27 f28 f29 f30 f31 f32 f33:Addr}(X:K.In h)(G:h.Ns mainGlobals mg)(hfa:mg "law"=some (.ref fa))
  {fd1 fd2 fd3 fd4 fd5 fd6 fd7 fd8 fd9 fd10 fd11 fd12 fd13 fd14 fd15 fd16 fd17 fd18 fd19 fd20 fd21 fd22 fd23 fd24 fd25 fd26 fd27 fd28 fd29 fd30 fd31 fd32 fd33:FuncData}
  (a1:nsIn K mainGlobals "spoilt"=some (some (.ref f1))) (F1:Fun K "spoilt" "spoilt" Zpk f1 fd1)
  (a2:nsIn K mainGlobals "turned"=some (some (.ref f2))) (F2:Fun K "turned" "turned" Zpi f2 fd2)
  (a3:nsIn K mainGlobals "kind_of"=some (some (.ref f3))) (F3:Fun K "kind_of" "kind_of" Zlf f3 fd3)
  (a4:nsIn K mainGlobals "fits"=some (some (.ref f4))) (F4:Fun K "fits" "fits" Xin f4 fd4)
  (a5:nsIn K mainGlobals "all_pieces"=some (some (.ref f5))) (F5:Fun K "all_pieces" "all_pieces" Zdz f5 fd5)
  (a6:nsIn K mainGlobals "end_of"=some (some (.ref f6))) (F6:Fun K "end_of" "end_of" Zol f6 fd6)
  (a7:nsIn K mainGlobals "ending"=some (some (.ref f7))) (F7:Fun K "ending" "ending" Zld f7 fd7)
  (a8:nsIn K mainGlobals "next_top"=some (some (.ref f8))) (F8:Fun K "next_top" "next_top" Zep f8 fd8)
  (a9:nsIn K mainGlobals "heights"=some (some (.ref f9))) (F9:Fun K "heights" "heights" Zli f9 fd9)
  (a10:nsIn K mainGlobals "tails"=some (some (.ref f10))) (F10:Fun K "tails" "tails" Zux f10 fd10)
  (a11:nsIn K mainGlobals "last_kind"=some (some (.ref f11))) (F11:Fun K "last_kind" "last_kind" Zga f11 fd11)
  (a12:nsIn K mainGlobals "told_cutting"=some (some (.ref f12))) (F12:Fun K "told_cutting" "told_cutting" Zcd f12 fd12)
  (a13:nsIn K mainGlobals "best"=some (some (.ref f13))) (F13:Fun K "best" "best" Xhm f13 fd13)
  (a14:nsIn K mainGlobals "cutting_count"=some (some (.ref f14))) (F14:Fun K "cutting_count" "cutting_count" Zaa f14 fd14)
  (a15:nsIn K mainGlobals "best_steps"=some (some (.ref f15))) (F15:Fun K "best_steps" "best_steps" Zdv f15 fd15)
  (a16:nsIn K mainGlobals "best_counts"=some (some (.ref f16))) (F16:Fun K "best_counts" "best_counts" Zbk f16 fd16)
  (a17:nsIn K mainGlobals "best_count"=some (some (.ref f17))) (F17:Fun K "best_count" "best_count" Zdq f17 fd17)
  (a18:nsIn K mainGlobals "greatest_with"=some (some (.ref f18))) (F18:Fun K "greatest_with" "greatest_with" Zbu f18 fd18)
  (a19:nsIn K mainGlobals "mays"=some (some (.ref f19))) (F19:Fun K "mays" "mays" Xfc f19 fd19)
  (a20:nsIn K mainGlobals "musts"=some (some (.ref f20))) (F20:Fun K "musts" "musts" Zrf f20 fd20)
  (a21:nsIn K mainGlobals "runner_up"=some (some (.ref f21))) (F21:Fun K "runner_up" "runner_up" Zdf f21 fd21)
  (a22:nsIn K mainGlobals "_law_cell"=some (some (.ref f22))) (F22:Fun K "_law_cell" "_law_cell" Zfr f22 fd22)
  (a23:nsIn K mainGlobals "_law_mix"=some (some (.ref f23))) (F23:Fun K "_law_mix" "_law_mix" Zif f23 fd23)
  (a24:nsIn K mainGlobals "_law_row"=some (some (.ref f24))) (F24:Fun K "_law_row" "_law_row" Zjc f24 fd24)
  (a25:nsIn K mainGlobals "_law_table"=some (some (.ref f25))) (F25:Fun K "_law_table" "_law_table" Zds f25 fd25)
  (a26:nsIn K mainGlobals "_law_flaw"=some (some (.ref f26))) (F26:Fun K "_law_flaw" "_law_flaw" Zfz f26 fd26)
  (a27:nsIn K mainGlobals "_law_roll"=some (some (.ref f27))) (F27:Fun K "_law_roll" "_law_roll" Zfn f27 fd27)
  (a28:nsIn K mainGlobals "_law_drawn"=some (some (.ref f28))) (F28:Fun K "_law_drawn" "_law_drawn" Zea f28 fd28)
  (a29:nsIn K mainGlobals "_law_spot"=some (some (.ref f29))) (F29:Fun K "_law_spot" "_law_spot" Zfy f29 fd29)
  (a30:nsIn K mainGlobals "_law_from_behind"=some (some (.ref f30))) (F30:Fun K "_law_from_behind" "_law_from_behind" Yi f30 fd30)
  (a31:nsIn K mainGlobals "_law_turned_right"=some (some (.ref f31))) (F31:Fun K "_law_turned_right" "_law_turned_right" Js f31 fd31)
  (a32:nsIn K mainGlobals "_law_parted_right"=some (some (.ref f32))) (F32:Fun K "_law_parted_right" "_law_parted_right" Jr f32 fd32)
  (a33:nsIn K mainGlobals "law"=some (some (.ref f33))) (F33:Fun K "law" "law" Xmh f33 fd33)
  (z1:nsIn K mainGlobals "sum"=some none)
  (z2:nsIn K mainGlobals "len"=some none)
  (z3:nsIn K mainGlobals "list"=some none)
  (z4:nsIn K mainGlobals "reversed"=some none)
  (z5:nsIn K mainGlobals "range"=some none)
  (z6:nsIn K mainGlobals "max"=some none)
  (z7:nsIn K mainGlobals "sorted"=some none)
  (z8:nsIn K mainGlobals "set"=some none)
  (z9:nsIn K mainGlobals "min"=some none)
  : ∃fd:FuncData,(∀(s:Shared) (v:Value),BindsTo s fd ⟨[v],[]⟩ [("_law_script",v)])∧∀base:Heap,K.In base→base.Ns mainGlobals mg→Zan l.prog w K mg base CX0 16 fa fd ["_law_script"] (Xhv K):=by
 have e:=hfa.symm.trans (mg_of X G a33)
 cases e
 have T:Txt mg:=⟨mg_none_of X G z1,mg_none_of X G z2,mg_none_of X G z3,mg_none_of X G z4,mg_none_of X G z5,mg_none_of X G z6,mg_none_of X G z7,mg_none_of X G z8,mg_none_of X G z9⟩
 obtain ⟨oc,od,kV,doc,pm,an,cdv,ct,osl,rfl,lk,hcd⟩:=F33.ex
 refine ⟨fnOf "law" "law" (Zcz Xmh) (Zbc Xmh) (Zm Xmh) .none kV doc pm an cdv ct,fun s v=>.of_eq rfl,fun base _ _=>?_⟩
 have b1:=F1.binds (ps:=["roll","begin","end"]) fun _ _ _ _ _ _=>Zjh (fun _ _ _=>rfl)
 have Dspoilt:Def l.prog w K mg base CX0 7 "spoilt" ["roll","begin","end"] (spD K (fun _=>0) 3 2 Dl.Zdi):=⟨f1,_,mg_of X G a1,F1.kp,b1,Xcm F1 T⟩
 have b2:=F2.binds (ps:=["roll"]) fun _ _ _ _ _ _=>Xri (fun _=>rfl)
 have Dturned:Def l.prog w K mg base CX0 7 "turned" ["roll"] (spD K (fun _=>0) 1 2 Dl.Zar):=⟨f2,_,mg_of X G a2,F2.kp,b2,Xey F2 T⟩
 have b3:=F3.binds (ps:=["table","name"]) fun _ _ _ _ _ _=>Zcp (fun _ _=>rfl)
 have Dkind_of:Def l.prog w K mg base CX0 7 "kind_of" ["table","name"] (spD K (fun _=>0) 2 2 Dl.Zae):=⟨f3,_,mg_of X G a3,F3.kp,b3,Zyc F3 T⟩
 have b22:=F22.binds (ps:=["_law_script","_law_place"]) fun _ _ _ _ _ _=>Zcp (fun _ _=>rfl)
 have D_law_cell:Def l.prog w K mg base CX0 7 "_law_cell" ["_law_script","_law_place"] (spD K (fun _=>0) 2 2 Dl.Ju):=⟨f22,_,mg_of X G a22,F22.kp,b22,Zop F22 T⟩
 have b23:=F23.binds (ps:=["_law_cell_here","_law_k"]) fun _ _ _ _ _ _=>Zcp (fun _ _=>rfl)
 have D_law_mix:Def l.prog w K mg base CX0 7 "_law_mix" ["_law_cell_here","_law_k"] (spD K (fun _=>0) 2 2 Dl.Zas):=⟨f23,_,mg_of X G a23,F23.kp,b23,Zsw F23 T⟩
 have b29:=F29.binds (ps:=["_law_piece","_law_table_here"]) fun _ _ _ _ _ _=>Zcp (fun _ _=>rfl)
 have D_law_spot:Def l.prog w K mg base CX0 7 "_law_spot" ["_law_piece","_law_table_here"] (spD K (fun _=>0) 2 2 Dl.Jv):=⟨f29,_,mg_of X G a29,F29.kp,b29,Zpa F29 T⟩
 have b4:=F4.binds (ps:=["roll","kind","place"]) fun _ _ _ _ _ _=>Zjh (fun _ _ _=>rfl)
 have Dfits:Def l.prog w K mg base CX0 8 "fits" ["roll","kind","place"] (spD K (fun _=>0) 3 2 Dl.Zgf):=⟨f4,_,mg_of X G a4,F4.kp,b4,Xnm F4 T Dspoilt⟩
 have b6:=F6.binds (ps:=["table","piece"]) fun _ _ _ _ _ _=>Zcp (fun _ _=>rfl)
 have Dend_of:Def l.prog w K mg base CX0 8 "end_of" ["table","piece"] (spD K (fun _=>0) 2 2 Dl.Jp):=⟨f6,_,mg_of X G a6,F6.kp,b6,Xer F6 T Dkind_of⟩
 have b24:=F24.binds (ps:=["_law_script","_law_place","_law_sizes"]) fun _ _ _ _ _ _=>Zjh (fun _ _ _=>rfl)
 have D_law_row:Def l.prog w K mg base CX0 8 "_law_row" ["_law_script","_law_place","_law_sizes"] (spD K (fun _=>0) 3 2 Dl.Yb):=⟨f24,_,mg_of X G a24,F24.kp,b24,Ztd F24 T D_law_cell D_law_mix⟩
 have b5:=F5.binds (ps:=["roll","table"]) fun _ _ _ _ _ _=>Zcp (fun _ _=>rfl)
 have Dall_pieces:Def l.prog w K mg base CX0 9 "all_pieces" ["roll","table"] (spD K (fun _=>0) 2 2 Dl.Jm):=⟨f5,_,mg_of X G a5,F5.kp,b5,Znb F5 T Dfits⟩
 have b7:=F7.binds (ps:=["roll","table","end"]) fun _ _ _ _ _ _=>Zjh (fun _ _ _=>rfl)
 have Dending:Def l.prog w K mg base CX0 9 "ending" ["roll","table","end"] (spD K (fun _=>0) 3 2 Dl.Yg):=⟨f7,_,mg_of X G a7,F7.kp,b7,Xdw F7 T Dfits⟩
 have b18:=F18.binds (ps:=["table","tops","rests","piece"]) fun _ _ _ _ _ _=>Zsv (fun _ _ _ _=>rfl)
 have Dgreatest_with:Def l.prog w K mg base CX0 9 "greatest_with" ["table","tops","rests","piece"] (spD K (fun _=>0) 4 2 Dl.Yh):=⟨f18,_,mg_of X G a18,F18.kp,b18,Zja F18 T Dend_of Dkind_of⟩
 have b25:=F25.binds (ps:=["_law_script","_law_place","_law_most"]) fun _ _ _ _ _ _=>Zjh (fun _ _ _=>rfl)
 have D_law_table:Def l.prog w K mg base CX0 9 "_law_table" ["_law_script","_law_place","_law_most"] (spD K (fun _=>0) 3 2 Dl.Zaf):=⟨f25,_,mg_of X G a25,F25.kp,b25,Zlx F25 T D_law_row⟩
 have b26:=F26.binds (ps:=["_law_script","_law_place","_law_most"]) fun _ _ _ _ _ _=>Zjh (fun _ _ _=>rfl)
 have D_law_flaw:Def l.prog w K mg base CX0 9 "_law_flaw" ["_law_script","_law_place","_law_most"] (spD K (fun _=>0) 3 2 Dl.Zav):=⟨f26,_,mg_of X G a26,F26.kp,b26,Zox F26 T D_law_row⟩
 have b27:=F27.binds (ps:=["_law_script","_law_place","_law_most","_law_flaw_here"]) fun _ _ _ _ _ _=>Zsv (fun _ _ _ _=>rfl)
 have D_law_roll:Def l.prog w K mg base CX0 9 "_law_roll" ["_law_script","_law_place","_law_most","_law_flaw_here"] (spD K (fun _=>0) 4 2 Dl.Zat):=⟨f27,_,mg_of X G a27,F27.kp,b27,Zpq F27 T D_law_row⟩
 have b30:=F30.binds (ps:=["_law_pieces","_law_table_here","_law_count"]) fun _ _ _ _ _ _=>Zjh (fun _ _ _=>rfl)
 have D_law_from_behind:Def l.prog w K mg base CX0 9 "_law_from_behind" ["_law_pieces","_law_table_here","_law_count"] (spD K (fun _=>0) 3 2 Dl.Xe):=⟨f30,_,mg_of X G a30,F30.kp,b30,Zfj F30 T D_law_spot Dend_of⟩
 have b8:=F8.binds (ps:=["roll","table","tops"]) fun _ _ _ _ _ _=>Zjh (fun _ _ _=>rfl)
 have Dnext_top:Def l.prog w K mg base CX0 10 "next_top" ["roll","table","tops"] (spD K (fun _=>0) 3 2 Dl.Zby):=⟨f8,_,mg_of X G a8,F8.kp,b8,Zta F8 T Dending⟩
 have b11:=F11.binds (ps:=["roll","table","tops","end"]) fun _ _ _ _ _ _=>Zsv (fun _ _ _ _=>rfl)
 have Dlast_kind:Def l.prog w K mg base CX0 10 "last_kind" ["roll","table","tops","end"] (spD K (fun _=>0) 4 2 Dl.Jx):=⟨f11,_,mg_of X G a11,F11.kp,b11,Zpx F11 T Dending⟩
 have b14:=F14.binds (ps:=["roll","table"]) fun _ _ _ _ _ _=>Zcp (fun _ _=>rfl)
 have Dcutting_count:Def l.prog w K mg base CX0 10 "cutting_count" ["roll","table"] (spD K (fun _=>0) 2 2 Dl.Xi):=⟨f14,_,mg_of X G a14,F14.kp,b14,Zip F14 T Dending⟩
 have b15:=F15.binds (ps:=["roll","table","tops","end"]) fun _ _ _ _ _ _=>Zsv (fun _ _ _ _=>rfl)
 have Dbest_steps:Def l.prog w K mg base CX0 10 "best_steps" ["roll","table","tops","end"] (spD K (fun _=>0) 4 2 Dl.Zad):=⟨f15,_,mg_of X G a15,F15.kp,b15,Zna F15 T Dending⟩
 have b21:=F21.binds (ps:=["roll","table"]) fun _ _ _ _ _ _=>Zcp (fun _ _=>rfl)
 have Drunner_up:Def l.prog w K mg base CX0 10 "runner_up" ["roll","table"] (spD K (fun _=>0) 2 2 Dl.Yc):=⟨f21,_,mg_of X G a21,F21.kp,b21,Zou F21 T Dending⟩
 have b28:=F28.binds (ps:=["_law_script","_law_place","_law_most","_law_kinds"]) fun _ _ _ _ _ _=>Zsv (fun _ _ _ _=>rfl)
 have D_law_drawn:Def l.prog w K mg base CX0 10 "_law_drawn" ["_law_script","_law_place","_law_most","_law_kinds"] (spD K (fun _=>0) 4 2 Dl.Jn):=⟨f28,_,mg_of X G a28,F28.kp,b28,Zmc F28 T D_law_flaw D_law_roll D_law_table⟩
 have b9:=F9.binds (ps:=["roll","table"]) fun _ _ _ _ _ _=>Zcp (fun _ _=>rfl)
 have Dheights:Def l.prog w K mg base CX0 11 "heights" ["roll","table"] (spD K (fun _=>0) 2 2 Dl.Yp):=⟨f9,_,mg_of X G a9,F9.kp,b9,Zxt F9 T Dnext_top⟩
 have b12:=F12.binds (ps:=["roll","table","tops","end"]) fun _ _ _ _ _ _=>Zsv (fun _ _ _ _=>rfl)
 have Dtold_cutting:Def l.prog w K mg base CX0 11 "told_cutting" ["roll","table","tops","end"] (spD K (fun _=>0) 4 2 Dl.Je):=⟨f12,_,mg_of X G a12,F12.kp,b12,Zjg F12 T Dlast_kind⟩
 have b10:=F10.binds (ps:=["roll","table"]) fun _ _ _ _ _ _=>Zcp (fun _ _=>rfl)
 have Dtails:Def l.prog w K mg base CX0 12 "tails" ["roll","table"] (spD K (fun _=>0) 2 2 Dl.Zix):=⟨f10,_,mg_of X G a10,F10.kp,b10,Xlw F10 T Dheights Dturned⟩
 have b13:=F13.binds (ps:=["roll","table"]) fun _ _ _ _ _ _=>Zcp (fun _ _=>rfl)
 have Dbest:Def l.prog w K mg base CX0 12 "best" ["roll","table"] (spD K (fun _=>0) 2 2 Dl.Zgo):=⟨f13,_,mg_of X G a13,F13.kp,b13,Xpc F13 T Dheights Dtold_cutting⟩
 have b16:=F16.binds (ps:=["roll","table"]) fun _ _ _ _ _ _=>Zcp (fun _ _=>rfl)
 have Dbest_counts:Def l.prog w K mg base CX0 12 "best_counts" ["roll","table"] (spD K (fun _=>0) 2 2 Dl.Yf):=⟨f16,_,mg_of X G a16,F16.kp,b16,Zkn F16 T Dheights Dbest_steps⟩
 have b17:=F17.binds (ps:=["roll","table"]) fun _ _ _ _ _ _=>Zcp (fun _ _=>rfl)
 have Dbest_count:Def l.prog w K mg base CX0 13 "best_count" ["roll","table"] (spD K (fun _=>0) 2 2 Dl.Xz):=⟨f17,_,mg_of X G a17,F17.kp,b17,Znw F17 T Dbest_counts⟩
 have b19:=F19.binds (ps:=["roll","table"]) fun _ _ _ _ _ _=>Zcp (fun _ _=>rfl)
 have Dmays:Def l.prog w K mg base CX0 13 "mays" ["roll","table"] (spD K (fun _=>0) 2 2 Dl.Zfa):=⟨f19,_,mg_of X G a19,F19.kp,b19,Xmu F19 T Dheights Dtails Dall_pieces Dgreatest_with⟩
 have b20:=F20.binds (ps:=["roll","table"]) fun _ _ _ _ _ _=>Zcp (fun _ _=>rfl)
 have Dmusts:Def l.prog w K mg base CX0 14 "musts" ["roll","table"] (spD K (fun _=>0) 2 2 Dl.Zfs):=⟨f20,_,mg_of X G a20,F20.kp,b20,Xib F20 T Dbest_counts Dmays Dturned Dend_of⟩
 have b32:=F32.binds (ps:=["_law_roll_here","_law_table_here","_law_at"]) fun _ _ _ _ _ _=>Zjh (fun _ _ _=>rfl)
 have D_law_parted_right:Def l.prog w K mg base CX0 14 "_law_parted_right" ["_law_roll_here","_law_table_here","_law_at"] (spD K (fun _=>0) 3 2 Dl.Xo):=⟨f32,_,mg_of X G a32,F32.kp,b32,Zdw F32 T Drunner_up Dcutting_count Dbest Dbest_count⟩
 have b31:=F31.binds (ps:=["_law_roll_here","_law_table_here"]) fun _ _ _ _ _ _=>Zcp (fun _ _=>rfl)
 have D_law_turned_right:Def l.prog w K mg base CX0 15 "_law_turned_right" ["_law_roll_here","_law_table_here"] (spD K (fun _=>0) 2 2 Dl.Xn):=⟨f31,_,mg_of X G a31,F31.kp,b31,Zdr F31 T Dturned Dcutting_count Dbest_count Drunner_up Dmays D_law_from_behind Dmusts⟩
 exact (oklaw (C:=fun _=>0) F33 T D_law_row D_law_drawn D_law_parted_right D_law_turned_right).imp fun vs H Q E h=>by
  obtain ⟨a,ns,rfl,hz,hl,q⟩:=h
  refine ⟨[.scr ns],[],rfl,⟨.ref a,[],[],[],rfl,⟨a,rfl,hz,rfl⟩,⟨rfl,rfl⟩,rfl⟩,?_⟩
  rw [Xeq ns hl]
  rintro v H' _ ⟨B,r,_⟩
  obtain ⟨rfl,_⟩:=r
  exact q H'
theorem walk {l:PySem.W.OpenLaw}{q:Program}{loose:List Str}{XP:(Str→Option Value)→Heap→Prop}{YP:World→Heap→Prop}{d:DefRec}{K:Params→Frag}(hn:l.most=some 63)(hdf:d.params.defaults=[])
    (hY:∀(w:World) (h:Heap),YP w h→(K w.params).In h)
    (F:∀(w:World) (mg:Str→Option Value) (fa:Addr) (h:Heap),(K w.params).In h→h.Ns mainGlobals mg→mg d.name=some (.ref fa)→
      ∃fd:FuncData,(∀(s:Shared) (u:Value),BindsTo s fd ⟨[u],[]⟩ [("_law_script",u)])∧∀base:Heap,(K w.params).In base→base.Ns mainGlobals mg→Zan l.prog w (K w.params) mg base CX0 16 fa fd ["_law_script"] (Xhv (K w.params))) :
    PySem.W.WalkO q loose XP YP l.row.toRowW d [] (fun f vs=>PySem.call f vs):=
  L2.Xih (n:=63) (k:=16) (x:="_law_script") (CX:=fun _=>CX0) (sp:=fun w=>Xhv (K w.params)) hn (by decide) hdf ⟨rfl,by decide,by decide,rfl⟩ hY F (fun _ H a ns hl hO hS=>⟨a,ns,rfl,fz_of hO hS,hl,fun _=>rfl⟩) fun _ _ _ _ _ z=>z
end K38
open PySem PySem.W PyProof.Rows
set_option maxRecDepth 100000 in
set_option maxHeartbeats 0 in
theorem PySem.Challenge.cw_selvage_k38_whole_seen_from_behind_holds : PySem.Challenge.rw_selvage_k38_whole_seen_from_behind.Holds := by
 w_on;o_law;z_head;(case hw=>w_witness2)
 k_fill
 refine L2.Xas (fun _=>by kernel_rfl) (K38.walk (l:=PySem.Challenge.rw_selvage_k38_whole_seen_from_behind) rfl rfl (fun w h Y=>Y) ?F)
 case F =>
  intro w mg fa h KX G hmg
  refine' K38.all_mk KX G hmg ?a1 (L2.Xy ?l1 ?c1 ?k1) ?a2 (L2.Xy ?l2 ?c2 ?k2) ?a3 (L2.Xy ?l3 ?c3 ?k3) ?a4 (L2.Xy ?l4 ?c4 ?k4) ?a5 (L2.Xy ?l5 ?c5 ?k5) ?a6 (L2.Xy ?l6 ?c6 ?k6) ?a7 (L2.Xy ?l7 ?c7 ?k7) ?a8 (L2.Xy ?l8 ?c8 ?k8) ?a9 (L2.Xy ?l9 ?c9 ?k9) ?a10 (L2.Xy ?l10 ?c10 ?k10) ?a11 (L2.Xy ?l11 ?c11 ?k11) ?a12 (L2.Xy ?l12 ?c12 ?k12) ?a13 (L2.Xy ?l13 ?c13 ?k13) ?a14 (L2.Xy ?l14 ?c14 ?k14) ?a15 (L2.Xy ?l15 ?c15 ?k15) ?a16 (L2.Xy ?l16 ?c16 ?k16) ?a17 (L2.Xy ?l17 ?c17 ?k17) ?a18 (L2.Xy ?l18 ?c18 ?k18) ?a19 (L2.Xy ?l19 ?c19 ?k19) ?a20 (L2.Xy ?l20 ?c20 ?k20) ?a21 (L2.Xy ?l21 ?c21 ?k21) ?a22 (L2.Xy ?l22 ?c22 ?k22) ?a23 (L2.Xy ?l23 ?c23 ?k23) ?a24 (L2.Xy ?l24 ?c24 ?k24) ?a25 (L2.Xy ?l25 ?c25 ?k25) ?a26 (L2.Xy ?l26 ?c26 ?k26) ?a27 (L2.Xy ?l27 ?c27 ?k27) ?a28 (L2.Xy ?l28 ?c28 ?k28) ?a29 (L2.Xy ?l29 ?c29 ?k29) ?a30 (L2.Xy ?l30 ?c30 ?k30) ?a31 (L2.Xy ?l31 ?c31 ?k31) ?a32 (L2.Xy ?l32 ?c32 ?k32) ?a33 (L2.Xy ?l33 ?c33 ?k33) ?z1 ?z2 ?z3 ?z4 ?z5 ?z6 ?z7 ?z8 ?z9
  case a1|l1|c1|k1|a2|l2|c2|k2|a3|l3|c3|k3|a4|l4|c4|k4|a5|l5|c5|k5|a6|l6|c6|k6|a7|l7|c7|k7|a8|l8|c8|k8|a9|l9|c9|k9|a10|l10|c10|k10|a11|l11|c11|k11|a12|l12|c12|k12|a13|l13|c13|k13|a14|l14|c14|k14|a15|l15|c15|k15|a16|l16|c16|k16|a17|l17|c17|k17|a18|l18|c18|k18|a19|l19|c19|k19|a20|l20|c20|k20|a21|l21|c21|k21|a22|l22|c22|k22|a23|l23|c23|k23|a24|l24|c24|k24|a25|l25|c25|k25|a26|l26|c26|k26|a27|l27|c27|k27|a28|l28|c28|k28|a29|l29|c29|k29|a30|l30|c30|k30|a31|l31|c31|k31|a32|l32|c32|k32|a33|l33|c33|k33|z1|z2|z3|z4|z5|z6|z7|z8|z9=>k_is
