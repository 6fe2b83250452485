import PyProof.Rows.All
import Wide.All
import OpenK.AllK
import Wide.FinOn
import Lean
import PyProof.EqAt
import PyProof.EqKinds
import PyProof.TupleCall
import PySem.Challenge.RW_selvage_k18_whole_pieces_seen_otherwise
set_option Elab.async false
set_option linter.all false
set_option maxRecDepth 100000
set_option genSizeOfSpec false
set_option genInjectivity false
open PySem.W (Frag clsIn codeHdIn codeIn exmOne findIn fnOf hideAll instObj isFn kat_no kat_yes keepIn kia_one kitOne lookIn methodObj mg_none_of mg_of nsIn specialIn subIn typeIn)
open List (any_cons append_assoc append_nil cons_append drop_eq_getElem_cons drop_eq_nil_of_le find?_cons flatten_append flatten_cons getElem?_append_left getElem?_append_right getElem?_drop getElem?_eq_getElem getElem?_map getElem?_set_ne getElem?_set_self getElem?_take getElem_mem length_append length_cons length_drop length_map length_set length_take lookup_cons map_append map_congr_left map_cons map_drop map_id map_map map_nil map_take mem_append mem_append_left mem_append_right mem_cons_of_mem mem_cons_self mem_iff_getElem mem_of_getElem? mem_of_mem_drop mem_of_mem_take nil_append nodup_nil pairwise_singleton perm_append_comm replicate_succ reverse_cons set_append_right size_toArray sum_append take_append_drop take_of_length_le take_zero zip_cons_cons)
open Nat (add_assoc le_add_right le_of_eq le_of_lt le_refl le_succ le_trans lt_irrefl lt_of_lt_of_le mul_le_mul ne_of_lt sub_self zero_add zero_le)
open Int (emod_lt_of_pos emod_nonneg mul_nonneg toNat_lt toNat_natCast toNat_of_nonneg)
open Array (getElem?_toList length_toList toList_append toList_push toList_reverse)
open PySem.Heap (get?_push_of_some get?_push_size lt_size)
def PySem.W.Fast.tw5778733824612776379:=0
def PySem.W.Fast.tw7933500151773804192:=0
def PySem.W.Fast.tw8398393425268886129:=0
def PySem.W.Fast.tw7133564442207864396:=0
def PySem.W.Fast.tw86069735905782669:=0
def PySem.W.Fast.tw1407846055727989050:=0
def PySem.W.Fast.tw10335964729768001182:=0
def PySem.W.Fast.tw16939474220904048989:=0
def PySem.W.Fast.tw13449757891381292654:=0
def PySem.W.Fast.tw16219380499880695363:=0
def PySem.W.Fast.tw2532427161991426395:=0
def PySem.W.Fast.tw14890682486356507246:=0
theorem aT0 (h:True:=by first | exact .inl rfl | exact .inr rfl | assumption):True:=True.intro
theorem aT3 (h:True:=by first | exact Or.inl rfl | exact Or.inr (Or.inl rfl) | exact Or.inr (Or.inr rfl)):True:=True.intro
namespace L2
open PySem PySem.Spec PyProof.Rows
noncomputable abbrev Key:=Sum Int Str
noncomputable def keyIs:Key→Value→Bool
 | .inl k,v=>Value.isInt k v
 | .inr x,v=>Value.isStrOf x v
noncomputable def keyH (w:World):Key→Int
 | .inl k=>hashInt k
 | .inr x=>hashStr w x
theorem keyIs_shape:∀{k:Key} {v:Value},keyIs k v=true→(∃i t,k=Sum.inl i∧v=Value.int i t)∨(∃x t,k=Sum.inr x∧v=Value.str x t)
 | .inl i,v,h=>by
  obtain ⟨t,e⟩:=Value.isInt_shape (k:=i) (v:=v) h
  exact .inl ⟨i,t,rfl,e⟩
 | .inr x,v,h=>by
  obtain ⟨t,e⟩:=Value.isStrOf_shape (x:=x) (v:=v) h
  exact .inr ⟨x,t,rfl,e⟩
theorem keyIs_int (i:Int)(t:Tok):keyIs (.inl i) (.int i t)=true:=by simp [keyIs,Value.isInt]
theorem keyIs_str (x:Str)(t:Tok):keyIs (.inr x) (.str x t)=true:=by simp [keyIs,Value.isStrOf]
theorem key_ll (a b:Int):decide ((Sum.inl a:Key)=Sum.inl b)=(a==b):=by
 by_cases e:a=b
 ·subst e;simp
 ·have h:¬(Sum.inl a:Key)=Sum.inl b:=fun q=>e (Sum.inl.inj q)
  rw [decide_eq_false h]
  exact (beq_eq_false_iff_ne.mpr e).symm
theorem key_rr (a b:Str):decide ((Sum.inr a:Key)=Sum.inr b)=decide (a=b):=by
 by_cases e:a=b
 ·subst e;simp
 ·have h:¬(Sum.inr a:Key)=Sum.inr b:=fun q=>e (Sum.inr.inj q)
  rw [decide_eq_false h,decide_eq_false e]
theorem key_lr (a:Int)(b:Str):decide ((Sum.inl a:Key)=Sum.inr b)=false:=decide_eq_false (fun q=>nomatch q)
theorem key_rl (a:Str)(b:Int):decide ((Sum.inr a:Key)=Sum.inl b)=false:=decide_eq_false (fun q=>nomatch q)
noncomputable def mixKind (prog:Program)(w:World):PySem.KeyKind prog w Key where
 is:=keyIs
 hash:=keyH w
 inj:=fun v a b ha hb=>by
  rcases keyIs_shape ha with ⟨i,t,rfl,rfl⟩ | ⟨x,t,rfl,rfl⟩
  ·rcases keyIs_shape hb with ⟨j,u,rfl,e⟩ | ⟨y,u,rfl,e⟩
   ·injection e with e1 _;rw [e1]
   ·exact nomatch e
  ·rcases keyIs_shape hb with ⟨j,u,rfl,e⟩ | ⟨y,u,rfl,e⟩
   ·exact nomatch e
   ·injection e with e1 _;rw [e1]
 byValue:=fun k v h=>by
  rcases keyIs_shape h with ⟨i,t,rfl,rfl⟩ | ⟨x,t,rfl,rfl⟩<;>rfl
 pyHash:=fun hv h=>by
  rcases keyIs_shape hv with ⟨i,t,rfl,rfl⟩ | ⟨x,t,rfl,rfl⟩
  ·exact wpAny_pyHash_int h
  ·exact wpAny_pyHash_str h
 eqBool:=fun hu hv h=>by
  rcases keyIs_shape hu with ⟨i,t,rfl,rfl⟩ | ⟨x,t,rfl,rfl⟩
  ·rcases keyIs_shape hv with ⟨j,u,rfl,rfl⟩ | ⟨y,u,rfl,rfl⟩
   ·rw [key_ll] at h;exact wpAny_eqBool_int h
   ·rw [key_lr] at h;exact SeqAt.EqAt.int_str i t y u _ _ _ _ h
  ·rcases keyIs_shape hv with ⟨j,u,rfl,rfl⟩ | ⟨y,u,rfl,rfl⟩
   ·rw [key_rl] at h;exact SeqAt.EqAt.str_int x t j u _ _ _ _ h
   ·rw [key_rr] at h;exact wpAny_eqBool_str h
 «strs»:=fun k x t v h=>by
  rcases keyIs_shape h with ⟨i,u,rfl,e⟩ | ⟨y,u,rfl,e⟩
  ·exact nomatch e
  ·injection e with e1 _
   subst e1
   cases v<;>rfl
theorem mixKind_int (prog:Program)(w:World)(i:Int)(t:Tok):(mixKind prog w).is (.inl i) (.int i t)=true:=keyIs_int i t
theorem mixKind_str (prog:Program)(w:World)(x:Str)(t:Tok):(mixKind prog w).is (.inr x) (.str x t)=true:=keyIs_str x t
set_option genInjectivity true in
inductive V where
 | non | bl (b:Bool) | int (i:Int) | str (x:Str) | byt (b:Array UInt8) | flt (b:UInt64) | ref (a:Addr) | ty (n:String)
 deriving DecidableEq
noncomputable def RelV:V→Value→Prop
 | .non,u=>u=Value.none
 | .bl b,u=>u=Value.bool b
 | .int i,u=>∃t,u=Value.int i t
 | .str x,u=>∃t,u=Value.str x t
 | .byt b,u=>∃t,u=Value.bytes b t
 | .flt b,u=>∃t,u=Value.float b t
 | .ref a,u=>u=Value.ref a
 | .ty n,u=>u=Value.type n
noncomputable abbrev Vals:List V→List Value→Prop:=Paired RelV
theorem Vals.length {xs:List V}{us:List Value}(r:Vals xs us):xs.length=us.length:=Paired.length r
theorem Vals.get:∀{xs:List V} {us:List Value} {i:Nat} {x:V},Vals xs us→xs[i]?=some x→∃u,us[i]?=some u∧RelV x u
 | _,_,_,_,.nil,e=>by simp at e
 | _,_,0,_,.cons r _,e=>by simp at e;subst e;exact ⟨_,rfl,r⟩
 | _,_,i+1,x,.cons _ t,e=>by
  obtain ⟨u,h1,h2⟩:=Vals.get (i:=i) (x:=x) t (by simpa using e)
  exact ⟨u,by simpa using h1,h2⟩
theorem Vals.set {x:V}{u:Value}(r:RelV x u):∀{xs:List V} {us:List Value} (i:Nat),Vals xs us→Vals (xs.set i x) (us.set i u)
 | _,_,_,.nil=>.nil
 | _,_,0,.cons _ t=>.cons r t
 | _,_,i+1,.cons q t=>.cons q (Vals.set r i t)
theorem Vals.append:∀{xs ys:List V} {us ws:List Value},Vals xs us→Vals ys ws→Vals (xs++ys) (us++ws)
 | _,_,_,_,.nil,s=>s
 | _,_,_,_,.cons r t,s=>.cons r (Vals.append t s)
theorem Vals.take:∀{xs:List V} {us:List Value} (n:Nat),Vals xs us→Vals (xs.take n) (us.take n)
 | _,_,0,_=>.nil
 | _,_,_+1,.nil=>.nil
 | _,_,n+1,.cons r t=>.cons r (Vals.take n t)
theorem Vals.drop:∀{xs:List V} {us:List Value} (n:Nat),Vals xs us→Vals (xs.drop n) (us.drop n)
 | _,_,0,r=>r
 | _,_,_+1,.nil=>.nil
 | _,_,n+1,.cons _ t=>Vals.drop n t
noncomputable def RelO:Option V→Option Value→Prop
 | some v,some u=>RelV v u
 | none,none=>True
 | _,_=>False
def KV {κ:Type}:List (κ×V)→List (κ×Value)→Prop:=Paired fun (p:κ×V) (q:κ×Value)=>p.1=q.1∧RelV p.2 q.2
noncomputable def kV:Key→V
 | .inl i=>.int i
 | .inr x=>.str x
inductive HO where
 | lst (xs:List V)
 | tup (xs:List V)
 | dK (kvs:List (Key×V)) | dT (kvs:List (List Key×V))
 | set (S:Int→Bool) (n:Nat)
 | ins (C dx:Addr) (fs:List (Str×V))
 | own (x:Addr)
 | xd (fs:List (Str×V))
 | met (f x:Addr)
 | rng (lo hi:Int)
 | frz (o:Obj) (u:HO)
 | tbl (pos:Pos) (qual:Str)
 | ext (φ:Heap→Prop)
noncomputable abbrev Hp:=Addr→Option HO
noncomputable def upd (H:Hp)(a:Addr)(o:HO):Hp:=fun b=>if b=a then some o else H b
theorem upd_same {H:Hp}{a:Addr}{o:HO}:upd H a o a=some o:=by unfold upd;rw [if_pos rfl]
theorem upd_ne {H:Hp}{a b:Addr}{o:HO}(h:b≠a):upd H a o b=H b:=by unfold upd;rw [if_neg h]
theorem ne_of {H:Hp}{a b:Addr}{o u:HO}(h:H a=some o)(h':H b=some u)(d:o≠u):a≠b:=by
 intro e;subst e;rw [h] at h';exact d (Option.some.inj h')
theorem ne_of_none {H:Hp}{a b:Addr}{o:HO}(h:H a=some o)(h':H b=none):a≠b:=by
 intro e;subst e;rw [h] at h';cases h'
section
variable (P:Program)(w:World)
noncomputable def ObjOk (H:Hp)(h:Heap)(a:Addr):HO→Prop
 | .lst xs=>xs.length≤sizeLine∧∃(its:List Value) (n:Nat),Vals xs its∧h.get? a=some {cls:=.type "list",data:=.seq its.toArray n}
 | .tup xs=>xs.length≤sizeLine∧∃its:List Value,Vals xs its∧IsTup h a its.toArray
 | .dK kvs=>kvs.length≤sizeLine∧(a==sysModules)=false∧∃vs,KV kvs vs∧h.DictOf (mixKind P w) a vs
 | .dT kvs=>kvs.length≤sizeLine∧(a==sysModules)=false∧∃xs:List (List Key×Addr×Value),
   Paired (fun (p:List Key×V) (q:List Key×Addr×Value)=>p.1=q.1∧H q.2.1=some (.tup (p.1.map kV))∧RelV p.2 q.2.2) kvs xs∧
   ∃o es ep,h.get? a=some o∧o.ExactDict∧o.data=.dict es ep∧es.toList=xs.map (entryOfKey (tupleKind (mixKind P w)))∧(xs.map (·.1)).Nodup
 | .set S n=>h.SetOf (intKind P w) a S n
 | .ins C dx fs=>H dx=some (.own a)∧fs.length≤1000∧dx≠a∧h.get? a=some (instObj C dx)∧
   ∃mA,h.Ns1 dx mA∧(∀f,RelO (fs.lookup f) (mA f))∧PySem.Within mA (fs.map (·.1))
 | .own _=>∃o,h.get? a=some o
 | .xd fs=>∃mA,h.Ns1 a mA∧∀f,RelO (fs.lookup f) (mA f)
 | .rng lo hi=>∃t u v,h.get? a=some {cls:=.type "range",data:=.fields #[.int lo t,.int hi u,.int 1 v]}
 | .frz o u=>h.get? a=some o∧ObjOk H h a u
 | .tbl pos qual=>∃ps,h.get? a=some {cls:=.none,data:=.fields ps}∧TriplesOk ps.toList∧∀v,codeAmong pos ps.toList=some v→∃c o vs t,v=.ref c∧H c=some (.frz o (.own 0))∧o.data=.fields vs∧vs[1]?=some (.str qual t)
 | .met f x=>h.get? a=some (methodObj (.ref f) (.ref x))
 | .ext φ=>φ h∧(∃o,h.get? a=some o)∧∀h1 h2:Heap,φ h1→(∀o,h1.get? a=some o→h2.get? a=some o)→φ h2
def HOk (H:Hp)(h:Heap):Prop:=∀a o,H a=some o→ObjOk P w H h a o
end
section
variable {P:Program}{w:World}{H H':Hp}{h h':Heap}{a:Addr}{o:HO}
theorem ObjOk.lt (x:ObjOk P w H h a o):a<h.objs.size:=by
 cases o with
 | lst xs=>obtain ⟨_,_,_,_,e⟩:=x;exact lt_size e
 | tup xs=>obtain ⟨_,_,_,p⟩:=x;exact p.lt
 | dK kvs=>obtain ⟨_,_,_,_,o,_,_,e,_⟩:=x;exact lt_size e
 | dT kvs=>obtain ⟨_,_,_,_,o,_,_,e,_⟩:=x;exact lt_size e
 | set S n=>obtain ⟨o,_,_,_,e,_⟩:=x;exact lt_size e
 | ins C dx fs=>obtain ⟨_,_,_,e,_⟩:=x;exact lt_size e
 | own y=>obtain ⟨_,e⟩:=x;exact lt_size e
 | xd fs=>obtain ⟨_,⟨_,_,_,e,_⟩,_⟩:=x;exact lt_size e
 | rng lo hi=>obtain ⟨_,_,_,e⟩:=x;exact lt_size e
 | frz ob u=>obtain ⟨e,_⟩:=x;exact lt_size e
 | tbl pos qual=>obtain ⟨_,e,_⟩:=x;exact lt_size e
 | met f y=>exact lt_size (show h.get? a=some _ from x)
 | ext φ=>obtain ⟨_,⟨_,e⟩,_⟩:=x;exact lt_size e
theorem Paired.mapP {α β:Type}{F G:α→β→Prop}:∀{l₁:List α} {l₂:List β},Paired F l₁ l₂→(∀a b,F a b→G a b)→Paired G l₁ l₂
 | _,_,.nil,_=>.nil
 | _,_,.cons r t,f=>.cons (f _ _ r) (Paired.mapP t f)
theorem ObjOk.stay (x:ObjOk P w H h a o)(k:∀b u,(b=a∨H b=some (.own a))→h.get? b=some u→h'.get? b=some u)
  (ho:∀b,H b=some (.own a)→H' b=some (.own a)) (ht:∀b xs,H b=some (.tup xs)→H' b=some (.tup xs)) (hf:∀b o u,H b=some (.frz o u)→H' b=some (.frz o u)):ObjOk P w H' h' a o:=by
 induction o with
 | lst xs=>obtain ⟨z,its,n,r,e⟩:=x;exact ⟨z,its,n,r,k _ _ (.inl rfl) e⟩
 | tup xs=>obtain ⟨z,its,r,ob,e,c⟩:=x;exact ⟨z,its,r,ob,k _ _ (.inl rfl) e,c⟩
 | dK kvs=>obtain ⟨z,y,vs,r,ob,es,ep,e,c⟩:=x;exact ⟨z,y,vs,r,ob,es,ep,k _ _ (.inl rfl) e,c⟩
 | dT kvs =>
  obtain ⟨z,y,xs,r,ob,es,ep,e,c⟩:=x
  exact ⟨z,y,xs,Paired.mapP r fun p q z=>⟨z.1,ht _ _ z.2.1,z.2.2⟩,ob,es,ep,k _ _ (.inl rfl) e,c⟩
 | set S n=>obtain ⟨ob,es,ep,t,e,c⟩:=x;exact ⟨ob,es,ep,t,k _ _ (.inl rfl) e,c⟩
 | ins C dx fs =>
  obtain ⟨d,z,ne,e,mA,⟨od,es,ep,e2,c⟩,r⟩:=x
  exact ⟨ho _ d,z,ne,k _ _ (.inl rfl) e,mA,⟨od,es,ep,k _ _ (.inr d) e2,c⟩,r⟩
 | own y=>obtain ⟨ob,e⟩:=x;exact ⟨ob,k _ _ (.inl rfl) e⟩
 | xd fs=>obtain ⟨mA,⟨od,es,ep,e,c⟩,r⟩:=x;exact ⟨mA,⟨od,es,ep,k _ _ (.inl rfl) e,c⟩,r⟩
 | rng lo hi=>obtain ⟨t,u,v,e⟩:=x;exact ⟨t,u,v,k _ _ (.inl rfl) e⟩
 | frz ob u ih=>obtain ⟨e,q⟩:=x;exact ⟨k _ _ (.inl rfl) e,ih q⟩
 | tbl pos qual =>
  obtain ⟨ps,e,tr,hc⟩:=x
  refine ⟨ps,k a _ (.inl rfl) e,tr,fun v hv=>?_⟩
  obtain ⟨c,o,vs,t,e1,e2,e3⟩:=hc v hv
  exact ⟨c,o,vs,t,e1,hf _ _ _ e2,e3⟩
 | met f y =>
  have e:h.get? a=some (methodObj (.ref f) (.ref y)):=x
  show h'.get? a=some (methodObj (.ref f) (.ref y))
  exact k a _ (.inl rfl) e
 | ext φ=>obtain ⟨p,⟨o,e⟩,st⟩:=x;exact ⟨st _ _ p fun o q=>k _ _ (.inl rfl) q,⟨o,k _ _ (.inl rfl) e⟩,st⟩
theorem HOk.lt (x:HOk P w H h)(e:H a=some o):a<h.objs.size:=(x a o e).lt
theorem HOk.fresh (x:HOk P w H h)(e:h.objs.size≤a):H a=none:=by
 cases q:H a with
 | none=>rfl
 | some u=>exact absurd (lt_of_lt_of_le (x.lt q) e) (lt_irrefl _)
theorem HOk.kept (x:HOk P w H h)(k:∀b u,h.get? b=some u→h'.get? b=some u):HOk P w H h':=fun a o e =>
 (x a o e).stay (fun b u _ q=>k b u q) (fun _ q=>q) (fun _ _ q=>q) fun _ _ _ q=>q
theorem HOk.laid (x:HOk P w H h)(k:∀b u,h.get? b=some u→h'.get? b=some u)(hp:h.objs.size≤a)(new:ObjOk P w (upd H a o) h' a o):HOk P w (upd H a o) h':=fun b u e=>by
 have hn:=x.fresh hp
 by_cases hb:b=a
 ·subst hb;rw [upd_same] at e;cases e;exact new
 ·rw [upd_ne hb] at e
  exact (x b u e).stay (fun c v _ q=>k c v q) (fun c q=>by rw [upd_ne (ne_of_none q hn)];exact q) (fun c xs q=>by rw [upd_ne (ne_of_none q hn)];exact q) fun c ob u q=>by rw [upd_ne (ne_of_none q hn)];exact q
end
def Rd (H:Hp)(a:Addr)(u:HO):Prop:=H a=some u∨∃o,H a=some (.frz o u)
theorem Rd.ok {P:Program}{w:World}{H:Hp}{h:Heap}{a:Addr}{u:HO}(r:Rd H a u)(x:HOk P w H h):ObjOk P w H h a u:=by
 rcases r with r | ⟨o,r⟩
 ·exact x a u r
 ·obtain ⟨_,q⟩:=x a _ r
  exact q
noncomputable def Mut:Option HO→Prop
 | some (.lst _)=>True
 | some (.dK _)=>True
 | some (.dT _)=>True
 | some (.set _ _)=>True
 | some (.ins _ _ _)=>True
 | some (.ext _)=>True
 | _=>False
section
variable {P:Program}{w:World}{H:Hp}{h h':Heap}{x e:Addr}{o':HO}
theorem HOk.write (ok:HOk P w H h)(mu:Mut (H x))(he:e=x∨H e=some (.own x))(k:∀b u,b≠e→h.get? b=some u→h'.get? b=some u)(heo:∃u,h'.get? e=some u)
  (new:ObjOk P w (upd H x o') h' x o'):HOk P w (upd H x o') h':=fun b u q=>by
 have nown:∀c y,H c=some (.own y)→c≠x:=fun c y r z=>by subst z;rw [r] at mu;exact mu
 have ntup:∀c xs,H c=some (.tup xs)→c≠x:=fun c xs r z=>by subst z;rw [r] at mu;exact mu
 have nfrz:∀c ob u,H c=some (.frz ob u)→c≠x:=fun c ob u r z=>by subst z;rw [r] at mu;exact mu
 by_cases hb:b=x
 ·subst hb;rw [upd_same] at q;cases q;exact new
 ·rw [upd_ne hb] at q
  by_cases hbe:b=e
  ·have q':H b=some (.own x):=by
    rcases he with z | z
    ·exact absurd (hbe.trans z) hb
    ·rw [hbe];exact z
   rw [q] at q';cases q'
   obtain ⟨v,hv⟩:=heo
   exact ⟨v,by rw [hbe];exact hv⟩
  ·refine (ok b u q).stay (fun c v hc r=>k c v ?_ r) (fun c r=>by rw [upd_ne (nown c b r)];exact r) (fun c xs r=>by rw [upd_ne (ntup c xs r)];exact r) fun c ob u r=>by rw [upd_ne (nfrz c ob u r)];exact r
   rcases hc with rfl | hc
   ·exact hbe
   ·rintro rfl
    rcases he with z | z
    ·exact nown c b hc z
    ·rw [hc] at z;cases z;exact hb rfl
end
structure Un (fs ex:List Addr)(H H':Hp)(h h':Heap):Prop where
 keep:∀b o,h.get? b=some o→H b=none→b∉fs→b∉ex→h'.get? b=some o
 slot:∀b o,h.get? b=some o→H b=none→b∈fs→b∉ex→∃sl,h'.get? b=some {o with slots:=sl}
 free:∀b o,h.get? b=some o→H b=none→b∉ex→H' b=none
 there:∀b o,h.get? b=some o→b∉ex→∃o',h'.get? b=some o'
 tups:∀b xs,H b=some (.tup xs)→H' b=some (.tup xs)
 frzs:∀b o u,H b=some (.frz o u)→H' b=some (.frz o u)
 tbls:∀b p q,H b=some (.tbl p q)→H' b=some (.tbl p q)
section
variable {fs fs' ex ex':List Addr}{H H1 H2:Hp}{h h1 h2 h':Heap}{a x e:Addr}{o:HO}
theorem Un.any (u:Un fs ex H H1 h h1){b:Addr}{ob:Obj}(q:h.get? b=some ob)(n:H b=none)(hx:b∉ex):∃sl,h1.get? b=some {ob with slots:=sl}:=by
 by_cases hb:b∈fs
 ·exact u.slot b ob q n hb hx
 ·exact ⟨ob.slots,u.keep b ob q n hb hx⟩
theorem Un.kept (k:∀b u,h.get? b=some u→h'.get? b=some u):Un fs ex H H h h':=
 ⟨fun b ob q _ _ _=>k b ob q,fun b ob q _ _ _=>⟨ob.slots,k b ob q⟩,fun _ _ _ n _=>n,fun b ob q _=>⟨ob,k b ob q⟩,fun _ _ q=>q,fun _ _ _ q=>q,fun _ _ _ q=>q⟩
theorem Un.refl:Un fs ex H H h h:=Un.kept fun _ _ q=>q
theorem Un.laid (k:∀b u,h.get? b=some u→h'.get? b=some u)(hp:h.objs.size≤a)(hn:H a=none):Un fs ex H (upd H a o) h h' where
 keep:=fun b u q _ _ _=>k b u q
 slot:=fun b u q _ _ _=>⟨u.slots,k b u q⟩
 free:=fun b u q n _=>by rw [upd_ne (ne_of_lt (lt_of_lt_of_le (lt_size q) hp))];exact n
 there:=fun b u q _=>⟨u,k b u q⟩
 tups:=fun b xs q=>by rw [upd_ne (ne_of_none q hn)];exact q
 frzs:=fun b u xs q=>by rw [upd_ne (ne_of_none q hn)];exact q
 tbls:=fun b p n q=>by rw [upd_ne (ne_of_none q hn)];exact q
theorem Un.write (mu:Mut (H x))(he:e=x∨H e=some (.own x))(k:∀b u,b≠e→h.get? b=some u→h'.get? b=some u)(heo:∃u,h'.get? e=some u):Un fs ex H (upd H x o) h h':=by
  have hx:∀b,H b=none→b≠x:=fun b n z=>by subst z;rw [n] at mu;exact mu
  have hb:∀b,H b=none→b≠e:=fun b n z=>by
    subst z
    rcases he with r | r
    · exact hx b n r
    · rw [n] at r;cases r
  have hm:∀b u,H b=some u→¬Mut (some u)→b≠x:=fun b u q nm z=>by subst z;rw [q] at mu;exact nm mu
  refine ⟨fun b u q n _ _=>k b u (hb b n) q,fun b u q n _ _=>⟨u.slots,k b u (hb b n) q⟩,fun b u q n _=>by rw [upd_ne (hx b n)];exact n,fun b u q _=>?_,
    fun b xs q=>by rw [upd_ne (hm b _ q fun z=>z)];exact q,fun b u xs q=>by rw [upd_ne (hm b _ q fun z=>z)];exact q,fun b p n q=>by rw [upd_ne (hm b _ q fun z=>z)];exact q⟩
  by_cases hbe:b=e
  · subst hbe;exact heo
  · exact ⟨u,k b u hbe q⟩
end
noncomputable def trk (h:Heap)(H:Hp):List Addr:=(List.range h.objs.size).filter fun a=>(H a).isSome
noncomputable def hidT (h:Heap)(H:Hp):Heap:=hideAll h (trk h H)
theorem hidT_size (h:Heap)(H:Hp):(hidT h H).objs.size=h.objs.size:=PySem.W.hideAll_size _ _
theorem hidT_get {h:Heap}{H:Hp}{b:Addr}{o:Obj}(e:h.get? b=some o)(n:H b=none):(hidT h H).get? b=some o:=
 PySem.W.hideAll_get _ e fun hm=>by
  have q:(H b).isSome=true:=(List.mem_filter.mp hm).2
  rw [n] at q;simp at q
theorem of_hidT {h:Heap}{H:Hp}{b:Addr}{o:Obj}(e:(hidT h H).get? b=some o):h.get? b=some o∧H b=none:=by
 have e':h.get? b=some o:=PySem.W.of_hideAll (trk h H) e
 refine ⟨e',?_⟩
 cases q:H b with
 | none=>rfl
 | some x =>
  have hm:b∈trk h H:=List.mem_filter.mpr ⟨List.mem_range.mpr (lt_size e'),by simp [q]⟩
  have z:(hidT h H).get? b=none:=PySem.W.hideAll_none (trk h H) hm
  rw [z] at e;cases e
noncomputable def allNews (g h:Heap)(L:Addr):List (Addr×Obj):=(List.range h.objs.size).filterMap fun a=>if a=L∨(g.get? a).isSome=true then none else (h.get? a).map fun o=>(a,o)
noncomputable def rest (g h:Heap)(L d:Addr):List (Addr×Obj):=(allNews g h L).filter fun p=>decide (p.1≠d)
structure Mod (K:Frag)(mg:Str→Option Value)(base:Heap):Prop where
 kin:K.In base
 glob:base.Ns mainGlobals mg
 blt:∃mb,base.Ns builtinsNs mb∧∀x:Str,x≠"__name__"→mb x=bootBuiltins x
 nolimit:base.NoLimit
structure Cx where
 prog:Program
 w:World
 K:Frag
 mg:Str→Option Value
 base:Heap
 A:Around
 N:List Str
 s₀:Shared
 H₀:Hp
 env:Env
 outer:List Env
 stack:List Env
 ex:List Addr
 fn:Str→Bool
 calm:Bool
 pn:List (Addr×Obj)
 xe:Value→Shared→Prop
noncomputable def frs (l:List Env):List Addr:=l.filterMap (·.frame)
noncomputable abbrev Cx.fs (X:Cx):List Addr:=frs X.outer
def Vis (sc:Scope)(x:Str):Prop:=sc.names.lookup x=some .local∨sc.names.lookup x=some .cell∨sc.names.lookup x=some .free
def Loc (sc:Scope)(x:Str):Prop:=sc.names.lookup x=some .local∨sc.names.lookup x=some .cell
def Look (env:Env)(h:Heap)(m:Str→Option Value)(x:Str)(u:Value):Prop:=
 (env.kindOf x=some .local∧m x=some u)∨((env.kindOf x=some .cell∨env.kindOf x=some .free)∧∃c,env.cells.lookup x=some c∧h.IsCell c (some u))
structure Cx.Ok (X:Cx):Prop where
 mod:Mod X.K X.mg X.base
 kind:X.env.scope.kind=.function
 glob:X.env.globals=mainGlobals
 blt:X.env.builtins=builtinsNs
 above:X.s₀.heap.objs.size≤X.env.locals
 inj:∀x y c,X.env.cells.lookup x=some c→X.env.cells.lookup y=some c→x=y
 has:∀x,(X.env.kindOf x=some .cell∨X.env.kindOf x=some .free)→∃c,X.env.cells.lookup x=some c
 cab:∀x c,X.fn x=true→X.env.cells.lookup x=some c→X.s₀.heap.objs.size≤c
 hd:X.calm=true→X.A.handled=none
 frames:X.A.frames=some X.stack
 stk:X.stack=X.outer∨(X.stack=X.env::X.outer∧X.env.frame=some X.env.locals)
 exf:∀b∈X.ex,b≠X.env.locals∧∀x c,X.env.cells.lookup x=some c→c≠b
 bs:∀b o,X.base.get? b=some o→X.s₀.heap.get? b=some o∧X.H₀ b=none
 bsz:X.base.objs.size≤X.s₀.heap.objs.size
 noex:∀b o,X.base.get? b=some o→b∉X.ex
 exfs:∀b∈X.ex,b∉X.fs
 funs:X.s₀.heap.FunFrames X.base X.outer
 frf:∀b∈X.fs,X.H₀ b=none
structure Inv (X:Cx)(pins:List (Addr×Obj))(σ:List (Option V))(H:Hp)(s:Shared):Prop where
 ok:X.Ok
 os:s.os=X.s₀.os
 bare:AllBare s.gens
 base:Un X.fs X.ex X.H₀ H X.s₀.heap s.heap
 loc:∃m,s.heap.Ns X.env.locals m∧∀(i:Nat) (x:Str) (v:V),X.N[i]?=some x→σ[i]?=some (some v)→Vis X.env.scope x→∃u,RelV v u∧Look X.env s.heap m x u
 cell:∀x c,X.env.cells.lookup x=some c→∃v,s.heap.IsCell c v
 free:H X.env.locals=none
 freeC:∀x c,X.env.cells.lookup x=some c→H c=none
 pin:∀p∈X.pn++pins,s.heap.get? p.1=some p.2∧H p.1=none∧p.1≠X.env.locals∧p.1∉X.fs∧∀v,p.2.data≠.cell v
 hok:HOk X.prog X.w H s.heap
 len:σ.length=X.N.length
section
variable {X:Cx}{pins:List (Addr×Obj)}{σ:List (Option V)}{H H':Hp}{s:Shared}{h':Heap}
theorem Cx.Ok.nofr (ok:X.Ok){b:Addr}{o:Obj}(e:X.base.get? b=some o):b∉X.fs:=fun hb=>by
 have:=(ok.funs.mem hb).1
 rw [e] at this;cases this
theorem Inv.bs (I:Inv X pins σ H s):∀b o,X.base.get? b=some o→s.heap.get? b=some o∧H b=none:=fun b o e =>
 ⟨I.base.keep b o (I.ok.bs b o e).1 (I.ok.bs b o e).2 (I.ok.nofr e) (I.ok.noex b o e),I.base.free b o (I.ok.bs b o e).1 (I.ok.bs b o e).2 (I.ok.noex b o e)⟩
theorem Inv.bk (I:Inv X pins σ H s):∀b o,X.base.get? b=some o→s.heap.get? b=some o:=fun b o e=>(I.bs b o e).1
theorem Inv.mod (I:Inv X pins σ H s):Mod X.K X.mg X.base:=I.ok.mod
theorem Inv.kIn (I:Inv X pins σ H s):X.K.In s.heap:=I.ok.mod.kin.keeps I.bk
theorem Inv.lt (I:Inv X pins σ H s):X.env.locals<s.heap.objs.size:=let ⟨_,hn,_⟩:=I.loc;hn.lt
theorem Inv.sz (I:Inv X pins σ H s):X.s₀.heap.objs.size≤s.heap.objs.size:=le_trans I.ok.above (le_of_lt I.lt)
theorem Inv.nofs (I:Inv X pins σ H s){a:Addr}(h:s.heap.objs.size≤a):a∉X.fs:=fun hb=>by
 obtain ⟨_,o,ho,_⟩:=I.ok.funs.mem hb
 exact absurd (lt_of_lt_of_le (lt_size ho) (le_trans I.sz h)) (lt_irrefl _)
theorem Inv.cne (I:Inv X pins σ H s):∀x c,X.env.cells.lookup x=some c→c≠X.env.locals:=fun x c e z=>by
 obtain ⟨v,o,ho,hd⟩:=I.cell x c e
 obtain ⟨m,⟨o',es,ep,ho',hd',_⟩,_⟩:=I.loc
 rw [z,ho'] at ho;cases ho;rw [hd'] at hd;cases hd
theorem Inv.funs (I:Inv X pins σ H s):s.heap.FunFrames X.base X.outer:=by
 have all:∀(l:List Env),(∀b∈frs l,b∈X.fs)→X.s₀.heap.FunFrames X.base l→s.heap.FunFrames X.base l:=by
  intro l
  induction l with
  | nil=>intro _ _;trivial
  | cons env r ih =>
   intro hs hl
   obtain ⟨hk,⟨L,o,hf,hn,ho,hd⟩,hr⟩:=hl
   have hL:L∈X.fs:=hs L (by unfold frs;rw [List.filterMap_cons,hf];exact mem_cons_self)
   obtain ⟨sl,e⟩:=I.base.slot L o ho (I.ok.frf L hL) hL fun z=>I.ok.exfs L z hL
   exact ⟨hk,⟨L,_,hf,hn,e,hd⟩,ih (fun b hb=>hs b (by unfold frs;rw [List.filterMap_cons,hf];exact mem_cons_of_mem _ hb)) hr⟩
 exact all X.outer (fun _ hb=>hb) I.ok.funs
theorem Inv.stack (I:Inv X pins σ H s):s.heap.FunFrames X.base X.stack:=by
 rcases I.ok.stk with e | ⟨e,hf⟩
 ·rw [e];exact I.funs
 ·rw [e]
  obtain ⟨m,hn,_⟩:=I.loc
  refine .cons (by rw [I.ok.kind];decide) hf hn ?_ I.funs
  exact Heap.get?_none_of_le (le_trans I.ok.bsz I.ok.above)
theorem Inv.stkSub (I:Inv X pins σ H s):∀b∈frs X.stack,b∈X.env.locals::X.fs:=fun b hb=>by
 rcases I.ok.stk with e | ⟨e,hf⟩
 ·rw [e] at hb;exact mem_cons_of_mem _ hb
 ·rw [e] at hb
  unfold frs at hb
  rw [List.filterMap_cons,hf] at hb
  exact hb
theorem Inv.stkFree (I:Inv X pins σ H s):∀b∈frs X.stack,H b=none:=fun b hb=>by
 rcases List.mem_cons.mp (I.stkSub b hb) with e | hb
 ·rw [e];exact I.free
 ·obtain ⟨_,o,ho,_⟩:=I.ok.funs.mem hb
  exact I.base.free b o ho (I.ok.frf b hb) fun z=>I.ok.exfs b z hb
theorem Inv.step {g':Array GenState}{t':Nat}{d':Drawn}{ch:List Addr}(I:Inv X pins σ H s)
  (hch:∀b∈ch,(b∈X.ex∨X.s₀.heap.objs.size≤b)∧b≠X.env.locals∧(∀x c,X.env.cells.lookup x=some c→c≠b)∧∀p∈X.pn++pins,p.1≠b)
  (keep:∀b o,b≠X.env.locals→b∉X.fs→b∉ch→s.heap.get? b=some o→H b=none→h'.get? b=some o)
  (slot:∀b o,b≠X.env.locals→b∈X.fs→b∉ch→s.heap.get? b=some o→H b=none→∃sl,h'.get? b=some {o with slots:=sl}) (free:∀b o,b∉ch→s.heap.get? b=some o→H b=none→H' b=none)
  (there:∀b o,b∉ch→s.heap.get? b=some o→∃o',h'.get? b=some o')
  (tups:∀b xs,H b=some (.tup xs)→H' b=some (.tup xs)) (frzs:∀b o u,H b=some (.frz o u)→H' b=some (.frz o u)) (tbls:∀b p n,H b=some (.tbl p n)→H' b=some (.tbl p n))
  (ns:∀m,s.heap.Ns X.env.locals m→h'.Ns X.env.locals m) (hok:HOk X.prog X.w H' h') (hg:AllBare g') :
  Inv X pins σ H' {s with heap:=h',gens:=g',drawn:=d',toks:=t'}:=by
 have neL:∀b o,X.s₀.heap.get? b=some o→b≠X.env.locals:=fun b o e=>ne_of_lt (lt_of_lt_of_le (lt_size e) I.ok.above)
 have neC:∀b o,X.s₀.heap.get? b=some o→b∉X.ex→b∉ch:=fun b o e hx hb=>by
  rcases (hch b hb).1 with z | z
  ·exact hx z
  ·exact absurd (lt_of_lt_of_le (lt_size e) z) (lt_irrefl _)
 have cellK:∀x c,X.env.cells.lookup x=some c→∀v,s.heap.IsCell c v→h'.IsCell c v:=fun x c e v ⟨o,ho,hd⟩=>by
  have nch:c∉ch:=fun z=>(hch c z).2.2.1 x c e rfl
  by_cases hc:c∈X.fs
  ·obtain ⟨sl,q⟩:=slot c o (I.cne x c e) hc nch ho (I.freeC x c e)
   exact ⟨_,q,hd⟩
  ·exact ⟨o,keep c o (I.cne x c e) hc nch ho (I.freeC x c e),hd⟩
 refine ⟨I.ok,I.os,hg,⟨fun b o e n hb hx=>?_,fun b o e n hb hx=>?_,fun b o e n hx=>?_,fun b o e hx=>?_,fun b xs e=>tups b xs (I.base.tups b xs e),fun b o xs e=>frzs b o xs (I.base.frzs b o xs e),fun b p n e=>tbls b p n (I.base.tbls b p n e)⟩,?_,fun x c e=>?_,?_,fun x c e=>?_,fun p hp=>?_,hok,I.len⟩
 ·exact keep b o (neL b o e) hb (neC b o e hx) (I.base.keep b o e n hb hx) (I.base.free b o e n hx)
 ·obtain ⟨sl,e1⟩:=I.base.slot b o e n hb hx
  obtain ⟨sl',e2⟩:=slot b _ (neL b o e) hb (neC b o e hx) e1 (I.base.free b o e n hx)
  exact ⟨sl',e2⟩
 ·obtain ⟨o',e1⟩:=I.base.there b o e hx
  exact free b o' (neC b o e hx) e1 (I.base.free b o e n hx)
 ·obtain ⟨o',e1⟩:=I.base.there b o e hx
  exact there b o' (neC b o e hx) e1
 ·obtain ⟨m,hn,hl⟩:=I.loc
  refine ⟨m,ns m hn,fun i x v e1 e2 e3=>?_⟩
  obtain ⟨u,r,l⟩:=hl i x v e1 e2 e3
  refine ⟨u,r,?_⟩
  rcases l with l | ⟨k,c,e,z⟩
  ·exact .inl l
  ·exact .inr ⟨k,c,e,cellK x c e _ z⟩
 ·obtain ⟨v,z⟩:=I.cell x c e
  exact ⟨v,cellK x c e v z⟩
 ·obtain ⟨m,⟨o,_,_,ho,_⟩,_⟩:=I.loc
  exact free _ o (fun z=>(hch _ z).2.1 rfl) ho I.free
 ·obtain ⟨v,o,ho,hd⟩:=I.cell x c e
  exact free c o (fun z=>(hch c z).2.2.1 x c e rfl) ho (I.freeC x c e)
 ·obtain ⟨e,n,ne,nf,d⟩:=I.pin p hp
  have nch:p.1∉ch:=fun z=>(hch p.1 z).2.2.2 p hp rfl
  exact ⟨keep p.1 p.2 ne nf nch e n,free p.1 p.2 nch e n,ne,nf,d⟩
theorem Inv.un {t':Nat}(I:Inv X pins σ H s)(u:Un X.fs [] H H' s.heap h')(hok:HOk X.prog X.w H' h'):Inv X pins σ H' {s with heap:=h',toks:=t'}:=by
  obtain ⟨m,⟨o,es,ep,ho,r⟩,_⟩:=id I.loc
  obtain ⟨sl,hL⟩:=u.any ho I.free (by simp)
  exact I.step (g':=s.gens) (d':=s.drawn) (ch:=[]) (fun _ z=>nomatch z) (fun b o _ hb _ e n=>u.keep b o e n hb (by simp)) (fun b o _ hb _ e n=>u.slot b o e n hb (by simp)) (fun b o _ e n=>u.free b o e n (by simp)) (fun b o _ e=>u.there b o e (by simp)) u.tups u.frzs u.tbls (fun m' hm=>by
    obtain ⟨o',es',ep',ho',r'⟩:=hm
    rw [ho] at ho';cases ho'
    exact ⟨_,es',ep',hL,r'⟩) hok I.bare
theorem Inv.call {g':Array GenState}{t':Nat}{d':Drawn}{ch:List Addr}(I:Inv X pins σ H s)(u:Un (frs X.stack) ch H H' s.heap h')(hok:HOk X.prog X.w H' h')(hg:AllBare g')
    (hch:∀b∈ch,(b∈X.ex∨X.s₀.heap.objs.size≤b)∧b≠X.env.locals∧(∀x c,X.env.cells.lookup x=some c→c≠b)∧∀p∈X.pn++pins,p.1≠b) :
    Inv X pins σ H' {s with heap:=h',gens:=g',drawn:=d',toks:=t'}:=by
  obtain ⟨m,⟨o,es,ep,ho,r⟩,_⟩:=id I.loc
  obtain ⟨sl,hL⟩:=u.any ho I.free fun z=>(hch _ z).2.1 rfl
  exact I.step (ch:=ch) hch (fun b o hL hb hc e n=>u.keep b o e n (fun z=>(List.mem_cons.mp (I.stkSub b z)).elim hL hb) hc) (fun b o _ _ hc e n=>u.any e n hc) (fun b o hc e n=>u.free b o e n hc) (fun b o hc e=>u.there b o e hc) u.tups u.frzs u.tbls (fun m' hm=>by
    obtain ⟨o',es',ep',ho',r'⟩:=hm
    rw [ho] at ho';cases ho'
    exact ⟨_,es',ep',hL,r'⟩) hok hg
theorem Inv.turned {t':Nat}{it:Addr}(I:Inv X pins σ H s)(k:∀b o,b≠it→s.heap.get? b=some o→h'.get? b=some o)(hn:H it=none)(hL:it≠X.env.locals)
  (h1:it∈X.ex∨X.s₀.heap.objs.size≤it) (h2:∀x c,X.env.cells.lookup x=some c→c≠it) (h3:∀p∈X.pn++pins,p.1≠it):Inv X pins σ H {s with heap:=h',toks:=t'}:=by
 have nit:∀b u,H b=some u→b≠it:=fun b u e z=>by rw [z,hn] at e;cases e
 refine I.step (g':=s.gens) (d':=s.drawn) (ch:=[it]) (fun b hb=>?_) (fun b o _ _ hc e _=>k b o (fun z=>hc (by simp [z])) e) (fun b o _ _ hc e _=>⟨o.slots,k b o (fun z=>hc (by simp [z])) e⟩) (fun _ _ _ _ n=>n)
  (fun b o hc e=>⟨o,k b o (fun z=>hc (by simp [z])) e⟩) (fun _ _ e=>e) (fun _ _ _ e=>e) (fun _ _ _ e=>e) (fun m hm=>?_) (fun b u e=>?_) I.bare
 ·have e:b=it:=by simpa using hb
  subst e
  exact ⟨h1,hL,h2,h3⟩
 ·obtain ⟨o,es,ep,ho,r⟩:=hm
  exact ⟨o,es,ep,k _ o (Ne.symm hL) ho,r⟩
 ·refine (I.hok b u e).stay (fun c v hc q=>k c v ?_ q) (fun _ q=>q) (fun _ _ q=>q) fun _ _ _ q=>q
  rcases hc with z | z
  ·rw [z];exact nit b u e
  ·exact nit c _ z
theorem Inv.tok (I:Inv X pins σ H s)(t:Nat):Inv X pins σ H {s with toks:=t}:=I.un (h':=s.heap) (t':=t) Un.refl I.hok
theorem Inv.kept {t':Nat}(I:Inv X pins σ H s)(k:∀b u,s.heap.get? b=some u→h'.get? b=some u):Inv X pins σ H {s with heap:=h',toks:=t'}:=I.un (Un.kept k) (I.hok.kept k)
theorem Inv.laid {a:Addr}{o:HO}{t':Nat}(I:Inv X pins σ H s)(k:∀b u,s.heap.get? b=some u→h'.get? b=some u)(hp:s.heap.objs.size≤a)(new:ObjOk X.prog X.w (upd H a o) h' a o) :
  Inv X pins σ (upd H a o) {s with heap:=h',toks:=t'}:=I.un (Un.laid k hp (I.hok.fresh hp)) (I.hok.laid k hp new)
theorem Inv.write {x e:Addr}{o:HO}{t':Nat}(I:Inv X pins σ H s)(mu:Mut (H x))(he:e=x∨H e=some (.own x))(k:∀b u,b≠e→s.heap.get? b=some u→h'.get? b=some u)(heo:∃u,h'.get? e=some u)
  (new:ObjOk X.prog X.w (upd H x o) h' x o):Inv X pins σ (upd H x o) {s with heap:=h',toks:=t'}:=I.un (Un.write mu he k heo) (I.hok.write mu he k heo new)
theorem Inv.pins_of {pins':List (Addr×Obj)}(I:Inv X pins σ H s)(h:∀p∈pins',s.heap.get? p.1=some p.2∧H p.1=none∧p.1≠X.env.locals∧p.1∉X.fs∧∀v,p.2.data≠.cell v):Inv X pins' σ H s:=
 ⟨I.ok,I.os,I.bare,I.base,I.loc,I.cell,I.free,I.freeC,fun p hp=>(List.mem_append.mp hp).elim (fun z=>I.pin p (mem_append_left _ z)) (h p),I.hok,I.len⟩
theorem nodup_ix {N:List Str}(hN:N.Nodup){i j:Nat}{x:Str}(a:N[i]?=some x)(b:N[j]?=some x):i=j:=by
 obtain ⟨h1,e1⟩:=List.getElem?_eq_some_iff.mp a
 obtain ⟨h2,e2⟩:=List.getElem?_eq_some_iff.mp b
 exact (List.getElem_inj hN).mp (e1.trans e2.symm)
theorem store_ok2 {M:Model}{A:Around}{E:Value→Shared→Prop}{i:Nat}{x:Str}{v:V}{u:Value}{Q:Unit→Shared→Prop}(I:Inv X pins σ H s)(hN:X.N.Nodup)(hi:X.N[i]?=some x)(hx:Loc X.env.scope x)(r:RelV v u)
  (h:∀s',Inv X pins (σ.set i (some v)) H s'→(∃a,Heap.SameBut a s.heap s'.heap∧(a=X.env.locals∨X.env.cells.lookup x=some a))→Q () s') (hf:autoParam (X.fn x=true∨X.env.scope.names.lookup x=some .local) aT0._auto_1):wpAny M A (storeName X.env x u) Q E s:=by
 obtain ⟨m,hn,hl⟩:=id I.loc
 have hcls:(X.env.scope.kind==.class||(X.env.scope.kind==.module&&X.env.locals != X.env.globals))=false:=by rw [I.ok.kind];rfl
 have hiσ:i<σ.length:=by rw [I.len];exact (List.getElem?_eq_some_iff.mp hi).1
 have cne:=I.cne
 have tracked:∀{a:Addr} {h':Heap},(∃o,s.heap.get? a=some o∧H a=none)→Heap.SameBut a s.heap h'→HOk X.prog X.w H h':=fun {a h'} ha hs b ob e=>by
  obtain ⟨_,_,hfree⟩:=ha
  refine (I.hok b ob e).stay (fun c w' hc q=>(hs.2 c ?_).trans q) (fun _ q=>q) (fun _ _ q=>q) fun _ _ _ q=>q
  rintro rfl
  rcases hc with rfl | hc
  ·rw [hfree] at e;cases e
  ·rw [hfree] at hc;cases hc
 rcases hx with hk | hk
 ·refine wpAny_storeName_local hk hn (fun h' hn' hs=>?_) hcls
  obtain ⟨oL,_,_,hoL,_⟩:=id hn
  refine h _ ⟨I.ok,I.os,I.bare,⟨fun b o e n hb hx=>?_,fun b o e n hb hx=>?_,I.base.free,fun b o e hx=>?_,I.base.tups,I.base.frzs,I.base.tbls⟩,⟨_,hn',fun j y v' e1 e2 e3=>?_⟩,fun y c e=>?_,I.free,I.freeC,fun p hp=>?_,tracked ⟨oL,hoL,I.free⟩ hs,by simpa using I.len⟩ ⟨_,hs,.inl rfl⟩
  ·exact (hs.2 b (ne_of_lt (lt_of_lt_of_le (lt_size e) I.ok.above))).trans (I.base.keep b o e n hb hx)
  ·obtain ⟨sl,e1⟩:=I.base.slot b o e n hb hx
   exact ⟨sl,(hs.2 b (ne_of_lt (lt_of_lt_of_le (lt_size e) I.ok.above))).trans e1⟩
  ·obtain ⟨o',e1⟩:=I.base.there b o e hx
   exact ⟨o',(hs.2 b (ne_of_lt (lt_of_lt_of_le (lt_size e) I.ok.above))).trans e1⟩
  ·by_cases hj:j=i
   ·subst hj
    rw [hi] at e1;cases e1
    rw [getElem?_set_self hiσ] at e2
    cases e2
    exact ⟨u,r,.inl ⟨hk,by simp⟩⟩
   ·rw [getElem?_set_ne (Ne.symm hj)] at e2
    obtain ⟨u',r',q⟩:=hl j y v' e1 e2 e3
    refine ⟨u',r',?_⟩
    rcases q with ⟨k,e⟩ | ⟨k,c,e,z⟩
    ·refine .inl ⟨k,?_⟩
     have:y≠x:=fun e=>hj (nodup_ix hN e1 (e▸hi))
     simp [this,e]
    ·exact .inr ⟨k,c,e,z.sameBut hs (cne y c e)⟩
  ·obtain ⟨w',z⟩:=I.cell y c e
   exact ⟨w',z.sameBut hs (cne y c e)⟩
  ·obtain ⟨e,n,ne,nf,d⟩:=I.pin p hp
   exact ⟨(hs.2 p.1 ne).trans e,n,ne,nf,d⟩
 ·have hfn:X.fn x=true:=by
   rcases hf with z | z
   ·exact z
   ·rw [z] at hk;cases hk
  obtain ⟨c,hc⟩:=I.ok.has x (.inl hk)
  obtain ⟨w',z⟩:=I.cell x c hc
  refine wpAny_storeName_cell I.ok.kind hk hc z (fun h' hc' hs=>?_)
  obtain ⟨oc,hoc,hocd⟩:=id z
  refine h {s with heap:=h'} ⟨I.ok,I.os,I.bare,⟨fun b o e n hb hx=>?_,fun b o e n hb hx=>?_,I.base.free,fun b o e hx=>?_,I.base.tups,I.base.frzs,I.base.tbls⟩,⟨m,hn.sameBut hs (Ne.symm (cne x c hc)),fun j y v' e1 e2 e3=>?_⟩,fun y c' e=>?_,I.free,I.freeC,fun p hp=>?_,tracked ⟨oc,hoc,I.freeC x c hc⟩ hs,by simpa using I.len⟩ ⟨c,hs,.inr hc⟩
  ·exact (hs.2 b (ne_of_lt (lt_of_lt_of_le (lt_size e) (I.ok.cab x c hfn hc)))).trans (I.base.keep b o e n hb hx)
  ·obtain ⟨sl,e1⟩:=I.base.slot b o e n hb hx
   exact ⟨sl,(hs.2 b (ne_of_lt (lt_of_lt_of_le (lt_size e) (I.ok.cab x c hfn hc)))).trans e1⟩
  ·obtain ⟨o',e1⟩:=I.base.there b o e hx
   exact ⟨o',(hs.2 b (ne_of_lt (lt_of_lt_of_le (lt_size e) (I.ok.cab x c hfn hc)))).trans e1⟩
  ·by_cases hj:j=i
   ·subst hj
    rw [hi] at e1;cases e1
    rw [getElem?_set_self hiσ] at e2
    cases e2
    exact ⟨u,r,.inr ⟨.inl hk,c,hc,hc'⟩⟩
   ·rw [getElem?_set_ne (Ne.symm hj)] at e2
    obtain ⟨u',r',q⟩:=hl j y v' e1 e2 e3
    refine ⟨u',r',?_⟩
    rcases q with q | ⟨k,c',e,z'⟩
    ·exact .inl q
    ·refine .inr ⟨k,c',e,z'.sameBut hs ?_⟩
     rintro rfl
     exact hj (nodup_ix hN e1 (I.ok.inj _ _ _ e hc▸hi))
  ·by_cases hcc:c'=c
   ·subst hcc;exact ⟨_,hc'⟩
   ·obtain ⟨w2,z2⟩:=I.cell y c' e
    exact ⟨w2,z2.sameBut hs hcc⟩
  ·obtain ⟨e,n,ne,nf,d⟩:=I.pin p hp
   refine ⟨(hs.2 p.1 ?_).trans e,n,ne,nf,d⟩
   intro q
   rw [q,hoc] at e
   have q':oc=p.2:=Option.some.inj e
   exact d w' (by rw [← q'];exact hocd)
theorem store_ok {M:Model}{A:Around}{E:Value→Shared→Prop}{i:Nat}{x:Str}{v:V}{u:Value}{Q:Unit→Shared→Prop}(I:Inv X pins σ H s)(hN:X.N.Nodup)(hi:X.N[i]?=some x)(hx:Loc X.env.scope x)(r:RelV v u)
  (h:∀s',Inv X pins (σ.set i (some v)) H s'→Q () s') (hf:autoParam (X.fn x=true∨X.env.scope.names.lookup x=some .local) aT0._auto_1):wpAny M A (storeName X.env x u) Q E s:=
 store_ok2 I hN hi hx r (fun s' I' _=>h s' I') hf
theorem Inv.call' {s':Shared}{ch:List Addr}(I:Inv X pins σ H s)(ho:s'.os=s.os)(u:Un (frs X.stack) ch H H' s.heap s'.heap)(hok:HOk X.prog X.w H' s'.heap)(hg:AllBare s'.gens)
  (hch:∀b∈ch,(b∈X.ex∨X.s₀.heap.objs.size≤b)∧b≠X.env.locals∧(∀x c,X.env.cells.lookup x=some c→c≠b)∧∀p∈X.pn++pins,p.1≠b):Inv X pins σ H' s':=by
 obtain ⟨h',g',d',t',o'⟩:=s'
 have e:o'=s.os:=ho
 subst e
 exact I.call (g':=g') (t':=t') (d':=d') u hok hg hch
end
noncomputable abbrev XK:=Value→Option Addr→Hp→Prop
noncomputable abbrev St:=List (Option V)
noncomputable abbrev VK:=V→Hp→Prop
noncomputable abbrev TE:=St→Hp→VK→Prop
noncomputable abbrev TT:=St→Hp→(Bool→Hp→Prop)→Prop
noncomputable abbrev TA:=St→Hp→(List V→Hp→Prop)→Prop
structure Ends where
 nx:St→Hp→Prop
 rt:VK
 bk:St→Hp→Prop:=fun _ _=>False
 ct:St→Hp→Prop:=fun _ _=>False
noncomputable abbrev TS:=Ends→St→Hp→Prop
def EP (X:Cx)(pins:List (Addr×Obj))(σ:St)(Q:VK)(u:Value)(s':Shared):Prop:=∃v H',Inv X pins σ H' s'∧RelV v u∧Q v H'
def TP (X:Cx)(pins:List (Addr×Obj))(σ:St)(Q:Bool→Hp→Prop)(b:Bool)(s':Shared):Prop:=∃H',Inv X pins σ H' s'∧Q b H'
def AP (X:Cx)(pins:List (Addr×Obj))(σ:St)(Q:List V→Hp→Prop)(us:List Value)(s':Shared):Prop:=∃vs H',Inv X pins σ H' s'∧Vals vs us∧Q vs H'
def SP (X:Cx)(pins:List (Addr×Obj))(D:Ends)(f:Flow)(s':Shared):Prop:=
 match f with
 | .next=>∃σ' H',Inv X pins σ' H' s'∧D.nx σ' H'
 | .brk=>∃σ' H',Inv X pins σ' H' s'∧D.bk σ' H'
 | .cont=>∃σ' H',Inv X pins σ' H' s'∧D.ct σ' H'
 | .ret u=>∃v σ' H',Inv X pins σ' H' s'∧RelV v u∧D.rt v H'
def PE (X:Cx)(e:Expr)(t:TE):Prop:=
 ∀(pins:List (Addr×Obj)) (s:Shared) (σ:St) (H:Hp) (Q:VK),Inv X pins σ H s→t σ H Q→wpAny (model X.prog X.w) X.A (eval e X.env) (EP X pins σ Q) X.xe s
def PT (X:Cx)(e:Expr)(t:TT):Prop:=
 ∀(pins:List (Addr×Obj)) (s:Shared) (σ:St) (H:Hp) (Q:Bool→Hp→Prop),Inv X pins σ H s→t σ H Q→wpAny (model X.prog X.w) X.A (isTrue e X.env (eval e X.env)) (TP X pins σ Q) X.xe s
def PW (X:Cx)(e:Expr)(t:TT):Prop:=
 ∀(whole:Sem Value) (pins:List (Addr×Obj)) (s:Shared) (σ:St) (H:Hp) (Q:Bool→Hp→Prop),Inv X pins σ H s→t σ H Q→wpAny (model X.prog X.w) X.A (isTrue e X.env whole) (TP X pins σ Q) X.xe s
theorem PW.pt {X:Cx}{e:Expr}{t:TT}(h:PW X e t):PT X e t:=h _
def PA (X:Cx)(es:List Expr)(t:TA):Prop:=
 ∀(pos:Pos) (pins:List (Addr×Obj)) (s:Shared) (σ:St) (H:Hp) (Q:List V→Hp→Prop),Inv X pins σ H s→t σ H Q→wpAny (model X.prog X.w) X.A (spliced (backTo pos (starEach es X.env))) (AP X pins σ Q) X.xe s
def PS (X:Cx)(st:Stmt)(t:TS):Prop:=
 ∀(pins:List (Addr×Obj)) (s:Shared) (σ:St) (H:Hp) (D:Ends),Inv X pins σ H s→t D σ H→wpAny (model X.prog X.w) X.A (exec st X.env) (SP X pins D) X.xe s
def PSs (X:Cx)(st:List Stmt)(t:TS):Prop:=
 ∀(pins:List (Addr×Obj)) (s:Shared) (σ:St) (H:Hp) (D:Ends),Inv X pins σ H s→t D σ H→wpAny (model X.prog X.w) X.A (execs st X.env) (SP X pins D) X.xe s
theorem thn {α:Type}{t:Sem α}{Q Q':α→Shared→Prop}{M:Model}{A:Around}{E:Value→Shared→Prop}{s:Shared}(h:wpAny M A t Q E s)(hQ:∀a s,Q a s→Q' a s):wpAny M A t Q' E s:=wpAny_mono h hQ fun _ _ x=>x
section
variable {X:Cx}
def tVar (i:Nat):TE:=fun σ H Q=>∃v,σ[i]?=some (some v)∧Q v H
def tC (v:V):TE:=fun _ H Q=>Q v H
theorem pe_var {i:Nat}{x:Str}{pos:Pos}(hN:X.N[i]?=some x)(hv:Vis X.env.scope x)(hd:(x==("__debug__":Str))=false:=by decide)(hcd:(x==("__classdict__":Str))=false:=by decide):PE X (.Name x pos) (tVar i):=by
 intro pins s σ H Q I h
 obtain ⟨v,e,h⟩:=h
 obtain ⟨m,hn,hl⟩:=I.loc
 obtain ⟨u,r,l⟩:=hl i x v hN e hv
 have fin:EP X pins σ Q u s:=⟨v,H,I,r,h⟩
 rcases l with ⟨hk,hm⟩ | ⟨hk,c,hc,hcell⟩
 ·exact wpAny_Name (wpAny_loadName_local I.ok.kind hk hn hm fin) hd
 ·rcases hk with hk | hk
  ·exact wpAny_Name (wpAny_loadName_cell I.ok.kind hk hc hcell fin) hd
  ·exact wpAny_Name (wpAny_loadName_free I.ok.kind hk hc hcell fin hcd) hd
theorem pe_int {i j pos}:PE X (.Constant (.int i) j pos) (tC (.int i)):=fun _ _ _ H _ I h=>wpAny_Constant_int ⟨.int i,H,I.tok _,⟨_,rfl⟩,h⟩
theorem pe_bl {b j pos}:PE X (.Constant (.bool b) j pos) (tC (.bl b)):=fun _ _ _ H _ I h=>Constant_bool ⟨.bl b,H,I,rfl,h⟩
theorem pe_str {x j pos}:PE X (.Constant (.str x) j pos) (tC (.str x)):=fun _ _ _ H _ I h=>Calls.Constant_str ⟨.str x,H,I.tok _,⟨_,rfl⟩,h⟩
def Gl (X:Cx)(x:Str):Prop:=X.env.kindOf x=some .globalImplicit
theorem ld_glob {E:Value→Shared→Prop}{pins:List (Addr×Obj)}{s:Shared}{σ:St}{H:Hp}{x:Str}{u:Value}{pos:Pos}{Q:Value→Shared→Prop}(I:Inv X pins σ H s)(hg:Gl X x)(hm:X.mg x=some u)(h:Q u s)
  (hd:(x==("__debug__":Str))=false:=by decide):wpAny (model X.prog X.w) X.A (eval (.Name x pos) X.env) Q E s:=
 Calls.Name_function_global I.ok.kind hg (Calls.loadGlobal_global (by rw [I.ok.glob];exact I.mod.glob.keeps I.bk) hm h) hd
theorem ld_blt {E:Value→Shared→Prop}{pins:List (Addr×Obj)}{s:Shared}{σ:St}{H:Hp}{x:Str}{u:Value}{pos:Pos}{Q:Value→Shared→Prop}(I:Inv X pins σ H s)(hg:Gl X x)(hm:X.mg x=none)(hv:bootBuiltins x=some u)(h:Q u s)
  (hn:x≠"__name__":=by decide) (hd:(x==("__debug__":Str))=false:=by decide):wpAny (model X.prog X.w) X.A (eval (.Name x pos) X.env) Q E s:=by
 obtain ⟨mb,h1,h2⟩:=I.mod.blt
 exact Calls.Name_function_global I.ok.kind hg (Calls.loadGlobal_builtin (by rw [I.ok.glob];exact I.mod.glob.keeps I.bk) hm (by rw [I.ok.blt];exact h1.keeps I.bk) ((h2 x hn).trans hv) h) hd
theorem pe_glob {x:Str}{v:V}{u:Value}{pos:Pos}(hg:Gl X x)(hm:X.mg x=some u)(r:RelV v u)(hd:(x==("__debug__":Str))=false:=by decide):PE X (.Name x pos) (tC v):=
 fun _ _ _ H _ I h=>ld_glob I hg hm ⟨v,H,I,r,h⟩ hd
theorem pe_bltn {x:Str}{v:V}{u:Value}{pos:Pos}(hg:Gl X x)(hm:X.mg x=none)(hv:bootBuiltins x=some u)(r:RelV v u)(hn:x≠"__name__":=by decide)(hd:(x==("__debug__":Str))=false:=by decide):PE X (.Name x pos) (tC v):=
 fun _ _ _ H _ I h=>ld_blt I hg hm hv ⟨v,H,I,r,h⟩ hn hd
variable {a b:Expr}{ta tb:TE}{pos:Pos}
def tB (t:TE):TT:=fun σ H Q=>t σ H fun x H1=>∃c,x=.bl c∧Q c H1
theorem pt_val {e:Expr}{t:TE}(h:PE X e t)(he:∀whole,isTrue e X.env whole=(do let v ← whole;standAt e.pos;holding [v] (truthy v)):=by intro _;rfl):PT X e (tB t):=by
 intro pins s σ H Q I hw
 refine isTrue_plain (thn (h pins s σ H _ I hw) fun v s1 hz9=>?_) (he _)
 obtain ⟨x,H1,I1,r1,q1⟩:=hz9
 obtain ⟨d,rfl,q⟩:=q1
 cases r1
 exact wpAny_truthy_bool ⟨H1,I1,q⟩
variable {tA tB':TT}{rest:List Expr}
def tAnd (t u:TT):TT:=fun σ H Q=>t σ H fun c H1=>if c=true then u σ H1 Q else Q false H1
def tOr (t u:TT):TT:=fun σ H Q=>t σ H fun c H1=>if c=true then Q true H1 else u σ H1 Q
def tNot (t:TT):TT:=fun σ H Q=>t σ H fun c H1=>Q (!c) H1
theorem pw_and1 (ha:PT X a tA):PW X (.BoolOp .And [a] pos) tA:=by
 intro wh pins s σ H Q I h
 refine isTrue_and (thn (ha pins s σ H Q I h) fun c s1 e=>?_)
 cases c with
 | true=>exact isTrue_and_nil e
 | false=>exact e
theorem pw_or1 (ha:PT X a tA):PW X (.BoolOp .Or [a] pos) tA:=by
 intro wh pins s σ H Q I h
 refine isTrue_or (thn (ha pins s σ H Q I h) fun c s1 e=>?_)
 cases c with
 | false=>exact isTrue_or_nil e
 | true=>exact e
theorem pw_and (ha:PT X a tA)(hb:PW X (.BoolOp .And (b::rest) pos) tB'):PW X (.BoolOp .And (a::b::rest) pos) (tAnd tA tB'):=by
 intro wh pins s σ H Q I h
 refine isTrue_and (thn (ha pins s σ H _ I h) fun c s1 ⟨H1,I1,q1⟩=>?_)
 cases c with
 | true=>exact hb wh pins s1 σ H1 Q I1 q1
 | false=>exact ⟨H1,I1,q1⟩
theorem pw_or (ha:PT X a tA)(hb:PW X (.BoolOp .Or (b::rest) pos) tB'):PW X (.BoolOp .Or (a::b::rest) pos) (tOr tA tB'):=by
 intro wh pins s σ H Q I h
 refine isTrue_or (thn (ha pins s σ H _ I h) fun c s1 ⟨H1,I1,q1⟩=>?_)
 cases c with
 | true=>exact ⟨H1,I1,q1⟩
 | false=>exact hb wh pins s1 σ H1 Q I1 q1
theorem pt_not (ha:PT X a tA):PT X (.UnaryOp .Not a pos) (tNot tA):=by
 intro pins s σ H Q I h
 exact isTrue_not (ha pins s σ H (fun c H1=>Q (!c) H1) I h)
def tAndV (ta tb:TE):TE:=fun σ H Q=>ta σ H fun x H1=>∃c,x=.bl c∧if c=true then tb σ H1 Q else Q (.bl false) H1
def tNotV (ta:TE):TE:=fun σ H Q=>ta σ H fun x H1=>∃c,x=.bl c∧Q (.bl (!c)) H1
theorem pe_one {op}{t:TE}(h:PE X a t):PE X (.BoolOp op [a] pos) t:=fun pins s σ H Q I hw=>BoolOp_one (h pins s σ H Q I hw)
theorem pe_and (ha:PE X a ta)(hb:PE X (.BoolOp .And (b::rest) pos) tb):PE X (.BoolOp .And (a::b::rest) pos) (tAndV ta tb):=by
 intro pins s σ H Q I h
 refine BoolOp_and (thn (ha pins s σ H _ I h) fun v s1 hz9=>?_)
 obtain ⟨x,H1,I1,r1,q1⟩:=hz9
 obtain ⟨c,rfl,q1⟩:=q1
 cases r1
 refine wpAny_truthy_bool ?_
 cases c with
 | true=>exact hb pins s1 σ H1 Q I1 q1
 | false=>exact ⟨.bl false,H1,I1,rfl,q1⟩
theorem pe_not (ha:PE X a ta):PE X (.UnaryOp .Not a pos) (tNotV ta):=by
 intro pins s σ H Q I h
 refine UnaryOp_ (thn (ha pins s σ H _ I h) fun v s1 hz9=>?_)
 obtain ⟨x,H1,I1,r1,q1⟩:=hz9
 obtain ⟨c,rfl,q1⟩:=q1
 cases r1
 exact not_of (wpAny_truthy_bool ⟨.bl (!c),H1,I1,rfl,q1⟩)
end
def SqL (K:Frag)(H:Hp)(a:Addr)(xs:List V):Prop:=
 Rd H a (.lst xs)∨
  ∃(o:Obj) (its:Array Value) (n:Nat),K.lookup a=some o∧o.cls=.type "list"∧o.dict=none∧o.data=.seq its n∧its.size≤sizeLine∧Vals xs its.toList
def SqT (K:Frag)(H:Hp)(a:Addr)(xs:List V):Prop:=
 Rd H a (.tup xs)∨
  ∃(o:Obj) (its:Array Value) (n:Nat),K.lookup a=some o∧o.cls=.type "tuple"∧o.data=.seq its n∧its.size≤sizeLine∧Vals xs its.toList
noncomputable def absV:Value→Option V
 | .none=>some .non
 | .bool b=>some (.bl b)
 | .int i _=>some (.int i)
 | .str x _=>some (.str x)
 | .bytes b _=>some (.byt b)
 | .float b _=>some (.flt b)
 | .ref a=>some (.ref a)
 | .type n=>some (.ty n)
 | _=>none
theorem RelV.abs {x:V}{u:Value}(r:RelV x u):absV u=some x:=by
 cases x with
 | non=>cases r;rfl
 | bl _=>cases r;rfl
 | int _=>obtain ⟨t,rfl⟩:=r;rfl
 | str _=>obtain ⟨t,rfl⟩:=r;rfl
 | byt _=>obtain ⟨t,rfl⟩:=r;rfl
 | flt _=>obtain ⟨t,rfl⟩:=r;rfl
 | ref _=>cases r;rfl
 | ty _=>cases r;rfl
theorem RelV.inj {x y:V}{u:Value}(r:RelV x u)(q:RelV y u):x=y:=Option.some.inj (r.abs.symm.trans q.abs)
theorem Vals.inj:∀{xs ys:List V} {us:List Value},Vals xs us→Vals ys us→xs=ys
 | _,_,_,.nil,.nil=>rfl
 | _,_,_,.cons r t,.cons r' t'=>by rw [r.inj r',Vals.inj t t']
section
variable {X:Cx}{pins:List (Addr×Obj)}{σ:St}{H:Hp}{s:Shared}{a:Addr}{xs ys:List V}
theorem SqL.of {K:Frag}(h:H a=some (.lst xs)):SqL K H a xs:=.inl (.inl h)
theorem SqT.of {K:Frag}(h:H a=some (.tup xs)):SqT K H a xs:=.inl (.inl h)
theorem Inv.list (I:Inv X pins σ H s)(h:SqL X.K H a xs):∃its:List Value,Vals xs its∧PlainL s.heap a its.toArray∧xs.length≤sizeLine:=by
 rcases h with h | ⟨o,its,n,hk,hc,hd,hs,hz,r⟩
 ·obtain ⟨z,its,n,r,e⟩:=h.ok I.hok
  exact ⟨its,r,⟨_,n,e,rfl,rfl,rfl⟩,z⟩
 ·refine ⟨its.toList,r,⟨o,n,I.kIn a o hk,hc,hd,by simpa using hs⟩,?_⟩
  have e:=r.length
  simp only [length_toList] at e
  omega
theorem Inv.tuple (I:Inv X pins σ H s)(h:SqT X.K H a xs):∃its:List Value,Vals xs its∧IsTup s.heap a its.toArray∧xs.length≤sizeLine:=by
 rcases h with h | ⟨o,its,n,hk,hc,hs,hz,r⟩
 ·obtain ⟨z,its,r,p⟩:=h.ok I.hok
  exact ⟨its,r,p,z⟩
 ·refine ⟨its.toList,r,⟨o,I.kIn a o hk,hc,n,by simpa using hs⟩,?_⟩
  have e:=r.length
  simp only [length_toList] at e
  omega
theorem Inv.list_inj (I:Inv X pins σ H s)(h:SqL X.K H a xs)(h':SqL X.K H a ys):xs=ys:=by
 obtain ⟨its,r,⟨o,n,e,_,_,d⟩,_⟩:=I.list h
 obtain ⟨its',r',⟨o',n',e',_,_,d'⟩,_⟩:=I.list h'
 rw [e] at e';cases e'
 rw [d] at d'
 injection d' with d1 _
 have:its=its':=by simpa using congrArg Array.toList d1
 subst this
 exact r.inj r'
end
noncomputable abbrev Cx.wish (X:Cx)(E:Value→Shared→Prop):Cx:={X with xe:=E}
noncomputable abbrev Cx.nox (X:Cx):Cx:=X.wish fun _ _=>False
theorem Cx.Ok.wish {X:Cx}(ok:X.Ok)(E:Value→Shared→Prop):(X.wish E).Ok:=
 ⟨ok.mod,ok.kind,ok.glob,ok.blt,ok.above,ok.inj,ok.has,ok.cab,ok.hd,ok.frames,ok.stk,ok.exf,ok.bs,ok.bsz,ok.noex,ok.exfs,ok.funs,ok.frf⟩
theorem Cx.Ok.unwish {X:Cx}{E:Value→Shared→Prop}(ok:(X.wish E).Ok):X.Ok:=
 ⟨ok.mod,ok.kind,ok.glob,ok.blt,ok.above,ok.inj,ok.has,ok.cab,ok.hd,ok.frames,ok.stk,ok.exf,ok.bs,ok.bsz,ok.noex,ok.exfs,ok.funs,ok.frf⟩
section
variable {X:Cx}{pins:List (Addr×Obj)}{σ:St}{H:Hp}{s:Shared}{E:Value→Shared→Prop}
theorem Inv.wish (I:Inv X pins σ H s)(E:Value→Shared→Prop):Inv (X.wish E) pins σ H s:=⟨I.ok.wish E,I.os,I.bare,I.base,I.loc,I.cell,I.free,I.freeC,I.pin,I.hok,I.len⟩
theorem Inv.unwish (I:Inv (X.wish E) pins σ H s):Inv X pins σ H s:=⟨I.ok.unwish,I.os,I.bare,I.base,I.loc,I.cell,I.free,I.freeC,I.pin,I.hok,I.len⟩
theorem SP.unwish {D:Ends}{f:Flow}{s':Shared}(h:SP (X.wish E) pins D f s'):SP X pins D f s':=by
 cases f with
 | next=>obtain ⟨σ',H',I,q⟩:=h;exact ⟨σ',H',I.unwish,q⟩
 | brk=>obtain ⟨σ',H',I,q⟩:=h;exact ⟨σ',H',I.unwish,q⟩
 | cont=>obtain ⟨σ',H',I,q⟩:=h;exact ⟨σ',H',I.unwish,q⟩
 | ret u=>obtain ⟨v,σ',H',I,r,q⟩:=h;exact ⟨v,σ',H',I.unwish,r,q⟩
theorem PSs.nox {st:List Stmt}{t:TS}(h:PSs X.nox st t):PSs X st t:=fun pins s σ H D I hw =>
 wpAny_mono (h pins s σ H D (I.wish _) hw) (fun _ _ q=>q.unwish) fun _ _ z=>False.elim z
end
section
variable {X:Cx}{st:Stmt}{rest:List Stmt}{t u:TS}{e:Expr}{te:TE}{pos:Pos}
def tNext:TS:=fun D σ H=>D.nx σ H
def tSeq (t u:TS):TS:=fun D σ H=>t {D with nx:=u D} σ H
theorem pss_nil:PSs X [] tNext:=fun _ _ σ H _ I h=>wpAny_execs_nil ⟨σ,H,I,h⟩
theorem pss_cons (h1:PS X st t)(h2:PSs X rest u):PSs X (st::rest) (tSeq t u):=by
 intro pins s σ H D I h
 refine wpAny_execs_cons (thn (h1 pins s σ H {D with nx:=u D} I h) fun f s1 q=>?_)
 cases f with
 | next =>
  obtain ⟨σ',H',I',q⟩:=q
  exact h2 pins s1 σ' H' D I' q
 | ret v=>exact q
 | brk=>exact q
 | cont=>exact q
theorem pss_one (h1:PS X st t):PSs X [st] t:=by
 intro pins s σ H D I h
 refine wpAny_execs_cons (thn (h1 pins s σ H D I h) fun f s1 q=>?_)
 cases f with
 | next=>exact wpAny_execs_nil q
 | ret v=>exact q
 | brk=>exact q
 | cont=>exact q
theorem Inv.quiet {pins:List (Addr×Obj)}{σ:St}{H:Hp}{s:Shared}(I:Inv X pins σ H s):interactive X.env=false:=by simp [interactive,I.ok.kind]
def tDrop (te:TE):TS:=fun D σ H=>te σ H fun _ H1=>D.nx σ H1
theorem ps_expr (he:PE X e te)(hs:swapsWith e none pos.line X.env=pure false:=by rfl):PS X (.Expr e pos) (tDrop te):=by
 intro pins s σ H D I h
 exact wpAny_Expr_any (thn (he pins s σ H _ I h) fun v s1 ⟨x,H1,I1,r1,q1⟩=>⟨σ,H1,I1,q1⟩) I.quiet hs
def tRet (te:TE):TS:=fun D σ H=>te σ H D.rt
theorem ps_ret (he:PE X e te):PS X (.Return (some e) pos) (tRet te):=by
 intro pins s σ H D I h
 exact wpAny_Return_some (thn (he pins s σ H _ I h) fun v s1 ⟨x,H1,I1,r1,q1⟩=>⟨x,σ,H1,I1,r1,q1⟩)
def tIfS (c:TT)(t u:TS):TS:=fun D σ H=>c σ H fun b H1=>if b=true then t D σ H1 else u D σ H1
theorem ps_if {c:Expr}{a b:List Stmt}{tc:TT}(hc:PT X c tc)(ha:PSs X a t)(hb:PSs X b u):PS X (.If c a b pos) (tIfS tc t u):=by
 intro pins s σ H D I h
 refine wpAny_If (thn (hc pins s σ H _ I h) fun d s1 ⟨H1,I1,q1⟩=>?_)
 cases d with
 | true=>exact ha pins s1 σ H1 D I1 q1
 | false=>exact hb pins s1 σ H1 D I1 q1
def tNever:TS:=fun _ _ _=>False
theorem ps_never:PS X st tNever:=fun _ _ _ _ _ _ h=>h.elim
end
noncomputable abbrev TG:=V→St→Hp→(St→Hp→Prop)→Prop
noncomputable abbrev TGs:=List V→St→Hp→(St→Hp→Prop)→Prop
def PG (X:Cx)(target:Expr)(t:TG):Prop:=
 ∀(pins:List (Addr×Obj)) (s:Shared) (σ:St) (H:Hp) (v:V) (u:Value) (Q:St→Hp→Prop),Inv X pins σ H s→RelV v u→t v σ H Q→
  wpAny (model X.prog X.w) X.A (assign target X.env u) (fun _ s'=>∃σ' H',Inv X pins σ' H' s'∧Q σ' H') X.xe s
def PGs (X:Cx)(ts:List Expr)(t:TGs):Prop:=
 ∀(pins:List (Addr×Obj)) (s:Shared) (σ:St) (H:Hp) (vs:List V) (us:List Value) (Q:St→Hp→Prop),Inv X pins σ H s→Vals vs us→t vs σ H Q→
  wpAny (model X.prog X.w) X.A (assignInOrder ((assignEach ts X.env).map (·.2)) us) (fun _ s'=>∃σ' H',Inv X pins σ' H' s'∧Q σ' H') X.xe s
noncomputable abbrev TSet:=V→V→V→Hp→(Hp→Prop)→Prop
def PSet (X:Cx)(t:TSet):Prop:=
 ∀(pins:List (Addr×Obj)) (s:Shared) (σ:St) (H:Hp) (o i v:V) (ov iv u:Value) (Q:Hp→Prop),Inv X pins σ H s→RelV o ov→RelV i iv→RelV v u→t o i v H Q→
  wpAny (model X.prog X.w) X.A (setItem ov iv u) (fun _ s'=>∃H',Inv X pins σ H' s'∧Q H') X.xe s
section
variable {X:Cx}{pos:Pos}
noncomputable def gName (i:Nat):TG:=fun v σ H Q=>Q (σ.set i (some v)) H
theorem pg_name {i:Nat}{x:Str}(hN:X.N.Nodup)(hi:X.N[i]?=some x)(hx:Loc X.env.scope x)(hf:autoParam (X.fn x=true∨X.env.scope.names.lookup x=some .local) aT0._auto_1):PG X (.Name x pos) (gName i):=by
 intro pins s σ H v u Q I r h
 exact wpAny_assign_Name (store_ok I hN hi hx r (fun s' I'=>⟨_,H,I',h⟩) hf)
noncomputable def gNil:TGs:=fun vs σ H Q=>vs=[]∧Q σ H
noncomputable def gCons (t:TG)(u:TGs):TGs:=fun vs σ H Q=>∃v r,vs=v::r∧t v σ H fun σ' H'=>u r σ' H' Q
theorem pgs_nil:PGs X [] gNil:=by
 intro pins s σ H vs us Q I r h
 obtain ⟨e,h⟩:=h
 subst e
 cases r
 exact assignInOrder_nil ⟨σ,H,I,h⟩
theorem pgs_cons {e:Expr}{es:List Expr}{t:TG}{u:TGs}(h1:PG X e t)(h2:PGs X es u)
  (hs:(assignEach (e::es) X.env).map (·.2)=assign e X.env::(assignEach es X.env).map (·.2):=by rfl):PGs X (e::es) (gCons t u):=by
 intro pins s σ H vs us Q I r h
 obtain ⟨v,vr,e1,h⟩:=h
 subst e1
 cases r with
 | cons r rr =>
  rw [hs]
  refine assignInOrder_cons (thn (h1 pins s σ H _ _ _ I r h) fun _ s1 hz9=>?_)
  obtain ⟨σ1,H1,I1,q1⟩:=hz9
  exact h2 pins s1 σ1 H1 _ _ Q I1 rr q1
noncomputable def gTup (K:Frag)(n:Nat)(t:TGs):TG:=fun v σ H Q=>∃a xs,v=.ref a∧SqT K H a xs∧xs.length=n∧t xs σ H Q
theorem pg_tup {es:List Expr}{k:Nat}{t:TGs}{n:Nat}(hc:X.calm=true)(h:PGs X es t)
  (hn:(assignEach es X.env).length=n:=by rfl) (hst:(assignEach es X.env).findIdx? (·.1)=none:=by rfl):PG X (.Tuple es k pos) (gTup X.K n t):=by
 intro pins s σ H v u Q I r hw
 obtain ⟨a,xs,e1,hq,hl,hw⟩:=hw
 subst e1
 cases r
 obtain ⟨its,rv,ht,hz⟩:=I.tuple hq
 refine assign_Tuple_tuple (I.ok.hd hc) ht (by simp [hn,← hl,rv.length]) hst fun h' hx=>?_
 have I1:Inv X pins σ H {s with heap:=h'}:=I.kept (t':=s.toks) fun b o e=>hx b o (ne_of_lt (lt_size e)) e
 exact h pins _ σ H xs _ Q I1 (by simpa using rv) hw
noncomputable def gSub (to ti:TE)(t:TSet):TG:=fun v σ H Q=>to σ H fun o H1=>ti σ H1 fun i H2=>t o i v H2 fun H3=>Q σ H3
theorem pg_sub {o i:Expr}{to ti:TE}{t:TSet}(ho:PE X o to)(hi:PE X i ti)(hs:PSet X t)
    (ha:∀v,assign (.Subscript o i pos) X.env v=(do
      let ov ← holding [v] (eval o X.env)
      let iv ← holding [v,ov] (eval i X.env)
      standAt pos
      holding [v,ov,iv] (setItem ov iv v)
      release [v,ov,iv] []):=by intro _;rfl):PG X (.Subscript o i pos) (gSub to ti t):=by
  intro pins s σ H v u Q I r h
  rw [ha]
  refine wpAny_bind (wpAny_holding (thn (ho pins s σ H _ I h) fun ov s1 hz9=>?_))
  obtain ⟨x,H1,I1,r1,q1⟩:=hz9
  refine wpAny_bind (wpAny_holding (thn (hi pins s1 σ H1 _ I1 q1) fun iv s2 hz9=>?_))
  obtain ⟨y,H2,I2,r2,q2⟩:=hz9
  refine wpAny_bind (wpAny_standAt (wpAny_bind (wpAny_holding (thn (hs pins s2 σ H2 x y v ov iv u _ I2 r1 r2 r q2) fun _ s3 ⟨H3,I3,q3⟩=>?_))))
  exact wpAny_release ⟨σ,H3,I3,q3⟩
def tAsg (te:TE)(g:TG):TS:=fun D σ H=>te σ H fun x H1=>g x σ H1 D.nx
theorem ps_asg {tg e:Expr}{te:TE}{g:TG}(he:PE X e te)(hg:PG X tg g)(hs:swapsWithSole [tg] e pos.line X.env=pure false:=by rfl)(hw:swappedStores [tg] e X.env=pure none:=by rfl)
  (h1:(assignEach [tg] X.env).map (·.2)=[assign tg X.env]:=by rfl):PS X (.Assign [tg] e pos) (tAsg te g):=by
 intro pins s σ H D I h
 refine wpAny_Assign_stores (thn (he pins s σ H _ I h) fun v s1 hz9=>?_) hs hw
 obtain ⟨x,H1,I1,r1,q1⟩:=hz9
 rw [h1]
 exact thn (hg pins s1 σ H1 x v _ I1 r1 q1) fun _ s2 q=>q
theorem ps_set {i:Nat}{x:Str}{e:Expr}{te:TE}{pos':Pos}(hN:X.N.Nodup)(hi:X.N[i]?=some x)(hx:Loc X.env.scope x)(he:PE X e te)(hs:swapsWith e (some (.Name x pos')) pos.line X.env=pure false:=by rfl)(hf:autoParam (X.fn x=true∨X.env.scope.names.lookup x=some .local) aT0._auto_1) :
  PS X (.Assign [.Name x pos'] e pos) (tAsg te (gName i)):=by
 intro pins s σ H D I h
 refine wpAny_Assign_Name (thn (he pins s σ H _ I h) fun v s1 hz9=>?_) hs
 obtain ⟨y,H1,I1,r1,q1⟩:=hz9
 exact store_ok I1 hN hi hx r1 (fun s2 I2=>⟨_,H1,I2,q1⟩) hf
end
structure It where
 go:Nat→Hp→Prop
 yld:Nat→Hp→V→Hp→Prop
 stop:Nat→Hp→Prop
def FpOk (X:Cx)(pins:List (Addr×Obj))(H:Hp)(b:Addr):Prop:=
 H b=none∧b≠X.env.locals∧b∉X.fs∧(b∈X.ex∨X.s₀.heap.objs.size≤b)∧(∀x c,X.env.cells.lookup x=some c→c≠b)∧∀p∈X.pn++pins,p.1≠b
theorem Inv.fpOk {X:Cx}{pins:List (Addr×Obj)}{σ:St}{H H':Hp}{s:Shared}{b:Addr}(I:Inv X pins σ H s)(hb:s.heap.objs.size≤b)(hn:H' b=none):FpOk X pins H' b:=by
 refine ⟨hn,Nat.ne_of_gt (lt_of_lt_of_le I.lt hb),I.nofs hb,.inr (le_trans I.sz hb),fun x c e z=>?_,fun p hp z=>?_⟩
 ·obtain ⟨v,q⟩:=I.cell x c e
  exact absurd (lt_of_lt_of_le q.lt (by rw [z];exact hb)) (lt_irrefl _)
 ·exact absurd (lt_of_lt_of_le (lt_size (I.pin p hp).1) (by rw [z];exact hb)) (lt_irrefl _)
structure Turn (P:Program)(w:World)(K:Frag)(tg:Expr)(J:It)(fp:List Addr)(it:Addr)(tn:Nat→Heap→Prop):Prop where
  mem:it∈fp
  obj:∀i h,tn i h→∀b∈fp,∃o,h.get? b=some o∧∀v,o.data≠.cell v
  keep:∀i h h',tn i h→(∀b∈fp,∀o,h.get? b=some o→h'.get? b=some o)→tn i h'
  item:∀(X:Cx),X.prog=P→X.w=w→X.K=K→X.calm=true→∀(i:Nat) (pins:List (Addr×Obj)) (s:Shared) (σ:St) (H:Hp) (E:Value→Shared→Prop),Inv X pins σ H s→(∀b∈fp,FpOk X pins H b)→tn i s.heap→J.go i H→
    wpAny (model P w) X.A (pyNext (.ref it)) (fun r s1=>∃u,r=some u∧
      wpAny (model P w) X.A (letOwnedTupleGo tg (.ref it) u) (fun _ s2=>∃x H',Inv X pins σ H' s2∧RelV x u∧J.yld i H x H'∧tn (i+1) s2.heap∧∀b∈fp,H' b=none) E s1) E s
  done:∀(X:Cx),X.prog=P→X.w=w→X.K=K→X.calm=true→∀(i:Nat) (pins:List (Addr×Obj)) (s:Shared) (σ:St) (H:Hp) (E:Value→Shared→Prop),Inv X pins σ H s→(∀b∈fp,FpOk X pins H b)→tn i s.heap→J.stop i H→
    wpAny (model P w) X.A (pyNext (.ref it)) (fun r s1=>r=none∧Inv X pins σ H s1) E s
  self:∀(A:Around) (i:Nat) (s:Shared) (Q:Value→Shared→Prop) (E:Value→Shared→Prop),tn i s.heap→Q (.ref it) s→wpAny (model P w) A (pyIter (.ref it)) Q E s
noncomputable abbrev TI:=St→Hp→(It→Hp→Prop)→Prop
def PIE (X:Cx)(pins:List (Addr×Obj))(σ:St)(tg:Expr)(R:It→Hp→Prop)(itv:Value)(s2:Shared):Prop:=
 ∃(it:Addr) (fp:List Addr) (tn:Nat→Heap→Prop) (J:It) (H':Hp),itv=.ref it∧Inv X pins σ H' s2∧Turn X.prog X.w X.K tg J fp it tn∧tn 0 s2.heap∧(∀b∈fp,FpOk X pins H' b)∧R J H'
def PI (X:Cx)(tg iter:Expr)(wi:TI):Prop:=
 ∀(pins:List (Addr×Obj)) (s:Shared) (σ:St) (H:Hp) (R:It→Hp→Prop),Inv X pins σ H s→wi σ H R→
  wpAny (model X.prog X.w) X.A (eval iter X.env) (fun v s1=>wpAny (model X.prog X.w) X.A (pyIter v) (PIE X pins σ tg R) X.xe s1) X.xe s
theorem go_of {M:Model}{A:Around}{E:Value→Shared→Prop}{s:Shared}{tg:Expr}{it:Addr}{u:Value}{o:Obj}{n:String}{vs:Array Value}{Q:Unit→Shared→Prop}(ho:s.heap.get? it=some o)(hc:o.cls=.type n)(hd:o.data=.fields vs)
    (hn:["enumerate","zip","dict_itemiterator","dict_reverseitemiterator","odict_iterator","itertools.zip_longest","itertools.pairwise"].contains n=false) (hQ:Q () s):wpAny M A (letOwnedTupleGo tg (.ref it) u) Q E s:=by
  unfold letOwnedTupleGo
  cases tg<;>first
    | exact wpAny_pure hQ
    | (cases u<;>first
        | exact wpAny_pure hQ
        | (refine wpAny_bind (wpAny_load ho ?_)
           rw [hc,hd]
           show wpAny M A (if (["enumerate","zip","dict_itemiterator","dict_reverseitemiterator","odict_iterator","itertools.zip_longest","itertools.pairwise"].contains n&&vs[0]?==some (rawInt _))=true then _ else _) Q E s
           rw [if_neg (by intro h;rw [hn,Bool.false_and] at h;cases h)]
           exact wpAny_pure hQ))
noncomputable def Itl (K:Frag)(a:Addr):It:=
 ⟨fun i H=>∃xs x,SqL K H a xs∧xs[i]?=some x,fun i H x H'=>H'=H∧∀xs,SqL K H a xs→xs[i]?=some x,fun i H=>∃xs,SqL K H a xs∧xs.length≤i⟩
noncomputable def Itr (lo:Int)(n:Nat):It:=⟨fun i _=>i<n,fun i H x H'=>H'=H∧x=.int (lo+i),fun i _=>n≤i⟩
theorem turn_list {P:Program}{w:World}{K:Frag}{tg:Expr}(a it:Addr):Turn P w K tg (Itl K a) [it] it (fun i h=>h.IsListIter it a i) where
 mem:=by simp
 obj:=fun i h st b hb=>by
  have e:b=it:=by simpa using hb
  subst e
  obtain ⟨o,e,c,d⟩:=st
  exact ⟨o,e,fun v z=>by rw [d] at z;cases z⟩
 keep:=fun i h h' st k=>st.at fun o e=>k it (by simp) o e
 item:=by
  intro X hP hw hK hc i pins s σ H E I hf st hg
  subst hP hw hK
  obtain ⟨xs,x,hq,hx⟩:=hg
  obtain ⟨its,rv,p,hz⟩:=I.list hq
  obtain ⟨u,hu,ru⟩:=rv.get hx
  obtain ⟨f0,f1,f2,f3,f4,f5⟩:=hf it (by simp)
  refine wpAny_pyNext_list_item st p.isList (x:=u) (by simpa using hu) fun h' st' sb=>?_
  have I1:Inv X pins σ H {s with heap:=h'}:=I.turned (t':=s.toks) (fun b o hb e=>(sb.2 b hb).trans e) f0 f1 f3 f4 f5
  obtain ⟨o,e,c,d⟩:=id st'
  exact ⟨u,rfl,go_of (s:={s with heap:=h'}) e c d (by decide) ⟨x,H,I1,ru,⟨rfl,fun ys hy=>by rw [I.list_inj hy hq];exact hx⟩,st',fun b hb=>(hf b hb).1⟩⟩
 done:=by
  intro X hP hw hK hc i pins s σ H E I hf st hg
  subst hP hw hK
  obtain ⟨xs,hq,hx⟩:=hg
  obtain ⟨its,rv,p,hz⟩:=I.list hq
  obtain ⟨f0,f1,f2,f3,f4,f5⟩:=hf it (by simp)
  have hl:=rv.length
  exact wpAny_pyNext_list_end (I.ok.hd hc) st p.isList (by simp;omega) fun h' eb=>⟨rfl,I.turned (t':=s.toks) (fun b o hb e=>eb b o hb e) f0 f1 f3 f4 f5⟩
 self:=fun _ _ _ _ _ st h=>wpAny_pyIter_listiter st h
theorem turn_range {P:Program}{w:World}{K:Frag}{tg:Expr}(it:Addr)(lo:Int)(n:Nat):Turn P w K tg (Itr lo n) [it] it (fun i h=>IsRangeIter h it (lo+(i:Nat)*1) ((n:Int) - (i:Nat)) 1) where
  mem:=by simp
  obj:=fun i h st b hb=>by
    have e:b=it:=by simpa using hb
    subst e
    exact ⟨_,st,fun v z=>by
      have z':Data.fields _=Data.cell v:=z
      cases z'⟩
  keep:=fun i h h' st k=>k it (by simp) _ st
  item:=by
    intro X hP hw hK hc i pins s σ H E I hf st hg
    subst hP hw hK
    obtain ⟨f0,f1,f2,f3,f4,f5⟩:=hf it (by simp)
    have W:=Walks.range (prog:=X.prog) (w:=X.w) (I.ok.hd hc) it lo 1 n
    refine W.item i s _ _ hg st fun v h' tk hv st' kk=>?_
    obtain ⟨t,rfl⟩:=hv
    have I1:Inv X pins σ H {s with heap:=h',toks:=tk}:=I.turned (fun b o hb e=>kk b o (by simpa using hb) e) f0 f1 f3 f4 f5
    refine ⟨_,rfl,go_of (s:={s with heap:=h',toks:=tk}) (n:="range_iterator") st' rfl rfl (by decide) ⟨.int (lo+i),H,I1,⟨t,?_⟩,⟨rfl,rfl⟩,st',fun b hb=>(hf b hb).1⟩⟩
    rw [Int.mul_one]
  done:=by
    intro X hP hw hK hc i pins s σ H E I hf st hg
    subst hP hw hK
    obtain ⟨f0,f1,f2,f3,f4,f5⟩:=hf it (by simp)
    exact wpAny_pyNext_range_end (I.ok.hd hc) st (by have:n≤i:=hg;omega) fun h' eb=>⟨rfl,I.turned (t':=s.toks) (fun b o hb e=>eb b o hb e) f0 f1 f3 f4 f5⟩
  self:=fun _ _ _ _ _ st h=>wpAny_pyIter_rangeiter st h
section
variable {X:Cx}{tg:Expr}
noncomputable def iList (K:Frag)(tl:TE):TI:=fun σ H R=>tl σ H fun x H1=>∃a,x=.ref a∧(∃xs,SqL K H1 a xs)∧R (Itl K a) H1
theorem pi_list {l:Expr}{tl:TE}(hl:PE X l tl):PI X tg l (iList X.K tl):=by
 intro pins s σ H R I h
 refine thn (hl pins s σ H _ I h) fun v s1 hz9=>?_
 obtain ⟨x,H1,I1,r1,q1⟩:=hz9
 obtain ⟨a,e,⟨xs,hq⟩,q⟩:=q1
 subst e
 cases r1
 obtain ⟨its,rv,p,hz⟩:=I1.list hq
 refine wpAny_pyIter_list p.isList ?_
 refine ⟨s1.heap.objs.size,[s1.heap.objs.size],_,_,H1,rfl,I1.kept (t':=s1.toks) fun b o e=>get?_push_of_some _ e,turn_list a _,⟨_,get?_push_size _ rfl,rfl,rfl⟩,fun b hb=>?_,q⟩
 have e:b=s1.heap.objs.size:=by simpa using hb
 subst e
 exact I1.fpOk (le_refl _) (I1.hok.fresh (le_refl _))
theorem range_it {pins:List (Addr×Obj)}{σ:St}{H:Hp}{s:Shared}{R:It→Hp→Prop}{E:Value→Shared→Prop}{lo hi:Int}{t u v:Tok}{tk:Nat}(I:Inv X pins σ H s)(h1:-(2 ^ 62)≤lo)(h2:lo<2 ^ 62)(h3:-(2 ^ 62)≤hi)(h4:hi<2 ^ 62)
    (q:R (Itr lo (hi - lo).toNat) H):wpAny (model X.prog X.w) X.A (pyIter (.ref s.heap.objs.size)) (PIE X pins σ tg R) E {s with heap:=s.heap.push {cls:=.type "range",data:=.fields #[.int lo t,.int hi u,.int 1 v]},toks:=tk}:=by
  refine wpAny_pyIter_range (IsRange.new ..) (small_one h1 h2 h3 h4) ?_
  have I1:Inv X pins σ H {s with heap:=s.heap.push {cls:=.type "range",data:=.fields #[.int lo t,.int hi u,.int 1 v]},toks:=tk}:=I.kept fun b o e=>get?_push_of_some _ e
  refine ⟨(s.heap.push {cls:=.type "range",data:=.fields #[.int lo t,.int hi u,.int 1 v]}).objs.size,[(s.heap.push {cls:=.type "range",data:=.fields #[.int lo t,.int hi u,.int 1 v]}).objs.size],_,_,H,rfl,
    I1.kept (t':=tk) fun b o e=>get?_push_of_some _ e,turn_range _ lo (hi - lo).toNat,?_,fun b hb=>?_,q⟩
  · have e1:lo+((0:Nat):Int)*1=lo:=by simp
    have e2:(((hi - lo).toNat:Nat):Int) - ((0:Nat):Int)=Builtin.Range.rangeSize lo hi 1:=by rw [rangeSize_one];split<;>omega
    show IsRangeIter _ _ (lo+((0:Nat):Int)*1) ((((hi - lo).toNat:Nat):Int) - ((0:Nat):Int)) 1
    rw [e1,e2]
    exact get?_push_size _ rfl
  · have e:b=(s.heap.push {cls:=.type "range",data:=.fields #[.int lo t,.int hi u,.int 1 v]}).objs.size:=by simpa using hb
    subst e
    exact I1.fpOk (le_refl _) (I1.hok.fresh (le_refl _))
noncomputable def iRng1 (ta:TA):TI:=fun σ H R=>ta σ H fun vs H1=>∃j:Int,vs=[.int j]∧-(2 ^ 62)≤j∧j<2 ^ 62∧R (Itr 0 j.toNat) H1
theorem pi_range1 {a:Expr}{ta:TA}{p pos:Pos}(hg:Gl X "range")(hm:X.mg "range"=none)(ha:PA X [a] ta)(hs:starEach [a] X.env=[(false,eval a X.env)]:=by rfl):PI X tg (.Call (.Name "range" p) [a] [] pos) (iRng1 ta):=by
 intro pins s σ H R I h
 refine Call_ (ld_blt I hg hm boot_range (PyProof.Rows.callWith_type1 (thn (ha pos pins s σ H _ I h) fun us s1 hz9=>?_) hs rfl))
 obtain ⟨vs,H1,I1,r1,q1⟩:=hz9
 obtain ⟨j,e,q1,q2,q⟩:=q1
 subst e
 cases r1 with
 | cons r rr =>
  cases rr
  obtain ⟨t,rfl⟩:=r
  exact call_range_1 (range_it I1 (by omega) (by omega) q1 q2 (by simpa using q))
def tFor (wi:TI)(g:TG)(tb:TS):TS:=fun D σ H=>wi σ H fun J H1=>∃W:Nat→Nat→St→Hp→Prop,(∃m,W 0 m σ H1)∧∀i m σ H,W i m σ H→
 (J.stop i H∧D.nx σ H)∨(J.go i H∧∃N:St→Hp→Prop,(∀σ' H',N σ' H'→∃m',m'<m∧W (i+1) m' σ' H')∧∀x H',J.yld i H x H'→g x σ H' fun σ2 H2=>tb {D with nx:=N,ct:=N,bk:=D.nx} σ2 H2)
noncomputable def pinsAt (fp:List Addr)(h:Heap):List (Addr×Obj):=fp.filterMap fun b=>(h.get? b).map fun o=>(b,o)
theorem mem_pinsAt {fp:List Addr}{h:Heap}{b:Addr}{o:Obj}(hb:b∈fp)(e:h.get? b=some o):(b,o)∈pinsAt fp h:=List.mem_filterMap.mpr ⟨b,hb,by rw [e];rfl⟩
theorem of_pinsAt {fp:List Addr}{h:Heap}{p:Addr×Obj}(hp:p∈pinsAt fp h):p.1∈fp∧h.get? p.1=some p.2:=by
 obtain ⟨b,hb,e⟩:=List.mem_filterMap.mp hp
 cases q:h.get? b with
 | none=>rw [q] at e;cases e
 | some o =>
  rw [q] at e
  have e':(b,o)=p:=Option.some.inj e
  subst e'
  exact ⟨hb,q⟩
theorem Inv.pinned {pins:List (Addr×Obj)}{σ:St}{H:Hp}{s:Shared}{fp:List Addr}(I:Inv X pins σ H s)(hf:∀b∈fp,FpOk X pins H b)(ho:∀b∈fp,∃o,s.heap.get? b=some o∧∀v,o.data≠.cell v):Inv X (pins++pinsAt fp s.heap) σ H s:=
 I.pins_of fun p hp=>(List.mem_append.mp hp).elim (fun z=>I.pin p (mem_append_right _ z)) fun z=>by
  obtain ⟨hb,e⟩:=of_pinsAt z
  obtain ⟨f0,f1,f2,_⟩:=hf p.1 hb
  obtain ⟨o,e',d⟩:=ho p.1 hb
  rw [e] at e';cases e'
  exact ⟨e,f0,f1,f2,d⟩
theorem Inv.unpinned {pins pl:List (Addr×Obj)}{σ:St}{H:Hp}{s:Shared}(I:Inv X (pins++pl) σ H s):Inv X pins σ H s:=I.pins_of fun p hp=>I.pin p (mem_append_right _ (mem_append_left _ hp))
theorem ps_for {iter:Expr}{body:List Stmt}{wi:TI}{g:TG}{tb:TS}{pos:Pos}(hp:PassesOwn (model X.prog X.w) X.A X.env X.xe)(hc:X.calm=true)(hi:PI X tg iter wi)(hg:PG X tg g)(hb:PSs X body tb)
  (hs:∀x,foldedSetIterable iter X.env x=pure x:=by intro _;rfl):PS X (.For tg iter body [] pos) (tFor wi g tb):=by
 intro pins s σ H D I h
 refine wpAny_For (thn (hi pins s σ H _ I h) fun v s1 h1=>thn h1 fun itv s2 h2=>?_) hs
 obtain ⟨it,fp,tn,J,H2,e,I2,T,st2,f2,W,⟨m0,w0⟩,turn⟩:=h2
 subst e
 have stat:∀{H':Hp},(∀b∈fp,H' b=none)→∀b∈fp,FpOk X pins H' b:=fun hn b hb=>⟨hn b hb,(f2 b hb).2⟩
 refine codeAny_forLoop_any (fun n s'=>∃i σ' H',Inv X pins σ' H' s'∧tn i s'.heap∧(∀b∈fp,H' b=none)∧W i n σ' H') ?_ m0 ⟨0,σ,H2,I2,st2,fun b hb=>(f2 b hb).1,w0⟩
 rintro n s3 ⟨i,σ3,H3,I3,st3,fr3,w3⟩
 rcases turn i n σ3 H3 w3 with ⟨stop,qn⟩ | ⟨go,N,hN,step⟩
 ·refine wpAny_passesOwn hp (thn (T.done X rfl rfl rfl hc i pins s3 σ3 H3 X.xe I3 (stat fr3) st3 stop) fun r s4 ⟨hr,I4⟩=>?_)
  subst hr
  exact wpAny_execs_nil ⟨σ3,H3,I4,qn⟩
 ·refine wpAny_passesOwn hp (thn (T.item X rfl rfl rfl hc i pins s3 σ3 H3 X.xe I3 (stat fr3) st3 go) fun r s4 ⟨u,hr,h4⟩=>?_)
  subst hr
  refine wpAny_passesOwn hp (thn h4 fun _ s5 hz9=>?_)
  obtain ⟨x,H5,I5,r5,y5,st5,fr5⟩:=hz9
  have I5':=I5.pinned (stat fr5) (T.obj _ _ st5)
  refine wpAny_passesOwn hp (thn (hg _ s5 σ3 H5 x u _ I5' r5 (step x H5 y5)) fun _ s6 hz9=>?_)
  obtain ⟨σ6,H6,I6,q6⟩:=hz9
  refine wpAny_passesOwn hp (thn (hb _ s6 σ6 H6 _ I6 q6) fun f s7 q7=>?_)
  have again:∀{σ7:St} {H7:Hp},Inv X (pins++pinsAt fp s5.heap) σ7 H7 s7→N σ7 H7→∃m,m<n∧∃i σ' H',Inv X pins σ' H' s7∧tn i s7.heap∧(∀b∈fp,H' b=none)∧W i m σ' H':=fun {σ7 H7} I7 n7=>by
   obtain ⟨m',hm,w7⟩:=hN σ7 H7 n7
   refine ⟨m',hm,i+1,σ7,H7,I7.unpinned,T.keep _ _ _ st5 fun b hb o e=>(I7.pin (b,o) (mem_append_right _ (mem_append_right _ (mem_pinsAt hb e)))).1,fun b hb=>?_,w7⟩
   obtain ⟨o,e,d⟩:=T.obj _ _ st5 b hb
   exact (I7.pin (b,o) (mem_append_right _ (mem_append_right _ (mem_pinsAt hb e)))).2.1
  cases f with
  | next=>obtain ⟨σ7,H7,I7,n7⟩:=q7;exact again I7 n7
  | cont=>obtain ⟨σ7,H7,I7,n7⟩:=q7;exact again I7 n7
  | brk=>obtain ⟨σ7,H7,I7,q7⟩:=q7;exact ⟨σ7,H7,I7.unpinned,q7⟩
  | ret v=>obtain ⟨x7,σ7,H7,I7,r7,q7⟩:=q7;exact ⟨x7,σ7,H7,I7.unpinned,r7,q7⟩
end
noncomputable abbrev R2:=V→V→Hp→VK→Prop
def OpR (X:Cx)(f:Value→Value→Sem Value)(r:R2):Prop:=
 ∀(pins:List (Addr×Obj)) (s:Shared) (σ:St) (H:Hp) (x y:V) (v u:Value) (Q:VK),Inv X pins σ H s→RelV x v→RelV y u→r x y H Q→
  wpAny (model X.prog X.w) X.A (f v u) (EP X pins σ Q) X.xe s
def CallR (X:Cx)(f:Value)(r:List V→Hp→VK→Prop):Prop:=
 ∀(pins:List (Addr×Obj)) (s:Shared) (σ:St) (H:Hp) (xs:List V) (us:List Value) (Q:VK),Inv X pins σ H s→Vals xs us→r xs H Q→
  wpAny (model X.prog X.w) X.A (call f us) (EP X pins σ Q) X.xe s
def tOp (r:R2)(ta tb:TE):TE:=fun σ H Q=>ta σ H fun x H1=>tb σ H1 fun y H2=>r x y H2 Q
noncomputable def rI (C:Int→Int→Prop)(g:Int→Int→V):R2:=fun x y H Q=>∃i j,x=.int i∧y=.int j∧C i j∧Q (g i j) H
noncomputable def rI0 (g:Int→Int→V):R2:=fun x y H Q=>∃i j,x=.int i∧y=.int j∧Q (g i j) H
section
variable {X:Cx}{a b c:Expr}{ta tb tc:TE}{pos:Pos}
theorem binT (ha:PE X a ta)(hb:PE X b tb){pins:List (Addr×Obj)}{s:Shared}{σ:St}{H:Hp}{R:V→V→Hp→Prop}(I:Inv X pins σ H s)
  (h:ta σ H fun x H1=>tb σ H1 fun y H2=>R x y H2) {Q:Value→Shared→Prop} {f:Value→Value→Sem Value}
  (hf:∀v u s2 x y H2,Inv X pins σ H2 s2→RelV x v→RelV y u→R x y H2→wpAny (model X.prog X.w) X.A (f v u) Q X.xe s2) :
  wpAny (model X.prog X.w) X.A (eval a X.env) (fun v s₁=>wpAny (model X.prog X.w) X.A (eval b X.env) (fun u s₂=>wpAny (model X.prog X.w) X.A (f v u) Q X.xe s₂) X.xe s₁) X.xe s:=by
 refine thn (ha pins s σ H _ I h) fun v s1 hz9=>?_
 obtain ⟨x,H1,I1,r1,q1⟩:=hz9
 refine thn (hb pins s1 σ H1 _ I1 q1) fun u s2 hz9=>?_
 obtain ⟨y,H2,I2,r2,q2⟩:=hz9
 exact hf v u s2 x y H2 I2 r1 r2 q2
theorem pe_op {op:Operator}{r:R2}(ho:OpR X (binaryOp op) r)(ha:PE X a ta)(hb:PE X b tb):PE X (.BinOp a op b pos) (tOp r ta tb):=by
 intro pins s σ H Q I h
 exact wpAny_BinOp (binT ha hb I h fun v u s2 x y H2 I2 rx ry q=>ho pins s2 σ H2 x y v u Q I2 rx ry q)
theorem opI {f:Value→Value→Sem Value}{C:Int→Int→Prop}{g:Int→Int→Int}
  (rule:∀(i j:Int) (t u:Tok) (s:Shared) (Q:Value→Shared→Prop) (E:Value→Shared→Prop),C i j→Q (.int (g i j) s.toks) {s with toks:=s.toks+1}→wpAny (model X.prog X.w) X.A (f (.int i t) (.int j u)) Q E s) :
  OpR X f (rI C fun i j=>.int (g i j)):=by
 intro pins s σ H x y v u Q I rx ry h
 obtain ⟨i,j,rfl,rfl,hc,q⟩:=h
 obtain ⟨t,rfl⟩:=rx
 obtain ⟨t',rfl⟩:=ry
 exact rule i j t t' s _ _ hc ⟨.int (g i j),H,I.tok _,⟨_,rfl⟩,q⟩
theorem opI0 {f:Value→Value→Sem Value}{g:Int→Int→Int}
  (rule:∀(i j:Int) (t u:Tok) (s:Shared) (Q:Value→Shared→Prop) (E:Value→Shared→Prop),Q (.int (g i j) s.toks) {s with toks:=s.toks+1}→wpAny (model X.prog X.w) X.A (f (.int i t) (.int j u)) Q E s) :
  OpR X f (rI0 fun i j=>.int (g i j)):=by
 intro pins s σ H x y v u Q I rx ry h
 obtain ⟨i,j,rfl,rfl,q⟩:=h
 obtain ⟨t,rfl⟩:=rx
 obtain ⟨t',rfl⟩:=ry
 exact rule i j t t' s _ _ ⟨.int (g i j),H,I.tok _,⟨_,rfl⟩,q⟩
theorem opB0 {f:Value→Value→Sem Value}{g:Int→Int→Bool}
  (rule:∀(i j:Int) (t u:Tok) (s:Shared) (Q:Value→Shared→Prop) (E:Value→Shared→Prop),Q (.bool (g i j)) s→wpAny (model X.prog X.w) X.A (f (.int i t) (.int j u)) Q E s) :
  OpR X f (rI0 fun i j=>.bl (g i j)):=by
 intro pins s σ H x y v u Q I rx ry h
 obtain ⟨i,j,rfl,rfl,q⟩:=h
 obtain ⟨t,rfl⟩:=rx
 obtain ⟨t',rfl⟩:=ry
 exact rule i j t t' s _ _ ⟨.bl (g i j),H,I,rfl,q⟩
def CPow (i j:Int):Prop:=0≤j∧j≤1000000∧i.natAbs<2 ^ 64
def CMul (i j:Int):Prop:=(-(2 ^ 64)<i∧i<2 ^ 64)∨(-(2 ^ 64)<j∧j<2 ^ 64)
theorem CMul.ok {i j:Int}(h:CMul i j):IntMulOk i j:=by
 rcases h with ⟨h1,h2⟩ | ⟨h1,h2⟩
 ·exact .of_left (intBits_le_64 h1 h2)
 ·exact .of_right (intBits_le_64 h1 h2)
theorem op_add:OpR X (binaryOp .Add) (rI0 fun i j=>.int (i+j)):=opI0 fun _ _ _ _ _ _ _ q=>add_int q
theorem op_sub:OpR X (binaryOp .Sub) (rI0 fun i j=>.int (i - j)):=opI0 fun _ _ _ _ _ _ _ q=>sub_int q
theorem op_mul:OpR X (binaryOp .Mult) (rI CMul fun i j=>.int (i*j)):=opI fun _ _ _ _ _ _ _ hc q=>mul_int q hc.ok
theorem op_mod:OpR X (binaryOp .Mod) (rI (fun _ j=>0<j) fun i j=>.int (i % j)):=opI fun i j _ _ _ _ _ hc q=>by
 have h1:(0:Int)<j:=hc
 exact mod_int' (by omega) (by rw [Int.fmod_eq_emod_of_nonneg i (by omega)];exact q)
theorem op_pow:OpR X (binaryOp .Pow) (rI CPow fun i j=>.int (i ^ j.toNat)):=opI fun _ _ _ _ _ _ _ hc q=>pow_int_small hc.1 hc.2.1 hc.2.2 q
end
noncomputable def scal:V→V→Bool
 | .non,.non=>true | .non,.int _=>true | .int _,.non=>true | .non,.bl _=>true | .bl _,.non=>true | .non,.str _=>true | .str _,.non=>true
 | .int _,.int _=>true | .bl _,.bl _=>true | .str _,.str _=>true | .byt _,.byt _=>true
 | .int _,.str _=>true | .str _,.int _=>true | .bl _,.str _=>true | .str _,.bl _=>true
 | _,_=>false
noncomputable def rEq:R2:=fun x y H Q=>scal x y=true∧Q (.bl (decide (x=y))) H
noncomputable def rNe:R2:=fun x y H Q=>scal x y=true∧Q (.bl (!decide (x=y))) H
theorem dec_int {i j:Int}:decide (V.int i=V.int j)=(i==j):=by
 rw [Bool.eq_iff_iff]
 simp
theorem dec_bl {i j:Bool}:decide (V.bl i=V.bl j)=(i==j):=by
 rw [Bool.eq_iff_iff]
 simp
theorem dec_str {i j:Str}:decide (V.str i=V.str j)=(i==j):=by
 rw [Bool.eq_iff_iff]
 simp
theorem dec_byt {i j:Array UInt8}:decide (V.byt i=V.byt j)=(i.toList==j.toList):=by
 rw [Bool.eq_iff_iff]
 cases i
 cases j
 simp
section
variable {X:Cx}{a b c:Expr}{ta tb tc:TE}{pos:Pos}
theorem fin_bl {pins:List (Addr×Obj)}{σ:St}{H:Hp}{s:Shared}{Q:VK}{k k':Bool}(I:Inv X pins σ H s)(q:Q (.bl k) H)(e:k=k'):EP X pins σ Q (.bool k') s:=by
 subst e
 exact ⟨.bl k,H,I,rfl,q⟩
theorem op_eq:OpR X (compareOp .Eq) rEq:=by
 intro pins s σ H x y v u Q I rx ry h
 obtain ⟨hs,q⟩:=h
 cases x with
 | non =>
  cases rx
  cases y with
  | non=>cases ry;exact PySem.EqNone.eq_none_none (fin_bl I q (by simp))
  | bl j=>cases ry;exact PySem.EqNone.eq_none_bool (fin_bl I q (by simp))
  | int j=>obtain ⟨t',rfl⟩:=ry;exact PySem.EqNone.eq_none_int (fin_bl I q (by simp))
  | str j=>obtain ⟨t',rfl⟩:=ry;exact PySem.EqNone.eq_none_str (fin_bl I q (by simp))
  | _=>exact absurd (show false=true from hs) Bool.false_ne_true
 | bl i =>
  cases rx
  cases y with
  | non=>cases ry;exact PySem.EqNone.eq_bool_none (fin_bl I q (by simp))
  | bl j=>cases ry;exact eq_bool (fin_bl I q dec_bl)
  | str j=>obtain ⟨t',rfl⟩:=ry;exact PySem.EqMixed.eq_bool_str (fin_bl I q (by simp))
  | _=>exact absurd (show false=true from hs) Bool.false_ne_true
 | int i =>
  obtain ⟨t,rfl⟩:=rx
  cases y with
  | non=>cases ry;exact PySem.EqNone.eq_int_none (fin_bl I q (by simp))
  | int j=>obtain ⟨t',rfl⟩:=ry;exact eq_int (fin_bl I q dec_int)
  | str j=>obtain ⟨t',rfl⟩:=ry;exact PySem.EqMixed.eq_int_str (fin_bl I q (by simp))
  | _=>exact absurd (show false=true from hs) Bool.false_ne_true
 | str i =>
  obtain ⟨t,rfl⟩:=rx
  cases y with
  | non=>cases ry;exact PySem.EqNone.eq_str_none (fin_bl I q (by simp))
  | bl j=>cases ry;exact PySem.EqMixed.eq_str_bool (fin_bl I q (by simp))
  | int j=>obtain ⟨t',rfl⟩:=ry;exact PySem.EqMixed.eq_str_int (fin_bl I q (by simp))
  | str j=>obtain ⟨t',rfl⟩:=ry;exact eq_str (fin_bl I q dec_str)
  | _=>exact absurd (show false=true from hs) Bool.false_ne_true
 | byt i =>
  obtain ⟨t,rfl⟩:=rx
  cases y with
  | byt j=>obtain ⟨t',rfl⟩:=ry;exact PySem.W.eq_bytes (fin_bl I q dec_byt)
  | _=>exact absurd (show false=true from hs) Bool.false_ne_true
 | _=>cases y<;>exact absurd (show false=true from hs) Bool.false_ne_true
theorem op_ne:OpR X (compareOp .NotEq) rNe:=by
 intro pins s σ H x y v u Q I rx ry h
 obtain ⟨hs,q⟩:=h
 cases x with
 | non =>
  cases rx
  cases y with
  | non=>cases ry;exact PySem.EqNone.ne_none_none (fin_bl I q (by simp))
  | bl j=>cases ry;exact PySem.EqNone.ne_none_bool (fin_bl I q (by simp))
  | int j=>obtain ⟨t',rfl⟩:=ry;exact PySem.EqNone.ne_none_int (fin_bl I q (by simp))
  | str j=>obtain ⟨t',rfl⟩:=ry;exact PySem.EqNone.ne_none_str (fin_bl I q (by simp))
  | _=>exact absurd (show false=true from hs) Bool.false_ne_true
 | bl i =>
  cases rx
  cases y with
  | non=>cases ry;exact PySem.EqNone.ne_bool_none (fin_bl I q (by simp))
  | bl j=>cases ry;exact ne_bool (fin_bl I q (congrArg not dec_bl))
  | str j=>obtain ⟨t',rfl⟩:=ry;exact PySem.EqMixed.ne_bool_str (fin_bl I q (by simp))
  | _=>exact absurd (show false=true from hs) Bool.false_ne_true
 | int i =>
  obtain ⟨t,rfl⟩:=rx
  cases y with
  | non=>cases ry;exact PySem.EqNone.ne_int_none (fin_bl I q (by simp))
  | int j=>obtain ⟨t',rfl⟩:=ry;exact ne_int (fin_bl I q (congrArg not dec_int))
  | str j=>obtain ⟨t',rfl⟩:=ry;exact PySem.EqMixed.ne_int_str (fin_bl I q (by simp))
  | _=>exact absurd (show false=true from hs) Bool.false_ne_true
 | str i =>
  obtain ⟨t,rfl⟩:=rx
  cases y with
  | non=>cases ry;exact PySem.EqNone.ne_str_none (fin_bl I q (by simp))
  | bl j=>cases ry;exact PySem.EqMixed.ne_str_bool (fin_bl I q (by simp))
  | int j=>obtain ⟨t',rfl⟩:=ry;exact PySem.EqMixed.ne_str_int (fin_bl I q (by simp))
  | str j=>obtain ⟨t',rfl⟩:=ry;exact ne_str (fin_bl I q (congrArg not dec_str))
  | _=>exact absurd (show false=true from hs) Bool.false_ne_true
 | byt i =>
  obtain ⟨t,rfl⟩:=rx
  cases y with
  | byt j=>obtain ⟨t',rfl⟩:=ry;exact PySem.W.ne_bytes (fin_bl I q (congrArg not dec_byt))
  | _=>exact absurd (show false=true from hs) Bool.false_ne_true
 | _=>cases y<;>exact absurd (show false=true from hs) Bool.false_ne_true
theorem op_lt:OpR X (compareOp .Lt) (rI0 fun i j=>.bl (decide (i<j))):=opB0 fun _ _ _ _ _ _ _ q=>lt_int q
theorem op_le:OpR X (compareOp .LtE) (rI0 fun i j=>.bl (decide (i≤j))):=opB0 fun _ _ _ _ _ _ _ q=>le_int q
theorem op_gt:OpR X (compareOp .Gt) (rI0 fun i j=>.bl (decide (j<i))):=opB0 fun _ _ _ _ _ _ _ q=>gt_int q
theorem OpR.or {f:Value→Value→Sem Value}{r r':R2}(h:OpR X f r)(h':OpR X f r'):OpR X f (fun x y H Q=>r x y H Q∨r' x y H Q):=by
 intro pins s σ H x y v u Q I rx ry q
 rcases q with q | q
 ·exact h pins s σ H x y v u Q I rx ry q
 ·exact h' pins s σ H x y v u Q I rx ry q
theorem nomark (b:Expr){op:CmpOp}(h:op≠.In:=by decide)(h2:op≠.NotIn:=by decide):behindInMarks op b=false:=by
 have e1:(op==CmpOp.In)=false:=by cases op<;>first | rfl | exact absurd rfl h
 have e2:(op==CmpOp.NotIn)=false:=by cases op<;>first | rfl | exact absurd rfl h2
 cases b<;>simp [behindInMarks,e1,e2]
theorem pe_cmpR {op:CmpOp}{r:R2}(ho:OpR X (compareOp op) r)(ha:PE X a ta)(hb:PE X b tb)(hm:behindInMarks op b=false):PE X (.Compare a [op] [b] pos) (tOp r ta tb):=by
 intro pins s σ H Q I h
 exact wpAny_Compare1 (binT ha hb I h fun v u s2 x y H2 I2 rx ry q=>ho pins s2 σ H2 x y v u Q I2 rx ry q) hm
def tTest (t:TE):TT:=fun σ H Q=>t σ H fun x H'=>∃k,x=.bl k∧Q k H'
theorem pt_cmpR {op:CmpOp}{r:R2}(ho:OpR X (compareOp op) r)(ha:PE X a ta)(hb:PE X b tb)(hm:behindInMarks op b=false):PT X (.Compare a [op] [b] pos) (tTest (tOp r ta tb)):=by
  intro pins s σ H Q I h
  refine wpAny_isTrue_Compare1 (thn (ha pins s σ H _ I h) fun v s1 ⟨x,H1,I1,r1,q1⟩=>thn (hb pins s1 σ H1 _ I1 q1) fun u s2 ⟨y,H2,I2,r2,q2⟩ =>
    thn (ho pins s2 σ H2 x y v u _ I2 r1 r2 q2) fun c s3 ⟨z,H3,I3,r3,k,e,q3⟩=>?_) hm
  subst e
  cases r3
  exact wpAny_truthy_bool ⟨H3,I3,q3⟩
def tChain (r r':R2)(ta tb tc:TE):TE:=fun σ H Q=>ta σ H fun x H1=>tb σ H1 fun y H2=>r x y H2 fun z H3=>∃k,z=.bl k∧
 (if k=true then tc σ H3 fun w' H4=>r' y w' H4 Q else Q (.bl false) H3)
theorem pt_chain {op op':CmpOp}{r r':R2}(ho:OpR X (compareOp op) r)(ho':OpR X (compareOp op') r')(ha:PE X a ta)(hb:PE X b tb)(hc:PE X c tc)
    (hm:lastMarks [op,op'] [b,c]=false:=by with_unfolding_all rfl):PT X (.Compare a [op,op'] [b,c] pos) (tTest (tChain r r' ta tb tc)):=by
  intro pins s σ H Q I h
  refine isTrue_chain (thn (ha pins s σ H _ I h) fun v s1 ⟨x,H1,I1,r1,q1⟩=>test_link (thn (hb pins s1 σ H1 _ I1 q1) fun u s2 ⟨y,H2,I2,r2,q2⟩ =>
    thn (ho pins s2 σ H2 x y v u _ I2 r1 r2 q2) fun d s3 ⟨z,H3,I3,r3,k,e,q3⟩=>?_)) hm
  subst e
  cases r3
  refine wpAny_truthy_bool ?_
  cases k with
  | false =>
    obtain ⟨k',e',q'⟩:=q3
    cases e'
    exact ite_ff ⟨H3,I3,q'⟩
  | true =>
    refine ite_tt (test_last (thn (hc pins s3 σ H3 _ I3 q3) fun w' s4 ⟨z',H4,I4,r4,q4⟩=>thn (ho' pins s4 σ H4 y z' u w' _ I4 r2 r4 q4) fun d' s5 ⟨z2,H5,I5,r5,k2,e2,q5⟩=>?_))
    subst e2
    cases r5
    exact wpAny_truthy_bool ⟨H5,I5,q5⟩
theorem line63:(sizeLine:Nat)<2 ^ 63:=by rw [sizeLine_eq];decide
theorem op_add_str:OpR X (binaryOp .Add) (fun x y H Q=>∃i j,x=.str i∧y=.str j∧i.length+j.length≤sizeLine∧Q (.str (i++j)) H):=by
 intro pins s σ H x y v u Q I rx ry h
 obtain ⟨i,j,rfl,rfl,hz,q⟩:=h
 obtain ⟨t,rfl⟩:=rx
 obtain ⟨t',rfl⟩:=ry
 exact add_str (fun t' tk=>⟨.str (i++j),H,I.tok _,⟨_,rfl⟩,q⟩) hz
theorem vals1 {x:V}{us:List Value}(r:Vals [x] us):∃u,us=[u]∧RelV x u:=by
 cases r with
 | cons r1 r2=>cases r2;exact ⟨_,rfl,r1⟩
theorem vals2 {x y:V}{us:List Value}(r:Vals [x,y] us):∃u w',us=[u,w']∧RelV x u∧RelV y w':=by
 cases r with
 | cons r1 r2 =>
  cases r2 with
  | cons r3 r4=>cases r4;exact ⟨_,_,rfl,r1,r3⟩
theorem call_min2 (hc:X.calm=true):CallR X (.builtin "min") (fun xs H Q=>∃i j,xs=[.int i,.int j]∧Q (.int (if j<i then j else i)) H):=by
 intro pins s σ H xs us Q I r h
 obtain ⟨i,j,rfl,q⟩:=h
 obtain ⟨u,w',rfl,⟨t,rfl⟩,⟨t',rfl⟩⟩:=vals2 r
 refine min_two_ints (I.ok.hd hc) fun h' tk k=>⟨_,H,I.kept k,?_,q⟩
 by_cases hj:j<i
 ·rw [if_pos hj,if_pos hj];exact ⟨_,rfl⟩
 ·rw [if_neg hj,if_neg hj];exact ⟨_,rfl⟩
end
structure ObjM (h:Heap)(x dx C:Addr)(mA:Str→Option Value):Prop where
 obj:h.get? x=some (instObj C dx)
 ns:h.Ns1 dx mA
 ne:dx≠x
theorem lookIn_ns {h:Heap}{dx:Addr}{mA:Str→Option Value}(n:h.Ns1 dx mA):∃od,h.get? dx=some od∧∀name,lookIn name od=some (mA name):=by
 obtain ⟨o,es,ep,ho,hd,hk,_,hm⟩:=n
 refine ⟨o,ho,fun name=>?_⟩
 have e:=hm name
 unfold nsFind findBy at e
 rw [← Array.find?_toList] at e
 unfold lookIn
 rw [hd]
 dsimp only
 split
 ·rename_i y q
  rw [q] at e
  exact congrArg some e
 ·rename_i q
  rw [q] at e
  have a:es.toList.any (·.refKey)=false:=by
   rw [List.any_eq_false]
   intro y hy
   obtain ⟨z,t,hkey⟩:=hk y (Array.mem_toList_iff.mp hy)
   simp [DictEntry.refKey,hkey]
  have a':¬es.toList.any (·.refKey)=true:=by rw [a];exact Bool.false_ne_true
  rw [if_neg a']
  exact congrArg some e
theorem ObjM.look {h:Heap}{x dx C:Addr}{mA:Str→Option Value}(I:ObjM h x dx C mA):∃od,PySem.W.InstAt h x (instObj C dx) C (some od)∧∀name,lookIn name od=some (mA name):=
 let ⟨od,ho,hl⟩:=lookIn_ns I.ns
 ⟨od,⟨I.obj,rfl,rfl,ho⟩,hl⟩
section
variable {prog:Program}{w:World}{A:Around}{E:Value→Shared→Prop}{s:Shared}{K:Frag}{x dx C f:Addr}{mA:Str→Option Value}{name:Str}{v:Value}
end
noncomputable def putF (f:Str)(v:V):List (Str×V)→List (Str×V)
 | []=>[(f,v)]
 | (g,x)::r=>if g=f then (g,v)::r else (g,x)::putF f v r
theorem RelO.some_of {v:V}{o:Option Value}(r:RelO (some v) o):∃u,o=some u∧RelV v u:=by
 cases o with
 | none=>exact (show False from r).elim
 | some u=>exact ⟨u,rfl,r⟩
section
variable {P:Program}{w:World}{H H':Hp}{h h':Heap}{a C dx:Addr}{fs fs':List (Str×V)}
theorem ins_get (hok:HOk P w H h)(e:H a=some (.ins C dx fs)):∃mA,ObjM h a dx C mA∧(∀f,RelO (fs.lookup f) (mA f))∧PySem.Within mA (fs.map (·.1))∧fs.length≤1000∧H dx=some (.own a):=by
 obtain ⟨d,z,ne,ob,mA,n,r,q⟩:=(show ObjOk P w H h a (.ins C dx fs) from hok a _ e)
 exact ⟨mA,⟨ob,n,ne⟩,r,q,z,d⟩
end
structure Cls (K:Frag)(C:Addr):Prop where
 pg:PySem.W.plainGet K C Str.empty=true
 hd:PySem.W.hasDictIn K C=true
 po:PySem.W.plainOver K C=true
 sa:findIn K (.ref C) "__setattr__"=some (some (.builtin "object.__setattr__"))
theorem Cls.get {K:Frag}{C:Addr}(c:Cls K C)(f:Str):PySem.W.plainGet K C f=true:=c.pg
def NoAttr (K:Frag)(C:Addr)(f:Str):Prop:=findIn K (.ref C) f=some none
structure Con (K:Frag)(C:Addr)(f:Str)(v:V)(u:Value):Prop where
 at_:findIn K (.ref C) f=some (some u)
 rel:RelV v u
 get:specialIn K u "__get__"=some none
 cp:PySem.W.copiedNames.contains f=false
structure Meth (K:Frag)(C:Addr)(m:Str)(f:Addr):Prop where
 at_:findIn K (.ref C) m=some (some (.ref f))
 fn:isFn K (.ref f)=true
 kp:keepIn K (.ref f)=true
section
variable {X:Cx}{pins:List (Addr×Obj)}{σ:St}{H:Hp}{s:Shared}{a C dx:Addr}{fs:List (Str×V)}{f:Str}{v:V}{A:Around}{E:Value→Shared→Prop}
end
def sFld (K:Frag)(ta tv:TE)(f:Str):TS:=fun D σ H=>tv σ H fun y H1=>ta σ H1 fun x H2=>∃a C dx fs,x=.ref a∧H2 a=some (.ins C dx fs)∧Cls K C∧NoAttr K C f∧fs.length<1000∧
 D.nx σ (upd H2 a (.ins C dx (putF f y fs)))
section
variable {X:Cx}{o e value:Expr}{f:Str}{pos pos' tpos:Pos}{ta tv:TE}
end
section
variable {X:Cx}{pins:List (Addr×Obj)}{σ:St}{H:Hp}{s:Shared}{A:Around}{E:Value→Shared→Prop}{Q:Value→Shared→Prop}{c:Value}{b:Bool}
inductive TyOf (K:Frag)(H:Hp):V→Value→Prop where
 | non:TyOf K H .non (.type "NoneType")
 | bl (x:Bool):TyOf K H (.bl x) (.type "bool")
 | int (i:Int):TyOf K H (.int i) (.type "int")
 | str (x:Str):TyOf K H (.str x) (.type "str")
 | flt (x:UInt64):TyOf K H (.flt x) (.type "float")
 | lst {a:Addr} {xs:List V} (e:H a=some (.lst xs)):TyOf K H (.ref a) (.type "list")
 | frz {a:Addr} {o:Obj} {xs:List V} (e:H a=some (.frz o (.lst xs))):TyOf K H (.ref a) (.type "list")
 | tup {a:Addr} {xs:List V} (e:H a=some (.tup xs)):TyOf K H (.ref a) (.type "tuple")
 | dK {a:Addr} {kvs:List (Key×V)} (e:H a=some (.dK kvs)):TyOf K H (.ref a) (.type "dict")
 | dT {a:Addr} {kvs:List (List Key×V)} (e:H a=some (.dT kvs)):TyOf K H (.ref a) (.type "dict")
 | ins {a C dx:Addr} {fs:List (Str×V)} (e:H a=some (.ins C dx fs)) (cl:Cls K C) (ha:findIn K (.ref C) "__class__"=some (some (.builtin "object.__class__")))
   (hn:specialIn K (.builtin "object.__class__") "__get__"=some (some (.builtin "getset_descriptor.__get__"))) (htk:PySem.W.takesIn K (.builtin "object.__class__")=some true)
   (hm:PySem.W.mroIn K C (.type "object")=some true):TyOf K H (.ref a) (.ref C)
theorem isinst_ok {x:V}{u t:Value}(I:Inv X pins σ H s)(rx:RelV x u)(ty:TyOf X.K H x t)(e:kitOne X.K t c=some b)(h:∀tk,Q (.bool b) {s with toks:=tk}) :
  wpAny (model X.prog X.w) A (call (.builtin "isinstance") [u,c]) Q E s:=by
 cases ty with
 | non=>cases (show u=Value.none from rx);exact kia_one PySem.W.kitx_none I.kIn True.intro e (fun z=>nomatch z) h
 | bl y=>cases (show u=Value.bool y from rx);exact kia_one PySem.W.kitx_bool I.kIn True.intro e (fun z=>nomatch z) h
 | int i=>obtain ⟨t,q⟩:=(show ∃t,u=Value.int i t from rx);cases q;exact kia_one PySem.W.kitx_int I.kIn True.intro e (fun z=>nomatch z) h
 | str y=>obtain ⟨t,q⟩:=(show ∃t,u=Value.str y t from rx);cases q;exact kia_one PySem.W.kitx_str I.kIn True.intro e (fun z=>nomatch z) h
 | flt y=>obtain ⟨t,q⟩:=(show ∃t,u=Value.float y t from rx);cases q;exact kia_one PySem.W.kitx_float I.kIn True.intro e (fun z=>nomatch z) h
 | @lst a xs ea =>
  cases (show u=Value.ref a from rx)
  obtain ⟨_,_,n,_,h1⟩:=(show ObjOk X.prog X.w H s.heap a (.lst xs) from I.hok a _ ea)
  exact kia_one PySem.W.kitx_list I.kIn ⟨_,h1,rfl⟩ e (fun z=>nomatch z) h
 | @frz a ob xs ea =>
  cases (show u=Value.ref a from rx)
  obtain ⟨_,_,_,n,_,h1⟩:=(show ObjOk X.prog X.w H s.heap a (.frz ob (.lst xs)) from I.hok a _ ea)
  exact kia_one PySem.W.kitx_list I.kIn ⟨_,h1,rfl⟩ e (fun z=>nomatch z) h
 | @tup a xs ea =>
  cases (show u=Value.ref a from rx)
  obtain ⟨_,_,_,p⟩:=(show ObjOk X.prog X.w H s.heap a (.tup xs) from I.hok a _ ea)
  obtain ⟨o,h1,h2,_⟩:=p
  exact kia_one PySem.W.kitx_tuple I.kIn ⟨o,h1,h2⟩ e (fun z=>nomatch z) h
 | @dK a kvs ea =>
  cases (show u=Value.ref a from rx)
  obtain ⟨_,_,vs,_,p⟩:=(show ObjOk X.prog X.w H s.heap a (.dK kvs) from I.hok a _ ea)
  obtain ⟨o,es,ep,h1,h2,_⟩:=p
  exact kia_one PySem.W.kitx_dict I.kIn ⟨o,h1,h2.1⟩ e (fun z=>nomatch z) h
 | @dT a kvs ea =>
  cases (show u=Value.ref a from rx)
  obtain ⟨_,_,xs,_,o,es,ep,h1,h2,_⟩:=(show ObjOk X.prog X.w H s.heap a (.dT kvs) from I.hok a _ ea)
  exact kia_one PySem.W.kitx_dict I.kIn ⟨o,h1,h2.1⟩ e (fun z=>nomatch z) h
 | @ins a C dx fs ea cl ha hn htk hm =>
  cases (show u=Value.ref a from rx)
  obtain ⟨mA,O,_⟩:=ins_get I.hok ea
  obtain ⟨od,J,_⟩:=O.look
  exact kia_one (PySem.W.kitx_own (cl.get _) cl.hd ha hn htk hm) I.kIn J e (fun z=>nomatch z) h
end
structure Room (k:Nat)(A:Around):Prop where
 hd:A.handled=none
 dp:A.depth+3*k+5<recursionLimit
 un:A.units+16*k+200<cLine
 gd:A.guards=some []
theorem Room.mono {j k:Nat}{A:Around}(r:Room k A)(h:j≤k):Room j A:=⟨r.hd,by have:=r.dp;omega,by have:=r.un;omega,r.gd⟩
theorem Room.deeper {k:Nat}{A:Around}(r:Room (k+1) A)(env:Env):Room k (A.deeper env):=
 ⟨r.hd,by have:=r.dp;show A.depth+1+3*k+5<_;omega,by have:=r.un;show A.units+3+16*k+200<_;omega,r.gd⟩
theorem Room.depth {k:Nat}{A:Around}(r:Room k A):A.depth<recursionLimit:=by have:=r.dp;omega
theorem Room.units {k:Nat}{A:Around}(r:Room k A):A.units+64<cLine:=by have:=r.un;omega
def tNil:TA:=fun _ H Q=>Q [] H
def tCons (ta:TE)(tr:TA):TA:=fun σ H Q=>ta σ H fun x H1=>tr σ H1 fun xs H2=>Q (x::xs) H2
section
variable {X:Cx}{e:Expr}{es:List Expr}{te:TE}{t:TA}{pos:Pos}
theorem pa_nil:PA X [] tNil:=fun _ _ _ _ H Q I h=>Calls.spliced_nil ⟨[],H,I,.nil,h⟩
theorem pa_cons (ha:PE X e te)(hr:PA X es t)(hs:starEach (e::es) X.env=(false,eval e X.env)::starEach es X.env:=by rfl):PA X (e::es) (tCons te t):=by
 intro pos pins s σ H Q I h
 rw [hs]
 show wpAny _ _ (spliced ((false,eval e X.env)::backTo pos (starEach es X.env))) _ _ s
 refine Calls.spliced_cons (thn (ha pins s σ H _ I h) fun u s1 hz9=>?_)
 obtain ⟨x,H1,I1,r1,q1⟩:=hz9
 exact thn (hr pos pins s1 σ H1 _ I1 q1) fun us s2 ⟨xs,H2,I2,r2,q2⟩=>⟨x::xs,H2,I2,.cons r1 r2,q2⟩
def tTup (t:TA):TE:=fun σ H Q=>t σ H fun xs H1=>xs.length≤sizeLine∧∀p,H1 p=none→Q (.ref p) (upd H1 p (.tup xs))
def tLst (t:TA):TE:=fun σ H Q=>t σ H fun xs H1=>xs.length≤sizeLine∧∀p,H1 p=none→Q (.ref p) (upd H1 p (.lst xs))
theorem pe_tup {x1}(h:PA X es t):PE X (.Tuple es x1 pos) (tTup t):=by
 intro pins s σ H Q I hq
 refine wpAny_Tuple_spliced (thn (h pos pins s σ H _ I hq) fun us s1 ⟨xs,H1,I1,r,z,q⟩=>⟨by rw [← r.length];exact z,?_⟩)
 have hf:H1 s1.heap.objs.size=none:=I1.hok.fresh (le_refl _)
 refine ⟨.ref s1.heap.objs.size,upd H1 s1.heap.objs.size (.tup xs),I1.laid (t':=s1.toks) (fun b u e=>get?_push_of_some _ e) (le_refl _) ?_,rfl,q _ hf⟩
 exact ⟨z,us,r,⟨_,get?_push_size _ rfl,rfl,_,rfl⟩⟩
theorem pe_lst (h:PA X es t):PE X (.List es pos) (tLst t):=by
 intro pins s σ H Q I hq
 refine wpAny_List_spliced (thn (h pos pins s σ H _ I hq) fun us s1 ⟨xs,H1,I1,r,z,q⟩=>⟨by rw [← r.length];exact z,?_⟩)
 have hf:H1 s1.heap.objs.size=none:=I1.hok.fresh (le_refl _)
 refine ⟨.ref s1.heap.objs.size,upd H1 s1.heap.objs.size (.lst xs),I1.laid (t':=s1.toks) (fun b u e=>get?_push_of_some _ e) (le_refl _) ?_,rfl,q _ hf⟩
 exact ⟨z,us,0,r,get?_push_size _ rfl⟩
end
noncomputable abbrev Sp:=List V→Hp→VK→XK→Prop
noncomputable abbrev CXT:=List Env→Hp→Shared→XK→Value→Shared→Prop
structure Env0 (P:Program)(w:World)(K:Frag)(mg:Str→Option Value)(base:Heap)(A:Around)(outer:List Env)(s:Shared)(H:Hp):Prop where
 frames:A.frames=some outer
 mod:Mod K mg base
 bs:∀b o,base.get? b=some o→s.heap.get? b=some o∧H b=none
 bsz:base.objs.size≤s.heap.objs.size
 funs:s.heap.FunFrames base outer
 frf:∀b∈frs outer,H b=none
 hok:HOk P w H s.heap
 bare:AllBare s.gens
def CE (outer:List Env)(P:Program)(w:World)(H:Hp)(s:Shared)(Q:VK)(u:Value)(s':Shared):Prop:=
 ∃v H',s'.os=s.os∧AllBare s'.gens∧Un (frs outer) [] H H' s.heap s'.heap∧HOk P w H' s'.heap∧RelV v u∧Q v H'
def CR (CX:CXT)(outer:List Env)(P:Program)(w:World)(H:Hp)(s:Shared)(Q:VK)(E:XK)(r:Result)(s':Shared):Prop:=
 match r with
 | .ok (.ret u)=>CE outer P w H s Q u s'
 | .ok _=>False
 | .error e=>CX outer H s E e s'
structure FnOk (P:Program)(w:World)(K:Frag)(mg:Str→Option Value)(base:Heap)(CX:CXT)(k:Nat)(f:Addr)(fd:FuncData)(ps:List Str)(sp:Sp):Prop where
 len:∀vs H Q E,sp vs H Q E→vs.length=ps.length
 run:∀(A:Around) (outer:List Env) (s:Shared) (H:Hp) (args:Args) (us:List Value) (vs:List V) (Q:VK) (E:XK),Room k A→Env0 P w K mg base A outer s H→BindsTo s fd args (ps.zip us)→Vals vs us→sp vs H Q E→
  codeAny (model P w) A (.call (.ref f) args) (CR CX outer P w H s Q E) s
theorem FnOk.imp {P:Program}{w:World}{K:Frag}{mg:Str→Option Value}{base:Heap}{CX:CXT}{k:Nat}{f:Addr}{fd:FuncData}{ps:List Str}{sp sp':Sp}(F:FnOk P w K mg base CX k f fd ps sp)
  (h:∀vs H Q E,sp' vs H Q E→sp vs H Q E):FnOk P w K mg base CX k f fd ps sp':=
 ⟨fun vs H Q E q=>F.len vs H Q E (h _ _ _ _ q),fun A outer s H args us vs Q E hr he hb hv hs=>F.run A outer s H args us vs Q E hr he hb hv (h _ _ _ _ hs)⟩
section
variable {X:Cx}{pins:List (Addr×Obj)}{σ:St}{H:Hp}{s s':Shared}
theorem Inv.env0 (I:Inv X pins σ H s):Env0 X.prog X.w X.K X.mg X.base X.A X.stack s H:=
 ⟨I.ok.frames,I.ok.mod,I.bs,le_trans I.ok.bsz I.sz,I.stack,I.stkFree,I.hok,I.bare⟩
theorem Inv.after {Q:VK}{u:Value}(I:Inv X pins σ H s)(h:CE X.stack X.prog X.w H s Q u s'):EP X pins σ Q u s':=by
 obtain ⟨v,H',os,bare,un,hok,r,q⟩:=h
 obtain ⟨hh,g,d,t,os'⟩:=s'
 obtain rfl:os'=s.os:=os
 exact ⟨v,H',I.call (h':=hh) (g':=g) (d':=d) (t':=t) (ch:=[]) un hok bare (fun b z=>absurd z (by simp)),r,q⟩
end
def tCall (sp:Sp)(dvs:List V)(E:XK)(t:TA):TE:=fun σ H Q=>t σ H fun vs H1=>sp (vs++dvs) H1 Q E
def Binds (K:Frag)(fd:FuncData)(ps:List Str)(ds:List Value):Prop:=
 ∀(s:Shared) (us:List Value),K.In s.heap→(us++ds).length=ps.length→BindsTo s fd ⟨us,[]⟩ (ps.zip (us++ds))
theorem Binds.all {K:Frag}{fd:FuncData}{ps:List Str}(h:∀us:List Value,us.length=ps.length→bindArgs fd ⟨us,[]⟩=pure (ps.zip us)):Binds K fd ps []:=fun s us _ hl=>by
 rw [append_nil] at hl ⊢
 exact .of_eq (h us hl)
def Passes (CX:CXT)(X:Cx)(E:XK):Prop:=∀(pins:List (Addr×Obj)) (σ:St) (H:Hp) (s:Shared) (e:Value) (s':Shared),Inv X pins σ H s→CX X.stack H s E e s'→X.xe e s'
section
variable {X:Cx}{CX:CXT}{k:Nat}{f C:Addr}{fd:FuncData}{ps:List Str}{sp:Sp}{dvs:List V}{ds:List Value}{E:XK}{x m:Str}{p pos apos:Pos}{e o:Expr}{es:List Expr}{ta:TE}{t:TA}
theorem run_fn {pins:List (Addr×Obj)}{σ:St}{H:Hp}{s:Shared}{Q:VK}{us:List Value}{vs:List V}(F:FnOk X.prog X.w X.K X.mg X.base CX k f fd ps sp)(hr:Room k X.A)(hb:Binds X.K fd ps ds)(hd:Vals dvs ds)(hx:Passes CX X E)
  (I:Inv X pins σ H s) (r:Vals vs us) (h:sp (vs++dvs) H Q E):wpAny (model X.prog X.w) X.A (call (.ref f) us) (EP X pins σ Q) X.xe s:=by
 have r2:Vals (vs++dvs) (us++ds):=r.append hd
 have hl:(us++ds).length=ps.length:=by rw [← r2.length];exact F.len _ _ _ _ h
 refine wpAny_call (codeAny_mono (F.run X.A X.stack s H ⟨us,[]⟩ (us++ds) (vs++dvs) Q E hr I.env0 (hb s us I.kIn hl) r2 h) fun r s' hq=>?_)
 cases r with
 | error e=>exact hx pins σ H s e s' I hq
 | ok fl =>
  cases fl with
  | ret u=>exact I.after hq
  | next=>exact False.elim hq
  | brk=>exact False.elim hq
  | cont=>exact False.elim hq
theorem pe_call (F:FnOk X.prog X.w X.K X.mg X.base CX k f fd ps sp)(hr:Room k X.A)(hg:Gl X x)(hm:X.mg x=some (.ref f))(hk:keepIn X.K (.ref f)=true)(hb:Binds X.K fd ps ds)(hd:Vals dvs ds)(hx:Passes CX X E)
  (ha:PA X (e::es) t) (hdb:(x==("__debug__":Str))=false:=by decide) (he:starEach (e::es) X.env=(false,eval e X.env)::starEach es X.env:=by rfl) (hpl:(backTo pos (starEach es X.env)).any (·.1)=false:=by rfl) :
  PE X (.Call (.Name x p) (e::es) [] pos) (tCall sp dvs E t):=by
 intro pins s σ H Q I h
 refine wpAny_Call_Name_kw (ld_glob I hg hm ?_ hdb)
 refine PySem.W.callWith_K (h₀:=X.base) I.ok.mod.kin hk (thn (ha pos pins s σ H _ I h) fun us s1 ⟨vs,H1,I1,r,q⟩=>⟨I1.kIn,?_⟩) he hpl
 exact run_fn F hr hb hd hx I1 r q
structure Mk (K:Frag)(C f:Addr):Prop where
 makes:PySem.W.makesIn K C=true
 init:findIn K (.ref C) "__init__"=some (some (.ref f))
 fn:isFn K (.ref f)=true
 kp:keepIn K (.ref C)=true
end
def PK (X:Cx)(kws:List Keyword)(t:TA):Prop:=
 ∀(pos:Pos) (pins:List (Addr×Obj)) (s:Shared) (σ:St) (H:Hp) (Q:List V→Hp→Prop),Inv X pins σ H s→t σ H Q→wpAny (model X.prog X.w) X.A (evalAll ((backToKw pos (keywordEach kws X.env)).map (·.2))) (AP X pins σ Q) X.xe s
section
variable {X:Cx}{CX:CXT}{k:Nat}{f C:Addr}{fd:FuncData}{ps ks:List Str}{sp:Sp}{E:XK}{x m:Str}{p pos apos kpos:Pos}{e o:Expr}{es:List Expr}{kws:List Keyword}{te ta:TE}{t tk:TA}{nm:Option Str}
structure KBinds (K:Frag)(fd:FuncData)(ps ks:List Str)(g:List Value→List Value→List Value)(gV:List V→List V→List V):Prop where
 to:∀(s:Shared) (us ws:List Value),K.In s.heap→(g us ws).length=ps.length→BindsTo s fd ⟨us,ks.zip ws⟩ (ps.zip (g us ws))
 rel:∀{vs:List V} {us:List Value} {zs:List V} {ws:List Value},Vals vs us→Vals zs ws→Vals (gV vs zs) (g us ws)
variable {g:List Value→List Value→List Value}{gV:List V→List V→List V}
end
structure FnScope (N P:List Str)(sc:Scope):Prop where
 kind:sc.kind=.function
 co:sc.isCoroutine=false
 gen:sc.isGenerator=false
 nd:N.Nodup
 pre:N.take P.length=P
 par:∀x∈P,sc.names.lookup x=some .local∨sc.names.lookup x=some .cell
 nofree:∀y∈sc.names,y.2≠.free
theorem bindL_out {kindOf:Str→Option NameKind}{x:Str}:∀{binds:List (Str×Value)} {m:Str→Option Value},(∀v,(x,v)∉binds)→bindL kindOf binds m x=m x
 | [],_,_=>rfl
 | (n,v)::r,m,h=>by
  unfold bindL
  rw [bindL_out fun w hw=>h w (mem_cons_of_mem _ hw)]
  split
  ·have:x≠n:=by rintro rfl;exact h v mem_cons_self
   simp [this]
  ·rfl
theorem bindC_out {kindOf:Str→Option NameKind}{x:Str}:∀{binds:List (Str×Value)} {m:Str→Option Value},(∀v,(x,v)∉binds)→bindC kindOf binds m x=m x
 | [],_,_=>rfl
 | (n,v)::r,m,h=>by
  unfold bindC
  rw [bindC_out fun w hw=>h w (mem_cons_of_mem _ hw)]
  split
  ·rfl
  ·have:x≠n:=by rintro rfl;exact h v mem_cons_self
   simp [this]
theorem bindL_get {kindOf:Str→Option NameKind}{x:Str}{v:Value}:∀{P:List Str} {vs:List Value} {i:Nat} {m:Str→Option Value},P.Nodup→P[i]?=some x→vs[i]?=some v→kindOf x=some .local→
  bindL kindOf (P.zip vs) m x=some v
 | [],_,_,_,_,h,_,_=>by simp at h
 | _::_,[],_,_,_,_,h,_=>by simp at h
 | p::P,w::vs,0,m,nd,h1,h2,hk=>by
  simp at h1 h2;subst h1;subst h2
  show bindL kindOf ((p,w)::P.zip vs) m p=_
  unfold bindL
  rw [bindL_out fun v hv=>(List.nodup_cons.mp nd).1 (List.of_mem_zip hv).1,if_pos hk]
  simp
 | p::P,w::vs,i+1,m,nd,h1,h2,hk=>by
  show bindL kindOf ((p,w)::P.zip vs) m x=_
  unfold bindL
  exact bindL_get (i:=i) (List.nodup_cons.mp nd).2 (by simpa using h1) (by simpa using h2) hk
theorem bindC_get {kindOf:Str→Option NameKind}{x:Str}{v:Value}:∀{P:List Str} {vs:List Value} {i:Nat} {m:Str→Option Value},P.Nodup→P[i]?=some x→vs[i]?=some v→kindOf x≠some .local→
  bindC kindOf (P.zip vs) m x=some v
 | [],_,_,_,_,h,_,_=>by simp at h
 | _::_,[],_,_,_,_,h,_=>by simp at h
 | p::P,w::vs,0,m,nd,h1,h2,hk=>by
  simp at h1 h2;subst h1;subst h2
  show bindC kindOf ((p,w)::P.zip vs) m p=_
  unfold bindC
  rw [bindC_out fun v hv=>(List.nodup_cons.mp nd).1 (List.of_mem_zip hv).1,if_neg hk]
  simp
 | p::P,w::vs,i+1,m,nd,h1,h2,hk=>by
  show bindC kindOf ((p,w)::P.zip vs) m x=_
  unfold bindC
  exact bindC_get (i:=i) (List.nodup_cons.mp nd).2 (by simpa using h1) (by simpa using h2) hk
noncomputable def start (N:List Str)(vs:List V):St:=vs.map some++List.replicate (N.length - vs.length) none
noncomputable def cxOf (CX:CXT)(P:Program)(w:World)(K:Frag)(mg:Str→Option Value)(base:Heap)(N:List Str)(qual:Str)(scope:Scope)(f:Addr)(cd:Value)(A:Around)(outer:List Env)(s:Shared)(H:Hp)(E:XK):Cx where
 prog:=P
 w:=w
 K:=K
 mg:=mg
 base:=base
 A:=A.deeper (envOfC qual scope s.heap.objs.size f cd)
 N:=N
 s₀:=s
 H₀:=H
 env:=envOfC qual scope s.heap.objs.size f cd
 outer:=outer
 stack:=envOfC qual scope s.heap.objs.size f cd::outer
 ex:=[]
 calm:=true
 fn:=fun _=>true
 pn:=[]
 xe:=fun e s'=>wpAny (model P w) (A.deeper (envOfC qual scope s.heap.objs.size f cd)) (leaving (envOfC qual scope s.heap.objs.size f cd) e) (fun _ s''=>CX outer H s E e s'') (fun e' s''=>CX outer H s E e' s'') s'
theorem cell_has {sc:Scope}{n:Nat}{x:Str}(h:sc.names.lookup x=some .cell):∃c,(cellsFrom n sc.names []).lookup x=some c:=by
 have q:=PySem.W.cellsFrom_some sc.names n [] (.inl h)
 exact Option.isSome_iff_exists.mp q
theorem inv_start {CX:CXT}{P:Program}{w:World}{K:Frag}{mg:Str→Option Value}{base:Heap}{N ps:List Str}{qual:Str}{scope:Scope}{f:Addr}{cd:Value}{A:Around}{outer:List Env}{s s1:Shared}{H:Hp}{E:XK}{us:List Value}{vs:List V}
    (S:FnScope N ps scope) (hd:A.handled=none) (e0:Env0 P w K mg base A outer s H) (hl:vs.length=ps.length) (r:Vals vs us)
    (x:InCallC s s.heap.objs.size (bindL (envOfC qual scope s.heap.objs.size f cd).kindOf (ps.zip us) fun _=>none) (cellsFrom (s.heap.objs.size+1) scope.names []) (bindC (envOfC qual scope s.heap.objs.size f cd).kindOf (ps.zip us) fun _=>none) s1) :
    Inv (cxOf CX P w K mg base N qual scope f cd A outer s H E) [] (start N vs) H s1:=by
  have hpl:ps.length≤N.length:=by have:=congrArg List.length S.pre;rw [length_take] at this;omega
  obtain ⟨h1,tk,rfl,hk⟩:=x.done
  have noA:∀b:Addr,b∉(cxOf CX P w K mg base N qual scope f cd A outer s H E).ex:=fun b z=>absurd (show b∈([]:List Addr) from z) (by simp)
  refine ⟨⟨e0.mod,S.kind,rfl,rfl,le_refl _,fun y z c h1 h2=>?_,fun y hy=>?_,fun y c _ h=>?_,fun _=>hd,Around.frames_deeper e0.frames,.inr ⟨rfl,rfl⟩,fun b z=>absurd z (noA b),e0.bs,e0.bsz,fun b _ _=>noA b,fun b z=>absurd z (noA b),e0.funs,e0.frf⟩,
    rfl,e0.bare,Un.kept hk,⟨_,x.toInCall.ns,fun i y v h1 h2 h3=>?_⟩,fun y c h=>⟨_,x.cell y c h⟩,e0.hok.fresh (le_refl _),fun y c h=>?_,fun p hp=>absurd (show p∈([]:List (Addr×Obj)) from hp) (by simp),e0.hok.kept hk,?_⟩
  · exact name_of_addr x.apart (PySem.mem_of_lookup h1) (PySem.mem_of_lookup h2)
  · have hy:scope.names.lookup y=some .cell∨scope.names.lookup y=some .free:=hy
    rcases hy with hy | hy
    · exact cell_has hy
    · exact absurd rfl (S.nofree _ (PySem.mem_of_lookup hy))
  · exact le_of_lt (x.above y c (PySem.mem_of_lookup h))
  · have hi:i<vs.length:=by
      unfold start at h2
      by_cases hi:i<vs.length
      · exact hi
      · rw [getElem?_append_right (by simpa using hi)] at h2
        rw [List.getElem?_replicate] at h2
        split at h2<;>cases h2
    have ha:vs[i]?=some v:=by
      unfold start at h2
      rw [getElem?_append_left (by simpa using hi),getElem?_map] at h2
      cases e:vs[i]? with
      | none=>rw [e] at h2;cases h2
      | some a=>rw [e] at h2;cases h2;rfl
    obtain ⟨u,hu,rv⟩:=r.get ha
    have hp:ps[i]?=some y:=by
      rw [← S.pre,List.getElem?_take_of_lt (by omega)];exact h1
    have ndP:ps.Nodup:=by rw [← S.pre];exact S.nd.sublist (List.take_sublist _ _)
    refine ⟨u,rv,?_⟩
    rcases S.par y (mem_of_getElem? hp) with k | k
    · exact .inl ⟨k,bindL_get ndP hp hu k⟩
    · obtain ⟨c,e⟩:=cell_has (n:=s.heap.objs.size+1) k
      refine .inr ⟨.inl k,c,e,?_⟩
      have q:=x.cell y c e
      rw [bindC_get ndP hp hu (by show scope.names.lookup y≠_;rw [k];decide)] at q
      exact q
  · exact e0.hok.fresh (le_of_lt (x.above y c (PySem.mem_of_lookup h)))
  · unfold start
    show _=N.length
    rw [length_append,length_map,List.length_replicate]
    omega
theorem fn_of {CX:CXT}{P:Program}{w:World}{K:Frag}{mg:Str→Option Value}{base:Heap}{k:Nat}{f:Addr}{name qual:Str}{params:Arguments}{body:List Stmt}{scope:Scope}{dV kV doc pm cdv ct oc:Value}{an od:Option Addr}
    {osl:Array (Option Value)} {N ps:List Str} {sp:Sp} (lk:K.lookup f=some ⟨oc,od,.func (fnOf name qual params body scope dV kV doc pm an cdv ct),osl⟩) (hcd:codeIn K cdv qual=true) (S:FnScope N ps scope)
    (len:∀vs H Q E,sp vs H Q E→vs.length=ps.length)
    (hbody:∀(A:Around) (outer:List Env) (s:Shared) (H:Hp) (vs:List V) (Q:VK) (E:XK),Room k (A.deeper (envOfC qual scope s.heap.objs.size f cdv))→sp vs H Q E→
      ∃t,PSs (cxOf CX P w K mg base N qual scope f cdv A outer s H E) body t∧t {nx:=fun _ H'=>Q .non H',rt:=Q} (start N vs) H) :
    FnOk P w K mg base CX (k+1) f (fnOf name qual params body scope dV kV doc pm an cdv ct) ps sp:=by
  refine ⟨len,fun A outer s H args us vs Q E hr e0 hb r hsp=>?_⟩
  have hl:=len _ _ _ _ hsp
  have KX:K.In s.heap:=e0.mod.kin.keeps fun b o e=>(e0.bs b o e).1
  have lim:s.heap.NoLimit:=e0.mod.nolimit.keeps fun b o e=>(e0.bs b o e).1
  have hkind:∀y∈ps.zip us,scope.names.lookup y.1=some .local∨(scope.names.lookup y.1=some .cell∧((cellsFrom (s.heap.objs.size+1) scope.names []).lookup y.1).isSome=true):=fun ⟨n,v⟩ hy=>by
    rcases S.par n (List.of_mem_zip hy).1 with q | q
    · exact .inl q
    · exact .inr ⟨q,PySem.W.cellsFrom_some _ _ _ (.inl q)⟩
  refine codeAny_call_function hr.depth (KX _ _ lk) rfl S.co S.gen rfl (PySem.W.codeRec_of KX hcd) (hb _ _ _ _ ?_)
  refine wpAny_newFunctionEnv_cells S.kind hkind fun env he s1 x=>?_
  subst he
  refine ⟨lim.keeps x.toInCall.keep,codeAny_func ?_⟩
  obtain ⟨t,ht,hq⟩:=hbody A outer s H vs Q E (hr.deeper _) hsp
  have I:Inv (cxOf CX P w K mg base N qual scope f cdv A outer s H E) [] (start N vs) H s1:=inv_start S hr.hd e0 hl r x
  refine wpAny_mono (ht [] s1 (start N vs) H _ I hq) (fun fl s' hs=>?_) fun e s' hs=>hs
  have fin:∀{σ':St} {H':Hp} {v:V} {u:Value},Inv (cxOf CX P w K mg base N qual scope f cdv A outer s H E) [] σ' H' s'→RelV v u→Q v H'→CE outer P w H s Q u s':=
    fun {σ' H' v u} J rv q=>⟨v,H',J.os,J.bare,J.base,J.hok,rv,q⟩
  cases fl with
  | ret u =>
    obtain ⟨v,σ',H',J,rv,q⟩:=hs
    exact fin J rv q
  | next =>
    obtain ⟨σ',H',J,q⟩:=hs
    exact fin (v:=V.non) (u:=Value.none) J rfl q
  | brk =>
    obtain ⟨_,_,_,q⟩:=hs
    exact False.elim q
  | cont =>
    obtain ⟨_,_,_,q⟩:=hs
    exact False.elim q
section
variable {X:Cx}{x:Str}{p pos:Pos}{e:Expr}{es:List Expr}{t:TA}{id T:String}{r:List V→Hp→VK→Prop}
def tCB (r:List V→Hp→VK→Prop)(t:TA):TE:=fun σ H Q=>t σ H fun vs H1=>r vs H1 Q
theorem pe_callB (hc:CallR X (.builtin id) r)(hg:Gl X x)(hm:X.mg x=none)(hv:bootBuiltins x=some (.builtin id))(ha:PA X (e::es) t)(hn:x≠"__name__":=by decide)(hdb:(x==("__debug__":Str))=false:=by decide)
  (he:starEach (e::es) X.env=(false,eval e X.env)::starEach es X.env:=by rfl) (hpl:(backTo pos (starEach es X.env)).any (·.1)=false:=by rfl):PE X (.Call (.Name x p) (e::es) [] pos) (tCB r t):=by
 intro pins s σ H Q I h
 refine wpAny_Call_Name_kw (ld_blt I hg hm hv ?_ hn hdb)
 exact PyProof.Rows.callWith_builtin1 (thn (ha pos pins s σ H _ I h) fun us s1 ⟨vs,H1,I1,r1,q1⟩=>hc pins s1 σ H1 vs us Q I1 r1 q1) he hpl
theorem pe_callTy (hc:CallR X (.type T) r)(hg:Gl X x)(hm:X.mg x=none)(hv:bootBuiltins x=some (.type T))(ha:PA X (e::es) t)(hn:x≠"__name__":=by decide)(hdb:(x==("__debug__":Str))=false:=by decide)
  (he:starEach (e::es) X.env=(false,eval e X.env)::starEach es X.env:=by rfl) (hpl:(backTo pos (starEach es X.env)).any (·.1)=false:=by rfl):PE X (.Call (.Name x p) (e::es) [] pos) (tCB r t):=by
 intro pins s σ H Q I h
 refine wpAny_Call_Name_kw (ld_blt I hg hm hv ?_ hn hdb)
 exact PyProof.Rows.callWith_type1 (thn (ha pos pins s σ H _ I h) fun us s1 ⟨vs,H1,I1,r1,q1⟩=>hc pins s1 σ H1 vs us Q I1 r1 q1) he hpl
end
end L2
namespace HT
open PySem PyProof.Rows
noncomputable def lexLt:List Int→List Int→Bool
 | [],[]=>false
 | [],_::_=>true
 | _::_,[]=>false
 | x::xs,y::ys=>if x=y then lexLt xs ys else decide (x<y)
section
open PySem.SeqAt
open PySem.AutoSeq1 (wpAny_loadPart')
open PySem.MeetsSeq PySem.MeetsSeq2 PySem.MeetsSeq3
variable {prog:Program}{w:World}{A:Around}{E:Value→Shared→Prop}{s:Shared}
noncomputable def sIx (n d:Nat):Option Int→Nat
 | none=>d
 | some v=>if v<0 then (v+(n:Int)).toNat else min v.toNat n
theorem clip_eq (v:Int)(n d:Nat):(if v<0 then max (v+(n:Int)) 0 else min v (n:Int))=((sIx n d (some v):Nat):Int):=by
 show (if v<0 then max (v+(n:Int)) 0 else min v (n:Int))=(((if v<0 then (v+(n:Int)).toNat else min v.toNat n):Nat):Int)
 by_cases hv:v<0
 ·simp only [if_pos hv];omega
 ·simp only [if_neg hv];omega
end
end HT
namespace L2
open PySem PySem.Spec PyProof.Rows
noncomputable abbrev TO:=St→Hp→(Option Int→Hp→Prop)→Prop
def PO (X:Cx)(e:Option Expr)(t:TO):Prop:=
 ∀(pins:List (Addr×Obj)) (s:Shared) (σ:St) (H:Hp) (Q:Option Int→Hp→Prop),Inv X pins σ H s→t σ H Q→
  wpAny (model X.prog X.w) X.A (evalPart e X.env) (fun u s'=>∃o H',Inv X pins σ H' s'∧IsPart u o∧Q o H') X.xe s
noncomputable def tNoPart:TO:=fun _ H Q=>Q none H
noncomputable def tPart (t:TE):TO:=fun σ H Q=>t σ H fun x H1=>∃i,x=.int i∧Q (some i) H1
theorem intsAre_of {ns:List Int}:∀{us:List Value},Vals (ns.map V.int) us→IntsAre us ns:=by
 induction ns with
 | nil=>intro us r;rw [map_nil] at r;cases r;exact .nil
 | cons n ns ih =>
  intro us r
  rw [map_cons] at r
  cases r with
  | cons r1 r2 =>
   obtain ⟨t,e⟩:=r1
   subst e
   exact .cons n t (ih r2)
section
variable {X:Cx}{e:Expr}{te:TE}{lo hi:Option Expr}{tl th:TO}{pos p2:Pos}
theorem po_none:PO X none tNoPart:=by
 intro pins s σ H Q I h
 rw [evalPart_none]
 exact wpAny_pure ⟨none,H,I,.none,h⟩
theorem po_some (h:PE X e te):PO X (some e) (tPart te):=by
 intro pins s σ H Q I hw
 rw [evalPart_some]
 refine thn (h pins s σ H _ I hw) fun u s1 hz9=>?_
 obtain ⟨x,H1,I1,r1,q1⟩:=hz9
 obtain ⟨i,rfl,q⟩:=q1
 obtain ⟨t,rfl⟩:=r1
 exact ⟨some i,H1,I1,.int i t,q⟩
def SlR (X:Cx)(r:V→Option Int→Option Int→Hp→VK→Prop):Prop:=
 ∀(pins:List (Addr×Obj)) (s:Shared) (σ:St) (H:Hp) (x:V) (v vl vu:Value) (lo hi:Option Int) (sl:Addr) (Q:VK),Inv X pins σ H s→RelV x v→s.heap.IsSliceOf sl vl vu .none→IsPart vl lo→IsPart vu hi→r x lo hi H Q→
  ∃T id,typeLookup (.type T) "__getitem__"=pure (some (.builtin id))∧s.TypeIs v T∧wpAny (model X.prog X.w) X.A (getItem v (.ref sl)) (EP X pins σ Q) X.xe s
def tSl (r:V→Option Int→Option Int→Hp→VK→Prop)(te:TE)(tl th:TO):TE:=fun σ H Q=>te σ H fun x H1=>tl σ H1 fun l H2=>th σ H2 fun u H3=>r x l u H3 Q
theorem pe_slice {r:V→Option Int→Option Int→Hp→VK→Prop}(hr:SlR X r)(he:PE X e te)(hl:PO X lo tl)(hu:PO X hi th):PE X (.Subscript e (.Slice lo hi none p2) pos) (tSl r te tl th):=by
 intro pins s σ H Q I h
 refine Subscript_ (thn (he pins s σ H _ I h) fun v s1 hz9=>?_)
 obtain ⟨x,H1,I1,r1,q1⟩:=hz9
 refine wpAny_Slice (thn (hl pins s1 σ H1 _ I1 q1) fun vl s2 ⟨l,H2,I2,pl,q2⟩=>thn (hu pins s2 σ H2 _ I2 q2) fun vu s3 ⟨u,H3,I3,pu,q3⟩=>?_)
 rw [evalPart_none]
 refine wpAny_pure ?_
 have I4:Inv X pins σ H3 {s3 with heap:=s3.heap.push {cls:=.type "slice",data:=.fields #[vl,vu,.none]}}:=I3.kept (t':=s3.toks) fun b ob q=>get?_push_of_some _ q
 obtain ⟨T,id,hT,ht,hg⟩:=hr pins {s3 with heap:=s3.heap.push {cls:=.type "slice",data:=.fields #[vl,vu,.none]}} σ H3 x v vl vu l u s3.heap.objs.size Q I4 r1 (Heap.IsSliceOf.new ..) pl pu q3
 show wpAny (model X.prog X.w) X.A (subscriptTail e (.Slice lo hi none p2) v (.ref s3.heap.objs.size)) (EP X pins σ Q) X.xe {s3 with heap:=s3.heap.push {cls:=.type "slice",data:=.fields #[vl,vu,.none]}}
 exact tail_any (ops:=[.ref s3.heap.objs.size,v]) ht hT hg (by with_unfolding_all rfl)
noncomputable def cutV (xs:List V)(lo hi:Option Int):List V:=(xs.drop (HT.sIx xs.length 0 lo)).take (HT.sIx xs.length xs.length hi - HT.sIx xs.length 0 lo)
theorem cutV_length (xs:List V)(lo hi:Option Int):(cutV xs lo hi).length≤xs.length:=by
 unfold cutV
 rw [length_take,length_drop]
 omega
end
noncomputable def ixN (n:Nat)(i:Int):Option Nat:=if 0≤i then (if i<n then some i.toNat else none) else if -(n:Int)≤i then some (i+n).toNat else none
noncomputable def atI {α:Type}(xs:List α)(i:Int):Option α:=(ixN xs.length i).bind fun j=>xs[j]?
theorem ixN_seq {n:Nat}{i:Int}{j:Nat}(h:ixN n i=some j):seqIndex? i n=some j∧j<n∧-(n:Int)≤i∧i<n:=by
 unfold ixN at h
 by_cases h0:0≤i
 ·rw [if_pos h0] at h
  by_cases h1:i<n
  ·rw [if_pos h1] at h
   have e:i.toNat=j:=Option.some.inj h
   exact ⟨by rw [seqIndex_of h0 h1,e],by omega,by omega,h1⟩
  ·rw [if_neg h1] at h;cases h
 ·rw [if_neg h0] at h
  by_cases h1:-(n:Int)≤i
  ·rw [if_pos h1] at h
   have e:(i+n).toNat=j:=Option.some.inj h
   exact ⟨by rw [seqIndex_neg (by omega) h1,e],by omega,h1,by omega⟩
  ·rw [if_neg h1] at h;cases h
theorem atI_get {α:Type}{xs:List α}{i:Int}{v:α}(h:atI xs i=some v):∃j,seqIndex? i xs.length=some j∧xs[j]?=some v∧j<xs.length∧-(xs.length:Int)≤i∧i<xs.length:=by
 unfold atI at h
 cases e:ixN xs.length i with
 | none=>rw [e] at h;cases h
 | some j =>
  rw [e] at h
  obtain ⟨h1,h2,h3,h4⟩:=ixN_seq e
  exact ⟨j,h1,h,h2,h3,h4⟩
def PlainIx (b:Expr):Prop:=∀o i,subscripted b false o i=operate [o,i] (getItem o i)
def IxR (X:Cx)(r:R2):Prop:=
 ∀(value slice:Expr) (pins:List (Addr×Obj)) (s:Shared) (σ:St) (H:Hp) (x y:V) (v u:Value) (Q:VK),Inv X pins σ H s→RelV x v→RelV y u→r x y H Q→
  subscripted slice false v u=operate [v,u] (getItem v u)→wpAny (model X.prog X.w) X.A (subscriptTail value slice v u) (EP X pins σ Q) X.xe s
def MtR (X:Cx)(id:String)(r:V→List V→Hp→VK→Prop):Prop:=
 ∀(pins:List (Addr×Obj)) (s:Shared) (σ:St) (H:Hp) (x:V) (xs:List V) (v:Value) (us:List Value) (Q:VK),Inv X pins σ H s→RelV x v→Vals xs us→r x xs H Q→
  wpAny (model X.prog X.w) X.A (call (.builtin id) (v::us)) (EP X pins σ Q) X.xe s
section
variable {X:Cx}{a b:Expr}{ta tb:TE}{pos:Pos}
theorem IxR.or {r r':R2}(h:IxR X r)(h':IxR X r'):IxR X (fun x y H Q=>r x y H Q∨r' x y H Q):=by
 intro value slice pins s σ H x y v u Q I rx ry q hs
 rcases q with q | q
 ·exact h value slice pins s σ H x y v u Q I rx ry q hs
 ·exact h' value slice pins s σ H x y v u Q I rx ry q hs
theorem pe_ix {r:R2}(hr:IxR X r)(ha:PE X a ta)(hb:PE X b tb)(hs:PlainIx b):PE X (.Subscript a b pos) (tOp r ta tb):=by
 intro pins s σ H Q I h
 exact Subscript_ (binT ha hb I h fun v u s2 x y H2 I2 rx ry q=>hr a b pins s2 σ H2 x y v u Q I2 rx ry q (hs _ _))
noncomputable def rIxL (K:Frag):R2:=fun x y H Q=>∃p xs i v,x=.ref p∧y=.int i∧SqL K H p xs∧atI xs i=some v∧Q v H
noncomputable def rIxT (K:Frag):R2:=fun x y H Q=>∃p xs i v,x=.ref p∧y=.int i∧SqT K H p xs∧atI xs i=some v∧Q v H
noncomputable def rIxS:R2:=fun x y H Q=>∃z i c,x=.str z∧y=.int i∧z.length≤sizeLine∧atI z.cps.toList i=some c∧Q (.str ⟨#[c]⟩) H
theorem ix_list:IxR X (rIxL X.K):=by
 intro value slice pins s σ H x y v u Q I rx ry h hs
 obtain ⟨p,xs,i,z,rfl,rfl,hq,he,q⟩:=h
 cases rx
 obtain ⟨t,rfl⟩:=ry
 obtain ⟨its,r,pl,hz⟩:=I.list hq
 obtain ⟨j,h1,h2,h3,h4,h5⟩:=atI_get he
 obtain ⟨w,ew,rw'⟩:=r.get h2
 have hl:=r.length
 have hn:=line63
 have fin:EP X pins σ Q w s:=⟨z,H,I,rw',q⟩
 by_cases h0:0≤i
 ·have hj:i.toNat=j:=by
   rw [seqIndex_of h0 h5] at h1
   exact Option.some.inj h1
  exact item_listR pl.isList h0 (by omega) (by rw [hj];simpa using ew) fin hs
 ·have hj:(i+(its.toArray.size:Int)).toNat=j:=by
   rw [seqIndex_neg (by omega) h4] at h1
   rw [size_toArray,← hl]
   exact Option.some.inj h1
  exact subscriptTail_builtinR (x:=w) pl.isList.typeIs slot_list_getitem.lookup
   (wpAny_getItem_list_neg (Q:=fun r s'=>r=w∧EP X pins σ Q r s') pl.isList (by omega) (by rw [size_toArray]<;>omega) (by omega) (by rw [hj];simpa using ew) ⟨rfl,fin⟩) hs
theorem ix_tup:IxR X (rIxT X.K):=by
 intro value slice pins s σ H x y v u Q I rx ry h hs
 obtain ⟨p,xs,i,z,rfl,rfl,hq,he,q⟩:=h
 cases rx
 obtain ⟨t,rfl⟩:=ry
 obtain ⟨its,r,pl,hz⟩:=I.tuple hq
 obtain ⟨j,h1,h2,h3,h4,h5⟩:=atI_get he
 obtain ⟨w,ew,rw'⟩:=r.get h2
 have hl:=r.length
 have hn:=line63
 have fin:EP X pins σ Q w s:=⟨z,H,I,rw',q⟩
 exact subscriptTail_builtinR (x:=w) pl.typeIs slot_tuple_getitem.lookup
  (getItem_tuple (j:=j) (Q:=fun r s'=>r=w∧EP X pins σ Q r s') pl (by omega) (by omega) (by rw [size_toArray,← hl];exact h1) (by simpa using ew) ⟨rfl,fin⟩) hs
theorem ix_str:IxR X rIxS:=by
  intro value slice pins s σ H x y v u Q I rx ry h hs
  obtain ⟨z,i,c,rfl,rfl,hz,he,q⟩:=h
  obtain ⟨t,rfl⟩:=rx
  obtain ⟨t',rfl⟩:=ry
  obtain ⟨j,h1,h2,h3,h4,h5⟩:=atI_get he
  have hl:z.cps.toList.length=z.length:=by simp [Str.length]
  rw [hl] at h1 h4 h5
  have hn:=line63
  exact tail_any (typeIs_str s z t) slot_str_getitem.lookup (getItem_str (c:=c) (by
    have e1:decide (i < -(2 ^ 63:Int))=false:=decide_eq_false (by omega)
    have e2:decide (i≥2 ^ 63)=false:=decide_eq_false (by omega)
    rw [e1,e2,Bool.or_false]) (by rw [h1];simpa using h2) ⟨.str ⟨#[c]⟩,H,I.tok _,⟨_,rfl⟩,q⟩) hs
noncomputable def rIx (K:Frag):R2:=fun x y H Q=>rIxL K x y H Q∨rIxT K x y H Q∨rIxS x y H Q
theorem ix_seq:IxR X (rIx X.K):=ix_list.or (ix_tup.or ix_str)
theorem mapSeq_set (its:List Value)(n j:Nat)(u:Value):Obj.mapSeq (·.setIfInBounds j u) {cls:=.type "list",data:=.seq its.toArray n}={cls:=.type "list",data:=.seq (its.set j u).toArray n}:=by
 simp [Obj.mapSeq]
theorem Inv.lst {pins:List (Addr×Obj)}{σ:St}{H:Hp}{s:Shared}{p:Addr}{xs:List V}(I:Inv X pins σ H s)(h:H p=some (.lst xs)) :
  ∃(its:List Value) (n:Nat),Vals xs its∧s.heap.get? p=some {cls:=.type "list",data:=.seq its.toArray n}∧xs.length≤sizeLine:=by
 obtain ⟨z,its,n,r,e⟩:=I.hok p _ h
 exact ⟨its,n,r,e,z⟩
theorem Inv.lstUpd {pins:List (Addr×Obj)}{σ:St}{H:Hp}{s:Shared}{p:Addr}{xs ys:List V}{its its':List Value}{n n':Nat}{f:Obj→Obj}(I:Inv X pins σ H s)(h:H p=some (.lst xs))
  (ho:s.heap.get? p=some {cls:=.type "list",data:=.seq its.toArray n}) (hf:f {cls:=.type "list",data:=.seq its.toArray n}={cls:=.type "list",data:=.seq its'.toArray n'}) (r:Vals ys its') (hz:ys.length≤sizeLine) (t:Nat) :
  Inv X pins σ (upd H p (.lst ys)) {s with heap:=s.heap.update p f,toks:=t}:=by
 have e:(s.heap.update p f).get? p=some {cls:=.type "list",data:=.seq its'.toArray n'}:=by
  rw [Heap.get?_update_self f ho (by rw [hf]<;>rfl),hf]
 refine I.write (x:=p) (e:=p) (by rw [h];trivial) (.inl rfl) (fun b u hb q=>(Heap.get?_update_other _ _ (Ne.symm hb)).trans q) ⟨_,e⟩ ?_
 exact ⟨hz,its',n',r,e⟩
def rSetL:V→V→V→Hp→(Hp→Prop)→Prop:=fun o i v H Q=>∃p xs k j,o=.ref p∧i=.int k∧H p=some (.lst xs)∧ixN xs.length k=some j∧Q (upd H p (.lst (xs.set j v)))
theorem set_list:PSet X rSetL:=by
 intro pins s σ H o i v ov iv u Q I ro ri rv h
 obtain ⟨p,xs,k,j,rfl,rfl,hp,hj,q⟩:=h
 cases ro
 obtain ⟨t,rfl⟩:=ri
 obtain ⟨its,n,r,ho,hz⟩:=I.lst hp
 obtain ⟨h1,h2,h3,h4⟩:=ixN_seq hj
 have hl:=r.length
 have hn:=line63
 have I':Inv X pins σ (upd H p (.lst (xs.set j v))) {s with heap:=s.heap.update p (Obj.mapSeq (·.setIfInBounds j u))}:=
  I.lstUpd hp ho (mapSeq_set its n j u) (r.set rv j) (by rw [length_set];exact hz) s.toks
 by_cases h0:0≤k
 ·have hk:k.toNat=j:=by
   rw [seqIndex_of h0 h4] at h1
   exact Option.some.inj h1
  exact PySem.W.ki_setAt ho h0 (by omega) (by rw [size_toArray,← hl];exact h4) (by rw [hk];exact ⟨_,I',q⟩)
 ·have hk:(k+(its.toArray.size:Int)).toNat=j:=by
   rw [seqIndex_neg (by omega) h3] at h1
   rw [size_toArray,← hl]
   exact Option.some.inj h1
  exact PySem.W.ki_setBack ho (by omega) (by rw [size_toArray,← hl];exact h3) (by omega) (by rw [hk];exact ⟨_,I',q⟩)
theorem slice_bounds (lo hi:Option Int)(n:Nat):(sliceBounds lo hi none n).1=((HT.sIx n 0 lo:Nat):Int)∧(sliceBounds lo hi none n).2.1=((HT.sIx n n hi:Nat):Int)∧(sliceBounds lo hi none n).2.2=1:=by
 refine ⟨?_,?_,rfl⟩
 ·cases lo with
  | none=>simp [sliceBounds,HT.sIx]
  | some i =>
   simp only [sliceBounds,HT.sIx,Option.getD_none,show (1:Int) > 0 by decide,if_true]
   by_cases h:i<0
   ·simp only [h,if_true]<;>omega
   ·simp only [h,if_false]<;>omega
 ·cases hi with
  | none=>simp [sliceBounds,HT.sIx]
  | some i =>
   simp only [sliceBounds,HT.sIx,Option.getD_none,show (1:Int) > 0 by decide,if_true]
   by_cases h:i<0
   ·simp only [h,if_true]<;>omega
   ·simp only [h,if_false]<;>omega
theorem slicePick_cut (its:List Value)(lo hi:Option Int):slicePick its.toArray lo hi none=((its.drop (HT.sIx its.length 0 lo)).take (HT.sIx its.length its.length hi - HT.sIx its.length 0 lo)).toArray:=by
 obtain ⟨h1,h2,h3⟩:=slice_bounds lo hi its.toArray.size
 unfold slicePick
 rw [h1,h2,h3]
 simp only [sliceRange_one,pick_run,size_toArray]<;>rfl
def rSlL (K:Frag):V→Option Int→Option Int→Hp→VK→Prop:=fun x lo hi H Q=>∃a xs,x=.ref a∧SqL K H a xs∧∀p,H p=none→Q (.ref p) (upd H p (.lst (cutV xs lo hi)))
theorem sl_list:SlR X (rSlL X.K):=by
 intro pins s σ H x v vl vu lo hi sl Q I rx hs pl pu h
 obtain ⟨a,xs,rfl,hx,q⟩:=h
 cases rx
 obtain ⟨its,r,ht,hz⟩:=I.list hx
 have hlen:=r.length
 refine ⟨"list",_,slot_list_getitem.lookup,ht.isList.typeIs,?_⟩
 refine wpAny_getItem_list_slice ht.isList hs pl pu .none (by simp) ?_ (by rw [size_toArray]<;>omega)
 rw [slicePick_cut,← hlen]
 refine ⟨.ref s.heap.objs.size,_,I.laid (t':=s.toks) (o:=.lst (cutV xs lo hi)) (fun b ob q=>get?_push_of_some _ q) (le_refl _) ?_,rfl,q _ (I.hok.fresh (le_refl _))⟩
 exact ⟨le_trans (cutV_length xs lo hi) hz,_,0,(r.drop (HT.sIx xs.length 0 lo)).take (HT.sIx xs.length xs.length hi - HT.sIx xs.length 0 lo),get?_push_size _ rfl⟩
theorem call_len_seq:CallR X (.builtin "len") (fun xs H Q=>∃p ys,xs=[.ref p]∧(SqL X.K H p ys∨SqT X.K H p ys)∧Q (.int ys.length) H):=by
 intro pins s σ H xs us Q I r h
 obtain ⟨p,ys,rfl,hq,q⟩:=h
 obtain ⟨u,rfl,rx⟩:=vals1 r
 cases rx
 have hn:=line63
 rcases hq with hq | hq
 ·obtain ⟨its,r',pl,hz⟩:=I.list hq
  have hlen:=r'.length
  exact Calls.call_len_list pl.isList (by simp only [size_toArray]<;>omega) ⟨.int ys.length,H,I.tok _,⟨s.toks+1,by rw [size_toArray,hlen]⟩,q⟩
 ·obtain ⟨its,r',pl,hz⟩:=I.tuple hq
  have hlen:=r'.length
  exact len_tuple pl (by simp only [size_toArray]<;>omega) ⟨.int ys.length,H,I.tok _,⟨s.toks+1,by rw [size_toArray,hlen]⟩,q⟩
theorem call_len_str:CallR X (.builtin "len") (fun xs H Q=>∃z,xs=[.str z]∧z.length≤sizeLine∧Q (.int z.length) H):=by
 intro pins s σ H xs us Q I r h
 obtain ⟨z,rfl,hz,q⟩:=h
 obtain ⟨u,rfl,t,rfl⟩:=vals1 r
 have hn:=line63
 exact len_str (by omega) ⟨.int z.length,H,I.tok _,⟨_,rfl⟩,q⟩
theorem CallR.or {f:Value}{r r':List V→Hp→VK→Prop}(h:CallR X f r)(h':CallR X f r'):CallR X f (fun xs H Q=>r xs H Q∨r' xs H Q):=by
 intro pins s σ H xs us Q I rs q
 rcases q with q | q
 ·exact h pins s σ H xs us Q I rs q
 ·exact h' pins s σ H xs us Q I rs q
theorem call_list_of:CallR X (.type "list") (fun xs H Q=>∃p ys,xs=[.ref p]∧(SqL X.K H p ys∨SqT X.K H p ys)∧∀l,H l=none→Q (.ref l) (upd H l (.lst ys))):=by
 intro pins s σ H xs us Q I r h
 obtain ⟨p,ys,rfl,hq,q⟩:=h
 obtain ⟨u,rfl,rx⟩:=vals1 r
 cases rx
 have fin:∀(its:List Value),Vals ys its→ys.length≤sizeLine→∀(h':Heap) (c':Nat),(∀b o',s.heap.get? b=some o'→h'.get? b=some o')→
   h'.get? s.heap.objs.size=some {cls:=.type "list",dict:=none,data:=.seq its.toArray c',slots:=#[]}→EP X pins σ Q (.ref s.heap.objs.size) {s with heap:=h'}:=fun its r' hz h' c' kp e =>
  ⟨.ref s.heap.objs.size,_,I.laid (t':=s.toks) kp (le_refl _) (show ObjOk X.prog X.w _ h' _ (.lst ys) from ⟨hz,its,c',r',e⟩),rfl,q _ (I.hok.fresh (le_refl _))⟩
 rcases hq with hq | hq
 ·obtain ⟨its,r',pl,hz⟩:=I.list hq
  have hlen:=r'.length
  obtain ⟨o,ho,hc,n,hd⟩:=pl.isList
  exact call_list_seq p (.inl rfl) ho hc hd (fun h' c' kp e=>fin its r' hz h' c' kp e) (by simp only [size_toArray]<;>omega)
 ·obtain ⟨its,r',pl,hz⟩:=I.tuple hq
  have hlen:=r'.length
  obtain ⟨o,ho,hc,n,hd⟩:=pl
  exact call_list_seq p (.inr rfl) ho hc hd (fun h' c' kp e=>fin its r' hz h' c' kp e) (by simp only [size_toArray]<;>omega)
def tyV (K:Frag)(T:String)(x:V)(H:Hp):Prop:=match x with
 | .str _=>T="str"
 | .int _=>T="int"
 | .ref p=>(T="list"∧∃xs,SqL K H p xs)∨(T="tuple"∧∃o,K.lookup p=some o∧o.cls=.type "tuple"∧o.dict=none)∨
   (T="dict"∧((∃kvs,H p=some (.dK kvs))∨∃kvs,H p=some (.dT kvs)))∨(T="set"∧∃S n,H p=some (.set S n))
 | _=>False
theorem tyV_is {pins:List (Addr×Obj)}{σ:St}{H:Hp}{s:Shared}{T:String}{x:V}{v:Value}(I:Inv X pins σ H s)(r:RelV x v)(ty:tyV X.K T x H) :
  s.TypeIs v T∧∀a,v=.ref a→∃ob,s.heap.get? a=some ob∧ob.dict=none:=by
 cases x with
 | str z =>
  obtain ⟨t,rfl⟩:=r
  cases (show T="str" from ty)
  exact ⟨typeIs_str s z t,fun _ e=>nomatch e⟩
 | int i =>
  obtain ⟨t,rfl⟩:=r
  cases (show T="int" from ty)
  exact ⟨typeIs_int s i t,fun _ e=>nomatch e⟩
 | ref p =>
  cases r
  rcases ty with ⟨rfl,xs,hq⟩ | ⟨rfl,o,hk,hc,hd⟩ | ⟨rfl,hk⟩ | ⟨rfl,S,n,hk⟩
  ·obtain ⟨its,_,pl,_⟩:=I.list hq
   refine ⟨pl.isList.typeIs,fun a e=>?_⟩
   cases e
   obtain ⟨o,n,e,c,hd,_⟩:=pl
   exact ⟨o,e,hd⟩
  ·refine ⟨⟨o,I.kIn p o hk,hc⟩,fun a e=>?_⟩
   cases e
   exact ⟨o,I.kIn _ o hk,hd⟩
  ·have z:∃o,s.heap.get? p=some o∧o.ExactDict:=by
    rcases hk with ⟨kvs,hk⟩ | ⟨kvs,hk⟩
    ·obtain ⟨_,_,_,_,o,_,_,e,ex,_⟩:=I.hok p _ hk
     exact ⟨o,e,ex⟩
    ·obtain ⟨_,_,_,_,o,_,_,e,ex,_⟩:=I.hok p _ hk
     exact ⟨o,e,ex⟩
   obtain ⟨o,e,ex⟩:=z
   refine ⟨⟨o,e,ex.1⟩,fun a e2=>?_⟩
   cases e2
   exact ⟨o,e,ex.2.1⟩
  ·obtain ⟨o,_,_,_,e,ex,_⟩:=I.hok p _ hk
   refine ⟨⟨o,e,ex.1⟩,fun a e2=>?_⟩
   cases e2
   exact ⟨o,e,ex.2.1⟩
 | _=>exact False.elim ty
def tBM (K:Frag)(T:String)(r:V→List V→Hp→VK→Prop)(to:TE)(t:TA):TE:=fun σ H Q=>to σ H fun x H1=>tyV K T x H1∧t σ H1 fun xs H2=>r x xs H2 Q
variable {o e:Expr}{es:List Expr}{to:TE}{t:TA}{name:Str}{apos cpos:Pos}{T id:String}{r:V→List V→Hp→VK→Prop}
theorem pe_bm (pa:PlainAttrs T)(slot:Slot T name id)(hty:typeOf (.builtin id)=pure (.type "method_descriptor"))(hm:MtR X id r)(ho:PE X o to)(ha:PA X (e::es) t)
    (hbase:attributeBase o name X.env (eval o X.env)=eval o X.env:=by rfl)
    (hfew:((backTo cpos (starEach (e::es) X.env)).all (fun x=>!x.1)&&(backToKw cpos (keywordEach [] X.env)).all (fun x=>x.1.isSome)
      && decide ((e::es).length+([]:List Keyword).length+(if ([]:List Keyword).isEmpty then 0 else 1)<30))=true:=by rfl)
    (hline:(apos.endLine==cpos.line)=true:=by rfl) (hs:starEach (e::es) X.env=(false,eval e X.env)::starEach es X.env:=by rfl) (hplain:(backTo cpos (starEach es X.env)).any (·.1)=false:=by rfl) :
    PE X (.Call (.Attribute o name apos) (e::es) [] cpos) (tBM X.K T r to t):=by
  intro pins s σ H Q I h
  refine wpAny_Call_method_late hbase hfew hline rfl (thn (ho pins s σ H _ I h) fun v s1 hz9=>?_)
  obtain ⟨x,H1,I1,r1,ty,q1⟩:=hz9
  obtain ⟨h1,h2⟩:=tyV_is I1 r1 ty
  refine ⟨T,id,pa,slot,hty,h1,h2,?_⟩
  have hA:=ha cpos pins s1 σ H1 _ I1 q1
  rw [hs] at hA ⊢
  refine Calls.callWith_builtin (by show (false||(backTo cpos (starEach es X.env)).any (·.1))=false;rw [hplain]<;>rfl) (Calls.evalArgs_plain ?_)
  exact thn hA fun us s2 ⟨vs,H2,I2,r2,q2⟩=>hm pins s2 σ H2 x vs v us Q I2 r1 r2 q2
end
def MtM (X:Cx)(id:String)(r:V→List V→Hp→VK→Prop):Prop:=
 ∀(pins:List (Addr×Obj)) (s:Shared) (σ:St) (H:Hp) (x:V) (xs:List V) (v:Value) (us:List Value) (Q:VK),Inv X pins σ H s→RelV x v→Vals xs us→r x xs H Q→
  wpAny (model X.prog X.w) X.A (call (.builtin id) (v::us)) (EP X pins σ Q) X.xe s
theorem Vals.one:∀{x:V} {us:List Value},Vals [x] us→∃u,us=[u]∧RelV x u
 | _,_,.cons r .nil=>⟨_,rfl,r⟩
theorem Vals.zero:∀{us:List Value},Vals [] us→us=[]
 | _,.nil=>rfl
theorem Vals.reverse {xs:List V}{us:List Value}(h:Vals xs us):Vals xs.reverse us.reverse:=by
 induction h with
 | nil=>exact .nil
 | cons r t ih=>rw [reverse_cons,reverse_cons];exact Vals.append ih (.cons r .nil)
theorem Vals.rep {xs:List V}{us:List Value}(h:Vals xs us):∀k:Nat,Vals (List.replicate k xs).flatten (List.replicate k us).flatten
 | 0=>.nil
 | k+1=>by
  rw [replicate_succ,replicate_succ,flatten_cons,flatten_cons]
  exact Vals.append h (Vals.rep h k)
theorem foldl_rep (its:List Value):∀(k:Nat) (acc:List Value),
  List.foldl (fun x1 x2=>x1++x2) acc.toArray (List.replicate k its.toArray)=(acc++(List.replicate k its).flatten).toArray
 | 0,acc=>by simp
 | k+1,acc=>by
  have e:acc.toArray++its.toArray=(acc++its).toArray:=by simp
  have e2:(acc++its)++(List.replicate k its).flatten=acc++(List.replicate (k+1) its).flatten:=by
   rw [replicate_succ,flatten_cons,append_assoc]
  rw [← e2,← foldl_rep its k (acc++its),← e,replicate_succ,List.foldl_cons]
section
variable {X:Cx}{pins:List (Addr×Obj)}{σ:St}{H:Hp}{s:Shared}{l b:Addr}{xs ys zs:List V}
theorem Inv.lset {its its':List Value}{n:Nat}{f:Array Value→Array Value}{t':Nat}(I:Inv X pins σ H s)(hH:H l=some (.lst xs))
  (e:s.heap.get? l=some {cls:=.type "list",data:=.seq its.toArray n}) (hf:f its.toArray=its'.toArray) (hv:Vals ys its') (hz:ys.length≤sizeLine) :
  Inv X pins σ (upd H l (.lst ys)) {s with heap:=s.heap.update l (Obj.mapSeq f),toks:=t'}:=by
 have q:=PySem.IsL.update e f
 rw [hf] at q
 refine I.write (x:=l) (e:=l) (by rw [hH];exact trivial) (.inl rfl) (fun b' u hb hu=>(Heap.get?_update_other s.heap (Obj.mapSeq f) (Ne.symm hb)).trans hu) ⟨_,q⟩ ?_
 exact ⟨hz,its',_,hv,q⟩
theorem Inv.lnew {its:List Value}{t':Nat}(I:Inv X pins σ H s)(hv:Vals ys its)(hz:ys.length≤sizeLine) :
  Inv X pins σ (upd H s.heap.objs.size (.lst ys)) {s with heap:=s.heap.push {cls:=.type "list",data:=.seq its.toArray},toks:=t'}:=
 I.laid (fun _ _ q=>get?_push_of_some _ q) (le_refl _) ⟨hz,its,0,hv,get?_push_size _ rfl⟩
theorem Inv.fresh (I:Inv X pins σ H s):H s.heap.objs.size=none:=I.hok.fresh (le_refl _)
theorem Inv.lstM (I:Inv X pins σ H s)(hH:H l=some (.lst xs)):xs.length≤sizeLine∧∃(its:List Value) (n:Nat),Vals xs its∧xs.length=its.length∧s.heap.get? l=some {cls:=.type "list",data:=.seq its.toArray n}:=by
 obtain ⟨z,its,n,r,e⟩:=I.hok l _ hH
 exact ⟨z,its,n,r,r.length,e⟩
theorem notLongL {n:Nat}(h:n≤sizeLine):Builtin.List.listTooLong n=false:=by
 unfold Builtin.List.listTooLong
 exact decide_eq_false (by omega)
end
section
variable {X:Cx}
def rAppend:V→List V→Hp→VK→Prop:=fun x vs H Q=>∃l xs y,x=.ref l∧vs=[y]∧H l=some (.lst xs)∧xs.length<sizeLine∧Q .non (upd H l (.lst (xs++[y])))
theorem mt_append:MtM X "list.append" rAppend:=by
 intro pins s σ H x vs v us Q I rx rv h
 obtain ⟨l,xs,y,rfl,rfl,hH,hz,q⟩:=h
 cases rx
 obtain ⟨u,rfl,ru⟩:=rv.one
 obtain ⟨z,its,n,r,hl,e⟩:=I.lstM hH
 refine call_meets F.slot_list_append ⟨_,e,rfl⟩ F.entry_list_append (F.args_list_append_2 _ _) (PySem.list_append l its.toArray n u (by rw [size_toArray];omega)) ⟨e,?_⟩
 refine ⟨.non,_,I.lset (its':=its++[u]) hH e (by simp) (r.append (.cons ru .nil)) ?_,rfl,q⟩
 rw [length_append,List.length_singleton]
 omega
def rExtend:V→List V→Hp→VK→Prop:=fun x vs H Q=>∃l b xs zs,x=.ref l∧vs=[.ref b]∧H l=some (.lst xs)∧H b=some (.lst zs)∧xs.length+zs.length≤sizeLine∧Q .non (upd H l (.lst (xs++zs)))
theorem mt_extend:MtM X "list.extend" rExtend:=by
 intro pins s σ H x vs v us Q I rx rv h
 obtain ⟨l,b,xs,zs,rfl,rfl,hH,hB,hz,q⟩:=h
 cases rx
 obtain ⟨u,rfl,ru⟩:=rv.one
 cases ru
 obtain ⟨z,its,n,r,hl,e⟩:=I.lstM hH
 obtain ⟨z2,its2,n2,r2,hl2,e2⟩:=I.lstM hB
 have hsz:its.toArray.size+its2.toArray.size≤sizeLine:=by rw [size_toArray,size_toArray];omega
 have hlong:¬(!its.toArray.isEmpty&&Builtin.List.listTooLong (its.toArray.size+its2.toArray.size))=true:=by
  rw [notLongL hsz,Bool.and_false]
  exact Bool.false_ne_true
 refine call_meets F.slot_list_extend ⟨_,e,rfl⟩ F.entry_list_extend (F.args_list_extend_2 _ _)
  (AutoSeq1.list_extend_list_list_0 l its.toArray n b its2.toArray n2 hlong (by rw [size_toArray];omega) (by omega)) ⟨e,e2,?_⟩
 refine ⟨.non,_,I.lset (its':=its++its2) hH e (by simp) (r.append r2) ?_,rfl,q⟩
 rw [length_append]
 omega
noncomputable def rCat:R2:=fun x y H Q=>∃l b xs zs,x=.ref l∧y=.ref b∧H l=some (.lst xs)∧H b=some (.lst zs)∧xs.length+zs.length≤sizeLine∧∀p,H p=none→Q (.ref p) (upd H p (.lst (xs++zs)))
theorem op_cat:OpR X (binaryOp .Add) rCat:=by
 intro pins s σ H x y v u Q I rx ry h
 obtain ⟨l,b,xs,zs,rfl,rfl,hH,hB,hz,q⟩:=h
 cases rx
 cases ry
 obtain ⟨z,its,n,r,hl,e⟩:=I.lstM hH
 obtain ⟨z2,its2,n2,r2,hl2,e2⟩:=I.lstM hB
 refine PySem.P.add_list e e2 ?_ (by rw [size_toArray,size_toArray];omega)
 have ea:its.toArray++its2.toArray=(its++its2).toArray:=by simp
 rw [ea]
 exact ⟨.ref _,_,I.lnew (t':=s.toks) (r.append r2) (by rw [length_append];omega),rfl,q _ I.fresh⟩
noncomputable def rRep:R2:=fun x y H Q=>∃l k xs,x=.ref l∧y=.int k∧H l=some (.lst xs)∧-(2 ^ 63)≤k∧k<2 ^ 63∧xs.length*k.toNat≤sizeLine∧
 ∀p,H p=none→Q (.ref p) (upd H p (.lst (List.replicate k.toNat xs).flatten))
theorem len_rep {α:Type}(xs:List α)(k:Nat):(List.replicate k xs).flatten.length=k*xs.length:=by
 induction k with
 | zero=>simp
 | succ k ih=>rw [replicate_succ,flatten_cons,length_append,ih,Nat.succ_mul,Nat.add_comm]
theorem op_rep:OpR X (binaryOp .Mult) rRep:=by
  intro pins s σ H x y v u Q I rx ry h
  obtain ⟨l,k,xs,rfl,rfl,hH,h1,h2,hz,q⟩:=h
  cases rx
  obtain ⟨t,rfl⟩:=ry
  obtain ⟨z,its,n,r,hl,e⟩:=I.lstM hH
  have hlen:its.toArray.size*k.toNat≤sizeLine:=by rw [size_toArray,← hl];exact hz
  have hcap:¬its.toArray.size*k.toNat > (2 ^ 63 - 1) / 8:=by
    have:(sizeLine:Nat)≤(2 ^ 63 - 1) / 8:=by decide
    omega
  have hfit:¬(!Builtin.List.listFitsIndex k)=true:=by
    rw [fitsIndex_both h1 h2]
    exact Bool.false_ne_true
  have hlong:¬Builtin.List.listTooLong (its.toArray.size*k.toNat)=true:=by
    rw [notLongL hlen]
    exact Bool.false_ne_true
  have hnew:List.foldl (fun x1 x2=>x1++x2) #[] (List.replicate (if its.toArray.isEmpty=true then 0 else k.toNat) its.toArray)=(List.replicate k.toNat its).flatten.toArray:=by
    have f0:∀m:Nat,List.foldl (fun x1 x2=>x1++x2) #[] (List.replicate m its.toArray)=(List.replicate m its).flatten.toArray:=fun m=>by
      have:=foldl_rep its m []
      rw [nil_append] at this
      exact this
    rw [f0]
    cases its with
    | nil=>simp
    | cons a r'=>rw [if_neg (by simp)]
  refine wpAny_binaryOp_repeat_ref (T:="list") (U:="int") (by decide) ⟨_,e,rfl⟩ (fun s'=>typeIs_int s' k t) noFill_list_mul F.fills_int_mul F.slot_int_rmul repeat_list F.slot_int_index.lookup
    (call_meets F.slot_int_rmul (typeIs_int s k t) F.entry_int_rmul (F.args_int_rmul_2 _ _) (int___rmul___int_list k t l its.toArray n)
      ⟨e,rfl,⟨_,e,rfl⟩,call_meets F.slot_list_mul ⟨_,e,rfl⟩ F.entry_list_mul (F.args_list_mul_2 _ _) (AutoListH.list___mul___list_int_3 l its.toArray n k t hfit hcap hlong) ⟨e,?_⟩⟩)
  rw [hnew]
  exact ⟨.ref _,_,I.lnew (t':=s.toks) (r.rep k.toNat) (by rw [len_rep,Nat.mul_comm];exact hz),rfl,q _ I.fresh⟩
variable {prog:Program}{w:World}{A:Around}{E:Value→Shared→Prop}{s:Shared}
set_option maxRecDepth 100000 in
end
end L2
namespace Att
open PySem PySem.W PySem.Calls PyProof.Rows
theorem ints_of_wellAll {P:Params}{h:Heap}:∀(ns:List Int) (vs:List Value),WellAll P h vs (ns.map WData.int)→IntsAre vs ns:=by
 intro ns
 induction ns with
 | nil =>
  intro vs w
  rw [map_nil] at w
  cases w
  exact .nil
 | cons n ns ih =>
  intro vs w
  rw [map_cons] at w
  cases w with
  | cons a b =>
   cases a
   exact .cons _ _ (ih _ b)
theorem script_of {l:OpenLaw}{n:Nat}(hn:l.most=some n){P:Params}{h:Heap}{args:List WData}{vals:List Value}
  (hpre:l.row.toRowW.claim.pre args=true) (hwl:WellAll P h vals args) :
  ∃a vs ns,vals=[Value.ref a]∧args=[WData.list (ns.map WData.int)]∧h.get? a=some {cls:=.type "list",data:=.seq vs.toArray}∧IntsAre vs ns∧ns.length≤n:=by
 have hsh:WShape.hasAll [] args [.list .int]=true:=(pre_splitW hpre).1
 have hc:l.pre.holds [] {args:=args}=true:=(pre_splitW hpre).2
 obtain ⟨d,r,rfl,h1,h2⟩:=hasAllW_cons hsh
 obtain rfl:=hasAllW_nil h2
 obtain ⟨xs,rfl,h3⟩:=hasW_list h1
 obtain ⟨ns,rfl⟩:=items_int h3
 have hlen:ns.length≤n:=by
  unfold OpenLaw.pre at hc
  have h4:(WTm.not (.lt (.lit (.int (n:Int))) (.len (.arg 0)))).holds [] {args:=[.list (ns.map .int)]}=true:=by
   have h4:=(holds_andW hc).1
   rw [hn] at h4
   exact h4
  have h5:=condW_of h4 (w_not (w_lt w_lit (w_len_list (w_arg rfl))))
  rw [length_map] at h5
  refine Nat.le_of_not_lt fun q=>?_
  have q':(n:Int)<((ns.length:Nat):Int):=by omega
  first
   | (rw [decide_eq_true q'] at h5;exact absurd h5 (by decide))
   | (simp at h5;omega)
 cases hwl with
 | cons w1 w2 =>
  cases w2
  cases w1 with
  | list ho hall=>exact ⟨_,_,ns,rfl,rfl,ho,ints_of_wellAll ns _ hall,hlen⟩
theorem post_true (l:OpenLaw)(args:List WData):l.row.toRowW.claim.post args (.bool true) args=true:=
 postW_of (r:=l.row.toRowW) (X:=(true==true))
  (show WShape.has [] (.bool true) .bool=true by first | rfl | decide | simp [WShape.has,WShape.arms,WShape.armsAll])
  (show (WTm.eq .res (.lit (.bool true))).value [] {args:=args,res:=some (.bool true),after:=args}=some (.bool (true==true)) from w_eq_bool (w_res rfl) w_lit) rfl
theorem attach_call {l:OpenLaw}{n:Nat}{q:Program}{loose:List Str}{XP:(Str→Option Value)→Heap→Prop}{YP:World→Heap→Prop}{d:DefRec}
    (hn:l.most=some n) (hdf:d.params.defaults=[])
    (call:∀(w:World) (s₀ s₁:Shared) (mg mb:Str→Option Value) (fa:Addr) (o:Obj) (pm cd doc:Value) (a:Addr) (vs:List Value) (ns:List Int),
      Ground q loose [] XP w s₀ mg mb s₁.heap→YP w s₁.heap→
      s₁.heap.get? fa=some o→o.data=.func (docDef d.name d.params d.body d.scope pm cd doc)→s₁.heap.CodeRec cd d.name→mg d.name=some (.ref fa)→
      s₁.heap.get? a=some {cls:=.type "list",data:=.seq vs.toArray}→IntsAre vs ns→ns.length≤n→s₁.gens=#[]→
      codeAny (model l.prog w) callerA (.call (.ref fa) ⟨[.ref a],[]⟩) (fun r s'=>r=.ok (.ret (.bool true))∧OldK s₁.heap s'.heap∧s'.os=s₁.os∧AllBare s'.gens) s₁) :
    WalkO q loose XP YP l.row.toRowW d [] (fun f vs=>PySem.call f vs):=by
  intro w s₀ s₁ mg mb G Y fa o pm cd doc dV kV ho hd hcd hD hmg hg args vals as hpre hlay hrd hwl hlo
  obtain rfl:dV=.none:=Dflts.none hD hdf
  obtain rfl:kV=.none:=Dflts.noKw hD
  obtain ⟨a,vs,ns,rfl,rfl,hobj,hints,hlen⟩:=script_of hn hpre hwl
  refine enter_call (codeAny_mono (call w s₀ s₁ mg mb fa o pm cd doc a vs ns G Y ho (fd_plain hd) hcd hmg hobj hints hlen hg) fun r s' hq=>?_)
  obtain ⟨rfl,h2,h3,h4⟩:=hq
  exact ⟨.inl ⟨.bool true,.bool true,[],rfl,fun _=>rfl,.bool true,post_true l _,fun _=>⟨List.Pairwise.nil,fun _ hm=>(nomatch hm)⟩⟩,h2,h3,h4⟩
section
variable {prog:Program}{w:World}{A:Around}{E:Value→Shared→Prop}{s:Shared}{K:Frag}
end
end Att
namespace L2
open PySem PySem.Spec PyProof.Rows
theorem vals_ints:∀{vs:List Value} {ns:List Int},IntsAre vs ns→Vals (ns.map V.int) vs
 | _,_,.nil=>.nil
 | _,_,.cons n t h=>.cons ⟨t,rfl⟩ (vals_ints h)
def Only (H:Hp):Prop:=∀b,H b=none∨∃o xs,H b=some (.frz o (.lst xs))
theorem law_call {P:Program}{w:World}{K:Frag}{mg mb:Str→Option Value}{CX:CXT}{k:Nat}{fa a:Addr}{fd:FuncData}{x:Str}{sp:Sp}{s₁:Shared}{vs:List Value}{ns:List Int}
    (KX:K.In s₁.heap) (hns:s₁.heap.Ns mainGlobals mg) (hb:s₁.heap.Ns builtinsNs mb) (hbb:∀x:Str,x≠"__name__"→mb x=bootBuiltins x) (hlim:s₁.heap.NoLimit) (hg:s₁.gens=#[])
    (ha:s₁.heap.get? a=some {cls:=.type "list",data:=.seq vs.toArray}) (hi:IntsAre vs ns) (hl:ns.length≤sizeLine) (hr:Room k callerA)
    (F:∀base:Heap,K.In base→base.Ns mainGlobals mg→FnOk P w K mg base CX k fa fd [x] sp) (hbind:∀(s:Shared) (u:Value),BindsTo s fd ⟨[u],[]⟩ [(x,u)])
    (hsp:∀H:Hp,Only H→SqL K H a (ns.map V.int)→sp [.ref a] H (fun v _=>v=.bl true) fun _ _ _=>False)
    (hCX:∀H e s',CX [] H s₁ (fun _ _ _=>False) e s'→False) :
    codeAny (model P w) callerA (.call (.ref fa) ⟨[.ref a],[]⟩) (fun r s'=>r=.ok (.ret (.bool true))∧OldK s₁.heap s'.heap∧s'.os=s₁.os∧AllBare s'.gens) s₁:=by
  have rv:=vals_ints hi
  have lenV:=hi.length
  have core:∀H:Hp,Only H→SqL K H a (ns.map V.int)→HOk P w H s₁.heap→(∀b,H b≠none→b=a)→(H a≠none→K.lookup a=none)→
      codeAny (model P w) callerA (.call (.ref fa) ⟨[.ref a],[]⟩) (fun r s'=>r=.ok (.ret (.bool true))∧OldK s₁.heap s'.heap∧s'.os=s₁.os∧AllBare s'.gens) s₁:=by
    intro H hO hS hok hA hK
    have base_of:∀{b:Addr} {o:Obj},s₁.heap.get? b=some o→H b=none→(hidT s₁.heap H).get? b=some o:=fun e n=>hidT_get e n
    have noA:∀{b:Addr} {o:Obj} {es:Array DictEntry} {ep:Nat},s₁.heap.get? b=some o→o.data=.dict es ep→H b=none:=fun {b o es ep} e d=>by
      cases q:H b with
      | none=>rfl
      | some u =>
        have e':b=a:=hA b (by rw [q];simp)
        subst e'
        rw [ha] at e;cases e
        have d':Data.seq vs.toArray _=Data.dict es ep:=d
        cases d'
    have nsK:∀{b:Addr} {m:Str→Option Value},s₁.heap.Ns b m→(hidT s₁.heap H).Ns b m:=fun {b m} ⟨o,es,ep,e,d,r⟩=>⟨o,es,ep,base_of e (noA e d),d,r⟩
    have hKb:K.In (hidT s₁.heap H):=fun b o e=>base_of (KX b o e) (by
      cases q:H b with
      | none=>rfl
      | some u =>
        have e':b=a:=hA b (by rw [q];simp)
        subst e'
        rw [hK (by rw [q];simp)] at e;cases e)
    have hM:Mod K mg (hidT s₁.heap H):=⟨hKb,nsK hns,⟨mb,nsK hb,hbb⟩,let ⟨mc,h1,h2⟩:=hlim;⟨mc,nsK h1,h2⟩⟩
    have e0:Env0 P w K mg (hidT s₁.heap H) callerA [] s₁ H:=⟨rfl,hM,fun b o e=>of_hidT e,le_of_eq (hidT_size _ _),trivial,fun b hb=>absurd (show b∈([]:List Addr) from hb) (by simp),hok,.of_eq hg⟩
    refine codeAny_mono ((F _ hKb (nsK hns)).run callerA [] s₁ H ⟨[.ref a],[]⟩ [.ref a] [.ref a] _ _ hr e0 (hbind s₁ (.ref a)) (.cons rfl .nil) (hsp H hO hS)) fun r s' h=>?_
    cases r with
    | error e=>exact (hCX H e s' h).elim
    | ok fl =>
      cases fl with
      | next=>exact False.elim h
      | brk=>exact False.elim h
      | cont=>exact False.elim h
      | ret u =>
        obtain ⟨v,H',os,bare,un,hok',r',q⟩:=h
        have q':v=.bl true:=q
        subst q'
        obtain rfl:u=Value.bool true:=r'
        refine ⟨rfl,OldK.of_keep fun b o e=>?_,os,bare⟩
        cases q:H b with
        | none=>exact un.keep b o e q (by intro z;exact absurd (show b∈([]:List Addr) from z) (by simp)) (by simp)
        | some u =>
          rcases hO b with z | ⟨ob,xs,z⟩
          · rw [q] at z;cases z
          · have z2:=un.frzs b ob _ z
            obtain ⟨e1,_⟩:=hok b _ z
            obtain ⟨e2,_⟩:=hok' b _ z2
            rw [e] at e1;cases e1
            exact e2
  cases hk:K.lookup a with
  | some o =>
    have e:=KX a o hk
    rw [ha] at e
    cases e
    refine core (fun _=>none) (fun _=>.inl rfl) (.inr ⟨_,vs.toArray,_,hk,rfl,rfl,rfl,by rw [size_toArray,lenV];exact hl,by simpa using rv⟩) (fun b u z=>by have z':(none:Option HO)=some u:=z;cases z') (fun b z=>absurd rfl z) fun z=>absurd rfl z
  | none =>
    refine core (fun b=>if b=a then some (.frz {cls:=.type "list",data:=.seq vs.toArray} (.lst (ns.map V.int))) else none) (fun b=>?_) (.inl (.inr ⟨{cls:=.type "list",data:=.seq vs.toArray},if_pos rfl⟩)) (fun b u z=>?_) (fun b z=>?_) fun _=>hk
    · by_cases hb:b=a
      · exact .inr ⟨_,_,if_pos hb⟩
      · exact .inl (if_neg hb)
    · by_cases hb:b=a
      · have z':=(if_pos hb).symm.trans z
        cases z'
        subst hb
        exact ⟨ha,by rw [length_map];exact hl,vs,_,rv,ha⟩
      · have z':=(if_neg hb).symm.trans z
        cases z'
    · by_cases hb:b=a
      · exact hb
      · exact absurd (if_neg hb) z
noncomputable abbrev KOf {K:Frag}{h:Heap}(_:K.In h):Frag:=K
theorem walk_of {l:PySem.W.OpenLaw}{n k:Nat}{q:Program}{loose:List Str}{XP:(Str→Option Value)→Heap→Prop}{YP:World→Heap→Prop}{d:DefRec}{K:Params→Frag}{CX:World→CXT}{sp:World→Sp}{x:Str}
    (hn:l.most=some n) (hn2:n≤sizeLine) (hdf:d.params.defaults=[]) (hr:Room k callerA)
    (hY:∀(w:World) (h:Heap),YP w h→(K w.params).In h)
    (F:∀(w:World) (mg:Str→Option Value) (fa:Addr) (h:Heap),(K w.params).In h→h.Ns mainGlobals mg→mg d.name=some (.ref fa)→
      ∃fd:FuncData,(∀(s:Shared) (u:Value),BindsTo s fd ⟨[u],[]⟩ [(x,u)])∧
        ∀base:Heap,(K w.params).In base→base.Ns mainGlobals mg→FnOk l.prog w (K w.params) mg base (CX w) k fa fd [x] (sp w))
    (hsp:∀(w:World) (H:Hp) (a:Addr) (ns:List Int),ns.length≤n→Only H→SqL (K w.params) H a (ns.map V.int)→sp w [.ref a] H (fun v _=>v=.bl true) fun _ _ _=>False)
    (hCX:∀(w:World) (H:Hp) (s:Shared) (e:Value) (s':Shared),CX w [] H s (fun _ _ _=>False) e s'→False) :
    PySem.W.WalkO q loose XP YP l.row.toRowW d [] (fun f vs=>PySem.call f vs):=by
  refine Att.attach_call hn hdf fun w s₀ s₁ mg mb fa o pm cd doc a vs ns G Y ho hd hcd hmg hobj hints hlen hg=>?_
  have KX:=hY w _ Y
  obtain ⟨fd,hb,hF⟩:=F w mg fa _ KX G.T.g hmg
  exact law_call KX G.T.g G.T.b G.T.builtins G.T.nolimit hg hobj hints (le_trans hlen hn2) hr hF hb (fun H hO hS=>hsp w H a ns hlen hO hS) fun H e s'=>hCX w H s₁ e s'
noncomputable def defArgs (s:Stmt):Arguments:=match s with
 | .FunctionDef _ a _ _ _ _ _ _ _ _=>a
 | _=>{posonlyargs:=[],args:=[],vararg:=none,kwonlyargs:=[],kw_defaults:=[],kwarg:=none,defaults:=[]}
noncomputable def defBody (s:Stmt):List Stmt:=match s with
 | .FunctionDef _ _ b _ _ _ _ _ _ _=>b
 | _=>[]
noncomputable def defScope (s:Stmt):Scope:=match s with
 | .FunctionDef _ _ _ _ _ _ sc _ _ _=>sc
 | _=>{kind:=.function,names:=[],isGenerator:=false,isCoroutine:=false}
noncomputable abbrev CX0:CXT:=fun _ _ _ _ _ _=>False
noncomputable abbrev E0:XK:=fun _ _ _=>False
theorem pass0 {X:Cx}:Passes CX0 X E0:=fun _ _ _ _ _ _ _ h=>h.elim
structure Fun (K:Frag)(x qual:Str)(st:Stmt)(f:Addr)(fd:FuncData):Prop where
 ex:∃(oc:Value) (od:Option Addr) (kV doc pm:Value) (an:Option Addr) (cdv ct:Value) (osl:Array (Option Value)),
  fd=fnOf x qual (defArgs st) (defBody st) (defScope st) .none kV doc pm an cdv ct∧K.lookup f=some ⟨oc,od,.func fd,osl⟩∧codeIn K cdv qual=true
 kp:keepIn K (.ref f)=true
section
variable {P:Program}{w:World}{K:Frag}{mg:Str→Option Value}{base:Heap}
theorem Fun.ok {x qual:Str}{st:Stmt}{f:Addr}{fd:FuncData}{N ps:List Str}{k:Nat}{sp:Sp}(F:Fun K x qual st f fd)(S:FnScope N ps (defScope st))(len:∀vs H Q E,sp vs H Q E→vs.length=ps.length)
    (hbody:∀(cdv:Value) (A:Around) (outer:List Env) (s:Shared) (H:Hp) (vs:List V) (Q:VK) (E:XK),Room k (A.deeper (envOfC qual (defScope st) s.heap.objs.size f cdv))→sp vs H Q E→
      ∃t,PSs (cxOf CX0 P w K mg base N qual (defScope st) f cdv A outer s H E).nox (defBody st) t∧t {nx:=fun _ H'=>Q .non H',rt:=Q} (start N vs) H):FnOk P w K mg base CX0 (k+1) f fd ps sp:=by
  obtain ⟨oc,od,kV,doc,pm,an,cdv,ct,osl,rfl,lk,hcd⟩:=F.ex
  refine fn_of lk hcd S len fun A outer s H vs Q E hr hsp=>?_
  obtain ⟨t,h,q⟩:=hbody cdv A outer s H vs Q E hr hsp
  exact ⟨t,h.nox,q⟩
theorem Fun.binds {x qual:Str}{st:Stmt}{f:Addr}{fd:FuncData}{ps:List Str}(F:Fun K x qual st f fd)
  (h:∀(kV doc pm:Value) (an:Option Addr) (cdv ct:Value) (us:List Value),us.length=ps.length→bindArgs (fnOf x qual (defArgs st) (defBody st) (defScope st) .none kV doc pm an cdv ct) ⟨us,[]⟩=pure (ps.zip us)):Binds K fd ps []:=by
 obtain ⟨oc,od,kV,doc,pm,an,cdv,ct,osl,rfl,lk,hcd⟩:=F.ex
 exact .all (h kV doc pm an cdv ct)
theorem fun_mk {x qual:Str}{st:Stmt}{f:Addr}{oc:Value}{od an:Option Addr}{osl:Array (Option Value)}{kV doc pm cdv ct:Value}(l:K.lookup f=some ⟨oc,od,.func (fnOf x qual (defArgs st) (defBody st) (defScope st) .none kV doc pm an cdv ct),osl⟩)
  (c:codeIn K cdv qual=true) (k:keepIn K (.ref f)=true):Fun K x qual st f (fnOf x qual (defArgs st) (defBody st) (defScope st) .none kV doc pm an cdv ct):=⟨⟨oc,od,kV,doc,pm,an,cdv,ct,osl,rfl,l,c⟩,k⟩
variable {X:Cx}
theorem pv (i:Nat){x:Str}{pos:Pos}(hN:X.N[i]?=some x:=by rfl)(hv:autoParam (Vis X.env.scope x) aT3._auto_1)(hd:(x==("__debug__":Str))=false:=by decide)
  (hcd:(x==("__classdict__":Str))=false:=by decide):PE X (.Name x pos) (tVar i):=pe_var hN hv hd hcd
end
def Same (H H':Hp):Prop:=∀b o,H b=some o→H' b=some o
theorem Same.refl (H:Hp):Same H H:=fun _ _ h=>h
theorem Same.trans {H H1 H2:Hp}(a:Same H H1)(b:Same H1 H2):Same H H2:=fun c o h=>b c o (a c o h)
theorem Same.free {H H':Hp}(e:Same H H'){l:Addr}(h:H' l=Option.none):H l=Option.none:=by
 cases q:H l with
 | none=>rfl
 | some o =>
  rw [e l o q] at h
  cases h
theorem star_bin {a b:Expr}{op:Operator}{pos:Pos}{es:List Expr}{env:Env}:starEach (.BinOp a op b pos::es) env=(false,eval (.BinOp a op b pos) env)::starEach es env:=rfl
theorem star_const {c:Const}{k:Nat}{pos:Pos}{es:List Expr}{env:Env}:starEach (.Constant c k pos::es) env=(false,eval (.Constant c k pos) env)::starEach es env:=rfl
theorem star_name {x:Str}{pos:Pos}{es:List Expr}{env:Env}:starEach (.Name x pos::es) env=(false,eval (.Name x pos) env)::starEach es env:=rfl
theorem star_sub {a b:Expr}{pos:Pos}{es:List Expr}{env:Env}:starEach (.Subscript a b pos::es) env=(false,eval (.Subscript a b pos) env)::starEach es env:=rfl
theorem star_call {a:Expr}{as:List Expr}{ks:List Keyword}{pos:Pos}{es:List Expr}{env:Env}:starEach (.Call a as ks pos::es) env=(false,eval (.Call a as ks pos) env)::starEach es env:=rfl
theorem star_list {as:List Expr}{pos:Pos}{es:List Expr}{env:Env}:starEach (.List as pos::es) env=(false,eval (.List as pos) env)::starEach es env:=rfl
theorem star_tup {as:List Expr}{k:Nat}{pos:Pos}{es:List Expr}{env:Env}:starEach (.Tuple as k pos::es) env=(false,eval (.Tuple as k pos) env)::starEach es env:=rfl
theorem star_comp {a:Expr}{gs:List Comprehension}{sc:Scope}{pos:Pos}{es:List Expr}{env:Env}:starEach (.ListComp a gs sc pos::es) env=(false,eval (.ListComp a gs sc pos) env)::starEach es env:=rfl
theorem plain_sub {a b:Expr}{pos:Pos}:PlainIx (.Subscript a b pos):=fun _ _=>rfl
theorem plain_name {x:Str}{pos:Pos}:PlainIx (.Name x pos):=fun _ _=>rfl
theorem plain_const {c:Const}{k:Nat}{pos:Pos}:PlainIx (.Constant c k pos):=fun _ _=>rfl
theorem plain_bin {a b:Expr}{op:Operator}{pos:Pos}:PlainIx (.BinOp a op b pos):=fun _ _=>rfl
noncomputable def rAddA:R2:=fun x y H Q=>rI0 (fun i j=>.int (i+j)) x y H Q∨(∃i j,x=.str i∧y=.str j∧i.length+j.length≤sizeLine∧Q (.str (i++j)) H)∨rCat x y H Q
noncomputable def rMulA:R2:=fun x y H Q=>rI CMul (fun i j=>.int (i*j)) x y H Q∨rRep x y H Q
def CDivL (_ j:Int):Prop:=0<j∧j<2 ^ 200
section
variable {X:Cx}
theorem op_addA:OpR X (binaryOp .Add) rAddA:=op_add.or (op_add_str.or op_cat)
theorem op_mulA:OpR X (binaryOp .Mult) rMulA:=op_mul.or op_rep
theorem log2_small {j:Int}(h1:0<j)(h2:j<2 ^ 200):j.natAbs.log2<9000:=by
 have h3:j.natAbs<2 ^ 200:=by omega
 exact Nat.lt_trans ((Nat.log2_lt (by omega)).mpr h3) (by decide)
theorem op_fdivL:OpR X (binaryOp .FloorDiv) (rI CDivL fun i j=>.int (i / j)):=opI fun i j _ _ _ _ _ hc q=>by
 have h1:(0:Int)<j:=hc.1
 have h2:j<2 ^ 200:=hc.2
 exact floordiv_int (by omega) (by rw [Int.fdiv_eq_ediv_of_nonneg i (by omega)];exact q) (.inl (PyProof.noPylong_of_log2 (log2_small h1 h2)))
end
mutual
inductive Dn (K:Frag)(H:Hp):V→PyData→Prop
 | non:Dn K H .non .none
 | bl (b:Bool):Dn K H (.bl b) (.bool b)
 | int (i:Int):Dn K H (.int i) (.int i)
 | str (x:Str):Dn K H (.str x) (.str x)
 | lst {a:Addr} {xs:List V} {ds:List PyData}:SqL K H a xs→DnA K H xs ds→Dn K H (.ref a) (.list ds)
 | tup {a:Addr} {xs:List V} {ds:List PyData}:SqT K H a xs→DnA K H xs ds→Dn K H (.ref a) (.tuple ds)
inductive DnA (K:Frag)(H:Hp):List V→List PyData→Prop
 | nil:DnA K H [] []
 | cons {x:V} {d:PyData} {xs:List V} {ds:List PyData}:Dn K H x d→DnA K H xs ds→DnA K H (x::xs) (d::ds)
end
section
variable {X:Cx}{pins:List (Addr×Obj)}{σ:St}{H:Hp}{s:Shared}
mutual
theorem Dn.reads (I:Inv X pins σ H s):∀{x:V} {d:PyData} {u:Value},Dn X.K H x d→RelV x u→∃as,Reads s.heap u d as
 | _,_,_,.non,r=>by cases (show _=Value.none from r);exact ⟨_,.none⟩
 | _,_,_,.bl b,r=>by cases (show _=Value.bool b from r);exact ⟨_,.bool b⟩
 | _,_,_,.int i,r=>by obtain ⟨t,q⟩:=(show ∃t,_=Value.int i t from r);cases q;exact ⟨_,.int i t⟩
 | _,_,_,.str x,r=>by obtain ⟨t,q⟩:=(show ∃t,_=Value.str x t from r);cases q;exact ⟨_,.str x t⟩
 | _,_,_,.lst (a:=a) h ra,r=>by
  cases (show _=Value.ref a from r)
  obtain ⟨its,rv,pl,_⟩:=I.list h
  obtain ⟨as,q⟩:=DnA.reads I ra rv
  obtain ⟨o,ho,hc,n,hd⟩:=pl.isList
  exact ⟨_,.list ho hc hd q⟩
 | _,_,_,.tup (a:=a) h ra,r=>by
  cases (show _=Value.ref a from r)
  obtain ⟨its,rv,pl,_⟩:=I.tuple h
  obtain ⟨as,q⟩:=DnA.reads I ra rv
  obtain ⟨o,ho,hc,n,hd⟩:=pl
  exact ⟨_,.tuple ho hc hd q⟩
theorem DnA.reads (I:Inv X pins σ H s):∀{xs:List V} {ds:List PyData} {us:List Value},DnA X.K H xs ds→Vals xs us→∃as,ReadsAll s.heap us ds as
 | _,_,_,.nil,.nil=>⟨_,.nil⟩
 | _,_,_,.cons h ra,.cons r rs=>by
  obtain ⟨as,q⟩:=Dn.reads I h r
  obtain ⟨bs,q'⟩:=DnA.reads I ra rs
  exact ⟨_,.cons q q'⟩
end
end
noncomputable def rEqD (K:Frag):R2:=fun x y H Q=>∃dx dy,Dn K H x dx∧Dn K H y dy∧SeqAt.shaped dx=true∧SeqAt.shaped dy=true∧Q (.bl (PyData.eqv dx dy)) H
noncomputable def rNeD (K:Frag):R2:=fun x y H Q=>∃dx dy,Dn K H x dx∧Dn K H y dy∧SeqAt.shaped dx=true∧SeqAt.shaped dy=true∧Q (.bl (!PyData.eqv dx dy)) H
noncomputable def rEqA (K:Frag):R2:=fun x y H Q=>rEq x y H Q∨rEqD K x y H Q
noncomputable def rNeA (K:Frag):R2:=fun x y H Q=>rNe x y H Q∨rNeD K x y H Q
section
variable {X:Cx}
theorem op_eqD (hu:X.A.units+64<cLine):OpR X (compareOp .Eq) (rEqD X.K):=by
 intro pins s σ H x y v u Q I rx ry h
 obtain ⟨dx,dy,h1,h2,s1,s2,q⟩:=h
 obtain ⟨as,ra⟩:=h1.reads I rx
 obtain ⟨bs,rb⟩:=h2.reads I ry
 exact eq_dataH ra rb s1 s2 hu ⟨.bl _,H,I,rfl,q⟩
theorem op_neD (hu:X.A.units+64<cLine):OpR X (compareOp .NotEq) (rNeD X.K):=by
 intro pins s σ H x y v u Q I rx ry h
 obtain ⟨dx,dy,h1,h2,s1,s2,q⟩:=h
 obtain ⟨as,ra⟩:=h1.reads I rx
 obtain ⟨bs,rb⟩:=h2.reads I ry
 exact ne_dataH ra rb s1 s2 hu ⟨.bl _,H,I,rfl,q⟩
theorem op_eqA (hu:X.A.units+64<cLine):OpR X (compareOp .Eq) (rEqA X.K):=op_eq.or (op_eqD hu)
theorem op_neA (hu:X.A.units+64<cLine):OpR X (compareOp .NotEq) (rNeA X.K):=op_ne.or (op_neD hu)
end
def rLenA (K:Frag):List V→Hp→VK→Prop:=fun xs H Q=>(∃p ys,xs=[.ref p]∧(SqL K H p ys∨SqT K H p ys)∧Q (.int ys.length) H)∨∃z,xs=[.str z]∧z.length≤sizeLine∧Q (.int z.length) H
def rSum (K:Frag):List V→Hp→VK→Prop:=fun xs H Q=>∃(p:Addr) (ns:List Int),xs=[.ref p]∧SqL K H p (ns.map V.int)∧Q (.int ns.sum) H
def rIsI (K:Frag):List V→Hp→VK→Prop:=fun xs H Q=>∃x c t b,xs=[x,.ty c]∧TyOf K H x t∧kitOne K t (.type c)=some b∧Q (.bl b) H
noncomputable def rngV (lo:Int)(n:Nat):List V:=(List.range n).map fun (k:Nat)=>V.int (lo+(k:Int))
def rList (K:Frag):List V→Hp→VK→Prop:=fun xs H Q=>(∃p ys,xs=[.ref p]∧(SqL K H p ys∨SqT K H p ys)∧∀l,H l=none→Q (.ref l) (upd H l (.lst ys)))∨
 ∃p i j,xs=[.ref p]∧H p=some (.rng i j)∧-(2 ^ 62)≤i∧i<2 ^ 62∧-(2 ^ 62)≤j∧j<2 ^ 62∧(j - i).toNat≤1000000∧∀l,H l=none→Q (.ref l) (upd H l (.lst (rngV i (j - i).toNat)))
section
variable {X:Cx}
theorem call_lenA:CallR X (.builtin "len") (rLenA X.K):=call_len_seq.or call_len_str
theorem call_sum (hc:X.calm=true):CallR X (.builtin "sum") (rSum X.K):=by
 intro pins s σ H xs us Q I r h
 obtain ⟨p,ns,rfl,hq,q⟩:=h
 obtain ⟨u,rfl,rx⟩:=vals1 r
 cases rx
 obtain ⟨its,rv,pl,hz⟩:=I.list hq
 have hi:IntsAre its ns:=intsAre_of rv
 obtain ⟨xs,hxs⟩:=hi.allInts.items
 have hn:numsOf its.toArray.toList=ns:=by rw [show its.toArray.toList=its from rfl,hi.numsOf]
 have hl:=pl.isList
 rw [hxs] at hl hn
 rw [nums_intItems] at hn
 refine sum_intListG (I.ok.hd hc) hl fun h' tk t' hk=>⟨.int ns.sum,H,I.kept hk,⟨t',?_⟩,q⟩
 rw [preSum_eq,take_of_length_le (by simp),hn]
theorem call_isinst:CallR X (.builtin "isinstance") (rIsI X.K):=by
 intro pins s σ H xs us Q I r h
 obtain ⟨x,c,t,b,rfl,ty,e,q⟩:=h
 obtain ⟨u,w',rfl,rx,ry⟩:=vals2 r
 cases (show w'=Value.type c from ry)
 exact isinst_ok I rx ty e fun tk=>⟨.bl b,H,I.tok _,rfl,q⟩
theorem call_list_rng (hc:X.calm=true):CallR X (.type "list") (fun xs H Q=>∃p i j,xs=[.ref p]∧H p=some (.rng i j)∧-(2 ^ 62)≤i∧i<2 ^ 62∧-(2 ^ 62)≤j∧j<2 ^ 62∧(j - i).toNat≤1000000∧
    ∀l,H l=none→Q (.ref l) (upd H l (.lst (rngV i (j - i).toNat)))):=by
  intro pins s σ H xs us Q I r h
  obtain ⟨p,i,j,rfl,hH,h1,h2,h3,h4,h5,q⟩:=h
  obtain ⟨u,rfl,rx⟩:=vals1 r
  cases rx
  obtain ⟨t,u,v,e⟩:=I.hok p _ hH
  have en:Builtin.Range.rangeSize i j 1=(((j - i).toNat:Nat):Int):=by rw [rangeSize_one];split<;>omega
  refine call_list_range (n:=(j - i).toNat) (I.ok.hd hc) e (small_one h1 h2 h3 h4) en (le_trans h5 (by decide)) fun h' tk acc' c' hk hg hit=>?_
  refine ⟨.ref s.heap.objs.size,_,I.laid (t':=tk) hk (le_refl _) (show ObjOk X.prog X.w _ h' _ (.lst (rngV i (j - i).toNat)) from ⟨?_,acc'.toList,c',?_,?_⟩),rfl,q _ I.fresh⟩
  · unfold rngV
    rw [length_map,List.length_range]
    exact le_trans h5 (by decide)
  · obtain ⟨hsz,hv⟩:=hit
    have key:∀(k:Nat) (l:List Value) (lo:Int),l.length=k→(∀(m:Nat) (v:Value),l[m]?=some v→∃t,v=Value.int (lo+(m:Int)) t)→Vals (rngV lo k) l:=by
      intro k
      induction k with
      | zero =>
        intro l lo hl _
        rw [List.length_eq_zero_iff.mp hl]
        exact .nil
      | succ k ih =>
        intro l lo hl hv
        cases l with
        | nil=>simp at hl
        | cons x l =>
          obtain ⟨t,e⟩:=hv 0 x (by simp)
          have er:rngV lo (k+1)=V.int lo::rngV (lo+1) k:=by
            unfold rngV
            rw [List.range_succ_eq_map,map_cons,map_map]
            congr 1
            · simp
            · apply map_congr_left
              intro m _
              show V.int (lo+((m+1:Nat):Int))=V.int (lo+1+(m:Int))
              congr 1
              omega
          rw [er]
          refine .cons ⟨t,?_⟩ (ih l (lo+1) (by simpa using hl) fun m v hm=>?_)
          · rw [e]
            congr 1
            simp
          · obtain ⟨t',e'⟩:=hv (m+1) v (by simpa using hm)
            refine ⟨t',?_⟩
            rw [e']
            congr 1
            omega
    refine key _ _ i (by simpa using hsz) fun m v hm=>?_
    obtain ⟨t,e⟩:=hv m v (by simpa using hm)
    exact ⟨t,by rw [e];congr 1;omega⟩
  · simpa using hg
theorem call_listA (hc:X.calm=true):CallR X (.type "list") (rList X.K):=call_list_of.or (call_list_rng hc)
end
structure Def (P:Program)(w:World)(K:Frag)(mg:Str→Option Value)(base:Heap)(CX:CXT)(k:Nat)(x:Str)(ps:List Str)(sp:Sp):Prop where
 ex:∃f fd,mg x=some (.ref f)∧keepIn K (.ref f)=true∧Binds K fd ps []∧FnOk P w K mg base CX k f fd ps sp
theorem pe_callD {X:Cx}{CX:CXT}{k:Nat}{ps:List Str}{sp:Sp}{E:XK}{x:Str}{p pos:Pos}{e:Expr}{es:List Expr}{t:TA}(D:Def X.prog X.w X.K X.mg X.base CX k x ps sp)(hr:Room k X.A)(hg:Gl X x)(hx:Passes CX X E)
  (ha:PA X (e::es) t) (hdb:(x==("__debug__":Str))=false:=by decide) (he:starEach (e::es) X.env=(false,eval e X.env)::starEach es X.env:=by rfl) (hpl:(backTo pos (starEach es X.env)).any (·.1)=false:=by rfl) :
  PE X (.Call (.Name x p) (e::es) [] pos) (tCall sp [] E t):=by
 obtain ⟨f,fd,m,kp,b,F⟩:=D.ex
 exact pe_call F hr hg m kp b .nil hx ha hdb he hpl
section
variable {σ:St}{H:Hp}{Q:VK}{D:Ends}{K:Frag}
theorem rd_I {C:Int→Int→Prop}{g:Int→Int→V}{i j:Int}(c:C i j)(q:Q (g i j) H):rI C g (.int i) (.int j) H Q:=⟨i,j,rfl,rfl,c,q⟩
theorem rd_I0 {g:Int→Int→V}{i j:Int}(q:Q (g i j) H):rI0 g (.int i) (.int j) H Q:=⟨i,j,rfl,rfl,q⟩
theorem rd_add {i j:Int}(q:Q (.int (i+j)) H):rAddA (.int i) (.int j) H Q:=.inl ⟨i,j,rfl,rfl,q⟩
theorem rd_mul {i j:Int}(c:CMul i j)(q:Q (.int (i*j)) H):rMulA (.int i) (.int j) H Q:=.inl ⟨i,j,rfl,rfl,c,q⟩
theorem rd_call {sp:Sp}{E:XK}{t:TA}(q:t σ H fun vs H1=>sp vs H1 Q E):tCall sp [] E t σ H Q:=by
 show t σ H fun vs H1=>sp (vs++[]) H1 Q E
 have e:(fun vs H1=>sp (vs++[]) H1 Q E)=fun vs H1=>sp vs H1 Q E:=by
  funext vs H1
  rw [append_nil]
 rw [e]
 exact q
theorem rd_ixL {p:Addr}{xs:List V}{i:Int}{v:V}(h:SqL K H p xs)(e:atI xs i=some v)(q:Q v H):rIx K (.ref p) (.int i) H Q:=.inl ⟨p,xs,i,v,rfl,rfl,h,e,q⟩
theorem rd_ixT {p:Addr}{xs:List V}{i:Int}{v:V}(h:SqT K H p xs)(e:atI xs i=some v)(q:Q v H):rIx K (.ref p) (.int i) H Q:=.inr (.inl ⟨p,xs,i,v,rfl,rfl,h,e,q⟩)
theorem rd_lenL {p:Addr}{ys:List V}(h:SqL K H p ys)(q:Q (.int ys.length) H):rLenA K [.ref p] H Q:=.inl ⟨p,ys,rfl,.inl h,q⟩
theorem rd_lenT {p:Addr}{ys:List V}(h:SqT K H p ys)(q:Q (.int ys.length) H):rLenA K [.ref p] H Q:=.inl ⟨p,ys,rfl,.inr h,q⟩
theorem rd_lenS {z:Str}(h:z.length≤sizeLine)(q:Q (.int z.length) H):rLenA K [.str z] H Q:=.inr ⟨z,rfl,h,q⟩
theorem rd_app {l:Addr}{xs:List V}{y:V}(h:H l=some (.lst xs))(hz:xs.length<sizeLine)(q:Q .non (upd H l (.lst (xs++[y])))):rAppend (.ref l) [y] H Q:=⟨l,xs,y,rfl,rfl,h,hz,q⟩
theorem rd_slL {a:Addr}{xs:List V}{lo hi:Option Int}(h:SqL K H a xs)(q:∀p,H p=none→Q (.ref p) (upd H p (.lst (cutV xs lo hi)))):rSlL K (.ref a) lo hi H Q:=⟨a,xs,rfl,h,q⟩
theorem rd_cat {a b:Addr}{xs zs:List V}(h1:H a=some (.lst xs))(h2:H b=some (.lst zs))(hz:xs.length+zs.length≤sizeLine)(q:∀p,H p=none→Q (.ref p) (upd H p (.lst (xs++zs)))):rAddA (.ref a) (.ref b) H Q:=
 .inr (.inr ⟨a,b,xs,zs,rfl,rfl,h1,h2,hz,q⟩)
theorem rd_rep {l:Addr}{k:Int}{xs:List V}(h:H l=some (.lst xs))(h1:-(2 ^ 63)≤k)(h2:k<2 ^ 63)(hz:xs.length*k.toNat≤sizeLine)(q:∀p,H p=none→Q (.ref p) (upd H p (.lst (List.replicate k.toNat xs).flatten))):rMulA (.ref l) (.int k) H Q:=
 .inr ⟨l,k,xs,rfl,rfl,h,h1,h2,hz,q⟩
theorem rd_sum {p:Addr}{ns:List Int}(h:SqL K H p (ns.map V.int))(q:Q (.int ns.sum) H):rSum K [.ref p] H Q:=⟨p,ns,rfl,h,q⟩
theorem rd_isI {x:V}{c:String}{t:Value}{b:Bool}(h:TyOf K H x t)(e:kitOne K t (.type c)=some b)(q:Q (.bl b) H):rIsI K [x,.ty c] H Q:=⟨x,c,t,b,rfl,h,e,q⟩
theorem rd_listL {p:Addr}{ys:List V}(h:SqL K H p ys)(q:∀l,H l=none→Q (.ref l) (upd H l (.lst ys))):rList K [.ref p] H Q:=.inl ⟨p,ys,rfl,.inl h,q⟩
theorem rd_listR {p:Addr}{i j:Int}(h:H p=some (.rng i j))(h1:-(2 ^ 62)≤i)(h2:i<2 ^ 62)(h3:-(2 ^ 62)≤j)(h4:j<2 ^ 62)(h5:(j - i).toNat≤1000000)(q:∀l,H l=none→Q (.ref l) (upd H l (.lst (rngV i (j - i).toNat)))):rList K [.ref p] H Q:=
 .inr ⟨p,i,j,rfl,h,h1,h2,h3,h4,h5,q⟩
end
structure QE (X:Cx)(e:Expr)(t:TE):Prop where
 out:PE X e t
structure QT (X:Cx)(e:Expr)(t:TT):Prop where
 out:PT X e t
structure QW (X:Cx)(e:Expr)(t:TT):Prop where
 out:PW X e t
structure QA (X:Cx)(es:List Expr)(t:TA):Prop where
 out:PA X es t
structure QO (X:Cx)(e:Option Expr)(t:TO):Prop where
 out:PO X e t
structure QG (X:Cx)(e:Expr)(t:TG):Prop where
 out:PG X e t
structure QGs (X:Cx)(es:List Expr)(t:TGs):Prop where
 out:PGs X es t
structure QI (X:Cx)(tg iter:Expr)(wi:TI):Prop where
 out:PI X tg iter wi
structure QS (X:Cx)(st:Stmt)(t:TS):Prop where
 out:PS X st t
structure QSs (X:Cx)(st:List Stmt)(t:TS):Prop where
 out:PSs X st t
section
variable {X:Cx}{a b c e st o tg iter:Expr}{rest es:List Expr}{ta tb tc te ts to:TE}{tA tB':TT}{t:TA}{pos p p2 apos cpos:Pos}
theorem qe_int {i:Int}{j:Nat}:QE X (.Constant (.int i) j pos) (tC (.int i)):=⟨pe_int⟩
theorem qe_bl {i:Bool}{j:Nat}:QE X (.Constant (.bool i) j pos) (tC (.bl i)):=⟨pe_bl⟩
theorem qe_str {x:Str}{j:Nat}:QE X (.Constant (.str x) j pos) (tC (.str x)):=⟨pe_str⟩
theorem qv (i:Nat){x:Str}(hN:X.N[i]?=some x:=by rfl)(hv:autoParam (Vis X.env.scope x) aT3._auto_1)(hd:(x==("__debug__":Str))=false:=by decide)
  (hcd:(x==("__classdict__":Str))=false:=by decide):QE X (.Name x pos) (tVar i):=⟨pv i hN hv hd hcd⟩
theorem qe_glob {x:Str}{v:V}{u:Value}(hg:Gl X x)(hm:X.mg x=some u)(r:RelV v u)(hd:(x==("__debug__":Str))=false:=by decide):QE X (.Name x pos) (tC v):=⟨pe_glob hg hm r hd⟩
theorem qe_bltn {x:Str}{v:V}{u:Value}(hg:Gl X x)(hm:X.mg x=none)(hv:bootBuiltins x=some u)(r:RelV v u)(hn:x≠"__name__":=by decide)(hd:(x==("__debug__":Str))=false:=by decide):QE X (.Name x pos) (tC v):=⟨pe_bltn hg hm hv r hn hd⟩
theorem qe_op {op:Operator}{r:R2}(ho:OpR X (binaryOp op) r)(ha:QE X a ta)(hb:QE X b tb):QE X (.BinOp a op b pos) (tOp r ta tb):=⟨pe_op ho ha.out hb.out⟩
theorem qe_cmpR {op:CmpOp}{r:R2}(ho:OpR X (compareOp op) r)(ha:QE X a ta)(hb:QE X b tb)(hm:behindInMarks op b=false):QE X (.Compare a [op] [b] pos) (tOp r ta tb):=⟨pe_cmpR ho ha.out hb.out hm⟩
theorem qt_cmpR {op:CmpOp}{r:R2}(ho:OpR X (compareOp op) r)(ha:QE X a ta)(hb:QE X b tb)(hm:behindInMarks op b=false):QT X (.Compare a [op] [b] pos) (tTest (tOp r ta tb)):=⟨pt_cmpR ho ha.out hb.out hm⟩
theorem qt_chain {op op':CmpOp}{r r':R2}(ho:OpR X (compareOp op) r)(ho':OpR X (compareOp op') r')(ha:QE X a ta)(hb:QE X b tb)(hc:QE X c tc)(hm:lastMarks [op,op'] [b,c]=false:=by with_unfolding_all rfl):QT X (.Compare a [op,op'] [b,c] pos) (tTest (tChain r r' ta tb tc)):=⟨pt_chain ho ho' ha.out hb.out hc.out hm⟩
theorem qe_one {op:BoolOp}(h:QE X a ta):QE X (.BoolOp op [a] pos) ta:=⟨pe_one h.out⟩
theorem qe_and (ha:QE X a ta)(hb:QE X (.BoolOp .And (b::rest) pos) tb):QE X (.BoolOp .And (a::b::rest) pos) (tAndV ta tb):=⟨pe_and ha.out hb.out⟩
theorem qe_not (ha:QE X a ta):QE X (.UnaryOp .Not a pos) (tNotV ta):=⟨pe_not ha.out⟩
theorem qt_val (h:QE X e te)(he:∀whole,isTrue e X.env whole=(do let v ← whole;standAt e.pos;holding [v] (truthy v)):=by intro _;rfl):QT X e (tB te):=⟨pt_val h.out he⟩
theorem qt_not (ha:QT X a tA):QT X (.UnaryOp .Not a pos) (tNot tA):=⟨pt_not ha.out⟩
theorem qw_and1 (ha:QT X a tA):QW X (.BoolOp .And [a] pos) tA:=⟨pw_and1 ha.out⟩
theorem qw_or1 (ha:QT X a tA):QW X (.BoolOp .Or [a] pos) tA:=⟨pw_or1 ha.out⟩
theorem qw_and (ha:QT X a tA)(hb:QW X (.BoolOp .And (b::rest) pos) tB'):QW X (.BoolOp .And (a::b::rest) pos) (tAnd tA tB'):=⟨pw_and ha.out hb.out⟩
theorem qw_or (ha:QT X a tA)(hb:QW X (.BoolOp .Or (b::rest) pos) tB'):QW X (.BoolOp .Or (a::b::rest) pos) (tOr tA tB'):=⟨pw_or ha.out hb.out⟩
theorem qt_w (h:QW X a tA):QT X a tA:=⟨h.out.pt⟩
theorem qa_nil:QA X [] tNil:=⟨pa_nil⟩
theorem qa_cons (ha:QE X e te)(hr:QA X es t)(hs:starEach (e::es) X.env=(false,eval e X.env)::starEach es X.env):QA X (e::es) (tCons te t):=⟨pa_cons ha.out hr.out hs⟩
theorem qe_tup {x1:Nat}(h:QA X es t):QE X (.Tuple es x1 pos) (tTup t):=⟨pe_tup h.out⟩
theorem qe_lst (h:QA X es t):QE X (.List es pos) (tLst t):=⟨pe_lst h.out⟩
theorem qe_ix {r:R2}(hr:IxR X r)(ha:QE X a ta)(hb:QE X b tb)(hs:PlainIx b):QE X (.Subscript a b pos) (tOp r ta tb):=⟨pe_ix hr ha.out hb.out hs⟩
theorem qo_none:QO X none tNoPart:=⟨po_none⟩
theorem qo_some (h:QE X e te):QO X (some e) (tPart te):=⟨po_some h.out⟩
theorem qe_slice {r:V→Option Int→Option Int→Hp→VK→Prop}{lo hi:Option Expr}{tl th:TO}(hr:SlR X r)(he:QE X e te)(hl:QO X lo tl)(hu:QO X hi th):QE X (.Subscript e (.Slice lo hi none p2) pos) (tSl r te tl th):=⟨pe_slice hr he.out hl.out hu.out⟩
theorem qe_callD {CX:CXT}{k:Nat}{ps:List Str}{sp:Sp}{E:XK}{x:Str}(D:Def X.prog X.w X.K X.mg X.base CX k x ps sp)(hr:Room k X.A)(hg:Gl X x)(hx:Passes CX X E)
  (ha:QA X (e::es) t) (hdb:(x==("__debug__":Str))=false:=by decide) (he:starEach (e::es) X.env=(false,eval e X.env)::starEach es X.env:=by rfl) (hpl:(backTo pos (starEach es X.env)).any (·.1)=false:=by rfl) :
  QE X (.Call (.Name x p) (e::es) [] pos) (tCall sp [] E t):=⟨pe_callD D hr hg hx ha.out hdb he hpl⟩
theorem qe_callB {x:Str}{id:String}{r:List V→Hp→VK→Prop}(hc:CallR X (.builtin id) r)(hg:Gl X x)(hm:X.mg x=none)(hv:bootBuiltins x=some (.builtin id))(ha:QA X (e::es) t)(hn:x≠"__name__":=by decide)(hdb:(x==("__debug__":Str))=false:=by decide)
  (he:starEach (e::es) X.env=(false,eval e X.env)::starEach es X.env:=by rfl) (hpl:(backTo pos (starEach es X.env)).any (·.1)=false:=by rfl):QE X (.Call (.Name x p) (e::es) [] pos) (tCB r t):=⟨pe_callB hc hg hm hv ha.out hn hdb he hpl⟩
theorem qe_callTy {x:Str}{T:String}{r:List V→Hp→VK→Prop}(hc:CallR X (.type T) r)(hg:Gl X x)(hm:X.mg x=none)(hv:bootBuiltins x=some (.type T))(ha:QA X (e::es) t)(hn:x≠"__name__":=by decide)(hdb:(x==("__debug__":Str))=false:=by decide)
  (he:starEach (e::es) X.env=(false,eval e X.env)::starEach es X.env:=by rfl) (hpl:(backTo pos (starEach es X.env)).any (·.1)=false:=by rfl):QE X (.Call (.Name x p) (e::es) [] pos) (tCB r t):=⟨pe_callTy hc hg hm hv ha.out hn hdb he hpl⟩
theorem qe_bm {name:Str}{T id:String}{r:V→List V→Hp→VK→Prop}(pa:PlainAttrs T)(slot:Slot T name id)(hty:typeOf (.builtin id)=pure (.type "method_descriptor"))(hm:MtR X id r)(ho:QE X o to)(ha:QA X (e::es) t)
    (hbase:attributeBase o name X.env (eval o X.env)=eval o X.env:=by rfl)
    (hfew:((backTo cpos (starEach (e::es) X.env)).all (fun x=>!x.1)&&(backToKw cpos (keywordEach [] X.env)).all (fun x=>x.1.isSome)
      && decide ((e::es).length+([]:List Keyword).length+(if ([]:List Keyword).isEmpty then 0 else 1)<30))=true:=by rfl)
    (hline:(apos.endLine==cpos.line)=true:=by rfl) (hs:starEach (e::es) X.env=(false,eval e X.env)::starEach es X.env:=by rfl) (hplain:(backTo cpos (starEach es X.env)).any (·.1)=false:=by rfl) :
    QE X (.Call (.Attribute o name apos) (e::es) [] cpos) (tBM X.K T r to t):=⟨pe_bm pa slot hty hm ho.out ha.out hbase hfew hline hs hplain⟩
theorem qg_name {i:Nat}{x:Str}(hN:X.N.Nodup)(hi:X.N[i]?=some x)(hx:Loc X.env.scope x)(hf:autoParam (X.fn x=true∨X.env.scope.names.lookup x=some .local) aT0._auto_1):QG X (.Name x pos) (gName i):=⟨pg_name hN hi hx hf⟩
theorem qg_tup {k:Nat}{tt:TGs}{n:Nat}(hc:X.calm=true)(h:QGs X es tt)(hn:(assignEach es X.env).length=n:=by rfl)(hst:(assignEach es X.env).findIdx? (·.1)=none:=by rfl):QG X (.Tuple es k pos) (gTup X.K n tt):=⟨pg_tup hc h.out hn hst⟩
theorem qgs_nil:QGs X [] gNil:=⟨pgs_nil⟩
theorem qgs_cons {tt:TG}{u:TGs}(h1:QG X e tt)(h2:QGs X es u)(hs:(assignEach (e::es) X.env).map (·.2)=assign e X.env::(assignEach es X.env).map (·.2):=by rfl):QGs X (e::es) (gCons tt u):=⟨pgs_cons h1.out h2.out hs⟩
theorem qi_list (hl:QE X e te):QI X tg e (iList X.K te):=⟨pi_list hl.out⟩
theorem qi_range1 (hg:Gl X "range")(hm:X.mg "range"=none)(ha:QA X [a] t)(hs:starEach [a] X.env=[(false,eval a X.env)]:=by rfl):QI X tg (.Call (.Name "range" p) [a] [] pos) (iRng1 t):=⟨pi_range1 hg hm ha.out hs⟩
variable {s1:Stmt}{ss body other:List Stmt}{u v:TS}{pos':Pos}
theorem qss_nil:QSs X [] tNext:=⟨pss_nil⟩
theorem qss_cons (h1:QS X s1 u)(h2:QSs X ss v):QSs X (s1::ss) (tSeq u v):=⟨pss_cons h1.out h2.out⟩
theorem qss_one (h1:QS X s1 u):QSs X [s1] u:=⟨pss_one h1.out⟩
theorem qs_never:QS X s1 tNever:=⟨ps_never⟩
theorem qs_expr (he:QE X e te)(hs:swapsWith e none pos.line X.env=pure false:=by rfl):QS X (.Expr e pos) (tDrop te):=⟨ps_expr he.out hs⟩
theorem qs_ret (he:QE X e te):QS X (.Return (some e) pos) (tRet te):=⟨ps_ret he.out⟩
theorem qs_if (hc:QT X c tA)(ha:QSs X body u)(hb:QSs X other v):QS X (.If c body other pos) (tIfS tA u v):=⟨ps_if hc.out ha.out hb.out⟩
theorem qs_asg {g:TG}(he:QE X e te)(hg:QG X tg g)(hs:swapsWithSole [tg] e pos.line X.env=pure false:=by rfl)(hw:swappedStores [tg] e X.env=pure none:=by rfl)(h1:(assignEach [tg] X.env).map (·.2)=[assign tg X.env]:=by rfl):QS X (.Assign [tg] e pos) (tAsg te g):=⟨ps_asg he.out hg.out hs hw h1⟩
theorem qs_set {i:Nat}{x:Str}(hN:X.N.Nodup)(hi:X.N[i]?=some x)(hx:Loc X.env.scope x)(he:QE X e te)(hs:swapsWith e (some (.Name x pos')) pos.line X.env=pure false:=by rfl)(hf:autoParam (X.fn x=true∨X.env.scope.names.lookup x=some .local) aT0._auto_1) :
  QS X (.Assign [.Name x pos'] e pos) (tAsg te (gName i)):=⟨ps_set hN hi hx he.out hs hf⟩
theorem qs_for {wi:TI}{g:TG}(hp:PassesOwn (model X.prog X.w) X.A X.env X.xe)(hc:X.calm=true)(hi:QI X tg iter wi)(hg:QG X tg g)(hb:QSs X body u)(hs:∀x,foldedSetIterable iter X.env x=pure x:=by intro _;rfl):QS X (.For tg iter body [] pos) (tFor wi g u):=⟨ps_for hp hc hi.out hg.out hb.out hs⟩
end
theorem Fun.okQ {P:Program}{w:World}{K:Frag}{mg:Str→Option Value}{base:Heap}{x qual:Str}{st:Stmt}{f:Addr}{fd:FuncData}{N ps:List Str}{k:Nat}{sp:Sp}(F:Fun K x qual st f fd)(S:FnScope N ps (defScope st))(len:∀vs H Q E,sp vs H Q E→vs.length=ps.length)
    (hbody:∀(cdv:Value) (A:Around) (outer:List Env) (s:Shared) (H:Hp) (vs:List V) (Q:VK) (E:XK),Room k (A.deeper (envOfC qual (defScope st) s.heap.objs.size f cdv))→sp vs H Q E→
      ∃t,QSs (cxOf CX0 P w K mg base N qual (defScope st) f cdv A outer s H E).nox (defBody st) t∧t {nx:=fun _ H'=>Q .non H',rt:=Q} (start N vs) H):FnOk P w K mg base CX0 (k+1) f fd ps sp:=
  F.ok S len fun cdv A outer s H vs Q E hr h=>by
    obtain ⟨t,ht,q⟩:=hbody cdv A outer s H vs Q E hr h
    exact ⟨t,ht.out,q⟩
@[reducible] noncomputable def Cx.blk (X:Cx)(N2:List Str)(x:Str)(sc:Scope)(cl:List (Str×Addr))(C:Addr)(s0:Shared)(H0:Hp)(fp:List Addr):Cx:=
 {X with N:=N2++[x],s₀:=s0,H₀:=H0,env:=compEnvC sc cl C X.env,outer:=X.stack,ex:=fp,fn:=fun _=>false,pn:=[],xe:=fun _ _=>False}
structure BlkOk (sc esc:Scope)(x:Str)(N N2:List Str):Prop where
 kind:sc.kind=.function
 cell:∀y∈sc.names,y.2≠.cell
 loc:∀y∈sc.names,y.2=.local→sc.names.lookup y.1=some .local
 own:sc.names.lookup x=some .local
 free:∀y∈sc.names,y.2=.free→esc.names.lookup y.1=some .cell∨esc.names.lookup y.1=some .free
 out:∀y∈N2,sc.names.lookup y≠some .local
 nd:N.Nodup
 nd2:N2.Nodup
 len:N2.length=N.length
 ren:∀p∈N.zip N2,p.2=p.1∨sc.names.lookup p.2=none
theorem lookup_mem {l:List (Str×NameKind)}{y:Str}{k:NameKind}(h:(y,k)∈l):l.lookup y≠none:=by
 induction l with
 | nil=>simp at h
 | cons p r ih =>
  obtain ⟨n,k'⟩:=p
  cases hy:y==n with
  | true=>rw [lookup_cons,hy];simp
  | false =>
   rw [lookup_cons,hy]
   rcases List.mem_cons.mp h with e | e
   ·cases e
    simp at hy
   ·exact ih e
noncomputable def closOf (cells:List (Str×Addr)):List (Str×NameKind)→List (Str×Addr)→List (Str×Addr)
 | [],cs=>cs
 | (n,k)::r,cs=>closOf cells r (if k=.free then (n,(cells.lookup n).getD 0)::cs else cs)
theorem closureFor_all {sc:Scope}{env:Env}(h:∀y∈sc.names,y.2=.free→∃c,env.cells.lookup y.1=some c):closureFor sc env=pure (closOf env.cells sc.names []):=by
  unfold closureFor
  generalize sc.names=l at h ⊢
  have key:∀(l:List (Str×NameKind)) (cs:List (Str×Addr)),(∀y∈l,y.2=.free→∃c,env.cells.lookup y.1=some c)→
      (forIn l cs fun (y:Str×NameKind) (r:List (Str×Addr))=>(do
        let (name,kind):=y
        if kind==.free then
          let c ← cellOf env name
          pure (ForInStep.yield ((name,c)::r))
        else pure (ForInStep.yield r):Sem (ForInStep (List (Str×Addr)))))=pure (closOf env.cells l cs):=by
    intro l
    induction l with
    | nil=>intro cs _;rfl
    | cons y r ih =>
      intro cs hy
      obtain ⟨n,k⟩:=y
      rw [List.forIn_cons]
      have hr:∀y∈r,y.2=.free→∃c,env.cells.lookup y.1=some c:=fun y h'=>hy y (mem_cons_of_mem _ h')
      by_cases hk:k=.free
      · subst hk
        obtain ⟨c,hc⟩:=hy _ mem_cons_self rfl
        have e:cellOf env n=pure c:=by unfold cellOf;rw [show env.cells.lookup n=some c from hc]
        simp only [beq_self_eq_true,if_true,e]
        rw [closOf,if_pos rfl,show env.cells.lookup n=some c from hc]
        exact ih _ hr
      · have hb:(k==NameKind.free)=false:=by simpa using hk
        rw [closOf,if_neg hk]
        simp only [hb,if_false,Bool.false_eq_true]
        exact ih _ hr
  have q:=key l [] h
  exact (congrArg (fun z:Sem (List (Str×Addr))=>z >>= fun r=>pure r) q).trans rfl
theorem clos_look {cells:List (Str×Addr)}:∀{l:List (Str×NameKind)} {cs:List (Str×Addr)} {y:Str} {c:Addr},(∀z∈l,z.2=.free→∃c,cells.lookup z.1=some c)→(∀c,cs.lookup y=some c→cells.lookup y=some c)→
  (closOf cells l cs).lookup y=some c→cells.lookup y=some c
 | [],_,_,_,_,h0,h=>h0 _ h
 | (n,k)::r,cs,y,c,hl,h0,h=>by
  rw [closOf] at h
  refine clos_look (l:=r) (fun z hz=>hl z (mem_cons_of_mem _ hz)) (fun c' hc'=>?_) h
  by_cases hk:k=.free
  ·rw [if_pos hk] at hc'
   obtain ⟨c0,e0⟩:=hl _ mem_cons_self hk
   cases hy:y==n with
   | true =>
    have e:y=n:=by simpa using hy
    subst e
    rw [lookup_cons,hy] at hc'
    have e1:(cells.lookup y).getD 0=c':=by simpa using hc'
    have e2:cells.lookup y=some c0:=e0
    rw [e2] at e1 ⊢
    simpa using e1
   | false =>
    rw [lookup_cons,hy] at hc'
    exact h0 _ hc'
  ·rw [if_neg hk] at hc'
   exact h0 _ hc'
theorem clos_keep {cells:List (Str×Addr)}:∀{l:List (Str×NameKind)} {cs:List (Str×Addr)} {y:Str},(∃c,cs.lookup y=some c)→∃c,(closOf cells l cs).lookup y=some c
 | [],_,_,h=>h
 | (n,k)::r,cs,y,h=>by
  rw [closOf]
  refine clos_keep ?_
  split
  ·cases hy:y==n with
   | true=>exact ⟨_,by rw [lookup_cons,hy]⟩
   | false=>rw [lookup_cons,hy];exact h
  ·exact h
theorem clos_has {cells:List (Str×Addr)}:∀{l:List (Str×NameKind)} {cs:List (Str×Addr)} {y:Str},(y,NameKind.free)∈l→∃c,(closOf cells l cs).lookup y=some c
 | (n,k)::r,cs,y,h=>by
  rw [closOf]
  rcases List.mem_cons.mp h with e | e
  ·cases e
   refine clos_keep ?_
   rw [if_pos rfl]
   exact ⟨_,by rw [lookup_cons,beq_self_eq_true]⟩
  ·exact clos_has e
theorem relabel_look {env:Env}:∀{names:List (Str×NameKind)} {y:Str} {k:NameKind},(∀z∈names,z.2≠.cell)→(k=.cell∨k=.free)→
  (names.map fun (n,k)=>if (k==NameKind.free&&env.scope.kind==.function&&env.kindOf n==some .cell) then (n,NameKind.cell) else (n,k)).lookup y=some k→(y,NameKind.free)∈names
 | [],_,_,_,_,hz=>by simp at hz
 | (n,k0)::r,y,k,hc,hk,h=>by
  rw [map_cons] at h
  cases hy:y==n with
  | true =>
   have e:y=n:=by simpa using hy
   subst e
   by_cases hf:k0=.free
   ·subst hf;exact mem_cons_self
   ·have hb:(k0==NameKind.free)=false:=by simpa using hf
    simp only [hb,Bool.false_and,Bool.false_eq_true,if_false,lookup_cons,beq_self_eq_true] at h
    have e1:k0=k:=by simpa using h
    subst e1
    rcases hk with z | z
    ·exact absurd z (hc _ mem_cons_self)
    ·exact absurd z hf
  | false =>
   refine mem_cons_of_mem _ (relabel_look (env:=env) (k:=k) (fun z hz=>hc z (mem_cons_of_mem _ hz)) hk ?_)
   by_cases hc':(k0==NameKind.free&&env.scope.kind==.function&&env.kindOf n==some .cell)=true
   ·simp only [hc',if_true,lookup_cons,hy] at h
    exact h
   ·simp only [hc',Bool.false_eq_true,if_false,lookup_cons,hy] at h
    exact h
theorem relabel_loc {env:Env}:∀{names:List (Str×NameKind)} {y:Str},
  (names.map fun (n,k)=>if (k==NameKind.free&&env.scope.kind==.function&&env.kindOf n==some .cell) then (n,NameKind.cell) else (n,k)).lookup y=some .local→names.lookup y=some .local
 | [],_,h=>by simp at h
 | (n,kn)::r,y,h=>by
  rw [map_cons] at h
  cases hy:y==n with
  | true =>
   rw [lookup_cons,hy]
   by_cases hc:(kn==NameKind.free&&env.scope.kind==.function&&env.kindOf n==some .cell)=true
   ·simp only [hc,if_true,lookup_cons,hy] at h
    cases h
   ·simp only [hc,Bool.false_eq_true,if_false,lookup_cons,hy] at h
    exact h
  | false =>
   rw [lookup_cons,hy]
   refine relabel_loc (env:=env) ?_
   by_cases hc:(kn==NameKind.free&&env.scope.kind==.function&&env.kindOf n==some .cell)=true
   ·simp only [hc,if_true,lookup_cons,hy] at h
    exact h
   ·simp only [hc,Bool.false_eq_true,if_false,lookup_cons,hy] at h
    exact h
section
variable {s:Shared}{R:Result→Shared→Prop}{A:Around}{P:Program}{w:World}
noncomputable def testsOf (ifs:List Expr)(env:Env):Sem Bool:=forIn ifs true fun c r=>if r=true then do let ok ← isTrue c env (eval c env);pure (ForInStep.yield ok) else pure (ForInStep.yield r)
theorem comp_turns {elt tg iter:Expr}{ifs:List Expr}{scope:Scope}{pos:Pos}{it ac:Value}{env:Env}(W:Nat→Shared→Prop)
    (turn:∀n s,W n s→wpAny (model P w) A (pyNext it) (fun r s₁=>match r with
      | none=>R (.ok .next) s₁
      | some v=>wpAny (model P w) A (letOwnedTupleGo tg it v) (fun _ s₁'=>wpAny (model P w) A (assign tg env v) (fun _ s₂ =>
          wpAny (model P w) A (testsOf ifs env) (fun ok s₃ =>
            if ok=true then wpAny (model P w) A (eval elt env) (fun z s₄ =>
              wpAny (model P w) A (call (.builtin "list.append") [ac,z]) (fun _ s₅=>∃m,m<n∧W m s₅) (fun _ _=>False) s₄) (fun _ _=>False) s₃
            else ∃m,m<n∧W m s₃) (fun _ _=>False) s₂) (fun _ _=>False) s₁') (fun _ _=>False) s₁) (fun _ _=>False) s)
    (n:Nat) (h:W n s) :
    codeAny (model P w) A (.compLoop (.ListComp elt [⟨tg,iter,ifs,0⟩] scope pos) 0 it ac env) R s:=by
  refine codeAny_loop rfl W (fun n s hI=>?_) n h
  show wpAny _ A ((compTurn (.ListComp elt [⟨tg,iter,ifs,0⟩] scope pos) 0 it ac env).onRaise (fun z=>do noteFrame z env;theTreesLotGoes z)) _ _ s
  refine wpAny_noted ?_
  rw [compTurn_list]
  refine wpAny_bind (wpAny_standAt (wpAny_bind (wpAny_mono (turn n s hI) (fun r s₁ h₁=>?_) fun _ _ h'=>h'.elim)))
  cases r with
  | none=>exact wpAny_pure h₁
  | some v =>
    refine wpAny_bind (wpAny_mono h₁ (fun _ s₁' h₁'=>?_) fun _ _ h'=>h'.elim)
    refine wpAny_bind (wpAny_mono h₁' (fun _ s₂ h₂=>wpAny_bind (wpAny_mono h₂ (fun ok s₃ h₃=>?_) fun _ _ h'=>h'.elim)) fun _ _ h'=>h'.elim)
    cases ok with
    | false=>exact wpAny_pure (And.intro rfl h₃)
    | true =>
      exact wpAny_bind (wpAny_bind (wpAny_mono h₃ (fun x s₄ h₄=>wpAny_bind (wpAny_mono h₄ (fun _ s₅ h₅=>wpAny_pure (wpAny_pure ⟨rfl,h₅⟩)) fun _ _ h'=>h'.elim)) fun _ _ h'=>h'.elim))
end
def PIf (X:Cx)(ifs:List Expr)(t:TT):Prop:=
 ∀(pins:List (Addr×Obj)) (s:Shared) (σ:St) (H:Hp) (Q:Bool→Hp→Prop),Inv X pins σ H s→t σ H Q→wpAny (model X.prog X.w) X.A (testsOf ifs X.env) (TP X pins σ Q) X.xe s
def tYes:TT:=fun _ H Q=>Q true H
theorem pif_nil {X:Cx}:PIf X [] tYes:=fun _ _ _ H _ I h=>wpAny_pure ⟨H,I,h⟩
section
variable {X:Cx}{elt iter:Expr}{x:Str}{px pos:Pos}{ifs:List Expr}{sc:Scope}{N2:List Str}{wi:TI}{tc:TT}{te:TE}
end
structure QIf (X:Cx)(ifs:List Expr)(t:TT):Prop where
 out:PIf X ifs t
section
variable {X:Cx}{elt iter c:Expr}{x:Str}{px pos:Pos}{ifs:List Expr}{sc esc:Scope}{N N2:List Str}{wi:TI}{tc:TT}{te:TE}
theorem qif_nil:QIf X [] tYes:=⟨pif_nil⟩
end
section
variable {K:Frag}{a D:Addr}{xs:List V}{tc:TT}{te:TE}{σ:St}{H:Hp}{Q:VK}{R:Hp→Prop}
end
@[reducible] noncomputable def Cx.blkN (X:Cx)(N2 xs:List Str)(sc:Scope)(cl:List (Str×Addr))(C:Addr)(s0:Shared)(H0:Hp)(fp:List Addr):Cx:=
 {X with N:=N2++xs,s₀:=s0,H₀:=H0,env:=compEnvC sc cl C X.env,outer:=X.stack,ex:=fp,fn:=fun _=>false,pn:=[],xe:=fun _ _=>False}
structure BlkN (sc esc:Scope)(xs N N2:List Str):Prop where
 kind:sc.kind=.function
 cell:∀y∈sc.names,y.2≠.cell
 loc:∀y∈sc.names,y.2=.local→sc.names.lookup y.1=some .local
 free:∀y∈sc.names,y.2=.free→esc.names.lookup y.1=some .cell∨esc.names.lookup y.1=some .free
 out:∀y∈N2,sc.names.lookup y≠some .local
 nd:N.Nodup
 len:N2.length=N.length
 ren:∀p∈N.zip N2,p.2=p.1∨sc.names.lookup p.2=none
def tCompN (k:Nat)(g:TG)(wi:TI)(tc:TT)(te:TE):TE:=fun σ H Q=>wi σ H fun J H1=>∀D,H1 D=none→∃W:Nat→Nat→Hp→Prop,(∃m,W 0 m (upd H1 D (.lst [])))∧∀i m H,W i m H→
  (J.stop i H∧Q (.ref D) H)∨(J.go i H∧∃N:Hp→Prop,(∀H',N H'→∃m',m'<m∧W (i+1) m' H')∧∀x H',J.yld i H x H'→∀os:St,os.length=k→g x (σ++os) H' fun σ' Hg=>(∃os',os'.length=k∧σ'=σ++os')∧tc σ' Hg fun b H2 =>
    if b=true then te σ' H2 fun v H3=>∃ys,H3 D=some (.lst ys)∧ys.length<sizeLine∧N (upd H3 D (.lst (ys++[v])))
    else N H2)
section
variable {X:Cx}{elt iter tg:Expr}{xs:List Str}{pos:Pos}{g:TG}{ifs:List Expr}{sc:Scope}{N2:List Str}{wi:TI}{tc:TT}{te:TE}
theorem blkN_start {pins:List (Addr×Obj)}{σ:St}{H:Hp}{s s1:Shared}{fp:List Addr}{h':Heap}{m:Str→Option Value}{tk:Nat}(B:BlkN sc X.env.scope xs X.N N2)(I:Inv X pins σ H s)(hf:∀b∈fp,FpOk X pins H b)
    (hfl:∀b∈fp,b<s.heap.objs.size) (hn:h'.Ns s.heap.objs.size m) (hk:∀b o,s.heap.get? b=some o→h'.get? b=some o) (e1:s1={s with heap:=h',toks:=tk}) :
    Inv (X.blkN N2 xs sc (closOf X.env.cells sc.names []) s.heap.objs.size s H fp) [] (σ++List.replicate xs.length none) H s1:=by
  subst e1
  have hcl:∀y∈sc.names,y.2=.free→∃c,X.env.cells.lookup y.1=some c:=fun y hy hf=>I.ok.has y.1 (B.free y hy hf)
  have look:∀y c,(closOf X.env.cells sc.names []).lookup y=some c→X.env.cells.lookup y=some c:=fun y c h=>clos_look hcl (fun _ z=>by simp at z) h
  have isfree:∀y,(relabel sc X.env).names.lookup y=some .cell∨(relabel sc X.env).names.lookup y=some .free→(y,NameKind.free)∈sc.names:=fun y hy=>by
    rcases hy with hy | hy
    · exact relabel_look (env:=X.env) B.cell (.inl rfl) hy
    · exact relabel_look (env:=X.env) B.cell (.inr rfl) hy
  refine ⟨⟨I.ok.mod,B.kind,I.ok.glob,I.ok.blt,le_refl _,fun y z c h1 h2=>I.ok.inj y z c (look y c h1) (look z c h2),fun y hy=>clos_has (isfree y hy),fun _ _ h=>(by cases h),I.ok.hd,I.ok.frames,.inl rfl,fun b hb=>?_,fun b o e=>?_,le_trans I.ok.bsz I.sz,fun b o e hb=>?_,fun b hb hs=>?_,I.stack,I.stkFree⟩,
    rfl,I.bare,Un.kept hk,⟨_,hn,fun i y v h1 h2 h3=>?_⟩,fun y c h=>?_,I.hok.fresh (le_refl _),fun y c h=>I.freeC y c (look y c h),fun p hp=>absurd (show p∈([]:List (Addr×Obj)) from hp) (by simp),I.hok.kept hk,?_⟩
  · exact ⟨ne_of_lt (hfl b hb),fun y c h=>(hf b hb).2.2.2.2.1 y c (look y c h)⟩
  · exact I.bs b o e
  · rcases (hf b hb).2.2.2.1 with z | z
    · exact I.ok.noex b o e z
    · exact absurd (lt_of_lt_of_le (lt_size e) (le_trans I.ok.bsz z)) (lt_irrefl _)
  · rcases List.mem_cons.mp (I.stkSub b hs) with z | z
    · exact (hf b hb).2.1 z
    · exact (hf b hb).2.2.1 z
  · have hlen:=I.len
    have hl2:=B.len
    have h1:(N2++xs)[i]?=some y:=h1
    have h2:(σ++List.replicate xs.length none)[i]?=some (some v):=h2
    have hi:i<X.N.length:=by
      by_cases hi:i<X.N.length
      · exact hi
      · rw [getElem?_append_right (by omega)] at h2
        have hm:=mem_of_getElem? h2
        rw [List.mem_replicate] at hm
        exact absurd hm.2 (by intro z;cases z)
    rw [getElem?_append_left (by omega)] at h1
    rw [getElem?_append_left (by omega)] at h2
    have h3':(relabel sc X.env).names.lookup y=some .cell∨(relabel sc X.env).names.lookup y=some .free:=by
      rcases h3 with z | z
      · exact absurd (relabel_loc (env:=X.env) z) (B.out y (mem_of_getElem? h1))
      · exact z
    have hfr:=isfree y h3'
    have h1:X.N[i]?=some y:=by
      obtain ⟨z,hz⟩:∃z,X.N[i]?=some z:=⟨X.N[i],getElem?_eq_getElem hi⟩
      rcases B.ren (z,y) (mem_of_getElem? (List.getElem?_zip_eq_some.mpr ⟨hz,h1⟩)) with e | e
      · rw [hz,show y=z from e]
      · exact absurd e (lookup_mem hfr)
    obtain ⟨m3,hn3,hl3⟩:=I.loc
    have hv:X.env.scope.names.lookup y=some .cell∨X.env.scope.names.lookup y=some .free:=B.free (y,.free) hfr rfl
    obtain ⟨u,ru,lk⟩:=hl3 i y v h1 h2 (.inr hv)
    refine ⟨u,ru,.inr ⟨h3',?_⟩⟩
    rcases lk with ⟨k1,_⟩ | ⟨k1,c,ec,zc⟩
    · rcases hv with q | q
      · rw [show X.env.kindOf y=X.env.scope.names.lookup y from rfl,q] at k1
        cases k1
      · rw [show X.env.kindOf y=X.env.scope.names.lookup y from rfl,q] at k1
        cases k1
    · obtain ⟨c',e'⟩:=clos_has (cells:=X.env.cells) (cs:=[]) hfr
      have e2:=look y c' e'
      rw [ec] at e2
      cases e2
      obtain ⟨o,ho,hd⟩:=zc
      exact ⟨c,e',o,hk _ _ ho,hd⟩
  · obtain ⟨v,o,ho,hd⟩:=I.cell y c (look y c h)
    exact ⟨v,o,hk _ _ ho,hd⟩
  · show (σ++List.replicate xs.length none).length=(N2++xs).length
    rw [length_append,length_append,I.len,B.len,List.length_replicate]
theorem blkN_run {pins:List (Addr×Obj)}{σ:St}{H2:Hp}{s2:Shared}{it:Addr}{fp:List Addr}{tn:Nat→Heap→Prop}{J:It}{Q:VK}{E:Value→Shared→Prop}{RR:Value→Addr→Result→Shared→Prop}(hc:X.calm=true)(B:BlkN sc X.env.scope xs X.N N2)
    (hg:∀cl C s0 H0 fp,PG (X.blkN N2 xs sc cl C s0 H0 fp) tg g) (ht:∀cl C s0 H0 fp,PIf (X.blkN N2 xs sc cl C s0 H0 fp) ifs tc) (he:∀cl C s0 H0 fp,PE (X.blkN N2 xs sc cl C s0 H0 fp) elt te)
    (I2:Inv X pins σ H2 s2) (T:Turn X.prog X.w X.K tg J fp it tn) (st2:tn 0 s2.heap) (f2:∀b∈fp,FpOk X pins H2 b)
    (hw:∀D,H2 D=none→∃W:Nat→Nat→Hp→Prop,(∃m,W 0 m (upd H2 D (.lst [])))∧∀i m H,W i m H→
      (J.stop i H∧Q (.ref D) H)∨(J.go i H∧∃N:Hp→Prop,(∀H',N H'→∃m',m'<m∧W (i+1) m' H')∧∀x H',J.yld i H x H'→∀os:St,os.length=xs.length→g x (σ++os) H' fun σ' Hg=>(∃os',os'.length=xs.length∧σ'=σ++os')∧tc σ' Hg fun b H2 =>
        if b=true then te σ' H2 fun v H3=>∃ys,H3 D=some (.lst ys)∧ys.length<sizeLine∧N (upd H3 D (.lst (ys++[v])))
        else N H2))
    (fin:∀(D C:Addr) (H':Hp) (s':Shared) (m:Str→Option Value),Inv X pins σ H' s'→s'.heap.Ns C m→FpOk X pins H' C→Q (.ref D) H'→RR (.ref D) C (.ok .next) s') :
    wpAny (model X.prog X.w) X.A (newList []) (fun acc s₃=>wpAny (model X.prog X.w) X.A (newFunctionEnv sc X.env.globals (closOf X.env.cells sc.names []) [] X.env.qual none .none (some X.env)) (fun cenv s₄ =>
      codeAny (model X.prog X.w) X.A (.compStart (.ListComp elt [⟨tg,iter,ifs,0⟩] sc pos) 0 (.ref it) acc {cenv with scope:=relabel sc X.env}) (RR acc cenv.locals) s₄) E s₃) E s2:=by
  refine wpAny_newObj_type (wpAny_newFunctionEnv B.cell (by intro y hy;simp at hy) (fun h₁ hns₁ hsb₁=>?_) B.kind)
  have hD:H2 s2.heap.objs.size=none:=I2.fresh
  obtain ⟨W,⟨m0,w0⟩,turn⟩:=hw _ hD
  have I3:Inv X pins σ (upd H2 s2.heap.objs.size (.lst [])) {s2 with heap:=s2.heap.push {cls:=.type "list",data:=.seq ([]:List Value).toArray}}:=I2.lnew (its:=[]) (t':=s2.toks) .nil (zero_le _)
  have fne:∀b∈fp,b<s2.heap.objs.size:=fun b hb=>by
    obtain ⟨o,ho,_⟩:=T.obj _ _ st2 b hb
    exact lt_size ho
  generalize hs3:({s2 with heap:=s2.heap.push {cls:=.type "list",data:=.seq ([]:List Value).toArray}}:Shared)=s3 at I3
  have hs3h:s3.heap=s2.heap.push {cls:=.type "list",data:=.seq ([]:List Value).toArray}:=by rw [← hs3]
  have f3:∀b∈fp,FpOk X pins (upd H2 s2.heap.objs.size (.lst [])) b:=fun b hb=>⟨by rw [upd_ne (ne_of_lt (fne b hb))];exact (f2 b hb).1,(f2 b hb).2⟩
  have fl3:∀b∈fp,b<s3.heap.objs.size:=fun b hb=>by
    rw [hs3h,Heap.size_push]
    exact Nat.lt_succ_of_lt (fne b hb)
  have keep3:∀b o,s3.heap.get? b=some o→h₁.get? b=some o:=fun b o e=>by
    rw [hs3h] at e
    refine hsb₁.extBut b o ?_ (get?_push_of_some _ e)
    exact ne_of_lt (lt_size e)
  have hns3:h₁.Ns s3.heap.objs.size (fun z=>([]:List (Str×Value)).reverse.lookup z):=by
    rw [hs3h]
    exact hns₁
  have I4:=blkN_start (xs:=xs) (sc:=sc) (s1:={s3 with heap:=h₁,toks:=s3.toks+([]:List (Str×Value)).length}) B I3 f3 fl3 hns3 keep3 rfl
  have st4:tn 0 h₁:=T.keep _ _ _ st2 fun b hb o e=>keep3 b o (by rw [hs3h];exact get?_push_of_some _ e)
  have stat:∀{H':Hp},(∀b∈fp,H' b=none)→∀b∈fp,FpOk (X.blkN N2 xs sc (closOf X.env.cells sc.names []) s3.heap.objs.size s3 (upd H2 s2.heap.objs.size (.lst [])) fp) [] H' b:=fun hn b hb =>
    ⟨hn b hb,(I4.ok.exf b hb).1,I4.ok.exfs b hb,.inl hb,(I4.ok.exf b hb).2,fun p hp=>absurd (show p∈([]:List (Addr×Obj)) from hp) (by simp)⟩
  have loop:∀s4:Shared,s4={s3 with heap:=h₁,toks:=s3.toks+([]:List (Str×Value)).length}→
      codeAny (model X.prog X.w) X.A (.compLoop (.ListComp elt [⟨tg,iter,ifs,0⟩] sc pos) 0 (.ref it) (.ref s2.heap.objs.size) (compEnvC sc (closOf X.env.cells sc.names []) s3.heap.objs.size X.env)) (RR (.ref s2.heap.objs.size) s3.heap.objs.size) s4:=by
    rintro s4 rfl
    refine comp_turns (fun n s'=>∃(i:Nat) (o:St) (H':Hp),o.length=xs.length∧Inv (X.blkN N2 xs sc (closOf X.env.cells sc.names []) s3.heap.objs.size s3 (upd H2 s2.heap.objs.size (.lst [])) fp) [] (σ++o) H' s'∧tn i s'.heap∧(∀b∈fp,H' b=none)∧W i n H') ?_ m0
      ⟨0,List.replicate xs.length none,_,by simp,I4,st4,fun b hb=>(f3 b hb).1,w0⟩
    rintro n s5 ⟨i,o,H5,ol5,I5,st5,fr5,w5⟩
    rcases turn i n H5 w5 with ⟨stop,qn⟩ | ⟨go,N,hN,step⟩
    · refine thn (T.done (X.blkN N2 xs sc (closOf X.env.cells sc.names []) s3.heap.objs.size s3 (upd H2 s2.heap.objs.size (.lst [])) fp) rfl rfl rfl hc i [] s5 (σ++o) H5 _ I5 (stat fr5) st5 stop) fun r s6 ⟨hr,I6⟩=>?_
      subst hr
      obtain ⟨m6,hn6,_⟩:=I6.loc
      refine fin _ _ H5 s6 m6 ?_ hn6 (I3.fpOk (le_refl _) I6.free) qn
      exact I3.call' (ch:=fp) I6.os I6.base I6.hok I6.bare fun b hb=>⟨(f3 b hb).2.2.2.1,(f3 b hb).2.1,(f3 b hb).2.2.2.2.1,(f3 b hb).2.2.2.2.2⟩
    · refine thn (T.item (X.blkN N2 xs sc (closOf X.env.cells sc.names []) s3.heap.objs.size s3 (upd H2 s2.heap.objs.size (.lst [])) fp) rfl rfl rfl hc i [] s5 (σ++o) H5 _ I5 (stat fr5) st5 go) fun r s6 ⟨u,hr,h6⟩=>?_
      subst hr
      refine thn h6 fun _ s7 hz9=>?_
      obtain ⟨v,H7,I7,r7,y7,st7,fr7⟩:=hz9
      have I7':=I7.pinned (stat fr7) (T.obj _ _ st7)
      refine thn (hg _ _ _ _ _ _ s7 _ H7 v u _ I7' r7 (step v H7 y7 o ol5)) fun _ s8 ⟨σ8,H8,I8,⟨os',ol8,e8⟩,q8⟩=>?_
      subst e8
      have again:∀{H9:Hp} {s9:Shared},Inv (X.blkN N2 xs sc (closOf X.env.cells sc.names []) s3.heap.objs.size s3 (upd H2 s2.heap.objs.size (.lst [])) fp) ([]++pinsAt fp s7.heap) (σ++os') H9 s9→N H9→
          ∃m,m<n∧∃(i:Nat) (o:St) (H':Hp),o.length=xs.length∧Inv (X.blkN N2 xs sc (closOf X.env.cells sc.names []) s3.heap.objs.size s3 (upd H2 s2.heap.objs.size (.lst [])) fp) [] (σ++o) H' s9∧tn i s9.heap∧(∀b∈fp,H' b=none)∧W i m H':=fun {H9 s9} I9 n9=>by
        obtain ⟨m',hm,w9⟩:=hN H9 n9
        refine ⟨m',hm,i+1,os',H9,ol8,I9.unpinned,T.keep _ _ _ st7 fun b hb o e=>(I9.pin (b,o) (mem_append_right _ (mem_append_right _ (mem_pinsAt hb e)))).1,fun b hb=>?_,w9⟩
        obtain ⟨o,e,d⟩:=T.obj _ _ st7 b hb
        exact (I9.pin (b,o) (mem_append_right _ (mem_append_right _ (mem_pinsAt hb e)))).2.1
      refine thn (ht _ _ _ _ _ _ s8 _ H8 _ I8 q8) fun ok s9 ⟨H9,I9,q9⟩=>?_
      cases ok with
      | false =>
        rw [if_neg Bool.false_ne_true] at q9 ⊢
        exact again I9 q9
      | true =>
        rw [if_pos rfl] at q9 ⊢
        refine thn (he _ _ _ _ _ _ s9 _ H9 _ I9 q9) fun ue s10 hz9=>?_
        obtain ⟨ve,H10,I10,r10,ys,hy,hz,q10⟩:=hz9
        refine thn (mt_append _ s10 _ H10 (.ref s2.heap.objs.size) [ve] (.ref s2.heap.objs.size) [ue] (fun _ H'=>N H') I10 rfl (.cons r10 .nil) ⟨_,ys,ve,rfl,rfl,hy,hz,q10⟩) fun _ s11 hz9=>?_
        obtain ⟨_,H11,I11,_,q11⟩:=hz9
        exact again I11 q11
  have fin':codeAny (model X.prog X.w) X.A (.compStart (.ListComp elt [⟨tg,iter,ifs,0⟩] sc pos) 0 (.ref it) (.ref s2.heap.objs.size) (compEnvC sc (closOf X.env.cells sc.names []) s3.heap.objs.size X.env)) (RR (.ref s2.heap.objs.size) s3.heap.objs.size) {s3 with heap:=h₁,toks:=s3.toks+([]:List (Str×Value)).length}:=
    codeAny_compStart_list (loop _ rfl) (T.self _ 0 _ _ _ st4 (loop _ rfl))
  exact fin'
theorem pe_compN (hc:X.calm=true)(B:BlkN sc X.env.scope xs X.N N2)(hi:PI X tg iter wi)(hg:∀cl C s0 H0 fp,PG (X.blkN N2 xs sc cl C s0 H0 fp) tg g)(ht:∀cl C s0 H0 fp,PIf (X.blkN N2 xs sc cl C s0 H0 fp) ifs tc)(he:∀cl C s0 H0 fp,PE (X.blkN N2 xs sc cl C s0 H0 fp) elt te)
  (hs:∀v,foldedSetIterable iter X.env v=pure v:=by intro _;rfl):PE X (.ListComp elt [⟨tg,iter,ifs,0⟩] sc pos) (tCompN xs.length g wi tc te):=by
 intro pins s σ H Q I h
 rw [eval_ListComp]
 have hcl:∀y∈sc.names,y.2=.free→∃c,X.env.cells.lookup y.1=some c:=fun y hy hf=>I.ok.has y.1 (B.free y hy hf)
 refine wpAny_comprehension_free (use:=none) rfl hs (closureFor_all hcl) B.kind B.loc (thn (hi pins s σ H _ I h) fun v s1 h1=>thn h1 fun itv s2 h2=>?_)
 obtain ⟨it,fp,tn,J,H2,e,I2,T,st2,f2,hw⟩:=h2
 subst e
 refine blkN_run (RR:=fun acc C=>compPost (model X.prog X.w) X.A X.xe none (EP X pins σ Q) acc C) hc B hg ht he I2 T st2 f2 hw ?_
 intro D C H' s' m I' hn hC q
 obtain ⟨c0,c1,c2,c3,c4,c5⟩:=hC
 refine ⟨m,hn,fun h'' hs''=>⟨.ref D,H',?_,rfl,q⟩⟩
 exact I'.turned (t':=s'.toks) (fun b o hb e=>hs''.extBut b o hb e) c0 c1 c3 c4 c5
end
section
variable {X:Cx}{elt iter c tg:Expr}{xs:List Str}{pos:Pos}{ifs:List Expr}{sc esc:Scope}{N N2:List Str}{wi:TI}{tc:TT}{te:TE}{g:TG}
theorem qe_compN (esc:Scope)(N N2 xs:List Str)(B:BlkN sc esc xs N N2)(hi:QI X tg iter wi)(hg:∀cl C s0 H0 fp,QG (X.blkN N2 xs sc cl C s0 H0 fp) tg g)(ht:∀cl C s0 H0 fp,QIf (X.blkN N2 xs sc cl C s0 H0 fp) ifs tc)(he:∀cl C s0 H0 fp,QE (X.blkN N2 xs sc cl C s0 H0 fp) elt te)
  (hesc:X.env.scope=esc:=by rfl) (hN:X.N=N:=by rfl) (hc:X.calm=true:=by rfl) (hs:∀v,foldedSetIterable iter X.env v=pure v:=by intro _;rfl):QE X (.ListComp elt [⟨tg,iter,ifs,0⟩] sc pos) (tCompN xs.length g wi tc te):=by
 subst hesc hN
 exact ⟨pe_compN hc B hi.out (fun cl C s0 H0 fp=>(hg cl C s0 H0 fp).out) (fun cl C s0 H0 fp=>(ht cl C s0 H0 fp).out) (fun cl C s0 H0 fp=>(he cl C s0 H0 fp).out) hs⟩
variable {σ:St}{H:Hp}{Q:VK}{D:Ends}{K:Frag}
end
section
variable {X:Cx}{a b c e o i':Expr}{to ti te:TE}{tc:TT}{pos p2 apos cpos:Pos}{body:List Stmt}{tb:TS}
theorem qg_sub {t:TSet}(ho:QE X o to)(hi:QE X i' ti)(hs:PSet X t)
    (ha:∀v,assign (.Subscript o i' pos) X.env v=(do
      let ov ← holding [v] (eval o X.env)
      let iv ← holding [v,ov] (eval i' X.env)
      standAt pos
      holding [v,ov,iv] (setItem ov iv v)
      release [v,ov,iv] []):=by intro _;rfl):QG X (.Subscript o i' pos) (gSub to ti t):=⟨pg_sub ho.out hi.out hs ha⟩
end
theorem rev_len:typeLookup (.type "list_reverseiterator") "__len__"=pure none:=by rw [typeLookup_type,builtinLookup_eq_fast];kernel_rfl
theorem rev_hint:typeLookup (.type "list_reverseiterator") "__length_hint__"=pure (some (.builtin "list_reverseiterator.__length_hint__")):=by rw [typeLookup_type,builtinLookup_eq_fast];kernel_rfl
section
variable {s:Shared}{E:Value→Shared→Prop}{A:Around}{P:Program}{w:World}
theorem hint_rev {it l:Addr}{i:Int}{Q:Bool→Shared→Prop}(hit:s.heap.IsRevIter it l i)(h:Q false s):wpAny (model P w) A (Builtin.List.listLengthHint (.ref it)) Q E s:=by
 delta Builtin.List.listLengthHint
 refine wpAny_bind (wpAny_specialOf hit.typeIs rev_len ?_)
 refine wpAny_ite_split (fun z=>absurd z (by decide +kernel)) fun _=>?_
 refine wpAny_ite_split (fun z=>absurd z (by decide +kernel)) fun _=>?_
 refine wpAny_bind (wpAny_specialOf hit.typeIs rev_hint ?_)
 generalize hid:("list_reverseiterator.__length_hint__":String)=id0
 wp_delta
 rw [show splitId id0=some ("list_reverseiterator","__length_hint__") from by subst hid;decide +kernel]
 subst hid
 refine wpAny_bind (wpAny_isInstance (T:="list_reverseiterator") (b:=true) hit.typeIs (by rw [isSubtype_type];kernel_rfl) ?_)
 refine wpAny_ite_split (fun z=>absurd z (by decide)) fun _=>?_
 refine wpAny_ite_split (fun _=>?_) fun z=>absurd (by decide +kernel) z
 refine wpAny_ite_split (fun z=>absurd z (by decide +kernel)) fun _=>?_
 exact wpAny_pure h
theorem extend_rev {R:Result→Shared→Prop}{it l:Addr}{items:Array Value}(hh:A.handled=none)(hit:s.heap.IsRevIter it l ((items.size:Int) - 1))(hl:s.heap.IsList l items)(hne:l≠it)(hn:items.size≤sizeLine)(S:Addr)(res:Value)(c₀:Nat)
    (hN:s.heap.get? S=some {cls:=.type "list",data:=.seq #[] c₀}) (hSi:S≠it) (hSl:S≠l)
    (hR:∀h' tk acc' c',(∀b o,b≠S→b≠it→s.heap.get? b=some o→h'.get? b=some o)→h'.get? S=some {cls:=.type "list",dict:=none,data:=.seq acc' c',slots:=#[]}→
      ItemsOf (fun i v=>items[items.size - 1 - i]?=some v) acc' items.size→R (.ok (.ret res)) {s with heap:=h',toks:=tk}) :
    wpAny (model P w) A.in1 (Builtin.List.listExtendWith (.ref S) (.ref it) res)
      (fun fi s1=>match fi with | .done fl=>R (.ok fl) s1 | .again cd=>cd.quiet=true∧codeAny (model P w) A cd R s1) (fun ev s1=>R (.error ev) s1) s:=by
  have W:=(Walks.listRev (prog:=P) (w:=w) (A:=A.in1) hh it l hne items).toS
  have key:codeAny (model P w) A (.builtin "list.extend.loop" ⟨[.ref S,.ref it,res],[]⟩) R s:=by
    refine codeAny_extend_loopS W hn S (by simp [hSi,hSl]) res items.size 0 s #[] c₀ rfl (zero_le _) ⟨zero_le _,by simpa using hit,hl⟩ hN (ItemsOf.nil _) fun s' acc' c' hm hN1 hacc=>?_
    rw [Moved.eq_with hm]
    exact hR s'.heap s'.toks acc' c' (fun b o hb hbi e=>hm.heap b o (by simp [hb,hbi]) e) hN1 hacc
  delta Builtin.List.listExtendWith
  refine wpAny_bind (wpAny_typeOf (T:="list_reverseiterator") hit.typeIs ?_)
  have h1:Builtin.List.listSameRef (.ref S) (.ref it)=false:=by simp [Builtin.List.listSameRef,hSi]
  have h2:(Value.type "list_reverseiterator"==Value.type "list")=false:=by decide
  have h3:(Value.type "list_reverseiterator"==Value.type "tuple")=false:=by decide
  simp only [h1,h2,h3,Bool.or_false,if_false,Bool.false_eq_true]
  refine wpAny_bind (wpAny_pyIter_revIter hit ?_)
  refine wpAny_bind (wpAny_holding (hint_rev hit ?_))
  exact wpAny_ite_split (fun z=>absurd z (by decide +kernel)) (fun _=>wpAny_pure ⟨plainId_quiet F.plain_extend_loop _,key⟩)
theorem call_list_rev {Q:Value→Shared→Prop}{it l:Addr}{items:Array Value}(hh:A.handled=none)(hit:s.heap.IsRevIter it l ((items.size:Int) - 1))(hl:s.heap.IsList l items)(hne:l≠it)(hn:items.size≤sizeLine)
    (hQ:∀h' tk acc' c',(∀b o,b≠it→s.heap.get? b=some o→h'.get? b=some o)→h'.get? s.heap.objs.size=some {cls:=.type "list",dict:=none,data:=.seq acc' c',slots:=#[]}→
      ItemsOf (fun i v=>items[items.size - 1 - i]?=some v) acc' items.size→Q (.ref s.heap.objs.size) {s with heap:=h',toks:=tk}) :
    wpAny (model P w) A (call (.type "list") [.ref it]) Q E s:=by
  have hit0:=hit
  obtain ⟨oi,hoi,_⟩:=id hit
  obtain ⟨ol,hol,_⟩:=id hl
  have hi:it<s.heap.objs.size:=lt_size hoi
  have hLl:l<s.heap.objs.size:=lt_size hol
  refine callType_codes (Q₁:=fun ob z=>ob=.ref s.heap.objs.size∧z={s with heap:=s.heap.push {cls:=.type "list",data:=.seq #[]}}) F.called_list (F.typeCall_list_1 _) F.entry_list_init
    (code_list_new _ ⟨rfl,rfl⟩) fun ob z h1=>?_
  obtain ⟨rfl,rfl⟩:=h1
  have hN:(s.heap.push {cls:=.type "list",data:=.seq #[]}).get? s.heap.objs.size=some {cls:=.type "list",data:=.seq #[]}:=get?_push_size _ rfl
  refine ⟨⟨_,hN,rfl⟩,F.args_list_init_2 _ _,?_⟩
  show wpAny _ _ (do let old ← Builtin.List.listItems (.ref s.heap.objs.size);Builtin.List.listUpdate (.ref s.heap.objs.size) (fun _=>#[]);letGo old.toList.reverse;Builtin.List.listExtendWith (.ref s.heap.objs.size) (.ref it) .none) _ _ _
  refine wpAny_bind ?_
  unfold Builtin.List.listItems
  refine wpAny_bind (wpAny_seqItems hN rfl (wpAny_pure ?_))
  show wpAny _ _ (updateSeq s.heap.objs.size (fun _=>#[]) >>= fun _=>letGo (#[]:Array Value).toList.reverse >>= fun _=>Builtin.List.listExtendWith (.ref s.heap.objs.size) (.ref it) .none) _ _ _
  refine wpAny_bind (wpAny_updateSeq hN rfl ?_)
  have hN2:=Heap.get?_update_self (Obj.mapSeq (fun _=>(#[]:Array Value))) hN rfl
  have oth:∀b o,b≠s.heap.objs.size→s.heap.get? b=some o→((s.heap.push {cls:=.type "list",data:=.seq #[]}).update s.heap.objs.size (Obj.mapSeq (fun _=>(#[]:Array Value)))).get? b=some o:=
    fun b o hb e=>(Heap.get?_update_other _ _ (Ne.symm hb)).trans (get?_push_of_some _ e)
  refine wpAny_bind (wpAny_letGo ?_)
  refine extend_rev (A:=A.in1) hh (hit0.at fun o e=>oth it o (ne_of_lt hi) e) (hl.at fun o e=>oth l o (ne_of_lt hLl) e) hne hn _ .none _ hN2 (Nat.ne_of_gt hi) (Nat.ne_of_gt hLl) fun h' tk acc' c' hk hN1 hacc=>?_
  exact ⟨rfl,hQ h' tk acc' c' (fun b o hb e=>hk b o (ne_of_lt (lt_size e)) hb (oth b o (ne_of_lt (lt_size e)) e)) hN1 hacc⟩
end
section
variable {X:Cx}{e:Expr}{te:TE}{p p' pos pos':Pos}
def tLRev (K:Frag)(te:TE):TE:=fun σ H Q=>tCons te tNil σ H fun vs H1=>∃a xs,vs=[.ref a]∧SqL K H1 a xs∧∀r,H1 r=none→Q (.ref r) (upd H1 r (.lst xs.reverse))
theorem pe_lrev (hc:X.calm=true)(hg:Gl X "list")(hm:X.mg "list"=none)(hg':Gl X "reversed")(hm':X.mg "reversed"=none)(he:PE X e te)(hs2:starEach [e] X.env=(false,eval e X.env)::starEach [] X.env) :
  PE X (.Call (.Name "list" p) [.Call (.Name "reversed" p') [e] [] pos'] [] pos) (tLRev X.K te):=by
 intro pins s σ H Q I h
 refine wpAny_Call_Name_kw (ld_blt I hg hm boot_list ?_ (by decide) (by decide))
 refine PyProof.Rows.callWith_type1 ?_ star_call rfl
 rw [star_call]
 show wpAny _ _ (spliced ((false,eval (.Call (.Name "reversed" p') [e] [] pos') X.env)::backTo pos (starEach [] X.env))) _ _ s
 refine Calls.spliced_cons ?_
 refine wpAny_Call_Name_kw (ld_blt I hg' hm' boot_reversed ?_ (by decide) (by decide))
 refine PyProof.Rows.callWith_type1 (thn (pa_cons he pa_nil hs2 pos' pins s σ H _ I h) fun us s1 hz9=>?_) hs2 rfl
 obtain ⟨vs,H1,I1,r1,q1⟩:=hz9
 obtain ⟨a,xs,rfl,hq,q⟩:=q1
 obtain ⟨u,rfl,rx⟩:=vals1 r1
 cases rx
 obtain ⟨its,rv,pl,hz⟩:=I1.list hq
 have hlen:=rv.length
 have hl:=pl.isList
 obtain ⟨oa,hoa,_⟩:=id hl
 have ha:a<s1.heap.objs.size:=lt_size hoa
 refine call_reversed_list hl (Calls.spliced_nil ?_)
 refine call_list_rev (it:=s1.heap.objs.size) (l:=a) (items:=its.toArray) (I1.ok.hd hc) ⟨_,get?_push_size _ rfl,rfl,rfl⟩ (hl.push _) (ne_of_lt ha) (by rw [size_toArray];omega) fun h' tk acc' c' hk hN1 hacc=>?_
 have hsz:(s1.heap.push (revObj a ((its.toArray.size:Int) - 1))).objs.size=s1.heap.objs.size+1:=Heap.size_push ..
 have hle:s1.heap.objs.size≤(s1.heap.push (revObj a ((its.toArray.size:Int) - 1))).objs.size:=by rw [hsz];exact le_succ _
 have hk1:∀b o,s1.heap.get? b=some o→h'.get? b=some o:=fun b o e=>hk b o (ne_of_lt (lt_size e)) (get?_push_of_some _ e)
 have hrev:acc'.toList=its.reverse:=by
  obtain ⟨h1,h2⟩:=hacc
  have h0:acc'.size=its.length:=h1.trans (size_toArray ..)
  refine List.ext_getElem? fun j=>?_
  by_cases hj:j<its.length
  ·have hj':j<acc'.size:=by omega
   have e1:=h2 j acc'[j] (Array.getElem?_eq_getElem hj')
   have e2:its.toArray[its.toArray.size - 1 - j]?=its[its.length - 1 - j]?:=by simp
   rw [getElem?_toList,Array.getElem?_eq_getElem hj',List.getElem?_reverse hj,← e2]
   exact e1.symm
  ·rw [List.getElem?_eq_none (by simp;omega),List.getElem?_eq_none (by simp;omega)]
 refine ⟨.ref _,_,I1.laid (o:=.lst xs.reverse) (t':=tk) hk1 hle ?_,rfl,q _ (I1.hok.fresh hle)⟩
 refine ⟨by rw [List.length_reverse];exact hz,acc'.toList,c',?_,?_⟩
 ·rw [hrev]
  exact rv.reverse
 ·rw [hN1]
theorem qe_lrev (hg:Gl X "list")(hm:X.mg "list"=none)(hg':Gl X "reversed")(hm':X.mg "reversed"=none)(he:QE X e te)(hs2:starEach [e] X.env=(false,eval e X.env)::starEach [] X.env)(hc:X.calm=true:=by rfl) :
  QE X (.Call (.Name "list" p) [.Call (.Name "reversed" p') [e] [] pos'] [] pos) (tLRev X.K te):=⟨pe_lrev hc hg hm hg' hm' he.out hs2⟩
variable {σ:St}{H:Hp}{Q:VK}{K:Frag}
end
section
variable {X:Cx}
theorem truths {prog:Program}{w:World}{A:Around}{bs:List Bool}{its:List Value}(rv:Vals (bs.map V.bl) its):TruthOf prog w A (fun i v=>its.toArray[i]?=some v) (fun i=>bs.getD i false):=by
  intro i v s Q E hv hQ
  have hl:=rv.length
  rw [length_map] at hl
  have hv':its[i]?=some v:=by simpa using hv
  have hi:i<its.length:=(List.getElem?_eq_some_iff.mp hv').1
  obtain ⟨u,e,ru⟩:=rv.get (i:=i) (x:=V.bl (bs.getD i false)) (by
    rw [getElem?_map,getElem?_eq_getElem (by omega)]
    simp [List.getD,show i<bs.length by omega])
  rw [hv'] at e
  cases e
  cases (show v=Value.bool (bs.getD i false) from ru)
  exact wpAny_truthy_bool hQ
variable {H:Hp}{Q:VK}{K:Frag}
end
noncomputable def Dk {α:Type}:Sem α→Prop
 | .pure _=>True
 | .raise _=>True
 | .unsupported _=>True
 | .finish _=>True
 | .rule _ k=>Dk (k ())
 | .at _ k=>Dk (k ())
 | .load _ _ k=>∀o,Dk (k o)
 | .update _ _ f k=>(∀o:Obj,o.isFreed=false→(f o).isFreed=false∧(f o).dict=o.dict)∧Dk (k ())
 | .alloc _ k=>∀a,Dk (k a)
 | .loadIfAlive _ k=>∀o,Dk (k o)
 | .point _ k=>Dk (k ())
 | .fresh k=>∀a,Dk (k a)
 | .ask k=>∀a,Dk (k a)
 | .choose _ _ k=>∀a,Dk (k a)
 | .os _ _ k=>∀a,Dk (k a)
 | .handled _ k=>∀a,Dk (k a)
 | .stack k=>∀a,Dk (k a)
 | .thread k=>∀a,Dk (k a)
 | .register _ _=>False
 | .call ..=>False
 | .newGen ..=>False
 | .genState ..=>False
 | .resume ..=>False
 | .yield ..=>False
 | .fork ..=>False
 | .await ..=>False
section
variable {X:Cx}{pins:List (Addr×Obj)}{σ:St}{H H':Hp}{s:Shared}{h':Heap}
end
section
variable {X:Cx}{pins:List (Addr×Obj)}{σ:St}{H:Hp}{s:Shared}
structure Kept (X:Cx)(own:List Addr)(h h':Heap):Prop where
 st:(hideAll h (own++frs X.stack)).StaysIn h'
 fr:h'.FunFrames (hideAll h (own++frs X.stack)) X.stack
 up:h.UpToSlots h'
end
noncomputable abbrev bmV:List Value:=[.type "ValueError",.type "Exception",.type "BaseException",.type "object"]
section
variable {X:Cx}{pins:List (Addr×Obj)}{σ:St}{H:Hp}{s:Shared}
noncomputable def exO (e:Addr)(cls:Value)(dx:Option Addr):HO:=.ext fun h=>∃o vs,h.get? e=some o∧o.cls=cls∧o.data=.fields vs∧o.dict=dx
noncomputable abbrev Cx.hand (X:Cx)(e:Addr):Cx:={X with A:=X.A.mark (some (.ref e)),calm:=false,xe:=fun _ _=>False}
end
end L2
namespace L2
open PySem PySem.Spec
section
variable {prog:Program}{w:World}{A:Around}{E:Value→Shared→Prop}{h:Heap}{g:Array GenState}{d:Drawn}{t:Nat}{os:OsState}{a C:Addr}{o:Obj}{vs:Array Value}
open PySem.W (Looks)
end
end L2
namespace L2
open PySem PySem.Spec PyProof.Rows
noncomputable abbrev TJ:=St→Hp→(Hp→Prop)→Prop
def PJ (X:Cx)(es:List Expr)(t:TJ):Prop:=
 ∀(out:Str) (pins:List (Addr×Obj)) (s:Shared) (σ:St) (H:Hp) (Q:VK),Inv X pins σ H s→out.length+2000*es.length≤sizeLine→t σ H (fun H1=>∀z,Q (.str z) H1)→
  wpAny (model X.prog X.w) X.A (joinParts out (evalEach es X.env)) (EP X pins σ Q) X.xe s
structure QJ (X:Cx)(es:List Expr)(t:TJ):Prop where
 out:PJ X es t
section
variable {X:Cx}{a b e:Expr}{es:List Expr}{te:TE}{t:TJ}{pos:Pos}
end
end L2
namespace L2
open PySem PySem.Spec PyProof.Rows
open PySem.W (Looks)
structure ErrIn (K:Frag)(C:Addr):Prop where
 exc:PySem.W.excIn K C bmV "ValueError.__new__"=true
 ty:typeIn K (.ref C)=some (.type "type")
 cl:∃c,clsIn K C=some c
 ga:findIn K (.ref C) "__getattribute__"=some (some (.builtin "BaseException.__getattribute__"))
 ge:findIn K (.ref C) "__getattr__"=some none
 lk:findIn K (.ref C) "__class__"=some (some (.builtin "object.__class__"))
 so:subIn K (.ref C) (.type "object")=some true
 sb:subIn K (.ref C) (.type "BaseException")=some true
 se:subIn K (.ref C) (.ref C)=some true
section
variable {K:Frag}{C D e:Addr}{b:Bool}
structure ErrK (K:Frag)(C:Addr):Prop where
 ob:∃dd cd sl,K.lookup C=some ⟨.type "type",dd,.cls cd,sl⟩
 ty:typeIn K (.ref C)=some (.type "type")
 cl:∃c,clsIn K C=some c
 ga:findIn K (.ref C) "__getattribute__"=some (some (.builtin "BaseException.__getattribute__"))
 ge:findIn K (.ref C) "__getattr__"=some none
 lk:findIn K (.ref C) "__class__"=some (some (.builtin "object.__class__"))
 so:subIn K (.ref C) (.type "object")=some true
 sb:subIn K (.ref C) (.type "BaseException")=some true
 se:subIn K (.ref C) (.ref C)=some true
variable {X:Cx}
end
section
variable {σ:St}{H:Hp}{Q:VK}{D:Ends}{K:Frag}
variable {X:Cx}{a b c d:Expr}{ta tb tc td:TE}{pos:Pos}
end
section
variable {X:Cx}{e:Expr}{es:List Expr}{t:TA}{np cpos pos hpos:Pos}
end
end L2
namespace L2
open PySem PySem.Spec PyProof.Rows
structure Pl (n:Nat)(x:Str):Prop where
 len:x.length≤n
 asc:∀c∈x.cps.toList,c<128
section
variable {X:Cx}{e:Expr}{te:TE}{pos:Pos}
end
section
variable {κ:Type}[DecidableEq κ]
noncomputable def valV (kvs:List (κ×V))(k:κ):Option V:=(kvs.find? fun kv=>decide (kv.1=k)).map (·.2)
noncomputable def putK (kvs:List (κ×V))(k:κ)(v:V):List (κ×V):=
 if (kvs.any fun kv=>decide (kv.1=k))=true then kvs.map (fun kv=>if kv.1=k then (kv.1,v) else kv) else kvs++[(k,v)]
theorem valV_pos {p:κ×V}{r:List (κ×V)}{k:κ}(e:p.1=k):valV (p::r) k=some p.2:=by simp [valV,find?_cons,e]
theorem valV_neg {p:κ×V}{r:List (κ×V)}{k:κ}(e:¬p.1=k):valV (p::r) k=valV r k:=by simp [valV,find?_cons,e]
theorem valV_any (k:κ):∀kvs:List (κ×V),(kvs.any fun kv=>decide (kv.1=k))=(valV kvs k).isSome
 | []=>rfl
 | p::r=>by
  rw [any_cons]
  by_cases e:p.1=k
  ·simp only [valV_pos e,decide_eq_true e,Bool.true_or,Option.isSome_some]
  ·rw [valV_neg e,decide_eq_false e,Bool.false_or];exact valV_any k r
theorem length_putK (kvs:List (κ×V))(k:κ)(v:V):(putK kvs k v).length≤kvs.length+1:=by
 unfold putK
 split
 ·rw [length_map];omega
 ·rw [length_append,length_cons,List.length_nil];omega
theorem RelO.isSome_eq {o:Option V}{u:Option Value}(r:RelO o u):o.isSome=u.isSome:=by
 cases o with
 | none=>cases u with
  | none=>rfl
  | some _=>exact (show False from r).elim
 | some _=>cases u with
  | none=>exact (show False from r).elim
  | some _=>rfl
theorem KV.val {kvs:List (κ×V)}{vs:List (κ×Value)}(r:KV kvs vs)(k:κ):RelO (valV kvs k) (valueAt vs k):=by
 unfold KV at r
 induction r with
 | nil=>exact True.intro
 | @cons p q ps qs h t ih =>
  obtain ⟨h1,h2⟩:=h
  by_cases e:p.1=k
  ·have e':q.1=k:=h1.symm.trans e
   have b:valueAt (q::qs) k=some q.2:=by simp [valueAt,find?_cons,e']
   rw [valV_pos e,b];exact h2
  ·have e':¬q.1=k:=fun z=>e (h1.trans z)
   have b:valueAt (q::qs) k=valueAt qs k:=by simp [valueAt,find?_cons,e']
   rw [valV_neg e,b];exact ih
theorem KV.any {kvs:List (κ×V)}{vs:List (κ×Value)}(r:KV kvs vs)(k:κ):(kvs.any fun kv=>decide (kv.1=k))=vs.any fun kv=>decide (kv.1=k):=by
 unfold KV at r
 induction r with
 | nil=>rfl
 | cons h t ih=>rw [any_cons,any_cons,ih,h.1]
theorem KV.repl {kvs:List (κ×V)}{vs:List (κ×Value)}(r:KV kvs vs)(k:κ){y:V}{u:Value}(ry:RelV y u) :
  KV (kvs.map fun kv=>if kv.1=k then (kv.1,y) else kv) (vs.map fun kv=>if kv.1=k then (kv.1,u) else kv):=by
 unfold KV at r ⊢
 induction r with
 | nil=>exact .nil
 | @cons p q ps qs h t ih =>
  rw [map_cons,map_cons]
  refine .cons ?_ ih
  obtain ⟨h1,h2⟩:=h
  by_cases e:p.1=k
  ·rw [if_pos e,if_pos (h1.symm.trans e)];exact ⟨h1,ry⟩
  ·rw [if_neg e,if_neg (fun z=>e (h1.trans z))];exact ⟨h1,h2⟩
theorem KV.put {kvs:List (κ×V)}{vs:List (κ×Value)}(r:KV kvs vs)(k:κ){y:V}{u:Value}(ry:RelV y u):KV (putK kvs k y) (stored vs k u):=by
 unfold putK stored
 rw [r.any k]
 by_cases e:(vs.any fun kv=>decide (kv.1=k))=true
 ·rw [if_pos e,if_pos e];exact r.repl k ry
 ·rw [if_neg e,if_neg e];exact Paired.snoc r ⟨rfl,ry⟩
theorem KV.length {kvs:List (κ×V)}{vs:List (κ×Value)}(r:KV kvs vs):kvs.length=vs.length:=Paired.length r
end
theorem kV_is {P:Program}{w:World}{k:Key}{u:Value}(r:RelV (kV k) u):(mixKind P w).is k u=true:=by
 cases k with
 | inl i=>obtain ⟨t,e⟩:=(show ∃t,u=Value.int i t from r);subst e;exact mixKind_int P w i t
 | inr x=>obtain ⟨t,e⟩:=(show ∃t,u=Value.str x t from r);subst e;exact mixKind_str P w x t
theorem items_are {P:Program}{w:World}:∀{ks:List Key} {us:List Value},Vals (ks.map kV) us→ItemsAre (mixKind P w) ks us
 | [],_,r=>by rw [map_nil] at r;cases r;exact .nil
 | k::ks,_,r=>by
  rw [map_cons] at r
  cases r with
  | cons h t=>exact .cons (kV_is h) (items_are t)
noncomputable abbrev KT (H:Hp):List (List Key×V)→List (List Key×Addr×Value)→Prop:=Paired fun p q=>p.1=q.1∧H q.2.1=some (.tup (p.1.map kV))∧RelV p.2 q.2.2
theorem KT.val {H:Hp}{kvs:List (List Key×V)}{xs:List (List Key×Addr×Value)}(r:KT H kvs xs)(k:List Key):RelO (valV kvs k) ((atKey xs k).map (·.2)):=by
 induction r with
 | nil=>exact True.intro
 | @cons p q ps qs h t ih =>
  obtain ⟨h1,_,h2⟩:=h
  by_cases e:p.1=k
  ·have e':q.1=k:=h1.symm.trans e
   have b:atKey (q::qs) k=some q.2:=by simp [atKey,find?_cons,e']
   rw [valV_pos e,b];exact h2
  ·have e':¬q.1=k:=fun z=>e (h1.trans z)
   have b:atKey (q::qs) k=atKey qs k:=by simp [atKey,find?_cons,e']
   rw [valV_neg e,b];exact ih
theorem KT.repl {H:Hp}{kvs:List (List Key×V)}{xs:List (List Key×Addr×Value)}(r:KT H kvs xs)(k:List Key){y:V}{u:Value}(ry:RelV y u) :
  KT H (kvs.map fun kv=>if kv.1=k then (kv.1,y) else kv) (xs.map (putAt k u)):=by
 induction r with
 | nil=>exact .nil
 | @cons p q ps qs h t ih =>
  rw [map_cons,map_cons]
  refine .cons ?_ ih
  obtain ⟨h1,h2,h3⟩:=h
  unfold putAt
  by_cases e:p.1=k
  ·rw [if_pos e,if_pos (h1.symm.trans e)];exact ⟨h1,h2,ry⟩
  ·rw [if_neg e,if_neg (fun z=>e (h1.trans z))];exact ⟨h1,h2,h3⟩
theorem KT.put {H:Hp}{kvs:List (List Key×V)}{xs:List (List Key×Addr×Value)}(r:KT H kvs xs)(k:List Key){b:Addr}{y:V}{u:Value}(hb:H b=some (.tup (k.map kV)))(ry:RelV y u) :
  KT H (putK kvs k y) (storedH xs k b u):=by
 have e:(kvs.any fun kv=>decide (kv.1=k))=(atKey xs k).isSome:=by
  rw [valV_any,(r.val k).isSome_eq,Option.isSome_map]
 unfold putK storedH
 rw [e]
 by_cases q:(atKey xs k).isSome=true
 ·rw [if_pos q,if_pos q];exact r.repl k ry
 ·rw [if_neg q,if_neg q];exact Paired.snoc r ⟨rfl,hb,ry⟩
theorem KT.keeps {H H':Hp}{kvs:List (List Key×V)}{xs:List (List Key×Addr×Value)}(r:KT H kvs xs)(ht:∀b ys,H b=some (.tup ys)→H' b=some (.tup ys)):KT H' kvs xs:=
 Paired.mapP r fun _ _ z=>⟨z.1,ht _ _ z.2.1,z.2.2⟩
section
variable {P:Program}{w:World}{H:Hp}{h:Heap}{a:Addr}
theorem rd_of {u:HO}(ok:HOk P w H h)(e:Rd H a u):ObjOk P w H h a u:=e.ok ok
theorem dk_rd {kvs:List (Key×V)}(ok:HOk P w H h)(e:Rd H a (.dK kvs)):kvs.length≤sizeLine∧(a==sysModules)=false∧∃vs,KV kvs vs∧h.DictOf (mixKind P w) a vs:=
 show ObjOk P w H h a (.dK kvs) from rd_of ok e
theorem dk_of {kvs:List (Key×V)}(ok:HOk P w H h)(e:H a=some (.dK kvs)):kvs.length≤sizeLine∧(a==sysModules)=false∧∃vs,KV kvs vs∧h.DictOf (mixKind P w) a vs:=dk_rd ok (.inl e)
theorem key_of {ks:List Key}(ok:HOk P w H h)(e:H a=some (.tup (ks.map kV))):(tupleKind (mixKind P w)).is h ks a:=by
 obtain ⟨_,its,r,o,h1,h2,n,h3⟩:=(show ObjOk P w H h a (.tup (ks.map kV)) from ok a _ e)
 exact ⟨o,its.toArray,n,h1,h2,h3,by simpa using items_are r⟩
theorem dt_rd {kvs:List (List Key×V)}(ok:HOk P w H h)(e:Rd H a (.dT kvs)):kvs.length≤sizeLine∧(a==sysModules)=false∧
  ∃xs,KT H kvs xs∧h.DictOfH (tupleKind (mixKind P w)) a xs:=by
 obtain ⟨z,y,xs,r,o,es,ep,h1,h2,h3,h4,h5⟩:=(show ObjOk P w H h a (.dT kvs) from rd_of ok e)
 refine ⟨z,y,xs,r,o,es,ep,h1,h2,h3,h4,fun x hx=>?_,h5⟩
 have all:∀{l:List (List Key×V)} {m:List (List Key×Addr×Value)},KT H l m→∀x∈m,(tupleKind (mixKind P w)).is h x.1 x.2.1:=by
  intro l m q
  induction q with
  | nil=>intro x hx;exact nomatch hx
  | @cons p q ps qs hq t ih =>
   intro x hx
   rcases List.mem_cons.mp hx with e | hx
   ·subst e
    exact key_of ok (by rw [← hq.1];exact hq.2.1)
   ·exact ih x hx
 exact all r x hx
theorem dt_of {kvs:List (List Key×V)}(ok:HOk P w H h)(e:H a=some (.dT kvs)):kvs.length≤sizeLine∧(a==sysModules)=false∧
  ∃xs,KT H kvs xs∧h.DictOfH (tupleKind (mixKind P w)) a xs:=dt_rd ok (.inl e)
end
def DGet (H:Hp)(a:Addr)(y:V)(r:Option V):Prop:=
 (∃kvs k,Rd H a (.dK kvs)∧y=kV k∧r=valV kvs k)∨∃kvs k b,Rd H a (.dT kvs)∧y=.ref b∧H b=some (.tup (k.map kV))∧r=valV kvs k
def DPut (H:Hp)(a:Addr)(y v:V)(H':Hp):Prop:=
 (∃kvs k,H a=some (.dK kvs)∧y=kV k∧kvs.length<sizeLine∧H'=upd H a (.dK (putK kvs k v)))∨
 ∃kvs k b,H a=some (.dT kvs)∧y=.ref b∧H b=some (.tup (k.map kV))∧kvs.length<sizeLine∧H'=upd H a (.dT (putK kvs k v))
theorem DGet.t {H:Hp}{a b:Addr}{kvs:List (List Key×V)}{k:List Key}(e:H a=some (.dT kvs))(eb:H b=some (.tup (k.map kV))):DGet H a (.ref b) (valV kvs k):=.inr ⟨kvs,k,b,.inl e,rfl,eb,rfl⟩
theorem DPut.t {H:Hp}{a b:Addr}{kvs:List (List Key×V)}{k:List Key}{v:V}(e:H a=some (.dT kvs))(eb:H b=some (.tup (k.map kV)))(hl:kvs.length<sizeLine) :
  DPut H a (.ref b) v (upd H a (.dT (putK kvs k v))):=.inr ⟨kvs,k,b,e,rfl,eb,hl,rfl⟩
section
variable {X:Cx}{pins:List (Addr×Obj)}{σ:St}{H:Hp}{s:Shared}{a:Addr}{y v:V}{u r:Value}{o:Option V}{A:Around}{E:Value→Shared→Prop}
theorem Inv.big (I:Inv X pins σ H s):sysModules<s.heap.objs.size:=by
 have h:mainGlobals<s.heap.objs.size:=(I.mod.glob.keeps I.bk).lt
 exact Nat.lt_trans (by decide) h
theorem d_getItem {Q:Value→Shared→Prop}(hu:A.units+1<cLine)(I:Inv X pins σ H s)(g:DGet H a y (some v))(ry:RelV y u)(h:∀w' s',Inv X pins σ H s'→RelV v w'→Q w' s') :
  wpAny (model X.prog X.w) A (getItem (.ref a) u) Q E s:=by
 rcases g with ⟨kvs,k,e,ey,l⟩ | ⟨kvs,k,b,e,ey,eb,l⟩
 ·subst ey
  obtain ⟨z,hd,vs,rel,dd⟩:=dk_rd I.hok e
  obtain ⟨w',hw,rw'⟩:=RelO.some_of (v:=v) (o:=valueAt vs k) (by rw [l];exact rel.val k)
  exact wpAny_getItem_of (kV_is ry) dd.mapOf hw (h w' _ (I.tok _) rw')
 ·subst ey
  cases (show u=Value.ref b from ry)
  obtain ⟨z,hd,xs,rel,dd⟩:=dt_rd I.hok e
  obtain ⟨w',hw,rw'⟩:=RelO.some_of (v:=v) (o:=(atKey xs k).map (·.2)) (by rw [l];exact rel.val k)
  obtain ⟨p,hp,hp2⟩:=Option.map_eq_some_iff.mp hw
  refine wpAny_getItem_heap (tupleKind_room_in1 hu) (key_of I.hok eb) dd hp ?_
  rw [hp2]
  exact h w' _ (I.tok _) rw'
theorem d_notIn {Q:Value→Shared→Prop}(hu:A.units+1<cLine)(I:Inv X pins σ H s)(g:DGet H a y o)(ry:RelV y u)(h:∀s',Inv X pins σ H s'→Q (.bool (!o.isSome)) s') :
  wpAny (model X.prog X.w) A (compareOp .NotIn u (.ref a)) Q E s:=by
 rcases g with ⟨kvs,k,e,ey,l⟩ | ⟨kvs,k,b,e,ey,eb,l⟩
 ·subst ey
  obtain ⟨z,hd,vs,rel,dd⟩:=dk_rd I.hok e
  refine wpAny_notIn_of (kV_is ry) hd dd.mapOf ?_
  rw [← (rel.val k).isSome_eq,← l]
  exact h _ (I.tok _)
 ·subst ey
  cases (show u=Value.ref b from ry)
  obtain ⟨z,hd,xs,rel,dd⟩:=dt_rd I.hok e
  refine wpAny_notIn_heap (tupleKind_room_in1 hu) (key_of I.hok eb) hd dd ?_
  have q:=(rel.val k).isSome_eq
  rw [Option.isSome_map] at q
  rw [← q,← l]
  exact h _ (I.tok _)
theorem d_write {h':Heap}{t':Nat}{ob:HO}(I:Inv X pins σ H s)(mu:Mut (H a))(hs:Heap.SameBut a s.heap h')(he:∃q,h'.get? a=some q)(new:ObjOk X.prog X.w (upd H a ob) h' a ob) :
  Inv X pins σ (upd H a ob) {s with heap:=h',toks:=t'}:=
 I.write (x:=a) (e:=a) mu (.inl rfl) (fun b q hb z=>(hs.2 b hb).trans z) he new
theorem dk_new {P:Program}{w:World}{H':Hp}{h':Heap}{kvs:List (Key×V)}{vs:List (Key×Value)}(z:kvs.length≤sizeLine)(hd:(a==sysModules)=false)(rel:KV kvs vs)(dd:h'.DictOf (mixKind P w) a vs) :
  ObjOk P w H' h' a (.dK kvs):=⟨z,hd,vs,rel,dd⟩
theorem d_setItem {H':Hp}{Q:Unit→Shared→Prop}(hu:A.units+1<cLine)(I:Inv X pins σ H s)(g:DPut H a y v H')(ry:RelV y u)(rv:RelV v r)(h:∀s',Inv X pins σ H' s'→Q () s') :
  wpAny (model X.prog X.w) A (setItem (.ref a) u r) Q E s:=by
 rcases g with ⟨kvs,k,e,ey,l,eH⟩ | ⟨kvs,k,b,e,ey,eb,l,eH⟩
 ·subst ey eH
  obtain ⟨z,hd,vs,rel,dd⟩:=dk_of I.hok e
  have hz:vs.length≤sizeLine:=by rw [← rel.length];exact z
  have hl:(putK kvs k v).length≤sizeLine:=by have:=length_putK kvs k v;omega
  refine wpAny_setItem_pairs (hsz:=hz) (kV_is ry) dd fun h' dd' hs=>h _ ?_
  have he:∃q,h'.get? a=some q:=let ⟨q,_,_,hq,_⟩:=dd';⟨q,hq⟩
  exact d_write I (by rw [e];exact True.intro) hs he (dk_new hl hd (rel.put k rv) dd')
 ·subst ey eH
  cases (show u=Value.ref b from ry)
  obtain ⟨z,hd,xs,rel,dd⟩:=dt_of I.hok e
  have hz:xs.length≤sizeLine:=by rw [← Paired.length rel];exact z
  have hl:(putK kvs k v).length≤sizeLine:=by have:=length_putK kvs k v;omega
  refine wpAny_setItem_heap (hsz:=hz) (tupleKind_room_in1 hu) (key_of I.hok eb) dd fun h' dd' hs=>h _ ?_
  obtain ⟨q,es,ep,hq,h2,h3,h4,_,h5⟩:=dd'
  refine d_write I (by rw [e];exact True.intro) hs ⟨q,hq⟩ ⟨hl,hd,_,(rel.put k eb rv).keeps fun c ys ec=>?_,q,es,ep,hq,h2,h3,h4,h5⟩
  rw [upd_ne (ne_of ec e (fun z=>nomatch z))]
  exact ec
end
section
variable {X:Cx}{pins:List (Addr×Obj)}{σ:St}{H:Hp}{s:Shared}{a:Addr}{kvs:List (Key×V)}{k:Key}{u:Value}{A:Around}{E:Value→Shared→Prop}
end
def NoSl (i:Expr):Prop:=∀ov iv,subscripted i false ov iv=operate [ov,iv] (getItem ov iv)
theorem subD_of {prog:Program}{w:World}{A:Around}{E:Value→Shared→Prop}{s:Shared}{env:Env}{value slice:Expr}{pos:Pos}{T id:String}{Q:Value→Shared→Prop}
  (hl:typeLookup (.type T) "__getitem__"=pure (some (.builtin id))) (hs:NoSl slice)
  (h:wpAny (model prog w) A (eval value env) (fun o s₁=>wpAny (model prog w) A (eval slice env) (fun i s₂=>s₂.TypeIs o T∧wpAny (model prog w) A (getItem o i) Q E s₂) E s₁) E s) :
  wpAny (model prog w) A (eval (.Subscript value slice pos) env) Q E s:=by
 refine Subscript_ (wpAny_mono h (fun o s₁ h₁=>wpAny_mono h₁ (fun i s₂ h₂=>?_) fun _ _ x=>x) fun _ _ x=>x)
 obtain ⟨hT,h₂⟩:=h₂
 unfold subscriptTail
 refine wpAny_bind ?_
 rw [getitemInPython_of_ne hT.not_modules]
 refine wpAny_bind (wpAny_specialOf hT hl ?_)
 have fin:wpAny (model prog w) A (subscripted slice false o i) (fun r s₃=>wpAny (model prog w) A (letTemporaryGo value o r >>= fun _=>pure r) Q E s₃) E s₂:=by
  rw [hs o i]
  exact wpAny_operating (wpAny_mono h₂ (fun r s₃ h₃=>wpAny_bind (wpAny_letTemporaryGo (wpAny_pure h₃))) fun _ _ x=>x)
 first
  | exact wpAny_pure (wpAny_bind fin)
  | exact wpAny_bind (wpAny_pure (wpAny_bind fin))
  | exact wpAny_bind fin
theorem dict_typeIs {X:Cx}{pins:List (Addr×Obj)}{σ:St}{H:Hp}{s:Shared}{a:Addr}{y:V}{o:Option V}(I:Inv X pins σ H s)(g:DGet H a y o):s.TypeIs (.ref a) "dict":=by
 rcases g with ⟨kvs,k,e,_,_⟩ | ⟨kvs,k,b,e,_,_,_⟩
 ·obtain ⟨_,_,vs,_,dd⟩:=dk_rd I.hok e
  exact dd.typeIs
 ·obtain ⟨_,_,xs,_,dd⟩:=dt_rd I.hok e
  exact dd.typeIs
def tDGet (td ty:TE):TE:=fun σ H Q=>td σ H fun x H1=>ty σ H1 fun y H2=>∃a v,x=.ref a∧DGet H2 a y (some v)∧Q v H2
def sDPut (td ty tv:TE):TS:=fun D σ H=>tv σ H fun v H1=>td σ H1 fun x H2=>ty σ H2 fun y H3=>∃a H4,x=.ref a∧DPut H3 a y v H4∧D.nx σ H4
section
variable {X:Cx}{o i e value:Expr}{pos pos' tpos:Pos}{td ty tv:TE}
theorem pe_dget (hu:X.A.units+1<cLine)(ho:PE X o td)(hi:PE X i ty)(hs:NoSl i):PE X (.Subscript o i pos) (tDGet td ty):=by
 intro pins s σ H Q I h
 refine subD_of PySem.F.slot_dict_getitem.lookup hs (thn (ho pins s σ H _ I h) fun u s1 ⟨x,H1,I1,rx,q1⟩=>thn (hi pins s1 σ H1 _ I1 q1) fun iv s2 ⟨y,H2,I2,ry,a,v,ex,g,q2⟩=>?_)
 subst ex
 obtain rfl:u=Value.ref a:=rx
 exact ⟨dict_typeIs I2 g,d_getItem hu I2 g ry fun w' s3 I3 rw'=>⟨v,H2,I3,rw',q2⟩⟩
end
theorem dt_empty {P:Program}{w:World}{H:Hp}(h:Heap)(hb:sysModules<h.objs.size):ObjOk P w H (h.push {cls:=.type "dict",data:=.dict #[]}) h.objs.size (.dT []):=
 ⟨zero_le _,beq_eq_false_iff_ne.mpr (Ne.symm (ne_of_lt hb)),[],.nil,_,#[],0,get?_push_size _ rfl,⟨rfl,rfl,rfl⟩,rfl,rfl,nodup_nil⟩
def tDNewT:TE:=fun _ H Q=>∀p,H p=none→Q (.ref p) (upd H p (.dT []))
section
variable {X:Cx}{pos:Pos}
theorem pe_dnewT:PE X (.Dict [] [] pos) tDNewT:=fun pins s σ H Q I h =>
 wpAny_Dict_empty ⟨.ref s.heap.objs.size,_,I.laid (a:=s.heap.objs.size) (o:=.dT []) (t':=s.toks) (fun _ _ q=>get?_push_of_some _ q) (le_refl _) (dt_empty s.heap I.big),rfl,h _ (I.hok.fresh (le_refl _))⟩
end
noncomputable def tPairs:List (TE×TE)→St→Hp→(List (V×V)→Hp→Prop)→Prop
 | [],_,H,Q=>Q [] H
 | (tk,tv)::r,σ,H,Q=>tk σ H fun x H1=>tv σ H1 fun y H2=>tPairs r σ H2 fun ps H3=>Q ((x,y)::ps) H3
structure M1 (X:Cx)(o:Expr)(m:Str)(apos:Pos)(e:Expr)(cpos:Pos):Prop where
  base:attributeBase o m X.env (eval o X.env)=eval o X.env
  few:((backTo cpos (starEach [e] X.env)).all (fun x=>!x.1)&&(backToKw cpos (keywordEach [] X.env)).all (fun x=>x.1.isSome)
    && decide (([e]:List Expr).length+([]:List Keyword).length+(if ([]:List Keyword).isEmpty then 0 else 1)<30))=true
  line:(apos.endLine==cpos.line)=true
  trees:backTo cpos (starEach [e] X.env)=[(false,eval e X.env)]
structure M2 (X:Cx)(o:Expr)(m:Str)(apos:Pos)(e f:Expr)(cpos:Pos):Prop where
  base:attributeBase o m X.env (eval o X.env)=eval o X.env
  few:((backTo cpos (starEach [e,f] X.env)).all (fun x=>!x.1)&&(backToKw cpos (keywordEach [] X.env)).all (fun x=>x.1.isSome)
    && decide (([e,f]:List Expr).length+([]:List Keyword).length+(if ([]:List Keyword).isEmpty then 0 else 1)<30))=true
  line:(apos.endLine==cpos.line)=true
  trees:backTo cpos (starEach [e,f] X.env)=[(false,eval e X.env),(false,eval f X.env)]
section
variable {X:Cx}{pins:List (Addr×Obj)}{σ:St}{H:Hp}{s:Shared}{a:Addr}{y d:V}{u r:Value}{o:Option V}{A:Around}{E:Value→Shared→Prop}
end
section
variable {X:Cx}{o e f:Expr}{apos cpos:Pos}{td ty tx:TE}
variable {pins:List (Addr×Obj)}{σ:St}{H:Hp}{s:Shared}{a:Addr}{kvs:List (Key×V)}{A:Around}{E:Value→Shared→Prop}
end
section
variable {X:Cx}{pins:List (Addr×Obj)}{σ:St}{H:Hp}{s:Shared}{a:Addr}{y:V}{u:Value}{A:Around}{E:Value→Shared→Prop}
end
end L2
namespace Dl
open PySem
set_option genInjectivity true in
inductive D where
 | non
 | bl (b:Bool)
 | int (i:Int)
 | str (x:Str)
 | lst (xs:List D)
 | tup (xs:List D)
 | scr (ns:List Int)
 | rng (lo hi:Int)
 | exc (c:String) (f:Option Int)
 | obj (c:String) (ns:List Str) (xs:List D)
 | dct (ks:List (Int ⊕ Str)) (xs:List D)
 | dtt (ks:List (List (Int ⊕ Str))) (xs:List D)
 deriving Inhabited
set_option genInjectivity true in
inductive R (α:Type) where
 | ok (a:α)
 | err (c:String) (f:Option Int)
 | bad
noncomputable abbrev Env:=List (Option D)
set_option genInjectivity true in
inductive Fl where
 | nx (ρ:Env)
 | ret (d:D)
 | brk (ρ:Env)
 | cnt (ρ:Env)
noncomputable def R.bind {α β:Type}:R α→(α→R β)→R β
 | .ok a,f=>f a
 | .err c x,_=>.err c x
 | .bad,_=>.bad
@[simp] theorem bind_ok {α β:Type}(a:α)(f:α→R β):(R.ok a).bind f=f a:=(rfl)
@[simp] theorem bind_err {α β:Type}(c:String)(x:Option Int)(f:α→R β):(R.err c x:R α).bind f=.err c x:=(rfl)
@[simp] theorem bind_bad {α β:Type}(f:α→R β):(R.bad:R α).bind f=.bad:=(rfl)
noncomputable abbrev FE:=Env→R D
noncomputable abbrev FT:=Env→R Bool
noncomputable abbrev FA:=Env→R (List D)
noncomputable abbrev FO:=Env→R (Option Int)
noncomputable abbrev FS:=Env→R Fl
noncomputable def fC (d:D):FE:=fun _=>.ok d
noncomputable def fV (i:Nat):FE:=fun ρ=>match ρ[i]? with
 | some (some d)=>.ok d
 | _=>.bad
noncomputable def oR {α:Type}:Option α→R α
 | some a=>.ok a
 | none=>.bad
@[simp] theorem oR_some {α:Type}(a:α):oR (some a)=.ok a:=(rfl)
@[simp] theorem oR_none {α:Type}:(oR (none:Option α))=.bad:=(rfl)
noncomputable def f1 (g:D→Option D)(a:FE):FE:=fun ρ=>(a ρ).bind fun x=>oR (g x)
noncomputable def f2 (g:D→D→Option D)(a b:FE):FE:=fun ρ=>(a ρ).bind fun x=>(b ρ).bind fun y=>oR (g x y)
noncomputable def aNil:FA:=fun _=>.ok []
noncomputable def aCons (a:FE)(r:FA):FA:=fun ρ=>(a ρ).bind fun x=>(r ρ).bind fun xs=>.ok (x::xs)
noncomputable def fA (g:List D→Option D)(a:FA):FE:=fun ρ=>(a ρ).bind fun xs=>oR (g xs)
noncomputable def fCall (F:List D→R D)(a:FA):FE:=fun ρ=>(a ρ).bind F
noncomputable abbrev lim:Nat:=1000000
noncomputable def gLst (xs:List D):Option D:=if xs.length≤lim then some (.lst xs) else none
noncomputable def gTup (xs:List D):Option D:=if xs.length≤lim then some (.tup xs) else none
mutual
noncomputable def flat:D→Bool
 | .lst _=>false
 | .tup xs=>flatA xs
 | .non=>true
 | .bl _=>true
 | .int _=>true
 | .str _=>true
 | .scr _=>true
 | .rng _ _=>true
 | .exc _ _=>true
 | .obj _ _ _=>false
 | .dct _ _=>false
 | .dtt _ _=>false
noncomputable def flatA:List D→Bool
 | []=>true
 | x::xs=>flat x&&flatA xs
end
noncomputable def gFlat (d:D):Option D:=if flat d then some d else none
noncomputable def gAdd:D→D→Option D
 | .int i,.int j=>some (.int (i+j))
 | .str x,.str y=>if x.length+y.length≤lim then some (.str (x++y)) else none
 | .lst xs,.lst ys=>if xs.length+ys.length≤lim∧flatA xs∧flatA ys then some (.lst (xs++ys)) else none
 | _,_=>none
noncomputable def gAddI:D→D→Option D
 | .int i,.int j=>some (.int (i+j))
 | _,_=>none
noncomputable def gSub:D→D→Option D
 | .int i,.int j=>some (.int (i - j))
 | _,_=>none
noncomputable def short (i:Int):Bool:=decide (-(2 ^ 64)<i)&&decide (i<2 ^ 64)
noncomputable def gMul:D→D→Option D
 | .int i,.int j=>if short i||short j then some (.int (i*j)) else none
 | .lst xs,.int k=>if k≤1000000∧xs.length*k.toNat≤lim∧-1000000≤k∧flatA xs then some (.lst (List.replicate k.toNat xs).flatten) else none
 | _,_=>none
noncomputable def gMod:D→D→Option D
 | .int i,.int j=>if 0<j then some (.int (i % j)) else none
 | _,_=>none
noncomputable def gDiv:D→D→Option D
 | .int i,.int j=>if 0<j∧j<2 ^ 200 then some (.int (i / j)) else none
 | _,_=>none
noncomputable def gPow:D→D→Option D
 | .int i,.int j=>if 0≤j∧j≤1000000∧i.natAbs<2 ^ 64 then some (.int (i ^ j.toNat)) else none
 | _,_=>none
noncomputable def gNeg:D→Option D
 | .int i=>some (.int (-i))
 | _=>none
noncomputable def gLt:D→D→Option D
 | .int i,.int j=>some (.bl (decide (i<j)))
 | _,_=>none
noncomputable def gLe:D→D→Option D
 | .int i,.int j=>some (.bl (decide (i≤j)))
 | _,_=>none
noncomputable def gGt:D→D→Option D
 | .int i,.int j=>some (.bl (decide (j<i)))
 | _,_=>none
noncomputable def gGe:D→D→Option D
 | .int i,.int j=>some (.bl (decide (j≤i)))
 | _,_=>none
mutual
noncomputable def dep:D→Nat
 | .lst xs=>depA xs+1
 | .tup xs=>depA xs+1
 | .scr _=>100
 | .rng _ _=>100
 | .exc _ _=>100
 | .obj _ _ _=>100
 | .dct _ _=>100
 | .dtt _ _=>100
 | .non=>0
 | .bl _=>0
 | .int _=>0
 | .str _=>0
noncomputable def depA:List D→Nat
 | []=>0
 | x::xs=>max (dep x) (depA xs)
end
mutual
noncomputable def eqv:D→D→Bool
 | .non,.non=>true
 | .bl a,.bl b=>a==b
 | .bl a,.int j=>(if a then 1 else 0)==j
 | .int i,.bl b=>i==(if b then 1 else 0)
 | .int i,.int j=>i==j
 | .str x,.str y=>x==y
 | .lst xs,.lst ys=>eqvA xs ys
 | .tup xs,.tup ys=>eqvA xs ys
 | _,_=>false
noncomputable def eqvA:List D→List D→Bool
 | [],[]=>true
 | x::xs,y::ys=>eqv x y&&eqvA xs ys
 | _,_=>false
end
noncomputable def gEq (a b:D):Option D:=if dep a≤20∧dep b≤20 then some (.bl (eqv a b)) else none
noncomputable def gNe (a b:D):Option D:=if dep a≤20∧dep b≤20 then some (.bl (!eqv a b)) else none
noncomputable def isNon:D→Bool
 | .non=>true
 | _=>false
noncomputable def gIs (x:D):D→Option D
 | .non=>some (.bl (isNon x))
 | .bl c=>match x with
  | .bl b=>some (.bl (b==c))
  | _=>none
 | _=>none
noncomputable def gIsNot (x:D):D→Option D
 | .non=>some (.bl (!isNon x))
 | .bl c=>match x with
  | .bl b=>some (.bl (!(b==c)))
  | _=>none
 | _=>none
noncomputable def ixD (n:Nat)(i:Int):Option Nat:=if 0≤i then (if i<n then some i.toNat else none) else if -(n:Int)≤i then some (i+n).toNat else none
noncomputable def atD {α:Type}(xs:List α)(i:Int):Option α:=(ixD xs.length i).bind fun j=>xs[j]?
noncomputable def sixD (n d:Nat):Option Int→Nat
 | none=>d
 | some v=>if v<0 then (max (v+(n:Int)) 0).toNat else min v.toNat n
noncomputable def cut {α:Type}(xs:List α)(lo hi:Option Int):List α:=(xs.drop (sixD xs.length 0 lo)).take (sixD xs.length xs.length hi - sixD xs.length 0 lo)
noncomputable def gIx:D→D→Option D
 | .lst xs,.int i=>(atD xs i)
 | .tup xs,.int i=>(atD xs i)
 | .scr ns,.int i=>((atD ns i).map D.int)
 | .str z,.int i=>if z.length≤lim then ((atD z.cps.toList i).map fun c=>D.str ⟨#[c]⟩) else none
 | _,_=>none
noncomputable def gIxL (x y:D):Option D:=match x with
 | .lst _=>gIx x y
 | _=>none
noncomputable def oNone:FO:=fun _=>.ok none
noncomputable def oSome (a:FE):FO:=fun ρ=>(a ρ).bind fun d=>match d with
 | .int i=>.ok (some i)
 | _=>.bad
noncomputable def fSl (g:D→Option Int→Option Int→Option D)(a:FE)(l h:FO):FE:=fun ρ=>(a ρ).bind fun x=>(l ρ).bind fun lo=>(h ρ).bind fun hi=>oR (g x lo hi)
noncomputable def gSl:D→Option Int→Option Int→Option D
 | .lst xs,lo,hi=>if flatA xs then some (.lst (cut xs lo hi)) else none
 | .scr ns,lo,hi=>some (.lst ((cut ns lo hi).map D.int))
 | _,_,_=>none
noncomputable def plain (n:Nat)(z:Str):Bool:=decide (z.length≤n)&&z.cps.toList.all (fun c=>decide (c<128))
noncomputable def gLRev:D→Option D
 | .lst xs=>if flatA xs then some (.lst xs.reverse) else none
 | _=>none
noncomputable def intsOf:List D→Option (List Int)
 | []=>some []
 | .int i::r=>(intsOf r).map (i::·)
 | _::_=>none
noncomputable def bools:List D→Option (List Bool)
 | []=>some []
 | .bl i::r=>(bools r).map (i::·)
 | _::_=>none
noncomputable def gLen:List D→Option D
 | [.lst xs]=>some (.int xs.length)
 | [.tup xs]=>some (.int xs.length)
 | [.scr xs]=>some (.int xs.length)
 | [.str z]=>if z.length≤lim then some (.int z.length) else none
 | _=>none
noncomputable def gSum:List D→Option D
 | [.lst xs]=>(intsOf xs).bind fun ns=>some (.int ns.sum)
 | _=>none
noncomputable def maxL:List Int→Int
 | []=>0
 | x::r=>r.foldl max x
noncomputable def gMin:List D→Option D
 | [.int i,.int j]=>some (.int (if j<i then j else i))
 | _=>none
noncomputable def rngL (lo:Int)(n:Nat):List D:=(List.range n).map fun (k:Nat)=>D.int (lo+(k:Int))
noncomputable def gList:List D→Option D
 | [.lst xs]=>if flatA xs then some (.lst xs) else none
 | [.tup xs]=>if flatA xs then some (.lst xs) else none
 | [.rng i j]=>if -1000000000≤i∧i≤1000000000∧-1000000000≤j∧j≤1000000000∧(j - i).toNat≤lim then some (.lst (rngL i (j - i).toNat)) else none
 | _=>none
noncomputable def gListV:List D→Option D
 | [.lst xs]=>some (.lst xs)
 | _=>none
noncomputable def tyName:D→String
 | .non=>"NoneType"
 | .bl _=>"bool"
 | .int _=>"int"
 | .str _=>"str"
 | .lst _=>"list"
 | .tup _=>"tuple"
 | .scr _=>"list"
 | .rng _ _=>"range"
 | .exc c _=>c
 | .obj c _ _=>c
 | .dct _ _=>"dict"
 | .dtt _ _=>"dict"
noncomputable def gIsI (c:String):D→Option D
 | .non=>some (.bl false)
 | .bl _=>some (.bl (c=="bool"||c=="int"))
 | .int _=>some (.bl (c=="int"))
 | .str _=>some (.bl (c=="str"))
 | .lst _=>some (.bl (c=="list"))
 | .tup _=>some (.bl (c=="tuple"))
 | _=>none
noncomputable def cE (a:FE):FT:=fun ρ=>(a ρ).bind fun d=>match d with
 | .bl b=>.ok b
 | _=>.bad
noncomputable def cNot (a:FT):FT:=fun ρ=>(a ρ).bind fun b=>.ok (!b)
noncomputable def cAnd (a b:FT):FT:=fun ρ=>(a ρ).bind fun x=>if x then b ρ else .ok false
noncomputable def cOr (a b:FT):FT:=fun ρ=>(a ρ).bind fun x=>if x then .ok true else b ρ
noncomputable def fAnd (a b:FE):FE:=fun ρ=>(a ρ).bind fun x=>match x with
 | .bl true=>b ρ
 | .bl false=>.ok (.bl false)
 | _=>.bad
noncomputable def fOr (a b:FE):FE:=fun ρ=>(a ρ).bind fun x=>match x with
 | .bl true=>.ok (.bl true)
 | .bl false=>b ρ
 | _=>.bad
noncomputable def gNot:D→Option D
 | .bl b=>some (.bl (!b))
 | _=>none
noncomputable def fIf (c:FT)(a b:FE):FE:=fun ρ=>(c ρ).bind fun x=>if x then a ρ else b ρ
noncomputable def fChain (g g':D→D→Option D)(a b c:FE):FE:=fun ρ=>(a ρ).bind fun x=>(b ρ).bind fun y=>(oR (g x y)).bind fun z=>match z with
 | .bl true=>(c ρ).bind fun w=>oR (g' y w)
 | .bl false=>.ok (.bl false)
 | _=>.bad
noncomputable abbrev FB:=D→Env→R Env
noncomputable def bName (i:Nat):FB:=fun d ρ=>.ok (ρ.set i (some d))
noncomputable def bNil:List D→Env→R Env
 | [],ρ=>.ok ρ
 | _,_=>.bad
noncomputable def bCons (b:FB)(r:List D→Env→R Env):List D→Env→R Env
 | d::ds,ρ=>(b d ρ).bind fun ρ'=>r ds ρ'
 | _,_=>.bad
noncomputable def bTup (r:List D→Env→R Env):FB:=fun d ρ=>match d with
 | .tup ds=>r ds ρ
 | _=>.bad
noncomputable def R.calm {α:Type}:R α→R α
 | .ok a=>.ok a
 | .err _ _=>.bad
 | .bad=>.bad
@[simp] theorem calm_ok {α:Type}(a:α):(R.ok a).calm=.ok a:=(rfl)
noncomputable def compN (k:Nat)(b:FB)(c:FT)(e:FE)(ρ:Env):List D→R (List D)
 | []=>.ok []
 | x::xs=>(b x (ρ++List.replicate k none)).calm.bind fun ρ1=>(c ρ1).bind fun t=>if t then (e ρ1).bind fun y=>(compN k b c e ρ xs).bind fun ys=>.ok (y::ys) else compN k b c e ρ xs
noncomputable def cYes:FT:=fun _=>.ok true
noncomputable abbrev FI:=Env→R (List D)
noncomputable def jList (a:FE):FI:=fun ρ=>(a ρ).bind fun d=>match d with
 | .lst xs=>if xs.length≤lim then .ok xs else .bad
 | .scr ns=>if ns.length≤lim then .ok (ns.map D.int) else .bad
 | _=>.bad
noncomputable def jTup (a:FE):FI:=fun ρ=>(a ρ).bind fun d=>match d with
 | .tup xs=>if xs.length≤lim then .ok xs else .bad
 | _=>.bad
noncomputable def jRng1 (a:FA):FI:=fun ρ=>(a ρ).bind fun ds=>match ds with
 | [.int j]=>if -1000000000≤j∧j≤1000000 then .ok (rngL 0 j.toNat) else .bad
 | _=>.bad
noncomputable def jRng2 (a:FA):FI:=fun ρ=>(a ρ).bind fun ds=>match ds with
 | [.int i,.int j]=>if -1000000000≤i∧i≤1000000000∧-1000000000≤j∧j≤1000000000∧(j - i).toNat≤lim then .ok (rngL i (j - i).toNat) else .bad
 | _=>.bad
noncomputable def fComp (n k:Nat)(it:FI)(b:FB)(c:FT)(e:FE):FE:=fun ρ=>if ρ.length=n then (it ρ).bind fun xs=>(compN k b c e ρ xs).calm.bind fun ys=>.ok (.lst ys) else .bad
noncomputable def sNx:FS:=fun ρ=>.ok (.nx ρ)
noncomputable def sNever:FS:=fun _=>.bad
noncomputable def sSeq (a b:FS):FS:=fun ρ=>(a ρ).bind fun fl=>match fl with
 | .nx ρ'=>b ρ'
 | fl=>.ok fl
noncomputable def sSet (i:Nat)(e:FE):FS:=fun ρ=>(e ρ).bind fun d=>.ok (.nx (ρ.set i (some d)))
noncomputable def sRet (e:FE):FS:=fun ρ=>(e ρ).bind fun d=>.ok (.ret d)
noncomputable def sIf (c:FT)(a b:FS):FS:=fun ρ=>(c ρ).bind fun x=>if x then a ρ else b ρ
noncomputable def sApp (i:Nat)(e:FE):FS:=fun ρ=>match ρ[i]? with
 | some (some (.lst xs))=>(e ρ).bind fun d=>if xs.length<lim then .ok (.nx (ρ.set i (some (.lst (xs++[d]))))) else .bad
 | _=>.bad
noncomputable def sExtF (i:Nat)(e:FE):FS:=fun ρ=>match ρ[i]? with
 | some (some (.lst xs))=>(e ρ).bind fun d=>match d with
  | .lst ys=>if xs.length+ys.length≤lim∧flatA ys=true then .ok (.nx (ρ.set i (some (.lst (xs++ys))))) else .bad
  | _=>.bad
 | _=>.bad
noncomputable def sPut (i:Nat)(k e:FE):FS:=fun ρ=>(e ρ).bind fun d=>match ρ[i]? with
 | some (some (.lst xs))=>(k ρ).bind fun z=>match z with
  | .int n=>if flat d=true∧flatA xs=true then match ixD xs.length n with
    | some j=>.ok (.nx (ρ.set i (some (.lst (xs.set j d)))))
    | none=>.bad
   else .bad
  | _=>.bad
 | _=>.bad
noncomputable def updP (f:List D→Option (List D)):List Int→D→Option D
 | [],.lst xs=>(f xs).map D.lst
 | n::r,.lst xs=>(ixD xs.length n).bind fun j=>xs[j]?.bind fun d=>(updP f r d).map fun d'=>D.lst (xs.set j d')
 | n::r,.tup xs=>(ixD xs.length n).bind fun j=>xs[j]?.bind fun d=>(updP f r d).map fun d'=>D.tup (xs.set j d')
 | _,_=>none
noncomputable def addL (d:D)(xs:List D):Option (List D):=if xs.length<lim then some (xs++[d]) else none
noncomputable def forApp (i j:Nat)(c:FT)(r:D)(e:FE)(ρ:Env):List D→List D→R Fl
 | dn,[]=>.ok (.nx ((ρ.set i (some (.lst dn))).set j none))
 | dn,x::rest=>(c ((ρ.set i (some (.lst (dn++x::rest)))).set j (some x))).bind fun b=>if b then .ok (.ret r) else
   (e ((ρ.set i (some (.lst (dn++x::rest)))).set j (some x))).calm.bind fun v=>match updP (addL v) [] x with
    | some x'=>forApp i j c r e ρ (dn++[x']) rest
    | none=>.bad
noncomputable def sAsg (e:FE)(b:FB):FS:=fun ρ=>(e ρ).bind fun d=>(b d ρ).calm.bind fun ρ'=>.ok (.nx ρ')
noncomputable def forD (b:FB)(s:FS):List D→Env→R Fl
 | [],ρ=>.ok (.nx ρ)
 | x::xs,ρ=>(b x ρ).calm.bind fun ρ1=>(s ρ1).bind fun fl=>match fl with
  | .nx ρ2=>forD b s xs ρ2
  | .cnt ρ2=>forD b s xs ρ2
  | .brk ρ2=>.ok (.nx ρ2)
  | .ret d=>.ok (.ret d)
noncomputable def sFor (it:FI)(b:FB)(s:FS):FS:=fun ρ=>(it ρ).bind fun xs=>forD b s xs ρ
noncomputable def whileD (c:FT)(s:FS):Nat→Env→R Fl
 | 0,_=>.bad
 | n+1,ρ=>(c ρ).bind fun b=>if b then (s ρ).bind fun fl=>match fl with
  | .nx ρ2=>whileD c s n ρ2
  | .cnt ρ2=>whileD c s n ρ2
  | .brk ρ2=>.ok (.nx ρ2)
  | .ret d=>.ok (.ret d)
  else .ok (.nx ρ)
noncomputable def sWhile (n:Nat)(c:FT)(s:FS):FS:=fun ρ=>whileD c s n ρ
noncomputable def sRaise (c:String)(words:FA):FS:=fun ρ=>(words ρ).bind fun _=>.err c none
noncomputable def strsOf:List D→Option (List Str)
 | []=>some []
 | .str i::r=>(strsOf r).map (i::·)
 | _::_=>none
noncomputable def gJoin:D→D→Option D
 | .str s,.lst ds=>(strsOf ds).bind fun ts=>if (ts.map (·.length)).sum+ts.length*s.length≤lim then some (.str (Str.join s ts)) else none
 | _,_=>none
noncomputable def fJoin (a b:FE):FE:=fun ρ=>(a ρ).bind fun x=>match x with
 | .str s=>(b ρ).bind fun y=>oR (gJoin (.str s) y)
 | _=>.bad
noncomputable def pickM (N:Nat)(c:String)(x:Option Int):List (List (String×Bool)×Option Nat×FS)→R Fl
  | []=>.bad
  | z::r=>match z.1.lookup c with
    | some true=>(match z.2.1 with
      | some i=>(z.2.2 ((List.replicate N none).set i (some (.exc c x)))).calm.bind fun fl=>match fl with
        | .nx _=>.ok (.nx (List.replicate N none))
        | .brk _=>.ok (.brk (List.replicate N none))
        | .cnt _=>.ok (.cnt (List.replicate N none))
        | .ret d=>.ok (.ret d)
      | none=>(z.2.2 (List.replicate N none)).calm)
    | some false=>pickM N c x r
    | none=>.bad
noncomputable def fIx (f:Str):List Str→Option Nat
 | []=>none
 | g::r=>if g=f then some 0 else (fIx f r).map (·+1)
noncomputable def putO (c:String)(f:Str)(d:D):D→Option D
 | .obj c' ns xs=>if c'=c∧ns.length<100 then match fIx f ns with
   | some j=>some (.obj c' ns (xs.set j d))
   | none=>some (.obj c' (ns++[f]) (xs++[d]))
  else none
 | _=>none
noncomputable def sFld (i:Nat)(c:String)(f:Str)(e:FE):FS:=fun ρ=>(e ρ).bind fun d=>match ρ[i]? with
 | some (some o)=>(oR (putO c f d o)).bind fun o'=>.ok (.nx (ρ.set i (some o')))
 | _=>.bad
noncomputable abbrev FM:=Env→R (D×Env)
noncomputable abbrev FMT:=Env→R (Bool×Env)
noncomputable def run (N:Nat)(b:FS)(ds:List D):R D:=(b (ds.map some++List.replicate (N - ds.length) none)).bind fun fl=>match fl with
 | .nx _=>.ok .non
 | .ret d=>.ok d
 | _=>.bad
noncomputable def keyD:D→Option (Int ⊕ Str)
 | .int i=>some (.inl i)
 | .str x=>some (.inr x)
 | _=>none
noncomputable def dHas (ks:List (Int ⊕ Str))(k:Int ⊕ Str):Bool:=ks.any fun j=>decide (j=k)
noncomputable def dPut (ks:List (Int ⊕ Str))(xs:List D)(k:Int ⊕ Str)(d:D):D:=if dHas ks k then .dct ks (List.zipWith (fun j x=>if j=k then d else x) ks xs) else .dct (ks++[k]) (xs++[d])
noncomputable def sDPut (i:Nat)(k e:FE):FS:=fun ρ=>(e ρ).bind fun d=>match ρ[i]? with
 | some (some (.dct ks xs))=>(k ρ).bind fun z=>match keyD z with
  | some q=>if flat d=true∧flatA xs=true∧ks.length<lim then .ok (.nx (ρ.set i (some (dPut ks xs q d)))) else .bad
  | none=>.bad
 | _=>.bad
noncomputable def catO:Str→List D→Option D
 | out,[]=>some (.str out)
 | out,.str y::r=>if y.length≤2000 then catO (out++y) r else none
 | _,_=>none
noncomputable def splitL (c:Nat):List Nat→List (List Nat)
 | []=>[[]]
 | x::r=>if x=c then []::splitL c r else match splitL c r with
  | []=>[[x]]
  | w::ws=>(x::w)::ws
noncomputable def unR (p:List Nat):Option (List Nat):=if p.getLast?=some 32 then some p.dropLast else none
noncomputable def unL:List Nat→Option (List Nat)
 | []=>none
 | x::r=>if x=32 then some r else none
noncomputable def unP:List Nat→List (List Nat)→Option (List (List Nat))
 | p,[]=>some [p]
 | p,q::r=>(unR p).bind fun w=>(unL q).bind fun q'=>(unP q' r).bind fun ws=>some (w::ws)
noncomputable def keysD:List D→Option (List (Int ⊕ Str))
 | []=>some []
 | d::r=>(keyD d).bind fun k=>(keysD r).bind fun ks=>some (k::ks)
noncomputable def keyT:D→Option (List (Int ⊕ Str))
 | .tup ds=>keysD ds
 | _=>none
noncomputable def tAt:List (List (Int ⊕ Str))→List D→List (Int ⊕ Str)→Option D
 | j::ks,x::xs,k=>if j=k then some x else tAt ks xs k
 | _,_,_=>none
noncomputable def tHas (ks:List (List (Int ⊕ Str)))(k:List (Int ⊕ Str)):Bool:=ks.any fun j=>decide (j=k)
noncomputable def tPut (ks:List (List (Int ⊕ Str)))(xs:List D)(k:List (Int ⊕ Str))(d:D):D:=if tHas ks k then .dtt ks (List.zipWith (fun j x=>if j=k then d else x) ks xs) else .dtt (ks++[k]) (xs++[d])
noncomputable def sTPut (i:Nat)(k e:FE):FS:=fun ρ=>(e ρ).bind fun d=>match ρ[i]? with
 | some (some (.dtt ks xs))=>(k ρ).bind fun z=>match keyT z with
  | some q=>if flat d=true∧flatA xs=true∧ks.length<lim then .ok (.nx (ρ.set i (some (tPut ks xs q d)))) else .bad
  | none=>.bad
 | _=>.bad
noncomputable def gTAt:D→D→Option D
 | .dtt ks xs,y=>if flatA xs then (keyT y).bind fun k=>tAt ks xs k else none
 | _,_=>none
noncomputable abbrev Pc:=Int×Str
noncomputable def sLt (x y:Str):Bool:=decide (x.cps.toList<y.cps.toList)
noncomputable def pcLt (p q:Pc):Bool:=if p.1=q.1 then (if p.2=q.2 then false else sLt p.2 q.2) else decide (p.1<q.1)
noncomputable def ctLt:List Pc→List Pc→Bool
 | [],[]=>false
 | [],_::_=>true
 | _::_,[]=>false
 | p::c,q::d=>if p=q then ctLt c d else pcLt p q
noncomputable def insC (c:List Pc):List (List Pc)→List (List Pc)
 | []=>[c]
 | d::r=>if ctLt c d=true then c::d::r else d::insC c r
noncomputable def sortC:List (List Pc)→List (List Pc)
 | []=>[]
 | c::r=>insC c (sortC r)
noncomputable def pcOf:D→Option Pc
 | .tup [.int i,.str z]=>some (i,z)
 | _=>none
noncomputable def pcsOf:List D→Option (List Pc)
 | []=>some []
 | d::r=>(pcOf d).bind fun p=>(pcsOf r).bind fun ps=>some (p::ps)
noncomputable def ctOf:D→Option (List Pc)
 | .lst ds=>pcsOf ds
 | _=>none
noncomputable def ctsOf:List D→Option (List (List Pc))
 | []=>some []
 | d::r=>(ctOf d).bind fun c=>(ctsOf r).bind fun cs=>some (c::cs)
noncomputable def aVars:List Nat→FA
 | []=>aNil
 | j::r=>aCons (fV j) (aVars r)
noncomputable def keyLs (fb:FE)(fr:Env):List D→R (List Int)
 | []=>.ok []
 | x::r=>(fb (some x::fr)).calm.bind fun k=>match k with
  | .int k=>(keyLs fb fr r).bind fun ks=>.ok (k::ks)
  | _=>.bad
noncomputable def goP:List Int→D→Option D
 | [],d=>some d
 | n::r,.lst xs=>(ixD xs.length n).bind fun j=>xs[j]?.bind (goP r)
 | n::r,.tup xs=>(ixD xs.length n).bind fun j=>xs[j]?.bind (goP r)
 | _,_=>none
noncomputable def forPath (i j:Nat)(path:List Int)(e:FE)(ρ:Env):Nat→Nat→D→R Fl
 | _,0,d=>.ok (.nx ((ρ.set i (some d)).set j none))
 | k,m+1,d=>match goP path d with
  | some (.lst _)=>(e ((ρ.set i (some d)).set j none)).calm.bind fun v=>match updP (addL v) (path++[(k:Int)]) d with
   | some d'=>forPath i j path e ρ (k+1) m d'
   | none=>.bad
  | _=>.bad
noncomputable def dAt:List (Int ⊕ Str)→List D→Int ⊕ Str→Option D
 | j::ks,x::xs,k=>if j=k then some x else dAt ks xs k
 | _,_,_=>none
noncomputable def intsK:List (Int ⊕ Str)→Option (List Int)
 | []=>some []
 | .inl i::r=>(intsK r).map (i::·)
 | .inr _::_=>none
noncomputable def dFilt (g:D→D→Option D)(ks:List (Int ⊕ Str))(xs:List D)(z:D):List Int→R (List D)
 | []=>.ok []
 | j::js=>(oR (dAt ks xs (.inl j))).bind fun x=>(oR (g x z)).bind fun t=>match t with
  | .bl b=>(dFilt g ks xs z js).bind fun r=>.ok (if b then .int j::r else r)
  | _=>.bad
noncomputable abbrev Pr:=Int×(Int ⊕ Str)
noncomputable def kLt:Int ⊕ Str→Int ⊕ Str→Bool
 | .inl a,.inl b=>decide (a<b)
 | .inr a,.inr b=>sLt a b
 | _,_=>false
noncomputable def prLt (p q:Pr):Bool:=if p.1=q.1 then kLt p.2 q.2 else decide (p.1<q.1)
noncomputable def insP (c:Pr):List Pr→List Pr
 | []=>[c]
 | d::r=>if prLt c d=true then c::d::r else d::insP c r
noncomputable def sortP:List Pr→List Pr
 | []=>[]
 | c::r=>insP c (sortP r)
noncomputable def kdD:Int ⊕ Str→D
 | .inl i=>.int i
 | .inr x=>.str x
noncomputable def prD (p:Pr):D:=.tup [.int p.1,kdD p.2]
noncomputable def prOfD:D→Option Pr
 | .tup [.int i,.int j]=>some (i,.inl j)
 | .tup [.int i,.str z]=>some (i,.inr z)
 | _=>none
noncomputable def prsOf:List D→Option (List Pr)
 | []=>some []
 | d::r=>(prOfD d).bind fun c=>(prsOf r).bind fun cs=>some (c::cs)
noncomputable def gSortP:List D→Option D
 | [.lst ds]=>(prsOf ds).bind fun cs=>if cs.length≤100000∧((cs.all fun p=>p.2.isLeft)=true∨(cs.all fun p=>p.2.isRight)=true) then some (.lst ((sortP cs).map prD)) else none
 | _=>none
noncomputable def gTNotIn (x y:D):Option D:=match y with
 | .dtt ks _=>(keyT x).map fun k=>.bl (!tHas ks k)
 | _=>none
noncomputable def kOk:Int ⊕ Str→Bool
 | .inl _=>true
 | .inr z=>z.cps.all fun c=>decide (c<0x110000)
noncomputable def forT (i j:Nat)(fc:FT)(b:Bool)(ρ:Env):List (List (Int ⊕ Str))→R Fl
 | []=>.ok (.nx (ρ.set j none))
 | k::r=>(fc ((ρ.set i none).set j (some (.tup (k.map kdD))))).calm.bind fun t=>if t=true then .ok (.ret (.bl b)) else forT i j fc b ρ r
noncomputable def sForT (i j:Nat)(fc:FT)(b:Bool):FS:=fun ρ=>match ρ[i]? with
 | some (some (.dtt ks _))=>if (ks.all fun k=>k.all kOk)=true∧j<ρ.length∧i≠j then forT i j fc b ρ ks else .bad
 | _=>.bad
end Dl
namespace L2
open PySem PySem.Spec PyProof.Rows
open Dl (D R FE FT FA FO FS FI FB Fl)
def FzL (K:Frag)(H:Hp)(a:Addr)(xs:List V):Prop:=
 (∃o,H a=some (.frz o (.lst xs)))∨∃(o:Obj) (its:Array Value) (n:Nat),K.lookup a=some o∧o.cls=.type "list"∧o.dict=none∧o.data=.seq its n∧its.size≤sizeLine∧Vals xs its.toList
theorem FzL.sq {K:Frag}{H:Hp}{a:Addr}{xs:List V}(h:FzL K H a xs):SqL K H a xs:=by
 rcases h with ⟨o,h⟩ | h
 ·exact .inl (.inr ⟨o,h⟩)
 ·exact .inr h
noncomputable def fnm (c:String):Str:=if c="TooMany" then "most" else "at"
def FOk (H:Hp)(c:String)(f:Option Int)(dx:Option Addr):Prop:=match f with
 | none=>True
 | some i=>∃d,dx=some d∧H d=some (.xd [(fnm c,.int i)])
section
variable (K:Frag)(C:String→Addr)
mutual
noncomputable def Rp (H:Hp):D→V→List Addr→Prop
 | .non,v,A=>v=.non∧A=[]
 | .bl b,v,A=>v=.bl b∧A=[]
 | .int i,v,A=>v=.int i∧A=[]
 | .str x,v,A=>v=.str x∧PyData.strOk x=true∧A=[]
 | .lst ds,v,A=>∃a xs B,v=.ref a∧H a=some (.lst xs)∧RpA H ds xs B∧A=a::B
 | .tup ds,v,A=>∃a xs,v=.ref a∧H a=some (.tup xs)∧RpA H ds xs A
 | .scr ns,v,A=>∃a,v=.ref a∧FzL K H a (ns.map V.int)∧A=[]
 | .rng lo hi,v,A=>∃a,v=.ref a∧H a=some (.rng lo hi)∧A=[]
 | .exc c f,v,A=>∃e dx,v=.ref e∧H e=some (exO e (.ref (C c)) dx)∧FOk H c f dx∧A=[]
 | .obj c ns ds,v,A=>∃a dx xs B,v=.ref a∧H a=some (.ins (C c) dx (ns.zip xs))∧ns.length=ds.length∧RpA H ds xs B∧A=a::B
 | .dct ks ds,v,A=>∃a xs B,v=.ref a∧H a=some (.dK (ks.zip xs))∧ks.length=ds.length∧RpA H ds xs B∧A=a::B
 | .dtt ks ds,v,A=>∃a xs B,v=.ref a∧H a=some (.dT (ks.zip xs))∧ks.length=ds.length∧RpA H ds xs B∧A=a::B
noncomputable def RpA (H:Hp):List D→List V→List Addr→Prop
 | [],xs,A=>xs=[]∧A=[]
 | d::ds,xs,A=>∃x r B B',xs=x::r∧Rp H d x B∧RpA H ds r B'∧A=B++B'
end
end
section
variable {K:Frag}{C:String→Addr}{H H' H1 H2:Hp}
inductive IsM:HO→Prop where
 | lst {xs:List V}:IsM (.lst xs)
 | ins {C dx:Addr} {fs:List (Str×V)}:IsM (.ins C dx fs)
 | dct {kvs:List (Key×V)}:IsM (.dK kvs)
 | dtt {kvs:List (List Key×V)}:IsM (.dT kvs)
def Ext (W:Addr→Prop)(H H':Hp):Prop:=∀b o,H b=some o→H' b=some o∨(W b∧IsM o)
theorem Ext.same (h:Same H H'):Ext (fun _=>False) H H':=fun b o q=>.inl (h b o q)
mutual
theorem Rp.ext {W:Addr→Prop}(h:Ext W H H'):∀{d:D} {v:V} {A:List Addr},(∀a∈A,¬W a)→Rp K C H d v A→Rp K C H' d v A
 | .non,_,_,_,r=>r
 | .bl _,_,_,_,r=>r
 | .int _,_,_,_,r=>r
 | .str _,_,_,_,r=>r
 | .lst ds,v,A,hw,r=>by
  obtain ⟨a,xs,B,e1,e2,e3,e4⟩:=r
  subst e4
  refine ⟨a,xs,B,e1,?_,RpA.ext h (fun b hb=>hw b (.tail _ hb)) e3,rfl⟩
  rcases h a _ e2 with q | ⟨q,_⟩
  ·exact q
  ·exact absurd q (hw a (.head _))
 | .tup ds,v,A,hw,r=>by
  obtain ⟨a,xs,e1,e2,e3⟩:=r
  refine ⟨a,xs,e1,?_,RpA.ext h hw e3⟩
  rcases h a _ e2 with q | ⟨_,q⟩
  ·exact q
  ·cases q
 | .scr ns,v,A,_,r=>by
  obtain ⟨a,e1,e2,e3⟩:=r
  refine ⟨a,e1,?_,e3⟩
  rcases e2 with ⟨o,e2⟩ | e2
  ·rcases h a _ e2 with q | ⟨_,q⟩
   ·exact .inl ⟨o,q⟩
   ·cases q
  ·exact .inr e2
 | .rng lo hi,v,A,_,r=>by
  obtain ⟨a,e1,e2,e3⟩:=r
  refine ⟨a,e1,?_,e3⟩
  rcases h a _ e2 with q | ⟨_,q⟩
  ·exact q
  ·cases q
 | .exc c f,v,A,_,r=>by
  obtain ⟨a,dx,e1,e2,e3,e4⟩:=r
  refine ⟨a,dx,e1,?_,?_,e4⟩
  ·rcases h a _ e2 with q | ⟨_,q⟩
   ·exact q
   ·cases q
  ·cases f with
   | none=>trivial
   | some i =>
    obtain ⟨d,z1,z2⟩:=e3
    refine ⟨d,z1,?_⟩
    rcases h d _ z2 with q | ⟨_,q⟩
    ·exact q
    ·cases q
 | .obj c ns ds,v,A,hw,r=>by
  obtain ⟨a,dx,xs,B,e1,e2,e0,e3,e4⟩:=r
  subst e4
  refine ⟨a,dx,xs,B,e1,?_,e0,RpA.ext h (fun b hb=>hw b (.tail _ hb)) e3,rfl⟩
  rcases h a _ e2 with q | ⟨q,_⟩
  ·exact q
  ·exact absurd q (hw a (.head _))
 | .dct ks ds,v,A,hw,r=>by
  obtain ⟨a,xs,B,e1,e2,e0,e3,e4⟩:=r
  subst e4
  refine ⟨a,xs,B,e1,?_,e0,RpA.ext h (fun b hb=>hw b (.tail _ hb)) e3,rfl⟩
  rcases h a _ e2 with q | ⟨q,_⟩
  ·exact q
  ·exact absurd q (hw a (.head _))
 | .dtt ks ds,v,A,hw,r=>by
  obtain ⟨a,xs,B,e1,e2,e0,e3,e4⟩:=r
  subst e4
  refine ⟨a,xs,B,e1,?_,e0,RpA.ext h (fun b hb=>hw b (.tail _ hb)) e3,rfl⟩
  rcases h a _ e2 with q | ⟨q,_⟩
  ·exact q
  ·exact absurd q (hw a (.head _))
theorem RpA.ext {W:Addr→Prop}(h:Ext W H H'):∀{ds:List D} {vs:List V} {A:List Addr},(∀a∈A,¬W a)→RpA K C H ds vs A→RpA K C H' ds vs A
 | [],_,_,_,r=>r
 | d::ds,vs,A,hw,r=>by
  obtain ⟨x,l,B,B',e1,e2,e3,e4⟩:=r
  subst e4
  exact ⟨x,l,B,B',e1,Rp.ext h (fun a ha=>hw a (mem_append_left _ ha)) e2,RpA.ext h (fun a ha=>hw a (mem_append_right _ ha)) e3,rfl⟩
end
theorem Rp.same (h:Same H H'){d:D}{v:V}{A:List Addr}(r:Rp K C H d v A):Rp K C H' d v A:=r.ext (Ext.same h) (fun _ _ q=>q)
theorem RpA.same (h:Same H H'){d:List D}{v:List V}{A:List Addr}(r:RpA K C H d v A):RpA K C H' d v A:=r.ext (Ext.same h) (fun _ _ q=>q)
def Agree (W:List Addr)(H Hb:Hp):Prop:=(∀a∈W,Hb a=H a)∧∀b o,H b=some o→¬IsM o→Hb b=some o
theorem Agree.ext {W:List Addr}(h:Agree W H H'):Ext (fun a=>a∉W) H H':=fun b o q=>by
 by_cases hb:b∈W
 ·exact .inl ((h.1 b hb).trans q)
 ·by_cases ho:IsM o
  ·exact .inr ⟨hb,ho⟩
  ·exact .inl (h.2 b o q ho)
theorem RpA.agree {W:List Addr}(h:Agree W H H'){ds:List D}{vs:List V}{A:List Addr}(hA:∀a∈A,a∈W)(r:RpA K C H ds vs A):RpA K C H' ds vs A:=r.ext h.ext fun a ha z=>z (hA a ha)
mutual
theorem Rp.isl:∀{d:D} {v:V} {A:List Addr},Rp K C H d v A→∀a∈A,∃o,H a=some o∧IsM o
 | .non,_,_,r,a,ha=>by rw [r.2] at ha;cases ha
 | .bl _,_,_,r,a,ha=>by rw [r.2] at ha;cases ha
 | .int _,_,_,r,a,ha=>by rw [r.2] at ha;cases ha
 | .str _,_,_,r,a,ha=>by rw [r.2.2] at ha;cases ha
 | .lst ds,_,_,r,a,ha=>by
  obtain ⟨b,xs,B,e1,e2,e3,e4⟩:=r
  rw [e4] at ha
  rcases List.mem_cons.mp ha with z | z
  ·rw [z];exact ⟨_,e2,.lst⟩
  ·exact RpA.isl e3 a z
 | .tup ds,_,_,r,a,ha=>by
  obtain ⟨b,xs,e1,e2,e3⟩:=r
  exact RpA.isl e3 a ha
 | .scr _,_,_,r,a,ha=>by obtain ⟨_,_,_,e⟩:=r;rw [e] at ha;cases ha
 | .rng _ _,_,_,r,a,ha=>by obtain ⟨_,_,_,e⟩:=r;rw [e] at ha;cases ha
 | .exc _ _,_,_,r,a,ha=>by obtain ⟨_,_,_,_,_,e⟩:=r;rw [e] at ha;cases ha
 | .obj c ns ds,_,_,r,a,ha=>by
  obtain ⟨b,dx,xs,B,e1,e2,e0,e3,e4⟩:=r
  rw [e4] at ha
  rcases List.mem_cons.mp ha with z | z
  ·rw [z];exact ⟨_,e2,.ins⟩
  ·exact RpA.isl e3 a z
 | .dct ks ds,_,_,r,a,ha=>by
  obtain ⟨b,xs,B,e1,e2,e0,e3,e4⟩:=r
  rw [e4] at ha
  rcases List.mem_cons.mp ha with z | z
  ·rw [z];exact ⟨_,e2,.dct⟩
  ·exact RpA.isl e3 a z
 | .dtt ks ds,_,_,r,a,ha=>by
  obtain ⟨b,xs,B,e1,e2,e0,e3,e4⟩:=r
  rw [e4] at ha
  rcases List.mem_cons.mp ha with z | z
  ·rw [z];exact ⟨_,e2,.dtt⟩
  ·exact RpA.isl e3 a z
theorem RpA.isl:∀{ds:List D} {vs:List V} {A:List Addr},RpA K C H ds vs A→∀a∈A,∃o,H a=some o∧IsM o
 | [],_,_,r,a,ha=>by rw [r.2] at ha;cases ha
 | d::ds,_,_,r,a,ha=>by
  obtain ⟨x,l,B,B',e1,e2,e3,e4⟩:=r
  rw [e4] at ha
  rcases List.mem_append.mp ha with z | z
  ·exact Rp.isl e2 a z
  ·exact RpA.isl e3 a z
end
mutual
theorem Rp.flat:∀{d:D} {v:V} {A:List Addr},Dl.flat d=true→Rp K C H d v A→A=[]
 | .non,_,_,_,r=>r.2
 | .bl _,_,_,_,r=>r.2
 | .int _,_,_,_,r=>r.2
 | .str _,_,_,_,r=>r.2.2
 | .lst _,_,_,h,_=>by simp [Dl.flat] at h
 | .tup ds,_,_,h,r=>by
  obtain ⟨b,xs,e1,e2,e3⟩:=r
  exact RpA.flat (by simpa [Dl.flat] using h) e3
 | .scr _,_,_,_,r=>by obtain ⟨_,_,_,e⟩:=r;exact e
 | .rng _ _,_,_,_,r=>by obtain ⟨_,_,_,e⟩:=r;exact e
 | .exc _ _,_,_,_,r=>by obtain ⟨_,_,_,_,_,e⟩:=r;exact e
 | .obj _ _ _,_,_,h,_=>by simp [Dl.flat] at h
 | .dct _ _,_,_,h,_=>by simp [Dl.flat] at h
 | .dtt _ _,_,_,h,_=>by simp [Dl.flat] at h
theorem RpA.flat:∀{ds:List D} {vs:List V} {A:List Addr},Dl.flatA ds=true→RpA K C H ds vs A→A=[]
 | [],_,_,_,r=>r.2
 | d::ds,_,_,h,r=>by
  obtain ⟨x,l,B,B',e1,e2,e3,e4⟩:=r
  simp only [Dl.flatA,Bool.and_eq_true] at h
  rw [e4,Rp.flat h.1 e2,RpA.flat h.2 e3]
  rfl
end
theorem RpA.len:∀{ds:List D} {vs:List V} {A:List Addr},RpA K C H ds vs A→vs.length=ds.length
 | [],_,_,r=>by rw [r.1];rfl
 | d::ds,_,_,r=>by
  obtain ⟨x,l,B,B',e1,e2,e3,e4⟩:=r
  rw [e1,length_cons,length_cons,RpA.len e3]
theorem RpA.get:∀{ds:List D} {vs:List V} {A:List Addr} {i:Nat} {d:D},RpA K C H ds vs A→ds[i]?=some d→∃v B,vs[i]?=some v∧Rp K C H d v B∧∀a∈B,a∈A
 | [],_,_,_,_,_,h=>by simp at h
 | d::ds,_,_,0,_,r,h=>by
  obtain ⟨x,l,B,B',e1,e2,e3,e4⟩:=r
  simp only [List.getElem?_cons_zero,Option.some.injEq] at h
  subst h e1 e4
  exact ⟨x,B,rfl,e2,fun a ha=>mem_append_left _ ha⟩
 | d::ds,_,_,i+1,_,r,h=>by
  obtain ⟨x,l,B,B',e1,e2,e3,e4⟩:=r
  simp only [List.getElem?_cons_succ] at h
  obtain ⟨v,B2,q1,q2,q3⟩:=RpA.get e3 h
  subst e1 e4
  exact ⟨v,B2,by simpa using q1,q2,fun a ha=>mem_append_right _ (q3 a ha)⟩
theorem RpA.get':∀{ds:List D} {vs:List V} {A:List Addr} {i:Nat} {v:V},RpA K C H ds vs A→vs[i]?=some v→∃d B,ds[i]?=some d∧Rp K C H d v B∧∀a∈B,a∈A:=fun {ds vs A i v} r h=>by
 have hl:=r.len
 have hi:i<ds.length:=by
  have:=(List.getElem?_eq_some_iff.mp h).1
  omega
 obtain ⟨v',B,q1,q2,q3⟩:=r.get (getElem?_eq_getElem hi)
 rw [h] at q1
 cases q1
 exact ⟨_,B,getElem?_eq_getElem hi,q2,q3⟩
theorem RpA.app:∀{ds es:List D} {vs ws:List V} {A B:List Addr},RpA K C H ds vs A→RpA K C H es ws B→RpA K C H (ds++es) (vs++ws) (A++B)
 | [],_,_,_,_,_,r,q=>by
  obtain ⟨e1,e2⟩:=r
  subst e1 e2
  exact q
 | d::ds,_,_,_,_,_,r,q=>by
  obtain ⟨x,l,B,B',e1,e2,e3,e4⟩:=r
  subst e1 e4
  exact ⟨x,_,B,_,rfl,e2,RpA.app e3 q,append_assoc ..⟩
theorem RpA.one {d:D}{v:V}{A:List Addr}(r:Rp K C H d v A):RpA K C H [d] [v] A:=⟨v,[],A,[],rfl,r,⟨rfl,rfl⟩,(append_nil _).symm⟩
theorem RpA.flatRev {ds:List D}{vs:List V}{A:List Addr}:Dl.flatA ds=true→RpA K C H ds vs A→RpA K C H ds.reverse vs.reverse []:=by
 intro h r
 induction ds generalizing vs A with
 | nil=>rw [r.1];exact ⟨rfl,rfl⟩
 | cons d ds ih =>
  obtain ⟨x,l,B,B',e1,e2,e3,e4⟩:=r
  simp only [Dl.flatA,Bool.and_eq_true] at h
  have z:=Rp.flat h.1 e2
  subst e1 z
  rw [reverse_cons,reverse_cons]
  exact (ih h.2 e3).app (RpA.one e2)
theorem RpA.flatDrop {ds:List D}{vs:List V}{A:List Addr}:Dl.flatA ds=true→RpA K C H ds vs A→∀n,RpA K C H (ds.drop n) (vs.drop n) []:=by
 intro h r n
 induction ds generalizing vs A n with
 | nil=>rw [r.1];simp;exact ⟨rfl,rfl⟩
 | cons d ds ih =>
  have r0:=r
  obtain ⟨x,l,B,B',e1,e2,e3,e4⟩:=r
  cases n with
  | zero =>
   have z:=RpA.flat h r0
   subst z
   exact r0
  | succ n =>
   simp only [Dl.flatA,Bool.and_eq_true] at h
   subst e1
   exact ih h.2 e3 n
theorem RpA.flatTake {ds:List D}{vs:List V}{A:List Addr}:Dl.flatA ds=true→RpA K C H ds vs A→∀n,RpA K C H (ds.take n) (vs.take n) []:=by
 intro h r n
 induction ds generalizing vs A n with
 | nil=>rw [r.1];simp;exact ⟨rfl,rfl⟩
 | cons d ds ih =>
  obtain ⟨x,l,B,B',e1,e2,e3,e4⟩:=r
  simp only [Dl.flatA,Bool.and_eq_true] at h
  have z:=Rp.flat h.1 e2
  subst e1 z
  cases n with
  | zero=>exact ⟨rfl,rfl⟩
  | succ n=>exact ⟨x,_,[],_,rfl,e2,ih h.2 e3 n,rfl⟩
theorem flatA_drop {ds:List D}(h:Dl.flatA ds=true):∀n,Dl.flatA (ds.drop n)=true:=by
 intro n
 induction ds generalizing n with
 | nil=>simp;rfl
 | cons d ds ih =>
  cases n with
  | zero=>exact h
  | succ n =>
   simp only [Dl.flatA,Bool.and_eq_true] at h
   exact ih h.2 n
theorem RpA.ints {ns:List Int}:RpA K C H (ns.map D.int) (ns.map V.int) []:=by
 induction ns with
 | nil=>exact ⟨rfl,rfl⟩
 | cons n ns ih=>exact ⟨_,_,[],[],rfl,⟨rfl,rfl⟩,ih,rfl⟩
theorem RpA.ofInts:∀{ds:List D} {vs:List V} {A:List Addr} {ns:List Int},RpA K C H ds vs A→Dl.intsOf ds=some ns→vs=ns.map V.int
 | [],_,_,ns,r,h=>by
  simp only [Dl.intsOf,Option.some.injEq] at h
  rw [r.1,← h]
  rfl
 | d::ds,_,_,ns,r,h=>by
  obtain ⟨x,l,B,B',e1,e2,e3,e4⟩:=r
  cases d<;>simp only [Dl.intsOf] at h<;>try cases h
  obtain ⟨ms,h1,h2⟩:=Option.map_eq_some_iff.mp h
  rw [e1,e2.1,RpA.ofInts e3 h1,← h2]
  rfl
mutual
noncomputable def toPy:D→PyData
 | .non=>.none
 | .bl b=>.bool b
 | .int i=>.int i
 | .str x=>.str x
 | .lst ds=>.list (toPyA ds)
 | .tup ds=>.tuple (toPyA ds)
 | .scr _=>.none
 | .rng _ _=>.none
 | .exc _ _=>.none
 | .obj _ _ _=>.none
 | .dct _ _=>.none
 | .dtt _ _=>.none
noncomputable def toPyA:List D→List PyData
 | []=>[]
 | d::ds=>toPy d::toPyA ds
end
mutual
theorem Rp.dn:∀{d:D} {v:V} {A:List Addr} {n:Nat},Dl.dep d≤n→n<100→Rp K C H d v A→Dn K H v (toPy d)∧(toPy d).canLay0=true∧(toPy d).depth=Dl.dep d
 | .non,_,_,_,_,_,r=>by rw [r.1];exact ⟨.non,rfl,rfl⟩
 | .bl _,_,_,_,_,_,r=>by rw [r.1];exact ⟨.bl _,rfl,rfl⟩
 | .int _,_,_,_,_,_,r=>by rw [r.1];exact ⟨.int _,rfl,rfl⟩
 | .str _,_,_,_,_,_,r=>by rw [r.1];exact ⟨.str _,by simpa [toPy,PyData.canLay0] using r.2.1,by simp [toPy,PyData.depth,Dl.dep]⟩
 | .lst ds,_,_,n,h,hn,r=>by
  obtain ⟨a,xs,B,e1,e2,e3,e4⟩:=r
  simp only [Dl.dep] at h
  obtain ⟨q1,q2,q3⟩:=RpA.dn (n:=n) (by omega) hn e3
  rw [e1]
  exact ⟨.lst (SqL.of e2) q1,by simpa [toPy,PyData.canLay0] using q2,by simp [toPy,PyData.depth,Dl.dep,q3]⟩
 | .tup ds,_,_,n,h,hn,r=>by
  obtain ⟨a,xs,e1,e2,e3⟩:=r
  simp only [Dl.dep] at h
  obtain ⟨q1,q2,q3⟩:=RpA.dn (n:=n) (by omega) hn e3
  rw [e1]
  exact ⟨.tup (SqT.of e2) q1,by simpa [toPy,PyData.canLay0] using q2,by simp [toPy,PyData.depth,Dl.dep,q3]⟩
 | .scr _,_,_,n,h,hn,_=>by simp only [Dl.dep] at h;omega
 | .rng _ _,_,_,n,h,hn,_=>by simp only [Dl.dep] at h;omega
 | .exc _ _,_,_,n,h,hn,_=>by simp only [Dl.dep] at h;omega
 | .obj _ _ _,_,_,n,h,hn,_=>by simp only [Dl.dep] at h;omega
 | .dct _ _,_,_,n,h,hn,_=>by simp only [Dl.dep] at h;omega
 | .dtt _ _,_,_,n,h,hn,_=>by simp only [Dl.dep] at h;omega
theorem RpA.dn:∀{ds:List D} {vs:List V} {A:List Addr} {n:Nat},Dl.depA ds≤n→n<100→RpA K C H ds vs A→DnA K H vs (toPyA ds)∧PyData.canLayAll0 (toPyA ds)=true∧PyData.depthAll (toPyA ds)=Dl.depA ds
 | [],_,_,_,_,_,r=>by rw [r.1];exact ⟨.nil,rfl,rfl⟩
 | d::ds,_,_,n,h,hn,r=>by
  obtain ⟨x,l,B,B',e1,e2,e3,e4⟩:=r
  simp only [Dl.depA] at h
  obtain ⟨q1,q2,q3⟩:=Rp.dn (n:=n) (by omega) hn e2
  obtain ⟨p1,p2,p3⟩:=RpA.dn (n:=n) (by omega) hn e3
  rw [e1]
  exact ⟨.cons q1 p1,by simp [toPyA,PyData.canLayAll0,q2,p2],by simp [toPyA,PyData.depthAll,Dl.depA,q3,p3]⟩
end
mutual
theorem eqv_py:∀{d e:D},Dl.dep d<100→Dl.dep e<100→PyData.eqv (toPy d) (toPy e)=Dl.eqv d e
 | .non,e,_,h=>by cases e<;>first | rfl | exact absurd h (lt_irrefl 100)
 | .bl _,e,_,h=>by cases e<;>first | rfl | exact absurd h (lt_irrefl 100)
 | .int _,e,_,h=>by cases e<;>first | rfl | exact absurd h (lt_irrefl 100)
 | .str _,e,_,h=>by cases e<;>first | rfl | exact absurd h (lt_irrefl 100)
 | .lst ds,e,h1,h=>by
  cases e with
  | lst es=>exact eqvA_py (Nat.lt_of_succ_lt h1) (Nat.lt_of_succ_lt h)
  | _=>rfl
 | .tup ds,e,h1,h=>by
  cases e with
  | tup es=>exact eqvA_py (Nat.lt_of_succ_lt h1) (Nat.lt_of_succ_lt h)
  | _=>rfl
 | .scr _,_,h,_=>absurd h (lt_irrefl 100)
 | .rng _ _,_,h,_=>absurd h (lt_irrefl 100)
 | .exc _ _,_,h,_=>absurd h (lt_irrefl 100)
 | .obj _ _ _,_,h,_=>absurd h (lt_irrefl 100)
 | .dct _ _,_,h,_=>absurd h (lt_irrefl 100)
 | .dtt _ _,_,h,_=>absurd h (lt_irrefl 100)
theorem eqvA_py:∀{d e:List D},Dl.depA d<100→Dl.depA e<100→PyData.eqvAll (toPyA d) (toPyA e)=Dl.eqvA d e
 | [],[],_,_=>rfl
 | [],_::_,_,_=>rfl
 | _::_,[],_,_=>rfl
 | d::ds,e::es,h1,h=>by
  have a1:Dl.dep d<100∧Dl.depA ds<100:=Nat.max_lt.mp h1
  have a2:Dl.dep e<100∧Dl.depA es<100:=Nat.max_lt.mp h
  show (PyData.eqv (toPy d) (toPy e)&&PyData.eqvAll (toPyA ds) (toPyA es))=(Dl.eqv d e&&Dl.eqvA ds es)
  rw [eqv_py a1.1 a2.1,eqvA_py a1.2 a2.2]
end
end
noncomputable abbrev DEnv:=Dl.Env
section
variable (K:Frag)(C:String→Addr)
structure EnvOk (H0 Hb H:Hp)(Γ Δ:List Nat)(σ:St)(ρ:DEnv)(A:Nat→List Addr):Prop where
 s0:Same H0 Hb
 same:Same Hb H
 len:σ.length=ρ.length
 rep:∀i d,ρ[i]?=some (some d)→∃v,σ[i]?=some (some v)∧Rp K C H d v (A i)
 nil:∀i,(∀d,ρ[i]?≠some (some d))→A i=[]
 loc:∀i∈Γ,∀a∈A i,H0 a=none
 top:∀i∈Γ,∀a r,A i=a::r→Hb a=none∧a∉r∧∀j,j≠i→a∉A j
 deep:∀i∈Δ,(A i).Nodup∧(∀j,j≠i→∀a∈A i,a∉A j)∧∀a∈A i,Hb a=none
def InS (A:Nat→List Addr)(S:List (Nat×Bool))(a:Addr):Prop:=∃p∈S,if p.2=true then a∈(A p.1).tail else a∈A p.1
def Res (m:Nat)(S:List (Nat×Bool))(H:Hp)(A:Nat→List Addr)(d:D)(v:V)(H':Hp):Prop:=
 ∃B,Rp K C H' d v B∧(∀a∈B,H a=none∨InS A S a)∧(m=1→∀a r,B=a::r→H a=none∧a∉r)∧(m=2→B.Nodup)
def ResA (m:Nat)(S:List (Nat×Bool))(H:Hp)(A:Nat→List Addr)(ds:List D)(vs:List V)(H':Hp):Prop:=
 ∃B,RpA K C H' ds vs B∧(∀a∈B,H a=none∨InS A S a)∧(m=2→B.Nodup)
def EC (E:XK)(c:String)(x:Option Int)(H:Hp):Prop:=∀dx,FOk H c x dx→E (.ref (C c)) dx H
def Post {α:Type}(r:R α)(ok:α→Prop)(er:String→Option Int→Prop):Prop:=match r with
 | .ok a=>ok a
 | .err c x=>er c x
 | .bad=>False
def EOk (E:XK)(Γ Δ:List Nat)(m:Nat)(S:List (Nat×Bool))(t:TE)(f:FE):Prop:=∀(H0 Hb H:Hp) (σ:St) (ρ:DEnv) (A:Nat→List Addr) (Q:VK),EnvOk K C H0 Hb H Γ Δ σ ρ A→
 Post (f ρ) (fun d=>∀v H',Same H H'→Res K C m S H A d v H'→Q v H') (fun c x=>∀H',Same H H'→EC C E c x H')→t σ H Q
def AOk (E:XK)(Γ Δ:List Nat)(m:Nat)(S:List (Nat×Bool))(t:TA)(f:FA):Prop:=∀(H0 Hb H:Hp) (σ:St) (ρ:DEnv) (A:Nat→List Addr) (Q:List V→Hp→Prop),EnvOk K C H0 Hb H Γ Δ σ ρ A→
 Post (f ρ) (fun d=>∀v H',Same H H'→ResA K C m S H A d v H'→Q v H') (fun c x=>∀H',Same H H'→EC C E c x H')→t σ H Q
def TOk (E:XK)(Γ Δ:List Nat)(t:TT)(f:FT):Prop:=∀(H0 Hb H:Hp) (σ:St) (ρ:DEnv) (A:Nat→List Addr) (Q:Bool→Hp→Prop),EnvOk K C H0 Hb H Γ Δ σ ρ A→
 Post (f ρ) (fun b=>∀H',Same H H'→Q b H') (fun c x=>∀H',Same H H'→EC C E c x H')→t σ H Q
def OOk (E:XK)(Γ Δ:List Nat)(t:TO)(f:FO):Prop:=∀(H0 Hb H:Hp) (σ:St) (ρ:DEnv) (A:Nat→List Addr) (Q:Option Int→Hp→Prop),EnvOk K C H0 Hb H Γ Δ σ ρ A→
 Post (f ρ) (fun b=>∀H',Same H H'→Q b H') (fun c x=>∀H',Same H H'→EC C E c x H')→t σ H Q
def PostS (E:XK)(mr:Nat)(Γl Δl Γ' Δ':List Nat)(H0 Hb:Hp)(D:Ends)(r:R Fl):Prop:=Post r (fun fl=>match fl with
    | .nx ρ'=>∀σ' H' A',EnvOk K C H0 Hb H' Γ' Δ' σ' ρ' A'→D.nx σ' H'
    | .ret d=>∀v H',Same H0 H'→Res K C mr [] H0 (fun _=>[]) d v H'→D.rt v H'
    | .brk ρ'=>∀σ' H' A',EnvOk K C H0 Hb H' Γl Δl σ' ρ' A'→D.bk σ' H'
    | .cnt ρ'=>∀σ' H' A',EnvOk K C H0 Hb H' Γl Δl σ' ρ' A'→D.ct σ' H')
  (fun c x=>∀H',Same H0 H'→EC C E c x H')
def SOk (E:XK)(mr:Nat)(Γl Δl Γ Δ Γ' Δ':List Nat)(t:TS)(f:FS):Prop:=∀(H0 Hb H:Hp) (σ:St) (ρ:DEnv) (A:Nat→List Addr) (D:Ends),EnvOk K C H0 Hb H Γ Δ σ ρ A→
 PostS K C E mr Γl Δl Γ' Δ' H0 Hb D (f ρ)→t D σ H
end
section
variable {K:Frag}{C:String→Addr}{E:XK}{Γ Δ Γ' Δ' Γ1 Δ1 Γl Δl:List Nat}{m m1 m2 mr:Nat}{S S1 S2:List (Nat×Bool)}
theorem EnvOk.mono {H0 Hb H H':Hp}{σ:St}{ρ:DEnv}{A:Nat→List Addr}(h:EnvOk K C H0 Hb H Γ Δ σ ρ A)(g:Same H H'):EnvOk K C H0 Hb H' Γ Δ σ ρ A:=
 ⟨h.s0,h.same.trans g,h.len,fun i d e=>let ⟨v,q1,q2⟩:=h.rep i d e;⟨v,q1,q2.same g⟩,h.nil,h.loc,h.top,h.deep⟩
theorem EnvOk.weak {H0 Hb H:Hp}{σ:St}{ρ:DEnv}{A:Nat→List Addr}(h:EnvOk K C H0 Hb H Γ Δ σ ρ A)(h1:∀i∈Γ',i∈Γ)(h2:∀i∈Δ',i∈Δ):EnvOk K C H0 Hb H Γ' Δ' σ ρ A:=
 ⟨h.s0,h.same,h.len,h.rep,h.nil,fun i hi=>h.loc i (h1 i hi),fun i hi=>h.top i (h1 i hi),fun i hi=>h.deep i (h2 i hi)⟩
theorem EnvOk.is {H0 Hb H:Hp}{σ:St}{ρ:DEnv}{A:Nat→List Addr}(h:EnvOk K C H0 Hb H Γ Δ σ ρ A){j:Nat}{a:Addr}(ha:a∈A j):∃o,H a=some o∧IsM o:=by
 by_cases q:∃d,ρ[j]?=some (some d)
 ·obtain ⟨d,q⟩:=q
  obtain ⟨v,_,r⟩:=h.rep j d q
  exact r.isl a ha
 ·rw [h.nil j fun d e=>q ⟨d,e⟩] at ha
  cases ha
theorem EnvOk.ne {H0 Hb H:Hp}{σ:St}{ρ:DEnv}{A:Nat→List Addr}(h:EnvOk K C H0 Hb H Γ Δ σ ρ A){j:Nat}{a:Addr}(ha:a∈A j)(hn:H a=none):False:=by
 obtain ⟨xs,q,_⟩:=h.is ha
 rw [q] at hn
 cases hn
theorem InS.mem {A:Nat→List Addr}{a:Addr}(h:InS A S a):∃p∈S,a∈A p.1:=by
 obtain ⟨p,hp,q⟩:=h
 refine ⟨p,hp,?_⟩
 split at q
 ·exact List.mem_of_mem_tail q
 ·exact q
theorem InS.mono {A:Nat→List Addr}{a:Addr}(h:InS A S1 a)(hs:∀p∈S1,p∈S2):InS A S2 a:=let ⟨p,hp,q⟩:=h;⟨p,hs p hp,q⟩
theorem Post.imp {α:Type}{r:R α}{ok ok':α→Prop}{er er':String→Option Int→Prop}(h:Post r ok er)(h1:∀a,ok a→ok' a)(h2:∀c x,er c x→er' c x):Post r ok' er':=by
 cases r with
 | ok a=>exact h1 a h
 | err c x=>exact h2 c x h
 | bad=>exact h
theorem Post.bind {α β:Type}{r:R α}{g:α→R β}{ok:β→Prop}{er:String→Option Int→Prop}(h:Post (r.bind g) ok er):Post r (fun a=>Post (g a) ok er) er:=by
 cases r with
 | ok a=>exact h
 | err c x=>exact h
 | bad=>exact h
theorem Res.flat {H H':Hp}{A:Nat→List Addr}{d:D}{v:V}(r:Rp K C H' d v []):Res K C m S H A d v H':=⟨[],r,fun _ h=>(nomatch h),fun _ _ _ e=>(nomatch e),fun _=>nodup_nil⟩
theorem eok_c {d:D}{v:V}(h:∀H,Rp K C H d v []):EOk K C E Γ Δ 2 [] (tC v) (Dl.fC d):=fun _ _ H _ _ _ _ _ p=>p v H (Same.refl _) (Res.flat (h H))
theorem fV_ok {i:Nat}{ρ:DEnv}{ok:D→Prop}{er:String→Option Int→Prop}(h:Post (Dl.fV i ρ) ok er):∃d,ρ[i]?=some (some d)∧ok d:=by
 unfold Dl.fV at h
 split at h
 ·rename_i d e
  exact ⟨d,e,h⟩
 ·exact h.elim
theorem eok_v {i:Nat}:EOk K C E Γ Δ 0 [(i,false)] (tVar i) (Dl.fV i):=fun H0 Hb H σ ρ A Q I p=>by
 obtain ⟨d,e,p⟩:=fV_ok p
 obtain ⟨v,e1,r⟩:=I.rep i d e
 exact ⟨v,e1,p v H (Same.refl _) ⟨A i,r,fun a ha=>.inr ⟨(i,false),.head _,ha⟩,(fun z=>nomatch z),(fun z=>nomatch z)⟩⟩
theorem eok_vd {i:Nat}(hi:i∈Δ):EOk K C E Γ Δ 2 [(i,false)] (tVar i) (Dl.fV i):=fun H0 Hb H σ ρ A Q I p=>by
 obtain ⟨d,e,p⟩:=fV_ok p
 obtain ⟨v,e1,r⟩:=I.rep i d e
 exact ⟨v,e1,p v H (Same.refl _) ⟨A i,r,fun a ha=>.inr ⟨(i,false),.head _,ha⟩,(fun z=>nomatch z),fun _=>(I.deep i hi).1⟩⟩
theorem eok_flat {t:TE}{f:FE}(h:EOk K C E Γ Δ m S t f):EOk K C E Γ Δ 2 [] t (Dl.f1 Dl.gFlat f):=fun H0 Hb H σ ρ A Q I p =>
  h H0 Hb H σ ρ A Q I (p.bind.imp (fun d q v H' g r=>by
    unfold Dl.gFlat at q
    split at q
    · rename_i hf
      obtain ⟨B,r1,_⟩:=r
      have e:=r1.flat hf
      subst e
      exact q v H' g (Res.flat r1)
    · exact q.elim) fun _ _ q=>q)
theorem Res.later {H0 H1 H2 H3:Hp}{A:Nat→List Addr}{d:D}{v:V}(g1:Same H0 H1)(g2:Same H2 H3)(r:Res K C m S H1 A d v H2):Res K C m S H0 A d v H3:=by
 obtain ⟨B,r1,r2,r3,r4⟩:=r
 exact ⟨B,r1.same g2,fun a ha=>(r2 a ha).imp (fun h=>g1.free h) id,fun hm a l e=>⟨g1.free (r3 hm a l e).1,(r3 hm a l e).2⟩,r4⟩
theorem Res.new {H H':Hp}{A:Nat→List Addr}{d:D}{v:V}{B:List Addr}(r:Rp K C H' d v B)(h1:B.Nodup)(h2:∀a∈B,H a=none):Res K C m S H A d v H':=
 ⟨B,r,fun a ha=>.inl (h2 a ha),fun _ a l e=>by subst e;exact ⟨h2 a (.head _),(List.nodup_cons.mp h1).1⟩,fun _=>h1⟩
theorem oR_ok {α:Type}{o:Option α}{ok:α→Prop}{er:String→Option Int→Prop}(h:Post (Dl.oR o) ok er):∃a,o=some a∧ok a:=by
 cases o with
 | none=>exact h.elim
 | some a=>exact ⟨a,rfl,h⟩
def GOk (K:Frag)(C:String→Addr)(r:R2)(g:D→D→Option D):Prop:=
 ∀(H:Hp) (x y d:D) (vx vy:V) (Bx By:List Addr) (Q:VK),Rp K C H x vx Bx→Rp K C H y vy By→g x y=some d→(∀v H' B,Same H H'→Rp K C H' d v B→B.Nodup→(∀a∈B,H a=none)→Q v H')→r vx vy H Q
def GAk (K:Frag)(C:String→Addr)(r:List V→Hp→VK→Prop)(g:List D→Option D):Prop:=
 ∀(H:Hp) (xs:List D) (d:D) (vs:List V) (Bx:List Addr) (Q:VK),RpA K C H xs vs Bx→g xs=some d→(∀v H' B,Same H H'→Rp K C H' d v B→B.Nodup→(∀a∈B,H a=none)→Q v H')→r vs H Q
theorem eok_op {r:R2}{g:D→D→Option D}{ta tb:TE}{fa fb:FE}(hg:GOk K C r g)(ha:EOk K C E Γ Δ m1 S1 ta fa)(hb:EOk K C E Γ Δ m2 S2 tb fb):EOk K C E Γ Δ 2 [] (tOp r ta tb) (Dl.f2 g fa fb):=
  fun H0 Hb H σ ρ A Q I p=>ha H0 Hb H σ ρ A _ I (p.bind.imp (fun x q vx H1 g1 r1=>hb H0 Hb H1 σ ρ A _ (I.mono g1) (q.bind.imp (fun y q vy H2 g2 r2=>by
    obtain ⟨d,e,q⟩:=oR_ok q
    obtain ⟨Bx,r1,_⟩:=r1
    obtain ⟨By,r2,_⟩:=r2
    exact hg H2 x y d vx vy Bx By Q (r1.same g2) r2 e fun v H' B g3 r3 h1 h2=>q v H' (g1.trans (g2.trans g3)) (Res.new r3 h1 fun a ha=>(g1.trans g2).free (h2 a ha))) fun c x q H' g'=>q H' (g1.trans g'))) fun c x q H' g'=>q H' g')
theorem no_some {α:Type}{d:α}{P:Prop}(e:(none:Option α)=some d):P:=nomatch e
theorem one_at {F:List D→Option D}(hn:F []=none)(hc:∀x y r,F (x::y::r)=none):∀{ds:List D} {d:D},F ds=some d→∃x,ds=[x]
 | [],_,e=>no_some (hn.symm.trans e)
 | [x],_,_=>⟨x,rfl⟩
 | x::y::r,_,e=>no_some ((hc x y r).symm.trans e)
theorem gIx_lst {ds:List D}{y d:D}(e:Dl.gIx (.lst ds) y=some d):∃i,y=.int i∧atI ds i=some d:=by
 cases y with
 | int i=>exact ⟨i,rfl,e⟩
 | _=>exact no_some e
theorem gIx_tup {ds:List D}{y d:D}(e:Dl.gIx (.tup ds) y=some d):∃i,y=.int i∧atI ds i=some d:=by
 cases y with
 | int i=>exact ⟨i,rfl,e⟩
 | _=>exact no_some e
theorem gIx_scr {ns:List Int}{y d:D}(e:Dl.gIx (.scr ns) y=some d):∃i,y=.int i∧(atI ns i).map D.int=some d:=by
 cases y with
 | int i=>exact ⟨i,rfl,e⟩
 | _=>exact no_some e
theorem gIx_str {z:Str}{y d:D}(e:Dl.gIx (.str z) y=some d):∃i,y=.int i∧z.length≤Dl.lim∧(atI z.cps.toList i).map (fun c=>D.str ⟨#[c]⟩)=some d:=by
 cases y with
 | int i =>
  have e':(if z.length≤Dl.lim then ((Dl.atD z.cps.toList i).map fun c=>D.str ⟨#[c]⟩) else none)=some d:=e
  by_cases h:z.length≤Dl.lim
  ·rw [if_pos h] at e'
   exact ⟨i,rfl,h,e'⟩
  ·rw [if_neg h] at e'
   exact no_some e'
 | _=>exact no_some e
theorem gIx_at {x y d:D}(e:Dl.gIx x y=some d):∃i,y=.int i∧((∃ds,x=.lst ds∧atI ds i=some d)∨(∃ds,x=.tup ds∧atI ds i=some d)∨(∃ns,x=.scr ns∧(atI ns i).map D.int=some d)∨∃z,x=.str z∧z.length≤Dl.lim∧(atI z.cps.toList i).map (fun c=>D.str ⟨#[c]⟩)=some d):=by
 cases x with
 | lst ds=>exact (gIx_lst e).imp fun _ h=>⟨h.1,.inl ⟨ds,rfl,h.2⟩⟩
 | tup ds=>exact (gIx_tup e).imp fun _ h=>⟨h.1,.inr (.inl ⟨ds,rfl,h.2⟩)⟩
 | scr ns=>exact (gIx_scr e).imp fun _ h=>⟨h.1,.inr (.inr (.inl ⟨ns,rfl,h.2⟩))⟩
 | str z=>exact (gIx_str e).imp fun _ h=>⟨h.1,.inr (.inr (.inr ⟨z,rfl,h.2⟩))⟩
 | _=>exact no_some e
theorem at_seq {α β:Type}{ds:List α}{xs:List β}{i:Int}{d:α}{v:β}{j:Nat}(hl:xs.length=ds.length)(e:atI ds i=some d)(h1:seqIndex? i ds.length=some j)(hv:xs[j]?=some v):atI xs i=some v:=by
 unfold atI at e ⊢
 rw [hl]
 cases hx:ixN ds.length i with
 | none=>rw [hx] at e;cases e
 | some k =>
  obtain ⟨z1,_⟩:=ixN_seq hx
  rw [h1] at z1
  cases z1
  exact hv
theorem gIx_ok {H:Hp}{x y d:D}{vx vy:V}{Bx By:List Addr}{Q:VK}(rx:Rp K C H x vx Bx)(ry:Rp K C H y vy By)(e:Dl.gIx x y=some d)(q:∀v B,Rp K C H d v B→(∀a∈B,a∈Bx)→((∃ds,x=.lst ds)→∀a∈B,a∈Bx.tail)→Q v H):rIx K vx vy H Q:=by
 obtain ⟨i,rfl,h⟩:=gIx_at e
 cases ry.1
 rcases h with ⟨ds,rfl,e'⟩ | ⟨ds,rfl,e'⟩ | ⟨ns,rfl,e'⟩ | ⟨z,rfl,hz,e'⟩
 ·obtain ⟨a,xs,B,rfl,e2,e3,rfl⟩:=rx
  obtain ⟨j,h1,h2,_⟩:=atI_get e'
  obtain ⟨v,B',q1,q2,q3⟩:=e3.get h2
  exact rd_ixL (SqL.of e2) (v:=v) (at_seq e3.len e' h1 q1) (q v B' q2 (fun a ha=>.tail _ (q3 a ha)) fun _ a ha=>q3 a ha)
 ·obtain ⟨a,xs,rfl,e2,e3⟩:=rx
  obtain ⟨j,h1,h2,_⟩:=atI_get e'
  obtain ⟨v,B',q1,q2,q3⟩:=e3.get h2
  exact rd_ixT (SqT.of e2) (v:=v) (at_seq e3.len e' h1 q1) (q v B' q2 q3 fun z=>by obtain ⟨_,z⟩:=z;cases z)
 ·obtain ⟨a,rfl,e2,rfl⟩:=rx
  obtain ⟨n,h1,rfl⟩:=Option.map_eq_some_iff.mp e'
  obtain ⟨j,h2,h3,_⟩:=atI_get h1
  exact .inl ⟨a,ns.map V.int,i,.int n,rfl,rfl,e2.sq,at_seq (length_map _) h1 h2 (by rw [getElem?_map,h3];rfl),q (.int n) [] ⟨rfl,rfl⟩ (fun _ h=>(nomatch h)) fun _ _ h=>(nomatch h)⟩
 ·obtain ⟨rfl,e2,rfl⟩:=rx
  obtain ⟨c,h1,rfl⟩:=Option.map_eq_some_iff.mp e'
  refine .inr (.inr ⟨z,i,c,rfl,rfl,le_trans hz (by decide),h1,q _ [] ⟨rfl,?_,rfl⟩ (fun _ h=>(nomatch h)) fun _ _ h=>(nomatch h)⟩)
  obtain ⟨j,_,h3,_⟩:=atI_get h1
  have hm:c∈z.cps:=Array.mem_toList_iff.mp (mem_of_getElem? h3)
  have ho:z.cps.all (·<0x110000)=true:=e2
  have:=(Array.all_eq_true_iff_forall_mem.mp ho) c hm
  unfold PyData.strOk
  simpa using this
theorem eok_ix {ta tb:TE}{fa fb:FE}(ha:EOk K C E Γ Δ m1 S1 ta fa)(hb:EOk K C E Γ Δ m2 S2 tb fb):EOk K C E Γ Δ 0 S1 (tOp (rIx K) ta tb) (Dl.f2 Dl.gIx fa fb):=
  fun H0 Hb H σ ρ A Q I p=>ha H0 Hb H σ ρ A _ I (p.bind.imp (fun x q vx H1 g1 r1=>hb H0 Hb H1 σ ρ A _ (I.mono g1) (q.bind.imp (fun y q vy H2 g2 r2=>by
    obtain ⟨d,e,q⟩:=oR_ok q
    obtain ⟨Bx,r1,r1',_⟩:=r1
    obtain ⟨By,r2,_⟩:=r2
    exact gIx_ok (r1.same g2) r2 e fun v B r3 h _=>q v H2 (g1.trans g2) ⟨B,r3,fun a ha=>r1' a (h a ha),(fun z=>nomatch z),(fun z=>nomatch z)⟩) fun c x q H' g'=>q H' (g1.trans g'))) fun c x q H' g'=>q H' g')
noncomputable def gIxL (x y:D):Option D:=match x with
 | .lst _=>Dl.gIx x y
 | _=>none
end
section
variable {K:Frag}{C:String→Addr}{E:XK}{Γ Δ:List Nat}{m m1 m2 m3 mr:Nat}{S S1 S2 S3:List (Nat×Bool)}{H:Hp}{Q:VK}
theorem sameNew {H:Hp}{p:Addr}(h:H p=none)(o:HO):Same H (upd H p o):=fun b u q=>by rw [upd_ne (ne_of_none q h)];exact q
noncomputable abbrev Out (K:Frag)(C:String→Addr)(H:Hp)(d:D)(Q:VK):Prop:=∀v H' B,Same H H'→Rp K C H' d v B→B.Nodup→(∀a∈B,H a=none)→Q v H'
theorem Out.flat {d:D}{v:V}(q:Out K C H d Q)(r:Rp K C H d v []):Q v H:=q v H [] (Same.refl _) r nodup_nil (fun _ h=>nomatch h)
theorem Out.lst {ds:List D}{vs:List V}{p:Addr}(q:Out K C H (.lst ds) Q)(r:RpA K C H ds vs [])(hp:H p=none):Q (.ref p) (upd H p (.lst vs)):=
 q _ _ [p] (sameNew hp _) ⟨p,vs,[],rfl,upd_same,r.same (sameNew hp _),rfl⟩ (by simp) (fun a ha=>by rw [List.mem_singleton.mp ha];exact hp)
theorem limLine {n:Nat}(h:n≤Dl.lim):n≤sizeLine:=le_trans h (by decide)
theorem limLine' {n:Nat}(h:n<Dl.lim):n<sizeLine:=lt_of_lt_of_le h (by decide)
theorem strOk_cat {x y:Str}(h1:PyData.strOk x=true)(h2:PyData.strOk y=true):PyData.strOk (x++y)=true:=by
 unfold PyData.strOk at *
 show (x.cps++y.cps).all _=true
 rw [Array.all_append,h1,h2]
 rfl
theorem RpA.nil:RpA K C H [] [] []:=⟨rfl,rfl⟩
theorem RpA.flat' {ds:List D}{vs:List V}{A:List Addr}(h:Dl.flatA ds=true)(r:RpA K C H ds vs A):RpA K C H ds vs []:=by
 have e:=RpA.flat h r
 subst e
 exact r
theorem RpA.rep {ds:List D}{vs:List V}(r:RpA K C H ds vs []):∀n,RpA K C H (List.replicate n ds).flatten (List.replicate n vs).flatten []
 | 0=>RpA.nil
 | n+1=>by
  rw [replicate_succ,replicate_succ,flatten_cons,flatten_cons]
  exact r.app (RpA.rep r n)
theorem gok_add:GOk K C rAddA Dl.gAdd:=by
 intro H x y d vx vy Bx By Q rx ry e q
 unfold Dl.gAdd at e
 split at e
 ·cases e
  obtain ⟨rfl,_⟩:=rx
  obtain ⟨rfl,_⟩:=ry
  exact rd_add (Out.flat q ⟨rfl,rfl⟩)
 ·split at e
  ·rename_i hz
   cases e
   obtain ⟨rfl,h1,_⟩:=rx
   obtain ⟨rfl,h2,_⟩:=ry
   exact .inr (.inl ⟨_,_,rfl,rfl,limLine hz,Out.flat q ⟨rfl,strOk_cat h1 h2,rfl⟩⟩)
  ·cases e
 ·split at e
  ·rename_i hz
   cases e
   obtain ⟨a,xs,B,rfl,e2,e3,_⟩:=rx
   obtain ⟨a',xs',B',rfl,e2',e3',_⟩:=ry
   obtain ⟨hz,f1,f2⟩:=hz
   refine rd_cat e2 e2' (by rw [e3.len,e3'.len];exact limLine hz) fun p hp=>?_
   exact Out.lst q ((e3.flat' f1).app (e3'.flat' f2)) hp
  ·cases e
 ·cases e
theorem gok_I0 {g:Int→Int→D}{gv:Int→Int→V}{f:D→D→Option D}(hf:∀x y d,f x y=some d→∃i j,x=.int i∧y=.int j∧d=g i j)(hr:∀H i j,Rp K C H (g i j) (gv i j) []):GOk K C (rI0 gv) f:=by
 intro H x y d vx vy Bx By Q rx ry e q
 obtain ⟨i,j,rfl,rfl,rfl⟩:=hf x y d e
 obtain ⟨rfl,_⟩:=rx
 obtain ⟨rfl,_⟩:=ry
 exact rd_I0 (Out.flat q (hr H i j))
theorem gok_I {Cd:Int→Int→Prop}{g:Int→Int→D}{gv:Int→Int→V}{f:D→D→Option D}(hf:∀x y d,f x y=some d→∃i j,x=.int i∧y=.int j∧d=g i j∧Cd i j)(hr:∀H i j,Rp K C H (g i j) (gv i j) []):GOk K C (rI Cd gv) f:=by
 intro H x y d vx vy Bx By Q rx ry e q
 obtain ⟨i,j,rfl,rfl,rfl,hc⟩:=hf x y d e
 obtain ⟨rfl,_⟩:=rx
 obtain ⟨rfl,_⟩:=ry
 exact rd_I hc (Out.flat q (hr H i j))
theorem rpI {i:Int}:Rp K C H (.int i) (.int i) []:=⟨rfl,rfl⟩
theorem rpB {i:Bool}:Rp K C H (.bl i) (.bl i) []:=⟨rfl,rfl⟩
theorem gok_sub:GOk K C (rI0 fun i j=>.int (i - j)) Dl.gSub:=gok_I0 (fun x y d e=>by unfold Dl.gSub at e;split at e<;>cases e;exact ⟨_,_,rfl,rfl,rfl⟩) fun _ _ _=>rpI
theorem gok_lt:GOk K C (rI0 fun i j=>.bl (decide (i<j))) Dl.gLt:=gok_I0 (fun x y d e=>by unfold Dl.gLt at e;split at e<;>cases e;exact ⟨_,_,rfl,rfl,rfl⟩) fun _ _ _=>rpB
theorem gok_le:GOk K C (rI0 fun i j=>.bl (decide (i≤j))) Dl.gLe:=gok_I0 (fun x y d e=>by unfold Dl.gLe at e;split at e<;>cases e;exact ⟨_,_,rfl,rfl,rfl⟩) fun _ _ _=>rpB
theorem gok_gt:GOk K C (rI0 fun i j=>.bl (decide (j<i))) Dl.gGt:=gok_I0 (fun x y d e=>by unfold Dl.gGt at e;split at e<;>cases e;exact ⟨_,_,rfl,rfl,rfl⟩) fun _ _ _=>rpB
theorem gok_mod:GOk K C (rI (fun _ j=>0<j) fun i j=>.int (i % j)) Dl.gMod:=gok_I (fun x y d e=>by
  unfold Dl.gMod at e
  split at e
  · split at e
    · rename_i h;cases e;exact ⟨_,_,rfl,rfl,rfl,h⟩
    · cases e
  · cases e) fun _ _ _=>rpI
theorem gok_div:GOk K C (rI CDivL fun i j=>.int (i / j)) Dl.gDiv:=gok_I (fun x y d e=>by
  unfold Dl.gDiv at e
  split at e
  · split at e
    · rename_i h;cases e;exact ⟨_,_,rfl,rfl,rfl,h⟩
    · cases e
  · cases e) fun _ _ _=>rpI
theorem gok_pow:GOk K C (rI CPow fun i j=>.int (i ^ j.toNat)) Dl.gPow:=gok_I (fun x y d e=>by
  unfold Dl.gPow at e
  split at e
  · split at e
    · rename_i h;cases e;exact ⟨_,_,rfl,rfl,rfl,h⟩
    · cases e
  · cases e) fun _ _ _=>rpI
theorem short_mul {i j:Int}(h:(Dl.short i||Dl.short j)=true):CMul i j:=by
 unfold Dl.short at h
 simp only [Bool.or_eq_true,Bool.and_eq_true,decide_eq_true_eq] at h
 exact h
theorem gok_mul:GOk K C rMulA Dl.gMul:=by
 intro H x y d vx vy Bx By Q rx ry e q
 unfold Dl.gMul at e
 split at e
 ·split at e
  ·rename_i h
   cases e
   obtain ⟨rfl,_⟩:=rx
   obtain ⟨rfl,_⟩:=ry
   exact rd_mul (short_mul h) (Out.flat q rpI)
  ·cases e
 ·split at e
  ·rename_i h
   cases e
   obtain ⟨a,xs,B,rfl,e2,e3,_⟩:=rx
   obtain ⟨rfl,_⟩:=ry
   obtain ⟨h1,h2,h3,h4⟩:=h
   refine rd_rep e2 (by omega) (by omega) (by rw [e3.len];exact limLine h2) fun p hp=>?_
   exact Out.lst q ((e3.flat' h4).rep _) hp
  ·cases e
 ·cases e
theorem shaped_of {d:D}{v:V}{A:List Addr}(h:Dl.dep d≤20)(r:Rp K C H d v A):Dn K H v (toPy d)∧SeqAt.shaped (toPy d)=true:=by
 obtain ⟨q1,q2,q3⟩:=r.dn h (by decide)
 refine ⟨q1,?_⟩
 unfold SeqAt.shaped
 rw [q2,q3]
 simp only [Bool.true_and,decide_eq_true_eq]
 omega
theorem gok_eq:GOk K C (rEqA K) Dl.gEq:=by
 intro H x y d vx vy Bx By Q rx ry e q
 unfold Dl.gEq at e
 split at e
 ·rename_i h
  cases e
  obtain ⟨a1,a2⟩:=shaped_of h.1 rx
  obtain ⟨b1,b2⟩:=shaped_of h.2 ry
  refine .inr ⟨_,_,a1,b1,a2,b2,?_⟩
  rw [eqv_py (by omega) (by omega)]
  exact Out.flat q rpB
 ·cases e
theorem gok_ne:GOk K C (rNeA K) Dl.gNe:=by
 intro H x y d vx vy Bx By Q rx ry e q
 unfold Dl.gNe at e
 split at e
 ·rename_i h
  cases e
  obtain ⟨a1,a2⟩:=shaped_of h.1 rx
  obtain ⟨b1,b2⟩:=shaped_of h.2 ry
  refine .inr ⟨_,_,a1,b1,a2,b2,?_⟩
  rw [eqv_py (by omega) (by omega)]
  exact Out.flat q rpB
 ·cases e
theorem aok_nil:AOk K C E Γ Δ 2 [] tNil Dl.aNil:=fun _ _ H _ _ _ _ _ p=>p [] H (Same.refl _) ⟨[],RpA.nil,(fun _ h=>nomatch h),fun _=>nodup_nil⟩
theorem InS.left {A:Nat→List Addr}{a:Addr}(h:InS A S1 a):InS A (S1++S2) a:=h.mono fun _ hp=>mem_append_left _ hp
theorem InS.right {A:Nat→List Addr}{a:Addr}(h:InS A S2 a):InS A (S1++S2) a:=h.mono fun _ hp=>mem_append_right _ hp
theorem aok_cons {te:TE}{t:TA}{fe:FE}{f:FA}(he:EOk K C E Γ Δ m1 S1 te fe)(ha:AOk K C E Γ Δ m2 S2 t f):AOk K C E Γ Δ 0 (S1++S2) (tCons te t) (Dl.aCons fe f):=
  fun H0 Hb H σ ρ A Q I p=>he H0 Hb H σ ρ A _ I (p.bind.imp (fun x q vx H1 g1 r1=>ha H0 Hb H1 σ ρ A _ (I.mono g1) (q.bind.imp (fun ys q vs H2 g2 r2=>by
    obtain ⟨Bx,r1,r1',_⟩:=r1
    obtain ⟨By,r2,r2',_⟩:=r2
    exact q _ H2 (g1.trans g2) ⟨Bx++By,⟨vx,vs,Bx,By,rfl,r1.same g2,r2,rfl⟩,fun a h=>(List.mem_append.mp h).elim (fun h=>(r1' a h).imp id InS.left) (fun h=>(r2' a h).imp (fun h=>g1.free h) InS.right),(fun z=>nomatch z)⟩)
    fun c x q H' g'=>q H' (g1.trans g'))) fun c x q H' g'=>q H' g')
theorem aok_consD {te:TE}{t:TA}{fe:FE}{f:FA}(he:EOk K C E Γ Δ 2 S1 te fe)(ha:AOk K C E Γ Δ 2 S2 t f)(h1:∀p∈S1,p.1∈Δ:=by decide)(h2:∀p∈S1,∀q∈S2,p.1≠q.1:=by decide):AOk K C E Γ Δ 2 (S1++S2) (tCons te t) (Dl.aCons fe f):=
  fun H0 Hb H σ ρ A Q I p=>he H0 Hb H σ ρ A _ I (p.bind.imp (fun x q vx H1 g1 r1=>ha H0 Hb H1 σ ρ A _ (I.mono g1) (q.bind.imp (fun ys q vs H2 g2 r2=>by
    obtain ⟨Bx,r1,r1',_,n1⟩:=r1
    obtain ⟨By,r2,r2',n2⟩:=r2
    refine q _ H2 (g1.trans g2) ⟨Bx++By,⟨vx,vs,Bx,By,rfl,r1.same g2,r2,rfl⟩,fun a h=>(List.mem_append.mp h).elim (fun h=>(r1' a h).imp id InS.left) (fun h=>(r2' a h).imp (fun h=>g1.free h) InS.right),fun _=>?_⟩
    refine List.nodup_append.mpr ⟨n1 rfl,n2 rfl,fun a ha b hb e=>?_⟩
    subst e
    rcases r2' a hb with z | z
    · obtain ⟨xs,w,_⟩:=r1.isl a ha
      rw [w] at z
      cases z
    · obtain ⟨p2,hp2,z⟩:=z.mem
      rcases r1' a ha with w | w
      · exact I.ne z w
      · obtain ⟨p1,hp1,w⟩:=w.mem
        exact (I.deep p1.1 (h1 p1 hp1)).2.1 p2.1 (fun e=>h2 p1 hp1 p2 hp2 e.symm) a w z)
    fun c x q H' g'=>q H' (g1.trans g'))) fun c x q H' g'=>q H' g')
theorem eok_lst {t:TA}{f:FA}(ha:AOk K C E Γ Δ 2 S t f):EOk K C E Γ Δ 2 S (tLst t) (Dl.fA Dl.gLst f):=
  fun H0 Hb H σ ρ A Q I p=>ha H0 Hb H σ ρ A _ I (p.bind.imp (fun ds q vs H1 g1 r1=>by
    obtain ⟨d,e,q⟩:=oR_ok q
    unfold Dl.gLst at e
    split at e
    · rename_i hz
      cases e
      obtain ⟨B,r1,r1',n1⟩:=r1
      refine ⟨by rw [r1.len];exact limLine hz,fun p hp=>?_⟩
      have g2:=sameNew hp (.lst vs)
      refine q _ _ (g1.trans g2) ⟨p::B,⟨p,vs,B,rfl,upd_same,r1.same g2,rfl⟩,fun a ha=>?_,(fun z=>nomatch z),fun _=>List.nodup_cons.mpr ⟨fun h=>?_,n1 rfl⟩⟩
      · rcases List.mem_cons.mp ha with z | z
        · rw [z];exact .inl (g1.free hp)
        · exact r1' a z
      · obtain ⟨xs,w,_⟩:=r1.isl p h
        rw [w] at hp
        cases hp
    · cases e) fun c x q H' g'=>q H' g')
theorem eok_lst1 {t:TA}{f:FA}(ha:AOk K C E Γ Δ m S t f):EOk K C E Γ Δ 1 S (tLst t) (Dl.fA Dl.gLst f):=
  fun H0 Hb H σ ρ A Q I p=>ha H0 Hb H σ ρ A _ I (p.bind.imp (fun ds q vs H1 g1 r1=>by
    obtain ⟨d,e,q⟩:=oR_ok q
    unfold Dl.gLst at e
    split at e
    · rename_i hz
      cases e
      obtain ⟨B,r1,r1',n1⟩:=r1
      refine ⟨by rw [r1.len];exact limLine hz,fun p hp=>?_⟩
      have g2:=sameNew hp (.lst vs)
      refine q _ _ (g1.trans g2) ⟨p::B,⟨p,vs,B,rfl,upd_same,r1.same g2,rfl⟩,fun a ha=>?_,fun _ a r e=>?_,(fun z=>nomatch z)⟩
      · rcases List.mem_cons.mp ha with z | z
        · rw [z];exact .inl (g1.free hp)
        · exact r1' a z
      · cases e
        refine ⟨g1.free hp,fun h=>?_⟩
        obtain ⟨xs,w,_⟩:=r1.isl p h
        rw [w] at hp
        cases hp
    · cases e) fun c x q H' g'=>q H' g')
theorem eok_tup (hm:m=0∨m=2){t:TA}{f:FA}(ha:AOk K C E Γ Δ m S t f):EOk K C E Γ Δ m S (tTup t) (Dl.fA Dl.gTup f):=
  fun H0 Hb H σ ρ A Q I p=>ha H0 Hb H σ ρ A _ I (p.bind.imp (fun ds q vs H1 g1 r1=>by
    obtain ⟨d,e,q⟩:=oR_ok q
    unfold Dl.gTup at e
    split at e
    · rename_i hz
      cases e
      obtain ⟨B,r1,r1',n1⟩:=r1
      refine ⟨by rw [r1.len];exact limLine hz,fun p hp=>?_⟩
      have g2:=sameNew hp (.tup vs)
      exact q _ _ (g1.trans g2) ⟨B,⟨p,vs,rfl,upd_same,r1.same g2⟩,r1',(fun z=>by omega),n1⟩
    · cases e) fun c x q H' g'=>q H' g')
theorem eok_cb {r:List V→Hp→VK→Prop}{g:List D→Option D}{t:TA}{f:FA}(hg:GAk K C r g)(ha:AOk K C E Γ Δ m S t f):EOk K C E Γ Δ 2 [] (tCB r t) (Dl.fA g f):=
  fun H0 Hb H σ ρ A Q I p=>ha H0 Hb H σ ρ A _ I (p.bind.imp (fun ds q vs H1 g1 r1=>by
    obtain ⟨d,e,q⟩:=oR_ok q
    obtain ⟨B,r1,_⟩:=r1
    exact hg H1 ds d vs B Q r1 e fun v H' B' g2 r2 h1 h2=>q v H' (g1.trans g2) (Res.new r2 h1 fun a ha=>g1.free (h2 a ha))) fun c x q H' g'=>q H' g')
theorem RpA.one' {d:D}{vs:List V}{A:List Addr}(r:RpA K C H [d] vs A):∃v,vs=[v]∧Rp K C H d v A:=by
 obtain ⟨x,l,B,B',e1,e2,e3,e4⟩:=r
 obtain ⟨e5,e6⟩:=e3
 subst e1 e4 e5 e6
 rw [append_nil]
 exact ⟨x,rfl,e2⟩
theorem RpA.two' {d e:D}{vs:List V}{A:List Addr}(r:RpA K C H [d,e] vs A):∃v w B B',vs=[v,w]∧Rp K C H d v B∧Rp K C H e w B':=by
 obtain ⟨x,l,B,B',e1,e2,e3,e4⟩:=r
 obtain ⟨w,e5,e6⟩:=e3.one'
 subst e1 e5
 exact ⟨x,w,B,B',rfl,e2,e6⟩
theorem gak_len:GAk K C (rLenA K) Dl.gLen:=by
 intro H xs d vs B Q r e q
 obtain ⟨x,rfl⟩:=one_at (F:=Dl.gLen) rfl (fun x _ _=>by cases x<;>rfl) e
 obtain ⟨v,rfl,r1⟩:=r.one'
 cases x with
 | lst xs =>
  cases (show some (D.int xs.length)=some d from e)
  obtain ⟨a,ys,B,rfl,e2,e3,_⟩:=r1
  refine rd_lenL (SqL.of e2) ?_
  rw [e3.len]
  exact Out.flat q rpI
 | tup xs =>
  cases (show some (D.int xs.length)=some d from e)
  obtain ⟨a,ys,rfl,e2,e3⟩:=r1
  refine rd_lenT (SqT.of e2) ?_
  rw [e3.len]
  exact Out.flat q rpI
 | scr xs =>
  cases (show some (D.int xs.length)=some d from e)
  obtain ⟨a,rfl,e2,_⟩:=r1
  refine rd_lenL e2.sq ?_
  rw [length_map]
  exact Out.flat q rpI
 | str z =>
  have e:(if z.length≤Dl.lim then some (D.int z.length) else none)=some d:=e
  by_cases hz:z.length≤Dl.lim
  ·rw [if_pos hz] at e
   cases e
   obtain ⟨rfl,_⟩:=r1
   exact rd_lenS (limLine hz) (Out.flat q rpI)
  ·rw [if_neg hz] at e
   exact no_some e
 | _=>exact no_some e
theorem gak_sum:GAk K C (rSum K) Dl.gSum:=by
 intro H xs d vs B Q r e q
 obtain ⟨x,rfl⟩:=one_at (F:=Dl.gSum) rfl (fun x _ _=>by cases x<;>rfl) e
 obtain ⟨v,rfl,r1⟩:=r.one'
 cases x with
 | lst xs =>
  obtain ⟨ns,h1,h2⟩:=Option.bind_eq_some_iff.mp e
  cases h2
  obtain ⟨a,ys,B,rfl,e2,e3,_⟩:=r1
  have h:=e3.ofInts h1
  subst h
  exact rd_sum (SqL.of e2) (Out.flat q rpI)
 | _=>exact no_some e
def rMin2:List V→Hp→VK→Prop:=fun xs H Q=>∃i j,xs=[.int i,.int j]∧Q (.int (if j<i then j else i)) H
theorem call_minR {X:Cx}(hc:X.calm=true):CallR X (.builtin "min") rMin2:=call_min2 hc
theorem gak_min:GAk K C rMin2 Dl.gMin:=by
 intro H xs d vs B Q r e q
 unfold Dl.gMin at e
 split at e
 ·cases e
  obtain ⟨v,w,B,B',rfl,r1,r2⟩:=r.two'
  obtain ⟨rfl,_⟩:=r1
  obtain ⟨rfl,_⟩:=r2
  exact ⟨_,_,rfl,Out.flat q rpI⟩
 ·cases e
theorem RpA.rng {lo:Int}{n:Nat}:RpA K C H (Dl.rngL lo n) (rngV lo n) []:=by
 unfold Dl.rngL rngV
 generalize List.range n=l
 induction l with
 | nil=>exact RpA.nil
 | cons k l ih=>exact ⟨_,_,[],[],rfl,rpI,ih,rfl⟩
theorem gak_list:GAk K C (rList K) Dl.gList:=by
 intro H xs d vs B Q r e q
 obtain ⟨x,rfl⟩:=one_at (F:=Dl.gList) rfl (fun x _ _=>by cases x<;>rfl) e
 obtain ⟨v,rfl,r1⟩:=r.one'
 cases x with
 | lst xs =>
  have e:(if Dl.flatA xs then some (D.lst xs) else none)=some d:=e
  split at e
  ·rename_i hf
   cases e
   obtain ⟨a,ys,B,rfl,e2,e3,_⟩:=r1
   exact rd_listL (SqL.of e2) fun l hl=>Out.lst q (e3.flat' hf) hl
  ·exact no_some e
 | tup xs =>
  have e:(if Dl.flatA xs then some (D.lst xs) else none)=some d:=e
  split at e
  ·rename_i hf
   cases e
   obtain ⟨a,ys,rfl,e2,e3⟩:=r1
   exact .inl ⟨a,ys,rfl,.inr (SqT.of e2),fun l hl=>Out.lst q (e3.flat' hf) hl⟩
  ·exact no_some e
 | rng i j =>
  have e:(if -1000000000≤i∧i≤1000000000∧-1000000000≤j∧j≤1000000000∧(j - i).toNat≤Dl.lim then some (D.lst (Dl.rngL i (j - i).toNat)) else none)=some d:=e
  split at e
  ·rename_i hf
   cases e
   obtain ⟨a,rfl,e2,_⟩:=r1
   obtain ⟨h1,h2,h3,h4,h5⟩:=hf
   exact rd_listR e2 (by omega) (by omega) (by omega) (by omega) h5 fun l hl=>Out.lst q RpA.rng hl
  ·exact no_some e
 | _=>exact no_some e
theorem ook_none:OOk K C E Γ Δ tNoPart Dl.oNone:=fun _ _ H _ _ _ _ _ p=>p H (Same.refl _)
theorem ook_some {t:TE}{f:FE}(h:EOk K C E Γ Δ m S t f):OOk K C E Γ Δ (tPart t) (Dl.oSome f):=fun H0 Hb H σ ρ A Q I p=>h H0 Hb H σ ρ A _ I (p.bind.imp (fun d q v H' g r=>by
  obtain ⟨B,r,_⟩:=r
  cases d with
  | int i =>
    obtain ⟨rfl,_⟩:=r
    exact ⟨i,rfl,q H' g⟩
  | _=>exact q.elim) fun c x q H' g'=>q H' g')
theorem six_eq (n d:Nat)(o:Option Int):Dl.sixD n d o=HT.sIx n d o:=by
 cases o with
 | none=>rfl
 | some v =>
  have h:=HT.clip_eq v n d
  show (if v<0 then (max (v+(n:Int)) 0).toNat else min v.toNat n)=_
  by_cases hv:v<0
  ·rw [if_pos hv] at h ⊢
   omega
  ·rw [if_neg hv] at h ⊢
   omega
theorem RpA.cut {ds:List D}{vs:List V}{A:List Addr}(h:Dl.flatA ds=true)(r:RpA K C H ds vs A)(lo hi:Option Int):RpA K C H (Dl.cut ds lo hi) (cutV vs lo hi) []:=by
 unfold Dl.cut cutV
 rw [six_eq,six_eq,r.len]
 exact (r.flatDrop h _).flatTake (flatA_drop h _) _
theorem cut_ints (ns:List Int)(lo hi:Option Int):cutV (ns.map V.int) lo hi=(Dl.cut ns lo hi).map V.int:=by
 unfold Dl.cut cutV
 rw [six_eq,six_eq,length_map,map_take,map_drop]
theorem eok_sl {ta:TE}{tl th:TO}{fa:FE}{fl fh:FO}(ha:EOk K C E Γ Δ m S ta fa)(hl:OOk K C E Γ Δ tl fl)(hh:OOk K C E Γ Δ th fh):EOk K C E Γ Δ 2 [] (tSl (rSlL K) ta tl th) (Dl.fSl Dl.gSl fa fl fh):=
  fun H0 Hb H σ ρ A Q I p=>ha H0 Hb H σ ρ A _ I (p.bind.imp (fun x q vx H1 g1 r1=>hl H0 Hb H1 σ ρ A _ (I.mono g1) (q.bind.imp (fun lo q H2 g2=>hh H0 Hb H2 σ ρ A _ (I.mono (g1.trans g2)) (q.bind.imp (fun hi q H3 g3=>by
    obtain ⟨d,e,q⟩:=oR_ok q
    obtain ⟨B,r1,_⟩:=r1
    have r1:=r1.same (g2.trans g3)
    have g13:=g1.trans (g2.trans g3)
    have out:Out K C H3 d Q:=fun v H' B g4 r h1 h2=>q v H' (g13.trans g4) (Res.new r h1 fun a ha=>g13.free (h2 a ha))
    unfold Dl.gSl at e
    split at e
    · split at e
      · rename_i hf
        cases e
        obtain ⟨a,ys,B,rfl,e2,e3,_⟩:=r1
        exact rd_slL (SqL.of e2) fun p hp=>Out.lst out (e3.cut hf _ _) hp
      · cases e
    · cases e
      obtain ⟨a,rfl,e2,_⟩:=r1
      refine rd_slL e2.sq fun p hp=>?_
      rw [cut_ints]
      exact Out.lst out RpA.ints hp
    · cases e) fun c x q H' g'=>q H' ((g1.trans g2).trans g'))) fun c x q H' g'=>q H' (g1.trans g'))) fun c x q H' g'=>q H' g')
theorem eok_lrev {ta:TE}{fa:FE}(ha:EOk K C E Γ Δ m1 S1 ta fa):EOk K C E Γ Δ 2 [] (tLRev K ta) (Dl.f1 Dl.gLRev fa):=
  fun H0 Hb H σ ρ A Q I p=>ha H0 Hb H σ ρ A _ I (p.bind.imp (fun x q vx H1 g1 r1=>by
    obtain ⟨d,e,q⟩:=oR_ok q
    obtain ⟨Bx,r1,_⟩:=r1
    have out:Out K C H1 d Q:=fun v H' B g4 r h1 h2=>q v H' (g1.trans g4) (Res.new r h1 fun a ha=>g1.free (h2 a ha))
    unfold Dl.gLRev at e
    split at e
    · split at e
      · rename_i hf
        cases e
        obtain ⟨a,ys,B,rfl,e2,e3,_⟩:=r1
        exact ⟨a,ys,rfl,SqL.of e2,fun p hp=>Out.lst out (RpA.flatRev hf e3) hp⟩
      · cases e
    · cases e) fun c x q H' g'=>q H' g')
end
section
variable {K:Frag}{C:String→Addr}{E:XK}{Γ Δ Γ' Δ' Γ1 Δ1 Γl Δl:List Nat}{m m1 m2 m3 mr:Nat}{S S1 S2 S3:List (Nat×Bool)}{H:Hp}{Q:VK}
theorem tok_of {t:TE}{f:FE}(h:EOk K C E Γ Δ m S t f):∀(H0 Hb H:Hp) (σ:St) (ρ:DEnv) (A:Nat→List Addr) (Q:Bool→Hp→Prop),EnvOk K C H0 Hb H Γ Δ σ ρ A→
    Post (Dl.cE f ρ) (fun b=>∀H',Same H H'→Q b H') (fun c x=>∀H',Same H H'→EC C E c x H')→t σ H fun x H'=>∃k,x=.bl k∧Q k H':=fun H0 Hb H σ ρ A Q I p=>h H0 Hb H σ ρ A _ I (p.bind.imp (fun d q v H' g r=>by
  obtain ⟨B,r,_⟩:=r
  cases d with
  | bl b =>
    obtain ⟨rfl,_⟩:=r
    exact ⟨b,rfl,q H' g⟩
  | _=>exact q.elim) fun c x q H' g'=>q H' g')
theorem tok_test {t:TE}{f:FE}(h:EOk K C E Γ Δ m S t f):TOk K C E Γ Δ (tTest t) (Dl.cE f):=tok_of h
theorem tok_B {t:TE}{f:FE}(h:EOk K C E Γ Δ m S t f):TOk K C E Γ Δ (tB t) (Dl.cE f):=tok_of h
theorem tok_not {t:TT}{f:FT}(h:TOk K C E Γ Δ t f):TOk K C E Γ Δ (tNot t) (Dl.cNot f):=fun H0 Hb H σ ρ A Q I p=>h H0 Hb H σ ρ A _ I (p.bind.imp (fun b q H' g=>q H' g) fun c x q H' g'=>q H' g')
theorem tok_and {t u:TT}{f g:FT}(h:TOk K C E Γ Δ t f)(h':TOk K C E Γ Δ u g):TOk K C E Γ Δ (tAnd t u) (Dl.cAnd f g):=fun H0 Hb H σ ρ A Q I p=>h H0 Hb H σ ρ A _ I (p.bind.imp (fun b q H' g'=>by
  cases b with
  | true=>exact h' H0 Hb H' σ ρ A Q (I.mono g') (Post.imp q (fun b q H2 g2=>q H2 (g'.trans g2)) fun c x q H2 g2=>q H2 (g'.trans g2))
  | false=>exact q H' g') fun c x q H' g'=>q H' g')
theorem tok_or {t u:TT}{f g:FT}(h:TOk K C E Γ Δ t f)(h':TOk K C E Γ Δ u g):TOk K C E Γ Δ (tOr t u) (Dl.cOr f g):=fun H0 Hb H σ ρ A Q I p=>h H0 Hb H σ ρ A _ I (p.bind.imp (fun b q H' g'=>by
  cases b with
  | false=>exact h' H0 Hb H' σ ρ A Q (I.mono g') (Post.imp q (fun b q H2 g2=>q H2 (g'.trans g2)) fun c x q H2 g2=>q H2 (g'.trans g2))
  | true=>exact q H' g') fun c x q H' g'=>q H' g')
theorem tok_yes:TOk K C E Γ Δ tYes Dl.cYes:=fun _ _ H _ _ _ _ _ p=>p H (Same.refl _)
theorem EOk.run {t:TE}{f:FE}(h:EOk K C E Γ Δ m S t f){H0 Hb H H1:Hp}{σ:St}{ρ:DEnv}{A:Nat→List Addr}{Q:VK}(I:EnvOk K C H0 Hb H Γ Δ σ ρ A)(g:Same H H1)
  (p:Post (f ρ) (fun d=>∀v H',Same H H'→Res K C m S H A d v H'→Q v H') (fun c x=>∀H',Same H H'→EC C E c x H')):t σ H1 Q:=
 h H0 Hb H1 σ ρ A Q (I.mono g) (p.imp (fun d q v H2 g2 r=>q v H2 (g.trans g2) (r.later g (Same.refl _))) fun c x q H2 g2=>q H2 (g.trans g2))
theorem eok_and {ta tb:TE}{fa fb:FE}(ha:EOk K C E Γ Δ m1 S1 ta fa)(hb:EOk K C E Γ Δ m S tb fb):EOk K C E Γ Δ m S (tAndV ta tb) (Dl.fAnd fa fb):=fun H0 Hb H σ ρ A Q I p=>ha H0 Hb H σ ρ A _ I (p.bind.imp (fun d q v H' g r=>by
  obtain ⟨B,r,_⟩:=r
  cases d with
  | bl b =>
    obtain ⟨rfl,_⟩:=r
    refine ⟨b,rfl,?_⟩
    cases b with
    | true=>exact hb.run I g q
    | false=>exact q _ H' g (Res.flat rpB)
  | _=>exact q.elim) fun c x q H' g'=>q H' g')
theorem eok_not {ta:TE}{fa:FE}(ha:EOk K C E Γ Δ m1 S1 ta fa):EOk K C E Γ Δ 2 [] (tNotV ta) (Dl.f1 Dl.gNot fa):=fun H0 Hb H σ ρ A Q I p=>ha H0 Hb H σ ρ A _ I (p.bind.imp (fun d q v H' g r=>by
  obtain ⟨B,r,_⟩:=r
  cases d with
  | bl b =>
    obtain ⟨rfl,_⟩:=r
    exact ⟨b,rfl,q _ H' g (Res.flat rpB)⟩
  | _=>exact q.elim) fun c x q H' g'=>q H' g')
theorem eok_chain {r r':R2}{g g':D→D→Option D}{ta tb tc:TE}{fa fb fc:FE}(hg:GOk K C r g)(hg':GOk K C r' g')(hbl:∀x y d,g x y=some d→∃b,d=.bl b)(ha:EOk K C E Γ Δ m1 S1 ta fa)(hb:EOk K C E Γ Δ m2 S2 tb fb)(hc:EOk K C E Γ Δ m3 S3 tc fc) :
    EOk K C E Γ Δ 2 [] (tChain r r' ta tb tc) (Dl.fChain g g' fa fb fc):=
  fun H0 Hb H σ ρ A Q I p=>ha H0 Hb H σ ρ A _ I (p.bind.imp (fun x q vx H1 g1 r1=>hb H0 Hb H1 σ ρ A _ (I.mono g1) (q.bind.imp (fun y q vy H2 g2 r2=>by
    obtain ⟨z,e,q⟩:=oR_ok q.bind
    obtain ⟨Bx,r1,_⟩:=r1
    obtain ⟨By,r2,_⟩:=r2
    obtain ⟨b,rfl⟩:=hbl _ _ _ e
    refine hg H2 x y _ vx vy Bx By _ (r1.same g2) r2 e fun v H3 B g3 r3 _ _=>?_
    obtain ⟨rfl,_⟩:=r3
    refine ⟨b,rfl,?_⟩
    have g03:=g1.trans (g2.trans g3)
    cases b with
    | false=>exact q _ H3 g03 (Res.flat rpB)
    | true =>
      refine hc H0 Hb H3 σ ρ A _ (I.mono g03) (q.bind.imp (fun w q vw H4 g4 r4=>?_) fun c x q H' g'=>q H' (g03.trans g'))
      obtain ⟨d,e',q⟩:=oR_ok q
      obtain ⟨Bw,r4,_⟩:=r4
      exact hg' H4 y w d vy vw By Bw Q (r2.same (g3.trans g4)) r4 e' fun v H' B g5 r5 h1 h2=>q v H' (g03.trans (g4.trans g5)) (Res.new r5 h1 fun a ha=>(g03.trans g4).free (h2 a ha)))
    fun c x q H' g'=>q H' (g1.trans g'))) fun c x q H' g'=>q H' g')
theorem bl_lt {x y d:D}(h:Dl.gLt x y=some d):∃b,d=.bl b:=by unfold Dl.gLt at h;split at h<;>cases h;exact ⟨_,rfl⟩
theorem bl_le {x y d:D}(h:Dl.gLe x y=some d):∃b,d=.bl b:=by unfold Dl.gLe at h;split at h<;>cases h;exact ⟨_,rfl⟩
noncomputable def spD (K:Frag)(C:String→Addr)(n mr:Nat)(F:List D→R D):Sp:=fun vs H Q E=>∃ds B,ds.length=n∧RpA K C H ds vs B∧
 Post (F ds) (fun d=>∀v H',Same H H'→Res K C mr [] H (fun _=>[]) d v H'→Q v H') (fun c x=>∀H',Same H H'→EC C E c x H')
theorem InS.none {A:Nat→List Addr}{a:Addr}(h:InS A [] a):False:=by
 obtain ⟨p,hp,_⟩:=h
 cases hp
theorem Res.reA {H H':Hp}{A A':Nat→List Addr}{d:D}{v:V}(r:Res K C m [] H A d v H'):Res K C m S H A' d v H':=by
 obtain ⟨B,r1,r2,r3,r4⟩:=r
 exact ⟨B,r1,fun a ha=>(r2 a ha).imp id fun h=>h.none.elim,r3,r4⟩
theorem eok_call {n:Nat}{F:List D→R D}{t:TA}{f:FA}(ha:AOk K C E Γ Δ m S t f)(hn:∀ρ ds,f ρ=.ok ds→ds.length=n):EOk K C E Γ Δ mr [] (tCall (spD K C n mr F) [] E t) (Dl.fCall F f):=
  fun H0 Hb H σ ρ A Q I p=>rd_call (ha H0 Hb H σ ρ A _ I (by
    have p':=p.bind
    cases e:f ρ with
    | bad=>rw [e] at p';exact p'
    | err c x=>rw [e] at p';exact p'
    | ok ds =>
      rw [e] at p'
      intro vs H1 g1 r1
      obtain ⟨B,r1,_⟩:=r1
      exact ⟨ds,B,hn ρ ds e,r1,Post.imp p' (fun d q v H' g2 r=>q v H' (g1.trans g2) ((r.later g1 (Same.refl _)).reA)) fun c x q H' g'=>q H' (g1.trans g')⟩))
theorem len_nil (ρ:DEnv)(ds:List D)(h:Dl.aNil ρ=.ok ds):ds.length=0:=by cases h;rfl
theorem len_cons {n:Nat}{fe:FE}{f:FA}(hf:∀ρ ds,f ρ=.ok ds→ds.length=n)(ρ:DEnv)(ds:List D)(h:Dl.aCons fe f ρ=.ok ds):ds.length=n+1:=by
 unfold Dl.aCons at h
 cases e:fe ρ with
 | ok x =>
  rw [e] at h
  cases e':f ρ with
  | ok xs =>
   rw [e'] at h
   cases h
   rw [length_cons,hf ρ xs e']
  | err c x=>rw [e'] at h;cases h
  | bad=>rw [e'] at h;cases h
 | err c x=>rw [e] at h;cases h
 | bad=>rw [e] at h;cases h
def Goes (K:Frag)(C:String→Addr)(J:It)(ds:List D)(Hb:Hp):Prop:=∀H2,Same Hb H2→(∀i,i<ds.length→J.go i H2)∧(∀i,ds.length≤i→J.stop i H2)∧
 ∀i x H3,i<ds.length→J.yld i H2 x H3→Same H2 H3∧∃d B,ds[i]?=some d∧Rp K C H3 d x B∧∀a∈B,Hb a≠none
def IOk (K:Frag)(C:String→Addr)(E:XK)(Γ Δ:List Nat)(S:List (Nat×Bool))(wi:TI)(f:FI):Prop:=∀(H0 Hb H:Hp) (σ:St) (ρ:DEnv) (A:Nat→List Addr) (Rr:It→Hp→Prop),EnvOk K C H0 Hb H Γ Δ σ ρ A→
  Post (f ρ) (fun ds=>∀J H' W,Same H H'→(∀a∈W,(∃o,H' a=some o∧IsM o)∧(H a=none∨InS A S a))→ds.length≤Dl.lim→
    (∀Hc,Agree W H' Hc→Goes K C J ds Hc)→Rr J H') (fun c x=>∀H',Same H H'→EC C E c x H')→wi σ H Rr
theorem goes_of {J:It}{ds:List D}{vs:List V}{B:List Addr}{Hc:Hp}(r:RpA K C Hc ds vs B)(h:∀H2,Same Hc H2→(∀i,i<vs.length→J.go i H2)∧(∀i,vs.length≤i→J.stop i H2)∧∀i x H3,J.yld i H2 x H3→H3=H2∧(i<vs.length→vs[i]?=some x)):Goes K C J ds Hc:=fun H2 g=>by
 obtain ⟨h1,h2,h3⟩:=h H2 g
 have hl:=r.len
 refine ⟨fun i hi=>h1 i (by omega),fun i hi=>h2 i (by omega),fun i x H3 hi y=>?_⟩
 obtain ⟨e,y2⟩:=h3 i x H3 y
 subst e
 obtain ⟨d,Bd,q1,q2,q3⟩:=r.get' (y2 (by omega))
 refine ⟨Same.refl _,d,Bd,q1,q2.same g,fun a ha z=>?_⟩
 obtain ⟨xs,e,_⟩:=q2.isl a ha
 rw [e] at z
 cases z
theorem goes_list {a:Addr}{ds:List D}{vs:List V}{B:List Addr}{Hc:Hp}(r:RpA K C Hc ds vs B)(h:∀H2,Same Hc H2→SqL K H2 a vs):Goes K C (Itl K a) ds Hc:=goes_of r fun H2 g=>by
 have q:=h H2 g
 exact ⟨fun i hi=>⟨vs,vs[i],q,by simp [hi]⟩,fun i hi=>⟨vs,q,hi⟩,fun i x H3 y=>⟨y.1,fun _=>y.2 vs q⟩⟩
theorem goes_rng {lo:Int}{n:Nat}{Hc:Hp}:Goes K C (Itr lo n) (Dl.rngL lo n) Hc:=goes_of (vs:=rngV lo n) RpA.rng fun H2 _=>by
 have hl:(rngV lo n).length=n:=by simp [rngV]
 refine ⟨fun i hi=>by rw [hl] at hi;exact hi,fun i hi=>by rw [hl] at hi;exact hi,fun i x H3 y=>⟨y.1,fun hi=>?_⟩⟩
 rw [hl] at hi
 rw [y.2]
 simp [rngV,hi]
theorem FzL.keep {a:Addr}{xs:List V}{H Hb:Hp}(h:FzL K H a xs)(hk:∀b o,H b=some o→¬IsM o→Hb b=some o):FzL K Hb a xs:=by
 rcases h with ⟨o,h⟩ | h
 ·exact .inl ⟨o,hk a _ h (fun z=>by cases z)⟩
 ·exact .inr h
theorem FzL.same {a:Addr}{xs:List V}{H Hb:Hp}(h:FzL K H a xs)(g:Same H Hb):FzL K Hb a xs:=h.keep fun b o q _=>g b o q
theorem iok_list {t:TE}{f:FE}(h:EOk K C E Γ Δ m S t f):IOk K C E Γ Δ S (iList K t) (Dl.jList f):=fun H0 Hb H σ ρ A Rr I p=>h H0 Hb H σ ρ A _ I (p.bind.imp (fun d q v H' g r=>by
  obtain ⟨B,r,r',_⟩:=r
  cases d with
  | lst ds =>
    obtain ⟨a,xs,B',rfl,e2,e3,e4⟩:=r
    subst e4
    simp only at q
    split at q
    · rename_i hl
      refine ⟨a,rfl,⟨xs,SqL.of e2⟩,q _ H' (a::B') g (fun b hb=>?_) hl fun Hc h1=>goes_list (e3.agree h1 fun b hb=>.tail _ hb) fun H2 g2=>SqL.of (g2 _ _ ((h1.1 a (.head _)).trans e2))⟩
      rcases List.mem_cons.mp hb with z | z
      · rw [z]
        exact ⟨⟨_,e2,.lst⟩,r' a (.head _)⟩
      · exact ⟨e3.isl b z,r' b (.tail _ z)⟩
    · exact q.elim
  | scr ns =>
    obtain ⟨a,rfl,e2,_⟩:=r
    simp only at q
    split at q
    · rename_i hl
      exact ⟨a,rfl,⟨_,e2.sq⟩,q _ H' [] g (fun b hb=>nomatch hb) (by rw [length_map];exact hl) fun Hc h2=>goes_list RpA.ints fun H2 g2=>((e2.keep h2.2).same g2).sq⟩
    · exact q.elim
  | _=>exact q.elim) fun c x q H' g'=>q H' g')
theorem rngL_len (lo:Int)(n:Nat):(Dl.rngL lo n).length=n:=by simp [Dl.rngL]
theorem iok_rng1 {t:TA}{f:FA}(h:AOk K C E Γ Δ m S t f):IOk K C E Γ Δ [] (iRng1 t) (Dl.jRng1 f):=fun H0 Hb H σ ρ A Rr I p=>h H0 Hb H σ ρ A _ I (p.bind.imp (fun ds q vs H' g r=>by
  obtain ⟨B,r,_⟩:=r
  split at q
  · split at q
    · rename_i hl
      obtain ⟨v,rfl,r1⟩:=r.one'
      obtain ⟨rfl,_⟩:=r1
      exact ⟨_,rfl,by omega,by omega,q _ H' [] g (fun b hb=>nomatch hb) (by rw [rngL_len];show _≤1000000;omega) fun Hc _=>goes_rng⟩
    · exact q.elim
  · exact q.elim) fun c x q H' g'=>q H' g')
theorem comp_gen {J:It}{ds:List D}{Hc H:Hp}{Dd:Addr}{k:Nat}{g:TG}{tc:TT}{te:TE}{σ:St}{Rr:Hp→Prop}(go:Goes K C J ds Hc)(Pv:Nat→Hp→Prop)(h0:Pv 0 (upd H Dd (.lst [])))(hb:∀i H,Pv i H→Same Hc H)
    (hs:∀i d x B H H3,ds[i]?=some d→Pv i H→Same H H3→Rp K C H3 d x B→(∀a∈B,Hc a≠none)→∀os:St,os.length=k→g x (σ++os) H3 fun σ' Hg=>(∃os',os'.length=k∧σ'=σ++os')∧tc σ' Hg fun b H2=>if b=true then te σ' H2 fun v H3=>∃ys,H3 Dd=some (.lst ys)∧ys.length<sizeLine∧Pv (i+1) (upd H3 Dd (.lst (ys++[v]))) else Pv (i+1) H2)
    (hd:∀H,Pv ds.length H→Rr H) :
    ∃W:Nat→Nat→Hp→Prop,(∃m,W 0 m (upd H Dd (.lst [])))∧∀i m H,W i m H→
      (J.stop i H∧Rr H)∨(J.go i H∧∃N:Hp→Prop,(∀H',N H'→∃m',m'<m∧W (i+1) m' H')∧∀x H',J.yld i H x H'→∀os:St,os.length=k→g x (σ++os) H' fun σ' Hg=>(∃os',os'.length=k∧σ'=σ++os')∧tc σ' Hg fun b H2 =>
        if b=true then te σ' H2 fun v H3=>∃ys,H3 Dd=some (.lst ys)∧ys.length<sizeLine∧N (upd H3 Dd (.lst (ys++[v])))
        else N H2):=by
  refine ⟨fun i m H=>m=ds.length - i∧i≤ds.length∧Pv i H,⟨ds.length,by simp,zero_le _,h0⟩,?_⟩
  rintro i m H1 ⟨rfl,hi,p⟩
  obtain ⟨g1,g2,g3⟩:=go H1 (hb i H1 p)
  by_cases hlt:i<ds.length
  · refine .inr ⟨g1 i hlt,Pv (i+1),fun H' p'=>⟨ds.length - (i+1),by omega,rfl,hlt,p'⟩,fun x H' y=>?_⟩
    obtain ⟨e,d,B,y1,y2,y3⟩:=g3 i x H' hlt y
    exact hs i d x B H1 H' y1 p e y2 y3
  · have e:i=ds.length:=by omega
    subst e
    exact .inl ⟨g2 _ (le_refl _),hd H1 p⟩
theorem for_gen {J:It}{ds:List D}{Hc H:Hp}{g:TG}{tb:TS}{Dd:Ends}{σ:St}(go:Goes K C J ds Hc)(Pv:Nat→St→Hp→Prop)(h0:Pv 0 σ H)(hb:∀i σ H,Pv i σ H→Same Hc H)
  (hs:∀i d x B σ H H3,ds[i]?=some d→Pv i σ H→Same H H3→Rp K C H3 d x B→(∀a∈B,Hc a≠none)→g x σ H3 fun σ2 H2=>tb {Dd with nx:=Pv (i+1),ct:=Pv (i+1),bk:=Dd.nx} σ2 H2) (hd:∀σ H,Pv ds.length σ H→Dd.nx σ H) :
  ∃W:Nat→Nat→St→Hp→Prop,(∃m,W 0 m σ H)∧∀i m σ H,W i m σ H→
   (J.stop i H∧Dd.nx σ H)∨(J.go i H∧∃N:St→Hp→Prop,(∀σ' H',N σ' H'→∃m',m'<m∧W (i+1) m' σ' H')∧∀x H',J.yld i H x H'→g x σ H' fun σ2 H2=>tb {Dd with nx:=N,ct:=N,bk:=Dd.nx} σ2 H2):=by
 refine ⟨fun i m σ H=>m=ds.length - i∧i≤ds.length∧Pv i σ H,⟨ds.length,by simp,zero_le _,h0⟩,?_⟩
 rintro i m σ H1 ⟨rfl,hi,p⟩
 obtain ⟨g1,g2,g3⟩:=go H1 (hb i σ H1 p)
 by_cases hlt:i<ds.length
 ·refine .inr ⟨g1 i hlt,Pv (i+1),fun σ' H' p'=>⟨ds.length - (i+1),by omega,rfl,hlt,p'⟩,fun x H' y=>?_⟩
  obtain ⟨e,d,B,y1,y2,y3⟩:=g3 i x H' hlt y
  exact hs i d x B σ H1 H' y1 p e y2 y3
 ·have e:i=ds.length:=by omega
  subst e
  exact .inl ⟨g2 _ (le_refl _),hd σ H1 p⟩
theorem EnvOk.more {H0 Hb H:Hp}{σ:St}{ρ:DEnv}{A:Nat→List Addr}(I:EnvOk K C H0 Hb H Γ Δ σ ρ A)(os:St):EnvOk K C H H H [] [] (σ++os) (ρ++List.replicate os.length none) A:=by
 refine ⟨Same.refl _,Same.refl _,by rw [length_append,length_append,I.len,List.length_replicate],fun i e h=>?_,fun i h=>?_,(fun _ h=>nomatch h),(fun _ h=>nomatch h),(fun _ h=>nomatch h)⟩
 ·by_cases hi:i<ρ.length
  ·rw [getElem?_append_left hi] at h
   obtain ⟨w,q1,q2⟩:=I.rep i e h
   refine ⟨w,?_,q2⟩
   rw [getElem?_append_left (by rw [I.len];exact hi)]
   exact q1
  ·rw [getElem?_append_right (by omega)] at h
   have hm:=mem_of_getElem? h
   rw [List.mem_replicate] at hm
   exact absurd hm.2 (by intro z;cases z)
 ·refine I.nil i fun e h'=>h e ?_
  rw [getElem?_append_left (List.getElem?_eq_some_iff.mp h').1]
  exact h'
def NOk (K:Frag)(C:String→Addr)(n k:Nat)(g:TG)(b:FB):Prop:=∀(H:Hp) (σ os:St) (ρ:DEnv) (A:Nat→List Addr) (d:D) (v:V) (B:List Addr) (Rr:St→Hp→Prop),σ.length=n→os.length=k→EnvOk K C H H H [] [] (σ++os) ρ A→Rp K C H d v B→
 Post (b d ρ) (fun ρ'=>∀os' A',os'.length=k→EnvOk K C H H H [] [] (σ++os') ρ' A'→Rr (σ++os') H) (fun _ _=>False)→g v (σ++os) H Rr
def NsOk (K:Frag)(C:String→Addr)(n k:Nat)(g:TGs)(b:List D→DEnv→R DEnv):Prop:=∀(H:Hp) (σ os:St) (ρ:DEnv) (A:Nat→List Addr) (d:List D) (v:List V) (B:List Addr) (Rr:St→Hp→Prop),σ.length=n→os.length=k→EnvOk K C H H H [] [] (σ++os) ρ A→RpA K C H d v B→
 Post (b d ρ) (fun ρ'=>∀os' A',os'.length=k→EnvOk K C H H H [] [] (σ++os') ρ' A'→Rr (σ++os') H) (fun _ _=>False)→g v (σ++os) H Rr
theorem comp_split (k:Nat)(b:FB)(c:FT)(e:FE)(ρ:DEnv)(xs:List D){i:Nat}{x:D}(h:xs[i]?=some x):Dl.compN k b c e ρ (xs.drop i)=(b x (ρ++List.replicate k none)).calm.bind fun ρ1=>(c ρ1).bind fun t=>if t then (e ρ1).bind fun y=>(Dl.compN k b c e ρ (xs.drop (i+1))).bind fun ys=>.ok (y::ys) else Dl.compN k b c e ρ (xs.drop (i+1)):=by
 obtain ⟨hi,rfl⟩:=List.getElem?_eq_some_iff.mp h
 rw [drop_eq_getElem_cons hi]
 rfl
theorem calm_of {α:Type}{r:R α}{ok:α→Prop}{er:String→Option Int→Prop}(h:Post r.calm ok er):Post r ok (fun _ _=>False):=by
 cases r with
 | ok a=>exact h
 | err c x=>exact h
 | bad=>exact h
theorem get_set {α:Type}{l:List α}{i j:Nat}{x y:α}(h:(l.set i x)[j]?=some y):(j=i∧i<l.length∧y=x)∨(j≠i∧l[j]?=some y):=by
 by_cases e:i=j
 ·subst e
  rw [List.getElem?_set_self'] at h
  by_cases hi:i<l.length
  ·rw [getElem?_eq_getElem hi] at h
   simp at h
   exact .inl ⟨rfl,hi,h.symm⟩
  ·rw [List.getElem?_eq_none (by omega)] at h
   cases h
 ·rw [getElem?_set_ne e] at h
  exact .inr ⟨fun z=>e z.symm,h⟩
theorem EnvOk.put {H0 Hb H:Hp}{σ:St}{ρ:DEnv}{A:Nat→List Addr}{i:Nat}{d:D}{v:V}{B:List Addr}(I:EnvOk K C H0 Hb H Γ Δ σ ρ A)(r:Rp K C H d v B)
  (h1:∀j∈Γ',j≠i→j∈Γ∧∀a l,A j=a::l→a∉B)
  (h2:i∈Γ'→(∀a∈B,H0 a=none)∧∀a l,B=a::l→Hb a=none∧a∉l∧∀j,j≠i→a∉A j)
  (h3:∀j∈Δ',j≠i→j∈Δ∧∀a∈A j,a∉B)
  (h4:i∈Δ'→B.Nodup∧(∀j,j≠i→∀a∈B,a∉A j)∧∀a∈B,Hb a=none):∃A',EnvOk K C H0 Hb H Γ' Δ' (σ.set i (some v)) (ρ.set i (some d)) A'∧∀j a,a∈A' j→a∈B∨a∈A j:=by
 by_cases hi:i<ρ.length
 ·refine ⟨fun j=>if j=i then B else A j,⟨I.s0,I.same,by rw [length_set,length_set,I.len],fun j e h=>?_,fun j h=>?_,fun j hj a ha=>?_,fun j hj a l e=>?_,fun j hj=>?_⟩,fun j a ha=>?_⟩
  ·rcases get_set h with ⟨e1,_,e2⟩ | ⟨e1,e2⟩
   ·subst e1
    cases e2
    refine ⟨v,?_,by rw [if_pos rfl];exact r⟩
    rw [getElem?_set_self (by rw [I.len];exact hi)]
   ·obtain ⟨w,q1,q2⟩:=I.rep j e e2
    refine ⟨w,?_,by rw [if_neg e1];exact q2⟩
    rw [getElem?_set_ne (fun z=>e1 z.symm)]
    exact q1
  ·by_cases e:j=i
   ·subst e
    exact absurd (getElem?_set_self hi) (h d)
   ·rw [if_neg e]
    refine I.nil j fun x hx=>h x ?_
    rw [getElem?_set_ne (fun z=>e z.symm)]
    exact hx
  ·by_cases e:j=i
   ·subst e
    rw [if_pos rfl] at ha
    exact (h2 hj).1 a ha
   ·rw [if_neg e] at ha
    exact I.loc j (h1 j hj e).1 a ha
  ·by_cases e':j=i
   ·subst e'
    rw [if_pos rfl] at e
    obtain ⟨q0,q1,q2⟩:=(h2 hj).2 a l e
    refine ⟨q0,q1,fun k hk=>?_⟩
    rw [if_neg hk]
    exact q2 k hk
   ·rw [if_neg e'] at e
    obtain ⟨q0,q⟩:=h1 j hj e'
    obtain ⟨q3,q1,q2⟩:=I.top j q0 a l e
    refine ⟨q3,q1,fun k hk=>?_⟩
    by_cases ek:k=i
    ·rw [if_pos ek];exact q a l e
    ·rw [if_neg ek];exact q2 k hk
  ·by_cases e:j=i
   ·subst e
    rw [if_pos rfl]
    obtain ⟨q1,q2,q3⟩:=h4 hj
    refine ⟨q1,fun k hk a ha=>?_,q3⟩
    rw [if_neg hk]
    exact q2 k hk a ha
   ·rw [if_neg e]
    obtain ⟨q0,q⟩:=h3 j hj e
    obtain ⟨q1,q2,q3⟩:=I.deep j q0
    refine ⟨q1,fun k hk a ha=>?_,q3⟩
    by_cases ek:k=i
    ·rw [if_pos ek];exact q a ha
    ·rw [if_neg ek];exact q2 k hk a ha
  ·have ha:a∈(if j=i then B else A j):=ha
   by_cases e:j=i
   ·rw [if_pos e] at ha;exact .inl ha
   ·rw [if_neg e] at ha;exact .inr ha
 ·have e1:ρ.set i (some d)=ρ:=List.set_eq_of_length_le (by omega)
  have e2:σ.set i (some v)=σ:=List.set_eq_of_length_le (by rw [I.len];omega)
  have e3:A i=[]:=I.nil i fun x h=>by
   have:=(List.getElem?_eq_some_iff.mp h).1
   omega
  refine ⟨A,?_,fun j a ha=>.inr ha⟩
  rw [e1,e2]
  refine ⟨I.s0,I.same,I.len,I.rep,I.nil,fun j hj a ha=>?_,fun j hj a l e=>?_,fun j hj=>?_⟩
  ·by_cases e:j=i
   ·subst e;rw [e3] at ha;cases ha
   ·exact I.loc j (h1 j hj e).1 a ha
  ·by_cases e':j=i
   ·subst e';rw [e3] at e;cases e
   ·exact I.top j (h1 j hj e').1 a l e
  ·by_cases e:j=i
   ·subst e
    rw [e3]
    exact ⟨nodup_nil,fun _ _ _ h=>(nomatch h),fun _ h=>(nomatch h)⟩
   ·exact I.deep j (h3 j hj e).1
theorem EnvOk.writeO {H0 Hb H:Hp}{σ:St}{ρ:DEnv}{A:Nat→List Addr}{i:Nat}{es:List D}{ys:List V}{o':HO}{d':D}{B':List Addr}{a:Addr}{l:List Addr}(I:EnvOk K C H0 Hb H Γ Δ σ ρ A)(hi:i∈Γ)(hA:A i=a::l)(hl:i<ρ.length)(hs:σ[i]?=some (some (.ref a)))
  (mk:∀H',H' a=some o'→RpA K C H' es ys B'→Rp K C H' d' (.ref a) (a::B')) (r:RpA K C H es ys B') (hn:∀b∈B',H0 b=none) (ha:a∉B')
  (h1:∀j∈Γ',j≠i→j∈Γ∧∀b l,A j=b::l→b∉B')
  (h2:∀j∈Δ',j≠i→j∈Δ∧∀b∈A j,b∉B')
  (h3:i∈Δ'→B'.Nodup∧(∀j,j≠i→∀b∈B',b∉A j)∧∀b∈B',Hb b=none):∃A',EnvOk K C H0 Hb (upd H a o') Γ' Δ' σ (ρ.set i (some d')) A':=by
 obtain ⟨xs,hxs,hm⟩:=I.is (j:=i) (a:=a) (by rw [hA];exact .head _)
 have hne:∀j,j≠i→a∉A j:=(I.top i hi a l hA).2.2
 have hb0:Hb a=none:=(I.top i hi a l hA).1
 have h0:H0 a=none:=I.loc i hi a (by rw [hA];exact .head _)
 have ext:Ext (fun b=>b=a) H (upd H a o'):=fun b o h=>by
  by_cases e:b=a
  ·subst e
   rw [hxs] at h
   cases h
   exact .inr ⟨rfl,hm⟩
  ·rw [upd_ne e]
   exact .inl h
 refine ⟨fun j=>if j=i then a::B' else A j,I.s0,fun b o h=>?_,by rw [length_set,I.len],fun j e h=>?_,fun j h=>?_,fun j hj b hb=>?_,fun j hj b l' e=>?_,fun j hj=>?_⟩
 ·rw [upd_ne (ne_of_none h hb0)]
  exact I.same b o h
 ·rcases get_set h with ⟨e1,_,e2⟩ | ⟨e1,e2⟩
  ·subst e1
   cases e2
   refine ⟨.ref a,hs,?_⟩
   rw [if_pos rfl]
   exact mk _ upd_same (r.ext ext (fun b hb h=>ha (by rw [h] at hb;exact hb)))
  ·obtain ⟨w,q1,q2⟩:=I.rep j e e2
   refine ⟨w,q1,?_⟩
   rw [if_neg e1]
   exact q2.ext ext fun b hb h=>hne j e1 (by rw [h] at hb;exact hb)
 ·by_cases e:j=i
  ·subst e
   exact absurd (getElem?_set_self hl) (h _)
  ·rw [if_neg e]
   refine I.nil j fun x hx=>h x ?_
   rw [getElem?_set_ne (fun z=>e z.symm)]
   exact hx
 ·by_cases e:j=i
  ·subst e
   rw [if_pos rfl] at hb
   rcases List.mem_cons.mp hb with z | z
   ·rw [z];exact h0
   ·exact hn b z
  ·rw [if_neg e] at hb
   exact I.loc j (h1 j hj e).1 b hb
 ·by_cases e':j=i
  ·subst e'
   rw [if_pos rfl] at e
   cases e
   refine ⟨hb0,ha,fun k hk=>?_⟩
   rw [if_neg hk]
   exact hne k hk
  ·rw [if_neg e'] at e
   obtain ⟨q0,q⟩:=h1 j hj e'
   obtain ⟨q3,q1,q2⟩:=I.top j q0 b l' e
   refine ⟨q3,q1,fun k hk=>?_⟩
   by_cases ek:k=i
   ·rw [if_pos ek]
    intro z
    rcases List.mem_cons.mp z with z | z
    ·exact hne j e' (by rw [e,z];exact .head _)
    ·exact q b l' e z
   ·rw [if_neg ek];exact q2 k hk
 ·by_cases e:j=i
  ·subst e
   rw [if_pos rfl]
   obtain ⟨q1,q2,q3⟩:=h3 hj
   refine ⟨List.nodup_cons.mpr ⟨ha,q1⟩,fun k hk b hb=>?_,fun b hb=>?_⟩
   ·rw [if_neg hk]
    rcases List.mem_cons.mp hb with z | z
    ·rw [z];exact hne k hk
    ·exact q2 k hk b z
   ·rcases List.mem_cons.mp hb with z | z
    ·rw [z];exact hb0
    ·exact q3 b z
  ·rw [if_neg e]
   obtain ⟨q0,q⟩:=h2 j hj e
   obtain ⟨q1,q2,q3⟩:=I.deep j q0
   refine ⟨q1,fun k hk b hb=>?_,q3⟩
   by_cases ek:k=i
   ·rw [if_pos ek]
    intro z
    rcases List.mem_cons.mp z with z | z
    ·exact hne j e (by rw [← z];exact hb)
    ·exact q b hb z
   ·rw [if_neg ek];exact q2 k hk b hb
theorem EnvOk.write {H0 Hb H:Hp}{σ:St}{ρ:DEnv}{A:Nat→List Addr}{i:Nat}{es:List D}{ys:List V}{B':List Addr}{a:Addr}{l:List Addr}(I:EnvOk K C H0 Hb H Γ Δ σ ρ A)(hi:i∈Γ)(hA:A i=a::l)(hl:i<ρ.length)(hs:σ[i]?=some (some (.ref a)))
  (r:RpA K C H es ys B') (hn:∀b∈B',H0 b=none) (ha:a∉B')
  (h1:∀j∈Γ',j≠i→j∈Γ∧∀b l,A j=b::l→b∉B')
  (h2:∀j∈Δ',j≠i→j∈Δ∧∀b∈A j,b∉B')
  (h3:i∈Δ'→B'.Nodup∧(∀j,j≠i→∀b∈B',b∉A j)∧∀b∈B',Hb b=none):∃A',EnvOk K C H0 Hb (upd H a (.lst ys)) Γ' Δ' σ (ρ.set i (some (.lst es))) A':=I.writeO hi hA hl hs (fun _ q1 q2=>⟨a,_,_,rfl,q1,q2,rfl⟩) r hn ha h1 h2 h3
theorem nok_name {n k:Nat}(i:Nat)(h1:n≤i)(h2:i<n+k):NOk K C n k (gName i) (Dl.bName i):=fun H σ os ρ A d v B Rr hσ hos I r p=>by
 have e:(σ++os).set i (some v)=σ++os.set (i - n) (some v):=by rw [← hσ,set_append_right _ _ (by omega)]
 obtain ⟨A',I',_⟩:=I.put (Γ':=[]) (Δ':=[]) (i:=i) r (fun _ h=>nomatch h) (fun h=>nomatch h) (fun _ h=>nomatch h) (fun h=>nomatch h)
 show Rr ((σ++os).set i (some v)) H
 rw [e] at I' ⊢
 exact p _ A' (by rw [length_set];exact hos) I'
theorem nok_nil {n k:Nat}:NsOk K C n k gNil Dl.bNil:=fun H σ os ρ A d v B Rr hσ hos I r p=>by
 cases d with
 | nil=>exact ⟨r.1,p _ A hos I⟩
 | cons _ _=>exact p.elim
theorem nok_cons {n k:Nat}{g:TG}{gs:TGs}{b:FB}{bs:List D→DEnv→R DEnv}(h1:NOk K C n k g b)(h2:NsOk K C n k gs bs):NsOk K C n k (gCons g gs) (Dl.bCons b bs):=fun H σ os ρ A d v B Rr hσ hos I r p=>by
 cases d with
 | nil=>exact p.elim
 | cons d ds =>
  obtain ⟨x,l,B1,B2,e1,e2,e3,e4⟩:=r
  subst e1 e4
  exact ⟨x,l,rfl,h1 H σ os ρ A d x B1 _ hσ hos I e2 (Post.imp (Post.bind p) (fun ρ1 q os1 A1 ho1 I1=>h2 H σ os1 ρ1 A1 ds l B2 Rr hσ ho1 I1 e3 q) fun _ _ z=>z)⟩
theorem nok_tup {n k:Nat}{gs:TGs}{bs:List D→DEnv→R DEnv}{l:Nat}(hn:∀ds ρ ρ',bs ds ρ=.ok ρ'→ds.length=l)(h:NsOk K C n k gs bs):NOk K C n k (gTup K l gs) (Dl.bTup bs):=fun H σ os ρ A d v B Rr hσ hos I r p=>by
 cases d with
 | tup ds =>
  obtain ⟨a,xs,rfl,e2,e3⟩:=r
  have p':Post (bs ds ρ) (fun ρ'=>∀os' A',os'.length=k→EnvOk K C H H H [] [] (σ++os') ρ' A'→Rr (σ++os') H) (fun _ _=>False):=p
  have hl:xs.length=l:=by
   rw [e3.len]
   cases e:bs ds ρ with
   | ok ρ'=>exact hn ds ρ ρ' e
   | err _ _=>rw [e] at p';exact p'.elim
   | bad=>rw [e] at p';exact p'.elim
  exact ⟨a,xs,rfl,SqT.of e2,hl,h H σ os ρ A ds xs B Rr hσ hos I e3 p'⟩
 | _=>exact p.elim
theorem eok_comp {n k:Nat}{g:TG}{wi:TI}{tc:TT}{te:TE}{fi:FI}{fb:FB}{fc:FT}{fe:FE}(hi:IOk K C E Γ Δ S wi fi)(hg:NOk K C n k g fb)(hc:TOk K C E0 [] [] tc fc)(he:EOk K C E0 [] [] 2 [] te fe):EOk K C E Γ Δ 2 [] (tCompN k g wi tc te) (Dl.fComp n k fi fb fc fe):=fun H0 Hb H σ ρ A Q I p=>by
  unfold Dl.fComp at p
  split at p
  · rename_i hn
    refine hi H0 Hb H σ ρ A _ I (p.bind.imp (fun ds q J H1 W g1 hW hlen hJ Dd hD=>?_) fun c x q H' g'=>q H' g')
    have I1:=I.mono g1
    have go:Goes K C J ds H1:=hJ H1 ⟨fun _ _=>rfl,fun b o h _=>h⟩
    have q':=calm_of q.bind
    refine comp_gen go (fun i H2=>Same H1 H2∧∃(us:List D) (ys:List V) (B':List Addr),H2 Dd=some (.lst ys)∧us.length≤i∧RpA K C H2 us ys B'∧B'.Nodup∧Dd∉B'∧(∀a∈B',H1 a=none)∧
      Post (Dl.compN k fb fc fe ρ (ds.drop i)) (fun zs=>∀v H',Same H H'→Res K C 2 [] H A (.lst (us++zs)) v H'→Q v H') (fun _ _=>False)) ⟨sameNew hD _,[],[],[],upd_same,le_refl _,RpA.nil,nodup_nil,(fun h=>nomatch h),(fun _ h=>nomatch h),q'⟩ (fun _ _ h=>h.1) ?_ ?_
    · rintro i x v Bx H2a H2 hx ⟨g2a,us,ys,B',hD2,hul,ru,nd,hDB,hnew,pq⟩ g2b rx _ os hos
      have g2:=g2a.trans g2b
      have hil:=(List.getElem?_eq_some_iff.mp hx).1
      rw [comp_split _ _ _ _ _ _ hx] at pq
      have I2:=(I1.mono g2).more os
      have pq':=calm_of pq.bind
      rw [← hos] at pq'
      refine hg H2 σ os _ A x v Bx _ (by rw [I.len,hn]) hos I2 rx (pq'.imp (fun ρ1 pq os1 A1 ho1 I3=>⟨⟨os1,ho1,rfl⟩,?_⟩) fun _ _ z=>z)
      refine hc H2 H2 H2 _ _ _ _ I3 (pq.bind.imp (fun b pq H3 g3=>?_) fun _ _ z=>z.elim)
      have hD2':=g2b _ _ hD2
      have ru':=ru.same g2b
      cases b with
      | false =>
        simp only [Bool.false_eq_true,if_false] at pq ⊢
        rw [hos] at pq
        exact ⟨g2.trans g3,us,ys,B',g3 _ _ hD2',by omega,ru'.same g3,nd,hDB,hnew,pq⟩
      | true =>
        simp only [if_true] at pq ⊢
        refine he H2 H2 H3 _ _ _ _ (I3.mono g3) (pq.bind.imp (fun y pq w H4 g4 r4=>?_) fun _ _ z=>z.elim)
        rw [hos] at pq
        obtain ⟨By,ry,hy1,_,hy2⟩:=r4
        have g24:=g3.trans g4
        have hD4:=g24 _ _ hD2'
        have hnewy:∀a∈By,H3 a=none:=fun a ha=>(hy1 a ha).elim id fun z=>z.none.elim
        have hDy:Dd∉By:=fun h=>by
          have z:=hnewy Dd h
          rw [g3 _ _ hD2'] at z
          cases z
        have ext:Ext (fun a=>a=Dd) H4 (upd H4 Dd (.lst (ys++[w]))):=fun b o h=>by
          by_cases e:b=Dd
          · subst e
            rw [hD4] at h
            cases h
            exact .inr ⟨rfl,.lst⟩
          · rw [upd_ne e]
            exact .inl h
        have hDB':Dd∉B'++By:=fun h=>(List.mem_append.mp h).elim hDB hDy
        refine ⟨ys,hD4,?_,?_,us++[y],ys++[w],B'++By,upd_same,by rw [length_append];simp;omega,?_,?_,hDB',?_,?_⟩
        · rw [ru.len]
          exact limLine' (by omega)
        · intro b o h
          have hb:b≠Dd:=ne_of_none h hD
          rw [upd_ne hb]
          exact (g2.trans g24) b o h
        · exact ((ru'.same g24).app (RpA.one ry)).ext ext fun a ha h=>hDB' (by rw [h] at ha;exact ha)
        · refine List.nodup_append.mpr ⟨nd,hy2 rfl,fun a ha b hb e=>?_⟩
          subst e
          obtain ⟨xs,z,_⟩:=(ru'.same g3).isl a ha
          rw [hnewy a hb] at z
          cases z
        · intro a ha
          rcases List.mem_append.mp ha with h | h
          · exact hnew a h
          · exact (g2.trans g3).free (hnewy a h)
        · exact pq.bind.imp (fun zs pq v H' g' r=>by
            rw [append_assoc] at r
            exact pq v H' g' r) fun _ _ z=>z
    · rintro H2 ⟨g2,us,ys,B',hD2,hul,ru,nd,hDB,hnew,pq⟩
      rw [List.drop_length] at pq
      have pq:∀v H',Same H H'→Res K C 2 [] H A (.lst (us++[])) v H'→Q v H':=pq
      rw [append_nil] at pq
      refine pq _ H2 (g1.trans g2) ⟨Dd::B',⟨Dd,ys,B',rfl,hD2,ru,rfl⟩,fun a ha=>.inl ?_,(fun z=>nomatch z),fun _=>List.nodup_cons.mpr ⟨hDB,nd⟩⟩
      rcases List.mem_cons.mp ha with h | h
      · rw [h];exact g1.free hD
      · exact g1.free (hnew a h)
  · exact p.elim
end
section
variable {K:Frag}{C:String→Addr}{E:XK}{Γ Δ Γ' Δ' Γ1 Δ1 Γl Δl Γk Δk:List Nat}{m m1 m2 m3 mr:Nat}{S S1 S2 S3:List (Nat×Bool)}{H:Hp}{Q:VK}
theorem PostS.weak {H0 Hb:Hp}{D:Ends}{r:R Fl}(h:PostS K C E mr Γl Δl Γ' Δ' H0 Hb D r)(h1:∀i∈Γ',i∈Γ1)(h2:∀i∈Δ',i∈Δ1):PostS K C E mr Γl Δl Γ1 Δ1 H0 Hb D r:=by
 unfold PostS at *
 refine Post.imp h (fun fl q=>?_) fun _ _ q=>q
 cases fl with
 | nx ρ'=>exact fun σ' H' A' I=>q σ' H' A' (I.weak h1 h2)
 | ret d=>exact q
 | brk ρ'=>exact q
 | cnt ρ'=>exact q
theorem sok_weak {t:TS}{f:FS}(h:SOk K C E mr Γl Δl Γ Δ Γ1 Δ1 t f)(h1:∀i∈Γ',i∈Γ1:=by decide)(h2:∀i∈Δ',i∈Δ1:=by decide):SOk K C E mr Γl Δl Γ Δ Γ' Δ' t f:=fun H0 Hb H σ ρ A D I p =>
 h H0 Hb H σ ρ A D I (p.weak h1 h2)
theorem sok_nx:SOk K C E mr Γl Δl Γ Δ Γ Δ tNext Dl.sNx:=fun _ _ H σ _ A _ I p=>p σ H A I
theorem sok_never:SOk K C E mr Γl Δl Γ Δ Γ' Δ' tNever Dl.sNever:=fun _ _ _ _ _ _ _ _ p=>p.elim
theorem sok_seq {t u:TS}{f g:FS}(h1:SOk K C E mr Γl Δl Γ Δ Γ1 Δ1 t f)(h2:SOk K C E mr Γl Δl Γ1 Δ1 Γ' Δ' u g):SOk K C E mr Γl Δl Γ Δ Γ' Δ' (tSeq t u) (Dl.sSeq f g):=fun H0 Hb H σ ρ A D I p =>
  h1 H0 Hb H σ ρ A _ I (Post.imp (Post.bind p) (fun fl q=>by
    cases fl with
    | nx ρ'=>exact fun σ' H' A' I'=>h2 H0 Hb H' σ' ρ' A' D I' q
    | ret d=>exact q
    | brk ρ'=>exact q
    | cnt ρ'=>exact q) fun _ _ q=>q)
theorem Same.from0 {H0 Hb H H':Hp}{σ:St}{ρ:DEnv}{A:Nat→List Addr}(I:EnvOk K C H0 Hb H Γ Δ σ ρ A)(g:Same H H'):Same H0 H':=I.s0.trans (I.same.trans g)
theorem EnvOk.top_out {H0 Hb H:Hp}{σ:St}{ρ:DEnv}{A:Nat→List Addr}(I:EnvOk K C H0 Hb H Γ Δ σ ρ A){j:Nat}(hj:j∈Γ)(hS:(j,false)∉S){a:Addr}{l:List Addr}(e:A j=a::l):¬InS A S a:=fun h=>by
 obtain ⟨q0,q1,q2⟩:=I.top j hj a l e
 obtain ⟨p,hp,q⟩:=h
 split at q
 ·by_cases ep:p.1=j
  ·rw [ep,e] at q
   exact q1 q
  ·exact q2 p.1 ep (List.mem_of_mem_tail q)
 ·rename_i hf
  by_cases ep:p.1=j
  ·refine hS ?_
   have:p=(j,false):=by
    obtain ⟨p1,p2⟩:=p
    simp at ep hf
    rw [ep,hf]
   rw [← this]
   exact hp
  ·exact q2 p.1 ep q
theorem EnvOk.deep_out {H0 Hb H:Hp}{σ:St}{ρ:DEnv}{A:Nat→List Addr}(I:EnvOk K C H0 Hb H Γ Δ σ ρ A){j:Nat}(hj:j∈Δ)(hS:∀p∈S,p.1≠j){a:Addr}(e:a∈A j):¬InS A S a:=fun h=>by
 obtain ⟨p,hp,q⟩:=h.mem
 exact (I.deep j hj).2.1 p.1 (hS p hp) a e q
theorem sok_set2 {i:Nat}{te:TE}{fe:FE}(he:EOk K C E Γ Δ 2 [] te fe)(h1:∀j∈Γ',j=i∨j∈Γ:=by decide)(h2:∀j∈Δ',j=i∨j∈Δ:=by decide):SOk K C E mr Γl Δl Γ Δ Γ' Δ' (tAsg te (gName i)) (Dl.sSet i fe):=fun H0 Hb H σ ρ A D I p =>
  he H0 Hb H σ ρ A _ I (Post.imp (Post.bind p) (fun d q v H1 g1 r=>by
    obtain ⟨B,r1,r2,r3,r4⟩:=r
    have hn:∀a∈B,H a=none:=fun a ha=>(r2 a ha).elim id fun z=>z.none.elim
    have nd:=r4 rfl
    obtain ⟨A',I',_⟩:=(I.mono g1).put (Γ':=Γ') (Δ':=Δ') (i:=i) r1 (fun j hj e=>⟨(h1 j hj).elim (fun z=>absurd z e) id,fun a l e' ha=>I.ne (j:=j) (by rw [e'];exact .head _) (hn a ha)⟩)
      (fun _=>⟨fun a ha=>I.s0.free (I.same.free (hn a ha)),fun a l e=>by subst e;exact ⟨I.same.free (hn a (.head _)),(List.nodup_cons.mp nd).1,fun j _ h=>I.ne h (hn a (.head _))⟩⟩)
      (fun j hj e=>⟨(h2 j hj).elim (fun z=>absurd z e) id,fun a ha hB=>I.ne ha (hn a hB)⟩)
      (fun _=>⟨nd,fun j _ a ha h=>I.ne h (hn a ha),fun a ha=>I.same.free (hn a ha)⟩)
    exact q _ H1 A' I') fun c x q H' g'=>q H' (Same.from0 I g'))
theorem sok_ret2 {te:TE}{fe:FE}(he:EOk K C E Γ Δ 2 S te fe)(h0:∀p∈S,p.1∈Δ:=by decide):SOk K C E 2 Γl Δl Γ Δ Γ' Δ' (tRet te) (Dl.sRet fe):=fun H0 Hb H σ ρ A D I p =>
  he H0 Hb H σ ρ A _ I (Post.imp (Post.bind p) (fun d q v H1 g1 r=>by
    obtain ⟨B,r1,r2,r3,r4⟩:=r
    refine q v H1 (Same.from0 I g1) ⟨B,r1,fun a ha=>.inl ((r2 a ha).elim (fun z=>I.s0.free (I.same.free z)) fun z=>?_),(fun z=>nomatch z),r4⟩
    obtain ⟨p,hp,z⟩:=z.mem
    exact I.s0.free ((I.deep p.1 (h0 p hp)).2.2 a z)) fun c x q H' g'=>q H' (Same.from0 I g'))
theorem sok_if {tc:TT}{t u:TS}{fc:FT}{f g:FS}(hc:TOk K C E Γ Δ tc fc)(h1:SOk K C E mr Γl Δl Γ Δ Γ' Δ' t f)(h2:SOk K C E mr Γl Δl Γ Δ Γ' Δ' u g):SOk K C E mr Γl Δl Γ Δ Γ' Δ' (tIfS tc t u) (Dl.sIf fc f g):=fun H0 Hb H σ ρ A D I p =>
  hc H0 Hb H σ ρ A _ I (Post.imp (Post.bind p) (fun b q H1 g1=>by
    cases b with
    | true=>exact h1 H0 Hb H1 σ ρ A D (I.mono g1) q
    | false=>exact h2 H0 Hb H1 σ ρ A D (I.mono g1) q) fun c x q H' g'=>q H' (Same.from0 I g'))
theorem slot_lst {H0 Hb H:Hp}{σ:St}{ρ:DEnv}{A:Nat→List Addr}{i:Nat}{ds:List D}(I:EnvOk K C H0 Hb H Γ Δ σ ρ A)(e:ρ[i]?=some (some (.lst ds))):∃a xs l,σ[i]?=some (some (.ref a))∧H a=some (.lst xs)∧RpA K C H ds xs l∧A i=a::l∧i<ρ.length:=by
 obtain ⟨v,q1,a,xs,l,rfl,q3,q4,q5⟩:=I.rep i _ e
 exact ⟨a,xs,l,q1,q3,q4,q5,(List.getElem?_eq_some_iff.mp e).1⟩
theorem sok_app2 {i:Nat}{te:TE}{fe:FE}(hi:i∈Γ:=by decide)(he:EOk K C E Γ Δ 2 [] te fe):SOk K C E mr Γl Δl Γ Δ Γ Δ (tDrop (tBM K "list" rAppend (tVar i) (tCons te tNil))) (Dl.sApp i fe):=fun H0 Hb H σ ρ A D I p=>by
  unfold Dl.sApp at p
  split at p
  · rename_i ds e
    obtain ⟨a,xs,l,s1,h1,r1,hA,hl⟩:=slot_lst I e
    refine ⟨.ref a,s1,.inl ⟨rfl,xs,SqL.of h1⟩,he H0 Hb H σ ρ A _ I (Post.imp (Post.bind p) (fun d q v H1 g1 r=>?_) fun c x q H' g'=>q H' (Same.from0 I g'))⟩
    split at q
    · rename_i hz
      obtain ⟨B,r2,r3,_,r4⟩:=r
      have hn:∀a∈B,H a=none:=fun a ha=>(r3 a ha).elim id fun z=>z.none.elim
      have h1':=g1 _ _ h1
      show rAppend (.ref a) [v] H1 fun _ H3=>D.nx σ H3
      refine rd_app h1' (by rw [r1.len];exact limLine' hz) ?_
      obtain ⟨tb,ta,tt⟩:=I.top i hi a l hA
      have I1:=I.mono g1
      have haB:a∉B:=fun z=>by
        have:=hn a z
        rw [h1] at this
        cases this
      have w1:∀b∈l++B,H0 b=none:=fun b hb=>by
        rcases List.mem_append.mp hb with z | z
        · exact I.loc i hi b (by rw [hA];exact .tail _ z)
        · exact I.s0.free (I.same.free (hn b z))
      have w2:∀j∈Γ,j≠i→j∈Γ∧∀b l',A j=b::l'→b∉l++B:=fun j hj e=>⟨hj,fun b l' e' z=>by
        rcases List.mem_append.mp z with z | z
        · exact (I.top j hj b l' e').2.2 i (fun w=>e w.symm) (by rw [hA];exact .tail _ z)
        · exact I.ne (j:=j) (by rw [e'];exact .head _) (hn b z)⟩
      have w3:∀j∈Δ,j≠i→j∈Δ∧∀b∈A j,b∉l++B:=fun j hj e=>⟨hj,fun b hb z=>by
        rcases List.mem_append.mp z with z | z
        · exact (I.deep j hj).2.1 i (fun w=>e w.symm) b hb (by rw [hA];exact .tail _ z)
        · exact I.ne hb (hn b z)⟩
      have w4:i∈Δ→(l++B).Nodup∧(∀j,j≠i→∀b∈l++B,b∉A j)∧∀b∈l++B,Hb b=none:=fun hd=>by
        obtain ⟨d1,d2,d3⟩:=I.deep i hd
        rw [hA] at d1 d2 d3
        refine ⟨List.nodup_append.mpr ⟨(List.nodup_cons.mp d1).2,r4 rfl,fun x hx y hy e=>?_⟩,fun j hj b hb=>?_,fun b hb=>?_⟩
        · subst e
          exact I.ne (j:=i) (by rw [hA];exact .tail _ hx) (hn x hy)
        · rcases List.mem_append.mp hb with z | z
          · exact d2 j hj b (.tail _ z)
          · exact fun w=>I.ne w (hn b z)
        · rcases List.mem_append.mp hb with z | z
          · exact d3 b (.tail _ z)
          · exact I.same.free (hn b z)
      obtain ⟨A',I'⟩:=I1.write (Γ':=Γ) (Δ':=Δ) hi hA hl s1 ((r1.same g1).app (RpA.one r2)) w1 (fun z=>(List.mem_append.mp z).elim ta haB) w2 w3 w4
      exact q _ _ A' I'
    · exact q.elim
  · exact p.elim
def BOk (K:Frag)(C:String→Addr)(Γ Δ:List Nat)(g:TG)(b:FB):Prop:=∀(H0 Hb H:Hp) (σ:St) (ρ:DEnv) (A:Nat→List Addr) (d:D) (v:V) (B:List Addr) (Rr:St→Hp→Prop),EnvOk K C H0 Hb H Γ Δ σ ρ A→Rp K C H d v B→(∀a∈B,Hb a≠none)→
 Post (b d ρ) (fun ρ'=>∀σ' A',EnvOk K C H0 Hb H Γ Δ σ' ρ' A'→Rr σ' H) (fun _ _=>False)→g v σ H Rr
def BsOk (K:Frag)(C:String→Addr)(Γ Δ:List Nat)(g:TGs)(b:List D→DEnv→R DEnv):Prop:=∀(H0 Hb H:Hp) (σ:St) (ρ:DEnv) (A:Nat→List Addr) (d:List D) (v:List V) (B:List Addr) (Rr:St→Hp→Prop),EnvOk K C H0 Hb H Γ Δ σ ρ A→RpA K C H d v B→(∀a∈B,Hb a≠none)→
 Post (b d ρ) (fun ρ'=>∀σ' A',EnvOk K C H0 Hb H Γ Δ σ' ρ' A'→Rr σ' H) (fun _ _=>False)→g v σ H Rr
theorem bok_name {i:Nat}(h1:i∉Γ:=by decide)(h2:i∉Δ:=by decide):BOk K C Γ Δ (gName i) (Dl.bName i):=fun H0 Hb H σ ρ A d v B Rr I r hB p=>by
 obtain ⟨A',I',_⟩:=I.put (Γ':=Γ) (Δ':=Δ) (i:=i) r (fun j hj e=>⟨hj,fun a l e' ha=>hB a ha (I.top j hj a l e').1⟩) (fun hj=>absurd hj h1) (fun j hj e=>⟨hj,fun a ha hb=>hB a hb ((I.deep j hj).2.2 a ha)⟩) (fun hj=>absurd hj h2)
 exact p _ A' I'
theorem bok_nil:BsOk K C Γ Δ gNil Dl.bNil:=fun H0 Hb H σ ρ A d v B Rr I r hB p=>by
 cases d with
 | nil=>exact ⟨r.1,p _ A I⟩
 | cons _ _=>exact p.elim
theorem bok_cons {g:TG}{gs:TGs}{b:FB}{bs:List D→DEnv→R DEnv}(h1:BOk K C Γ Δ g b)(h2:BsOk K C Γ Δ gs bs):BsOk K C Γ Δ (gCons g gs) (Dl.bCons b bs):=fun H0 Hb H σ ρ A d v B Rr I r hB p=>by
 cases d with
 | nil=>exact p.elim
 | cons d ds =>
  obtain ⟨x,l,B1,B2,e1,e2,e3,e4⟩:=r
  subst e1 e4
  refine ⟨x,l,rfl,h1 H0 Hb H σ ρ A d x B1 _ I e2 (fun a ha=>hB a (mem_append_left _ ha)) (Post.imp (Post.bind p) (fun ρ1 q σ1 A1 I1=>?_) fun _ _ z=>z)⟩
  exact h2 H0 Hb H σ1 ρ1 A1 ds l B2 Rr I1 e3 (fun a ha=>hB a (mem_append_right _ ha)) q
theorem bok_tup {gs:TGs}{bs:List D→DEnv→R DEnv}{n:Nat}(hn:∀ds ρ ρ',bs ds ρ=.ok ρ'→ds.length=n)(h:BsOk K C Γ Δ gs bs):BOk K C Γ Δ (gTup K n gs) (Dl.bTup bs):=fun H0 Hb H σ ρ A d v B Rr I r hB p=>by
 cases d with
 | tup ds =>
  obtain ⟨a,xs,rfl,e2,e3⟩:=r
  have hl:xs.length=n:=by
   rw [e3.len]
   have p':Post (bs ds ρ) (fun ρ'=>∀σ' A',EnvOk K C H0 Hb H Γ Δ σ' ρ' A'→Rr σ' H) (fun _ _=>False):=p
   cases e:bs ds ρ with
   | ok ρ'=>exact hn ds ρ ρ' e
   | err _ _=>rw [e] at p';exact p'.elim
   | bad=>rw [e] at p';exact p'.elim
  exact ⟨a,xs,rfl,SqT.of e2,hl,h H0 Hb H σ ρ A ds xs B Rr I e3 hB p⟩
 | _=>exact p.elim
theorem bn_nil (ds:List D)(ρ ρ':DEnv)(h:Dl.bNil ds ρ=.ok ρ'):ds.length=0:=by
 cases ds with
 | nil=>rfl
 | cons _ _=>cases h
theorem bn_cons {n:Nat}{b:FB}{bs:List D→DEnv→R DEnv}(hb:∀ds ρ ρ',bs ds ρ=.ok ρ'→ds.length=n)(ds:List D)(ρ ρ':DEnv)(h:Dl.bCons b bs ds ρ=.ok ρ'):ds.length=n+1:=by
 cases ds with
 | nil=>cases h
 | cons d ds =>
  have h:((b d ρ).bind fun ρ'=>bs ds ρ')=.ok ρ':=h
  cases e:b d ρ with
  | ok ρ1 =>
   rw [e] at h
   rw [length_cons,hb ds ρ1 ρ' h]
  | err _ _=>rw [e] at h;cases h
  | bad=>rw [e] at h;cases h
noncomputable def ownAt (A:Nat→List Addr)(Γ Δ:List Nat):List Addr:=Γ.flatMap (fun i=>(A i).take 1)++Δ.flatMap A
theorem mem_own {A:Nat→List Addr}{a:Addr}(h:a∈ownAt A Γ Δ):(∃i∈Γ,∃l,A i=a::l)∨∃i∈Δ,a∈A i:=by
 rcases List.mem_append.mp h with h | h
 ·obtain ⟨i,hi,h⟩:=List.mem_flatMap.mp h
  left
  refine ⟨i,hi,?_⟩
  cases e:A i with
  | nil=>rw [e] at h;cases h
  | cons b l =>
   rw [e] at h
   simp only [List.take_succ_cons,take_zero,List.mem_singleton] at h
   rw [h]
   exact ⟨l,rfl⟩
 ·obtain ⟨i,hi,h⟩:=List.mem_flatMap.mp h
  exact .inr ⟨i,hi,h⟩
theorem own_top {A:Nat→List Addr}{i:Nat}(hi:i∈Γ){a:Addr}{l:List Addr}(e:A i=a::l):a∈ownAt A Γ Δ:=mem_append_left _ (List.mem_flatMap.mpr ⟨i,hi,by rw [e];simp⟩)
theorem own_deep {A:Nat→List Addr}{i:Nat}(hi:i∈Δ){a:Addr}(h:a∈A i):a∈ownAt A Γ Δ:=mem_append_right _ (List.mem_flatMap.mpr ⟨i,hi,h⟩)
theorem forD_split (b:FB)(s:FS)(xs:List D){i:Nat}{x:D}(h:xs[i]?=some x)(ρ:DEnv):Dl.forD b s (xs.drop i) ρ=(b x ρ).calm.bind fun ρ1=>(s ρ1).bind fun fl=>match fl with
  | .nx ρ2=>Dl.forD b s (xs.drop (i+1)) ρ2
  | .cnt ρ2=>Dl.forD b s (xs.drop (i+1)) ρ2
  | .brk ρ2=>.ok (.nx ρ2)
  | .ret d=>.ok (.ret d):=by
 obtain ⟨hi,rfl⟩:=List.getElem?_eq_some_iff.mp h
 rw [drop_eq_getElem_cons hi]
 rfl
theorem sok_for {wi:TI}{g:TG}{tb:TS}{fi:FI}{fb:FB}{fs:FS}(hi:IOk K C E Γ Δ S wi fi)(hb:BOk K C Γl Δl g fb)(hs:SOk K C E mr Γl Δl Γl Δl Γl Δl tb fs)
    (h1:∀i∈Γl,i∈Γ:=by decide) (h2:∀i∈Δl,i∈Δ:=by decide) (h3:∀p∈S,p.1∉Γl∧p.1∉Δl:=by decide):SOk K C E mr Γk Δk Γ Δ Γl Δl (tFor wi g tb) (Dl.sFor fi fb fs):=fun H0 Hb H σ ρ A D I p=>by
  refine hi H0 Hb H σ ρ A _ I (Post.imp (Post.bind p) (fun ds q J H1 W g1 hW hlen hJ=>?_) fun c x q H' g'=>q H' (Same.from0 I g'))
  have I1:=(I.mono g1).weak h1 h2
  have hlst:∀a∈ownAt A Γl Δl,∃o,H1 a=some o∧IsM o:=fun a ha=>by
    rcases mem_own ha with ⟨i,_,l,e⟩ | ⟨i,_,e⟩
    · exact I1.is (j:=i) (by rw [e];exact .head _)
    · exact I1.is e
  have hbn:∀a∈ownAt A Γl Δl,Hb a=none:=fun a ha=>by
    rcases mem_own ha with ⟨i,hi,l,e⟩ | ⟨i,hi,e⟩
    · exact (I1.top i hi a l e).1
    · exact (I1.deep i hi).2.2 a e
  have hout:∀a∈W,a∉ownAt A Γl Δl:=fun a ha ho=>by
    rcases (hW a ha).2 with z | z
    · rcases mem_own ho with ⟨i,hi,l,e⟩ | ⟨i,hi,e⟩
      · exact I.ne (j:=i) (by rw [e];exact .head _) z
      · exact I.ne e z
    · rcases mem_own ho with ⟨i,hi,l,e⟩ | ⟨i,hi,e⟩
      · exact I1.top_out hi (fun h=>(h3 _ h).1 hi) e z
      · exact I1.deep_out hi (fun p hp e'=>(h3 p hp).2 (by rw [e'];exact hi)) e z
  let Hc:Hp:=fun b=>if b∈ownAt A Γl Δl then none else H1 b
  have c1:Same Hc H1:=fun b o h=>by
    show H1 b=some o
    have h:(if b∈ownAt A Γl Δl then none else H1 b)=some o:=h
    split at h
    · cases h
    · exact h
  have c2:Same Hb Hc:=fun b o h=>by
    show (if b∈ownAt A Γl Δl then none else H1 b)=some o
    rw [if_neg fun ho=>by rw [hbn b ho] at h;cases h]
    exact I1.same b o h
  have c3:∀a,a∉ownAt A Γl Δl→Hc a=H1 a:=fun a ha=>if_neg ha
  have c4:∀a∈ownAt A Γl Δl,Hc a=none:=fun a ha=>if_pos ha
  have I2:EnvOk K C H0 Hc H1 Γl Δl σ ρ A:=⟨I1.s0.trans c2,c1,I1.len,I1.rep,I1.nil,I1.loc,fun i hi a l e=>⟨c4 a (own_top hi e),(I1.top i hi a l e).2⟩,fun i hi=>⟨(I1.deep i hi).1,(I1.deep i hi).2.1,fun a ha=>c4 a (own_deep hi ha)⟩⟩
  have back:∀{σ':St} {ρ':DEnv} {H':Hp} {A':Nat→List Addr},EnvOk K C H0 Hc H' Γl Δl σ' ρ' A'→EnvOk K C H0 Hb H' Γl Δl σ' ρ' A':=fun I' =>
    ⟨I1.s0,c2.trans I'.same,I'.len,I'.rep,I'.nil,I'.loc,fun i hi a l e=>⟨c2.free (I'.top i hi a l e).1,(I'.top i hi a l e).2⟩,fun i hi=>⟨(I'.deep i hi).1,(I'.deep i hi).2.1,fun a ha=>c2.free ((I'.deep i hi).2.2 a ha)⟩⟩
  have go:Goes K C J ds Hc:=hJ Hc ⟨fun a ha=>c3 a (hout a ha),fun b o h hn=>(c3 b fun ho=>by
    obtain ⟨xs,e,hm⟩:=hlst b ho
    rw [e] at h
    cases h
    exact hn hm).trans h⟩
  refine for_gen go (fun k σ' H'=>∃ρ' A',EnvOk K C H0 Hc H' Γl Δl σ' ρ' A'∧PostS K C E mr Γk Δk Γl Δl H0 Hb D (Dl.forD fb fs (ds.drop k) ρ')) ⟨ρ,A,I2,q⟩ (fun _ _ _ ⟨_,_,I',_⟩=>I'.same) ?_ ?_
  · rintro k d x Bx σ' Ha H' hd ⟨ρ',A',Ia,pq⟩ ga rx hBx
    have I':=Ia.mono ga
    rw [forD_split _ _ _ hd] at pq
    have pq':=calm_of (Post.bind pq)
    refine hb H0 Hc H' σ' ρ' A' d x Bx _ I' rx hBx (Post.imp pq' (fun ρ1 pq σ1 A1 I1'=>?_) fun _ _ z=>z)
    refine hs H0 Hc H' σ1 ρ1 A1 _ I1' (Post.imp (Post.bind pq) (fun fl pq=>?_) fun _ _ z=>z)
    cases fl with
    | nx ρ2=>exact fun σ2 H2 A2 I2'=>⟨ρ2,A2,I2',pq⟩
    | cnt ρ2=>exact fun σ2 H2 A2 I2'=>⟨ρ2,A2,I2',pq⟩
    | brk ρ2=>exact fun σ2 H2 A2 I2'=>pq σ2 H2 A2 (back I2')
    | ret d=>exact pq
  · rintro σ' H' ⟨ρ',A',I',pq⟩
    rw [List.drop_length] at pq
    exact pq σ' H' A' (back I')
theorem start_env {N:Nat}{ds:List D}{vs:List V}{B:List Addr}{H:Hp}(r:RpA K C H ds vs B):∃A,EnvOk K C H H H [] [] (vs.map some++List.replicate (N - vs.length) none) (ds.map some++List.replicate (N - ds.length) none) A:=by
 have hl:=r.len
 have key:∀{ds:List D} {vs:List V} {B:List Addr},RpA K C H ds vs B→∃A:Nat→List Addr,(∀(i:Nat) d,ds[i]?=some d→∃v,vs[i]?=some v∧Rp K C H d v (A i))∧∀i,ds.length≤i→A i=[]:=by
  intro ds
  induction ds with
  | nil=>intro vs B r;exact ⟨fun _=>[],fun i d h=>by simp at h,fun _ _=>rfl⟩
  | cons d ds ih =>
   intro vs B r
   obtain ⟨x,l,B1,B2,e1,e2,e3,e4⟩:=r
   obtain ⟨A,h1,h2⟩:=ih e3
   subst e1
   refine ⟨fun i=>match i with | 0=>B1 | i+1=>A i,fun i d' h=>?_,fun i h=>?_⟩
   ·cases i with
    | zero=>simp at h;subst h;exact ⟨x,rfl,e2⟩
    | succ i=>simp at h;obtain ⟨v,q1,q2⟩:=h1 i d' h;exact ⟨v,by simpa using q1,q2⟩
   ·cases i with
    | zero=>simp at h
    | succ i=>exact h2 i (by simpa using h)
 obtain ⟨A,h1,h2⟩:=key r
 refine ⟨A,Same.refl _,Same.refl _,by simp [hl],fun i d h=>?_,fun i h=>?_,(fun _ h=>nomatch h),(fun _ h=>nomatch h),(fun _ h=>nomatch h)⟩
 ·by_cases hi:i<ds.length
  ·rw [getElem?_append_left (by simpa using hi),getElem?_map] at h
   obtain ⟨d',hd,e⟩:=Option.map_eq_some_iff.mp h
   cases e
   obtain ⟨v,q1,q2⟩:=h1 i d hd
   refine ⟨v,?_,q2⟩
   rw [getElem?_append_left (by simp [hl,hi]),getElem?_map,q1]
   rfl
  ·rw [getElem?_append_right (by simpa using hi)] at h
   have:=mem_of_getElem? h
   rw [List.mem_replicate] at this
   exact absurd this.2 (by intro z;cases z)
 ·by_cases hi:i<ds.length
  ·exact absurd (by rw [getElem?_append_left (by simpa using hi),getElem?_map,getElem?_eq_getElem hi];rfl) (h ds[i])
  ·exact h2 i (by omega)
theorem run_post {N:Nat}{t:TS}{f:FS}{E:XK}{ds:List D}{vs:List V}{B:List Addr}{H:Hp}{Q:VK}(h:SOk K C E mr [] [] [] [] Γ' Δ' t f)(r:RpA K C H ds vs B)
  (p:Post (Dl.run N f ds) (fun d=>∀v H',Same H H'→Res K C mr [] H (fun _=>[]) d v H'→Q v H') (fun c x=>∀H',Same H H'→EC C E c x H')) :
  t {nx:=fun _ H'=>Q .non H',rt:=Q} (vs.map some++List.replicate (N - vs.length) none) H:=by
 obtain ⟨A,I⟩:=start_env (N:=N) r
 refine h H H H _ _ A _ I (Post.imp (Post.bind p) (fun fl q=>?_) fun _ _ q=>q)
 cases fl with
 | nx ρ'=>exact fun σ' H' A' I'=>q _ H' I'.same (Res.flat ⟨rfl,rfl⟩)
 | ret d=>exact q
 | brk _=>exact q.elim
 | cnt _=>exact q.elim
end
structure JE (X:Cx)(C:String→Addr)(E:XK)(Γ Δ:List Nat)(m:Nat)(S:List (Nat×Bool))(e:Expr)(t:TE)(f:FE):Prop where
 q:QE X e t
 o:EOk X.K C E Γ Δ m S t f
structure JT (X:Cx)(C:String→Addr)(E:XK)(Γ Δ:List Nat)(e:Expr)(t:TT)(f:FT):Prop where
 q:QT X e t
 o:TOk X.K C E Γ Δ t f
structure JW (X:Cx)(C:String→Addr)(E:XK)(Γ Δ:List Nat)(e:Expr)(t:TT)(f:FT):Prop where
 q:QW X e t
 o:TOk X.K C E Γ Δ t f
structure JA (X:Cx)(C:String→Addr)(E:XK)(Γ Δ:List Nat)(m:Nat)(S:List (Nat×Bool))(e:List Expr)(n:Nat)(t:TA)(f:FA):Prop where
 q:QA X e t
 o:AOk X.K C E Γ Δ m S t f
 n:∀ρ ds,f ρ=.ok ds→ds.length=n
structure JO (X:Cx)(C:String→Addr)(E:XK)(Γ Δ:List Nat)(e:Option Expr)(t:TO)(f:FO):Prop where
 q:QO X e t
 o:OOk X.K C E Γ Δ t f
structure JI (X:Cx)(C:String→Addr)(E:XK)(Γ Δ:List Nat)(S:List (Nat×Bool))(tg e:Expr)(t:TI)(f:FI):Prop where
 q:QI X tg e t
 o:IOk X.K C E Γ Δ S t f
structure JG (X:Cx)(C:String→Addr)(Γ Δ:List Nat)(e:Expr)(t:TG)(f:FB):Prop where
 q:QG X e t
 o:BOk X.K C Γ Δ t f
structure JGs (X:Cx)(C:String→Addr)(Γ Δ:List Nat)(es:List Expr)(n:Nat)(t:TGs)(f:List D→DEnv→R DEnv):Prop where
 q:QGs X es t
 o:BsOk X.K C Γ Δ t f
 n:∀ds ρ ρ',f ds ρ=.ok ρ'→ds.length=n
structure JS (X:Cx)(C:String→Addr)(E:XK)(mr:Nat)(Γl Δl Γ Δ Γ' Δ':List Nat)(s:Stmt)(t:TS)(f:FS):Prop where
 q:QS X s t
 o:SOk X.K C E mr Γl Δl Γ Δ Γ' Δ' t f
structure JSs (X:Cx)(C:String→Addr)(E:XK)(mr:Nat)(Γl Δl Γ Δ Γ' Δ':List Nat)(s:List Stmt)(t:TS)(f:FS):Prop where
 q:QSs X s t
 o:SOk X.K C E mr Γl Δl Γ Δ Γ' Δ' t f
structure JIf (X:Cx)(C:String→Addr)(E:XK)(Γ Δ:List Nat)(e:List Expr)(t:TT)(f:FT):Prop where
 q:QIf X e t
 o:TOk X.K C E Γ Δ t f
section
variable {X:Cx}{C:String→Addr}{E:XK}{Γ Δ Γ' Δ' Γ1 Δ1 Γl Δl Γk Δk:List Nat}{m m1 m2 m3 mr:Nat}{S S1 S2 S3:List (Nat×Bool)}{a b c e st o tg iter:Expr}{es rest:List Expr}{ta tb tc te ts:TE}{fa fb fc fe fs:FE}{t:TA}{f:FA}{pos p p2 apos cpos:Pos}{n:Nat}
theorem ce_int {i:Int}{j:Nat}:JE X C E Γ Δ 2 [] (.Constant (.int i) j pos) (tC (.int i)) (Dl.fC (.int i)):=⟨qe_int,eok_c fun _=>rpI⟩
theorem ce_bl {i:Bool}{j:Nat}:JE X C E Γ Δ 2 [] (.Constant (.bool i) j pos) (tC (.bl i)) (Dl.fC (.bl i)):=⟨qe_bl,eok_c fun _=>rpB⟩
theorem ce_str {x:Str}{j:Nat}(h:PyData.strOk x=true:=by decide +kernel):JE X C E Γ Δ 2 [] (.Constant (.str x) j pos) (tC (.str x)) (Dl.fC (.str x)):=⟨qe_str,eok_c fun _=>⟨rfl,h,rfl⟩⟩
theorem ce_v (i:Nat){x:Str}(hN:X.N[i]?=some x:=by rfl)(hv:autoParam (Vis X.env.scope x) aT3._auto_1)(hd:(x==("__debug__":Str))=false:=by decide)
  (hcd:(x==("__classdict__":Str))=false:=by decide):JE X C E Γ Δ 0 [(i,false)] (.Name x pos) (tVar i) (Dl.fV i):=⟨qv i hN hv hd hcd,eok_v⟩
theorem ce_vd (i:Nat){x:Str}(hi:i∈Δ:=by decide)(hN:X.N[i]?=some x:=by rfl)(hv:autoParam (Vis X.env.scope x) aT3._auto_1)(hd:(x==("__debug__":Str))=false:=by decide)
  (hcd:(x==("__classdict__":Str))=false:=by decide):JE X C E Γ Δ 2 [(i,false)] (.Name x pos) (tVar i) (Dl.fV i):=⟨qv i hN hv hd hcd,eok_vd hi⟩
theorem ce_flat (h:JE X C E Γ Δ m S e te fe):JE X C E Γ Δ 2 [] e te (Dl.f1 Dl.gFlat fe):=⟨h.q,eok_flat h.o⟩
theorem ce_op {op:Operator}{r:R2}{g:D→D→Option D}(ho:OpR X (binaryOp op) r)(hg:GOk X.K C r g)(ha:JE X C E Γ Δ m1 S1 a ta fa)(hb:JE X C E Γ Δ m2 S2 b tb fb):JE X C E Γ Δ 2 [] (.BinOp a op b pos) (tOp r ta tb) (Dl.f2 g fa fb):=⟨qe_op ho ha.q hb.q,eok_op hg ha.o hb.o⟩
theorem ce_cmp {op:CmpOp}{r:R2}{g:D→D→Option D}(ho:OpR X (compareOp op) r)(hg:GOk X.K C r g)(ha:JE X C E Γ Δ m1 S1 a ta fa)(hb:JE X C E Γ Δ m2 S2 b tb fb)(hm:behindInMarks op b=false):JE X C E Γ Δ 2 [] (.Compare a [op] [b] pos) (tOp r ta tb) (Dl.f2 g fa fb):=⟨qe_cmpR ho ha.q hb.q hm,eok_op hg ha.o hb.o⟩
theorem ct_cmp {op:CmpOp}{r:R2}{g:D→D→Option D}(ho:OpR X (compareOp op) r)(hg:GOk X.K C r g)(ha:JE X C E Γ Δ m1 S1 a ta fa)(hb:JE X C E Γ Δ m2 S2 b tb fb)(hm:behindInMarks op b=false):JT X C E Γ Δ (.Compare a [op] [b] pos) (tTest (tOp r ta tb)) (Dl.cE (Dl.f2 g fa fb)):=⟨qt_cmpR ho ha.q hb.q hm,tok_test (eok_op hg ha.o hb.o)⟩
theorem ct_chain {op op':CmpOp}{r r':R2}{g g':D→D→Option D}(ho:OpR X (compareOp op) r)(ho':OpR X (compareOp op') r')(hg:GOk X.K C r g)(hg':GOk X.K C r' g')(hbl:∀{x y d},g x y=some d→∃b,d=.bl b)(ha:JE X C E Γ Δ m1 S1 a ta fa)(hb:JE X C E Γ Δ m2 S2 b tb fb)(hc:JE X C E Γ Δ m3 S3 c tc fc)
  (hm:lastMarks [op,op'] [b,c]=false:=by with_unfolding_all rfl):JT X C E Γ Δ (.Compare a [op,op'] [b,c] pos) (tTest (tChain r r' ta tb tc)) (Dl.cE (Dl.fChain g g' fa fb fc)):=⟨qt_chain ho ho' ha.q hb.q hc.q hm,tok_test (eok_chain hg hg' (fun _ _ _=>hbl) ha.o hb.o hc.o)⟩
theorem ce_one {op:BoolOp}(h:JE X C E Γ Δ m S a ta fa):JE X C E Γ Δ m S (.BoolOp op [a] pos) ta fa:=⟨qe_one h.q,h.o⟩
theorem ce_and (ha:JE X C E Γ Δ m1 S1 a ta fa)(hb:JE X C E Γ Δ m S (.BoolOp .And (b::rest) pos) tb fb):JE X C E Γ Δ m S (.BoolOp .And (a::b::rest) pos) (tAndV ta tb) (Dl.fAnd fa fb):=⟨qe_and ha.q hb.q,eok_and ha.o hb.o⟩
theorem ce_not (ha:JE X C E Γ Δ m1 S1 a ta fa):JE X C E Γ Δ 2 [] (.UnaryOp .Not a pos) (tNotV ta) (Dl.f1 Dl.gNot fa):=⟨qe_not ha.q,eok_not ha.o⟩
theorem ct_val (h:JE X C E Γ Δ m S e te fe)(he:∀whole,isTrue e X.env whole=(do let v ← whole;standAt e.pos;holding [v] (truthy v)):=by intro _;rfl):JT X C E Γ Δ e (tB te) (Dl.cE fe):=⟨qt_val h.q he,tok_B h.o⟩
theorem ct_not {tA:TT}{fA:FT}(ha:JT X C E Γ Δ a tA fA):JT X C E Γ Δ (.UnaryOp .Not a pos) (tNot tA) (Dl.cNot fA):=⟨qt_not ha.q,tok_not ha.o⟩
theorem cw_and1 {tA:TT}{fA:FT}(ha:JT X C E Γ Δ a tA fA):JW X C E Γ Δ (.BoolOp .And [a] pos) tA fA:=⟨qw_and1 ha.q,ha.o⟩
theorem cw_or1 {tA:TT}{fA:FT}(ha:JT X C E Γ Δ a tA fA):JW X C E Γ Δ (.BoolOp .Or [a] pos) tA fA:=⟨qw_or1 ha.q,ha.o⟩
theorem cw_and {tA tB':TT}{fA fB:FT}(ha:JT X C E Γ Δ a tA fA)(hb:JW X C E Γ Δ (.BoolOp .And (b::rest) pos) tB' fB):JW X C E Γ Δ (.BoolOp .And (a::b::rest) pos) (tAnd tA tB') (Dl.cAnd fA fB):=⟨qw_and ha.q hb.q,tok_and ha.o hb.o⟩
theorem cw_or {tA tB':TT}{fA fB:FT}(ha:JT X C E Γ Δ a tA fA)(hb:JW X C E Γ Δ (.BoolOp .Or (b::rest) pos) tB' fB):JW X C E Γ Δ (.BoolOp .Or (a::b::rest) pos) (tOr tA tB') (Dl.cOr fA fB):=⟨qw_or ha.q hb.q,tok_or ha.o hb.o⟩
theorem ct_w {tA:TT}{fA:FT}(h:JW X C E Γ Δ a tA fA):JT X C E Γ Δ a tA fA:=⟨qt_w h.q,h.o⟩
theorem ca_nil:JA X C E Γ Δ 2 [] [] 0 tNil Dl.aNil:=⟨qa_nil,aok_nil,len_nil⟩
theorem ca_cons (ha:JE X C E Γ Δ m1 S1 e te fe)(hr:JA X C E Γ Δ m2 S2 es n t f)(hs:starEach (e::es) X.env=(false,eval e X.env)::starEach es X.env):JA X C E Γ Δ 0 (S1++S2) (e::es) (n+1) (tCons te t) (Dl.aCons fe f):=⟨qa_cons ha.q hr.q hs,aok_cons ha.o hr.o,len_cons hr.n⟩
theorem ca_cons2 (ha:JE X C E Γ Δ 2 [] e te fe)(hr:JA X C E Γ Δ 2 [] es n t f)(hs:starEach (e::es) X.env=(false,eval e X.env)::starEach es X.env):JA X C E Γ Δ 2 [] (e::es) (n+1) (tCons te t) (Dl.aCons fe f):=
 ⟨qa_cons ha.q hr.q hs,aok_consD (S1:=[]) (S2:=[]) ha.o hr.o (fun _ h=>nomatch h) (fun _ h=>nomatch h),len_cons hr.n⟩
theorem ce_tup {x1:Nat}(h:JA X C E Γ Δ 2 S es n t f):JE X C E Γ Δ 2 S (.Tuple es x1 pos) (tTup t) (Dl.fA Dl.gTup f):=⟨qe_tup h.q,eok_tup (.inr rfl) h.o⟩
theorem ce_tup0 {x1:Nat}(h:JA X C E Γ Δ 0 S es n t f):JE X C E Γ Δ 0 S (.Tuple es x1 pos) (tTup t) (Dl.fA Dl.gTup f):=⟨qe_tup h.q,eok_tup (.inl rfl) h.o⟩
theorem ce_lst (h:JA X C E Γ Δ 2 S es n t f):JE X C E Γ Δ 2 S (.List es pos) (tLst t) (Dl.fA Dl.gLst f):=⟨qe_lst h.q,eok_lst h.o⟩
theorem ce_lst1 (h:JA X C E Γ Δ m S es n t f):JE X C E Γ Δ 1 S (.List es pos) (tLst t) (Dl.fA Dl.gLst f):=⟨qe_lst h.q,eok_lst1 h.o⟩
theorem ce_ix (K:Frag)(ha:JE X C E Γ Δ m1 S1 a ta fa)(hb:JE X C E Γ Δ m2 S2 b tb fb)(hs:PlainIx b)(hK:X.K=K:=by rfl):JE X C E Γ Δ 0 S1 (.Subscript a b pos) (tOp (rIx K) ta tb) (Dl.f2 Dl.gIx fa fb):=by
 subst hK
 exact ⟨qe_ix ix_seq ha.q hb.q hs,eok_ix ha.o hb.o⟩
theorem co_none:JO X C E Γ Δ none tNoPart Dl.oNone:=⟨qo_none,ook_none⟩
theorem co_some (h:JE X C E Γ Δ m S e te fe):JO X C E Γ Δ (some e) (tPart te) (Dl.oSome fe):=⟨qo_some h.q,ook_some h.o⟩
theorem ce_sl (K:Frag){lo hi:Option Expr}{tl th:TO}{fl fh:FO}(he:JE X C E Γ Δ m S e te fe)(hl:JO X C E Γ Δ lo tl fl)(hu:JO X C E Γ Δ hi th fh)(hK:X.K=K:=by rfl):JE X C E Γ Δ 2 [] (.Subscript e (.Slice lo hi none p2) pos) (tSl (rSlL K) te tl th) (Dl.fSl Dl.gSl fe fl fh):=by
 subst hK
 exact ⟨qe_slice sl_list he.q hl.q hu.q,eok_sl he.o hl.o hu.o⟩
theorem ce_call {K:Frag}{CX:CXT}{k:Nat}{ps:List Str}{F:List D→R D}{x:Str}(Df:Def X.prog X.w X.K X.mg X.base CX k x ps (spD K C n mr F))(hr:Room k X.A)(hg:Gl X x)(hx:Passes CX X E)
  (ha:JA X C E Γ Δ m S (e::es) n t f) (hdb:(x==("__debug__":Str))=false:=by decide) (he:starEach (e::es) X.env=(false,eval e X.env)::starEach es X.env:=by rfl) (hpl:(backTo pos (starEach es X.env)).any (·.1)=false:=by rfl) (hK:X.K=K:=by rfl) :
  JE X C E Γ Δ mr [] (.Call (.Name x p) (e::es) [] pos) (tCall (spD K C n mr F) [] E t) (Dl.fCall F f):=by
 subst hK
 exact ⟨qe_callD Df hr hg hx ha.q hdb he hpl,eok_call ha.o ha.n⟩
theorem ce_callB {x:Str}{id:String}{r:List V→Hp→VK→Prop}{g:List D→Option D}(hc:CallR X (.builtin id) r)(hgk:GAk X.K C r g)(hg:Gl X x)(hm:X.mg x=none)(hv:bootBuiltins x=some (.builtin id))(ha:JA X C E Γ Δ m S (e::es) n t f)(hn:x≠"__name__":=by decide)(hdb:(x==("__debug__":Str))=false:=by decide)
  (he:starEach (e::es) X.env=(false,eval e X.env)::starEach es X.env:=by rfl) (hpl:(backTo pos (starEach es X.env)).any (·.1)=false:=by rfl):JE X C E Γ Δ 2 [] (.Call (.Name x p) (e::es) [] pos) (tCB r t) (Dl.fA g f):=⟨qe_callB hc hg hm hv ha.q hn hdb he hpl,eok_cb hgk ha.o⟩
theorem ce_callTy {x:Str}{T:String}{r:List V→Hp→VK→Prop}{g:List D→Option D}(hc:CallR X (.type T) r)(hgk:GAk X.K C r g)(hg:Gl X x)(hm:X.mg x=none)(hv:bootBuiltins x=some (.type T))(ha:JA X C E Γ Δ m S (e::es) n t f)(hn:x≠"__name__":=by decide)(hdb:(x==("__debug__":Str))=false:=by decide)
  (he:starEach (e::es) X.env=(false,eval e X.env)::starEach es X.env:=by rfl) (hpl:(backTo pos (starEach es X.env)).any (·.1)=false:=by rfl):JE X C E Γ Δ 2 [] (.Call (.Name x p) (e::es) [] pos) (tCB r t) (Dl.fA g f):=⟨qe_callTy hc hg hm hv ha.q hn hdb he hpl,eok_cb hgk ha.o⟩
theorem ce_lrev (K:Frag)(hg:Gl X "list")(hm:X.mg "list"=none)(hg':Gl X "reversed")(hm':X.mg "reversed"=none)(he:JE X C E Γ Δ m S e te fe)(hs2:starEach [e] X.env=(false,eval e X.env)::starEach [] X.env)(hc:X.calm=true:=by rfl)(hK:X.K=K:=by rfl) :
  JE X C E Γ Δ 2 [] (.Call (.Name "list" p) [.Call (.Name "reversed" p2) [e] [] apos] [] cpos) (tLRev K te) (Dl.f1 Dl.gLRev fe):=by
 subst hK
 exact ⟨qe_lrev hg hm hg' hm' he.q hs2 hc,eok_lrev he.o⟩
theorem ci_list (h:JE X C E Γ Δ m S e te fe):JI X C E Γ Δ S tg e (iList X.K te) (Dl.jList fe):=⟨qi_list h.q,iok_list h.o⟩
theorem ci_rng1 (hg:Gl X "range")(hm:X.mg "range"=none)(ha:JA X C E Γ Δ m S [a] n t f)(hs:starEach [a] X.env=[(false,eval a X.env)]:=by rfl):JI X C E Γ Δ [] tg (.Call (.Name "range" p) [a] [] pos) (iRng1 t) (Dl.jRng1 f):=⟨qi_range1 hg hm ha.q hs,iok_rng1 ha.o⟩
theorem cg_name {i:Nat}{x:Str}(h1:i∉Γ:=by decide)(h2:i∉Δ:=by decide)(hN:X.N.Nodup)(hi:X.N[i]?=some x)(hx:Loc X.env.scope x)(hf:autoParam (X.fn x=true∨X.env.scope.names.lookup x=some .local) aT0._auto_1):JG X C Γ Δ (.Name x pos) (gName i) (Dl.bName i):=⟨qg_name hN hi hx hf,bok_name h1 h2⟩
theorem cgs_nil:JGs X C Γ Δ [] 0 gNil Dl.bNil:=⟨qgs_nil,bok_nil,bn_nil⟩
theorem cgs_cons {tt:TG}{u:TGs}{fb:FB}{fu:List D→DEnv→R DEnv}(h1:JG X C Γ Δ e tt fb)(h2:JGs X C Γ Δ es n u fu)(hs:(assignEach (e::es) X.env).map (·.2)=assign e X.env::(assignEach es X.env).map (·.2):=by rfl):JGs X C Γ Δ (e::es) (n+1) (gCons tt u) (Dl.bCons fb fu):=⟨qgs_cons h1.q h2.q hs,bok_cons h1.o h2.o,bn_cons h2.n⟩
theorem cg_tup {k:Nat}{u:TGs}{fu:List D→DEnv→R DEnv}(hc:X.calm=true)(h:JGs X C Γ Δ es n u fu)(hn:(assignEach es X.env).length=n:=by rfl)(hst:(assignEach es X.env).findIdx? (·.1)=none:=by rfl):JG X C Γ Δ (.Tuple es k pos) (gTup X.K n u) (Dl.bTup fu):=⟨qg_tup hc h.q hn hst,bok_tup h.n h.o⟩
theorem cif_nil:JIf X C E Γ Δ [] tYes Dl.cYes:=⟨qif_nil,tok_yes⟩
structure JB (X:Cx)(C:String→Addr)(n k:Nat)(e:Expr)(t:TG)(f:FB):Prop where
 q:QG X e t
 o:NOk X.K C n k t f
structure JBs (X:Cx)(C:String→Addr)(n k:Nat)(es:List Expr)(l:Nat)(t:TGs)(f:List D→DEnv→R DEnv):Prop where
 q:QGs X es t
 o:NsOk X.K C n k t f
 n:∀ds ρ ρ',f ds ρ=.ok ρ'→ds.length=l
theorem cb_name {k:Nat}(i:Nat){x:Str}(hN:X.N.Nodup:=by decide +kernel)(hi:X.N[i]?=some x:=by rfl)(hx:Loc X.env.scope x:=by exact .inl rfl)(hf:X.fn x=true∨X.env.scope.names.lookup x=some .local:=by exact .inr rfl)(h1:n≤i:=by decide)(h2:i<n+k:=by decide):JB X C n k (.Name x pos) (gName i) (Dl.bName i):=⟨qg_name hN hi hx hf,nok_name i h1 h2⟩
theorem cbs_nil {k:Nat}:JBs X C n k [] 0 gNil Dl.bNil:=⟨qgs_nil,nok_nil,bn_nil⟩
theorem cbs_cons {k l:Nat}{tt:TG}{u:TGs}{fb:FB}{fu:List D→DEnv→R DEnv}(h1:JB X C n k e tt fb)(h2:JBs X C n k es l u fu)(hs:(assignEach (e::es) X.env).map (·.2)=assign e X.env::(assignEach es X.env).map (·.2):=by rfl):JBs X C n k (e::es) (l+1) (gCons tt u) (Dl.bCons fb fu):=⟨qgs_cons h1.q h2.q hs,nok_cons h1.o h2.o,bn_cons h2.n⟩
theorem cb_tup (K:Frag){k l kk:Nat}{u:TGs}{fu:List D→DEnv→R DEnv}(h:JBs X C n k es l u fu)(hc:X.calm=true:=by rfl)(hn:(assignEach es X.env).length=l:=by rfl)(hst:(assignEach es X.env).findIdx? (·.1)=none:=by rfl)(hK:X.K=K:=by rfl):JB X C n k (.Tuple es kk pos) (gTup K l u) (Dl.bTup fu):=by
 subst hK
 exact ⟨qg_tup hc h.q hn hst,nok_tup h.n h.o⟩
theorem ce_comp {elt:Expr}{ifs:List Expr}{sc:Scope}{wi:TI}{tc:TT}{gg:TG}{fi:FI}{fc:FT}{fg:FB}(esc:Scope)(N N2 xs:List Str)(B:BlkN sc esc xs N N2)(hi:JI X C E Γ Δ S tg iter wi fi)(hg:∀cl C' s0 H0 fp,JB (X.blkN N2 xs sc cl C' s0 H0 fp) C n xs.length tg gg fg)(ht:∀cl C' s0 H0 fp,JIf (X.blkN N2 xs sc cl C' s0 H0 fp) C E0 [] [] ifs tc fc)(he:∀cl C' s0 H0 fp,JE (X.blkN N2 xs sc cl C' s0 H0 fp) C E0 [] [] 2 [] elt te fe)
  (hesc:X.env.scope=esc:=by rfl) (hN:X.N=N:=by rfl) (hc:X.calm=true:=by rfl) (hs:∀v,foldedSetIterable iter X.env v=pure v:=by intro _;rfl):JE X C E Γ Δ 2 [] (.ListComp elt [⟨tg,iter,ifs,0⟩] sc pos) (tCompN xs.length gg wi tc te) (Dl.fComp n xs.length fi fg fc fe):=
 ⟨qe_compN esc N N2 xs B hi.q (fun cl C' s0 H0 fp=>(hg cl C' s0 H0 fp).q) (fun cl C' s0 H0 fp=>(ht cl C' s0 H0 fp).q) (fun cl C' s0 H0 fp=>(he cl C' s0 H0 fp).q) hesc hN hc hs,eok_comp hi.o (hg [] 0 X.s₀ X.H₀ []).o (ht [] 0 X.s₀ X.H₀ []).o (he [] 0 X.s₀ X.H₀ []).o⟩
variable {s1:Stmt}{ss body other:List Stmt}{u v:TS}{g h:FS}{pos':Pos}
theorem css_nil:JSs X C E mr Γl Δl Γ Δ Γ Δ [] tNext Dl.sNx:=⟨qss_nil,sok_nx⟩
theorem css_cons (Γ1 Δ1:List Nat)(h1:JS X C E mr Γl Δl Γ Δ Γ1 Δ1 s1 u g)(h2:JSs X C E mr Γl Δl Γ1 Δ1 Γ' Δ' ss v h):JSs X C E mr Γl Δl Γ Δ Γ' Δ' (s1::ss) (tSeq u v) (Dl.sSeq g h):=⟨qss_cons h1.q h2.q,sok_seq h1.o h2.o⟩
theorem css_one (h1:JS X C E mr Γl Δl Γ Δ Γ' Δ' s1 u g):JSs X C E mr Γl Δl Γ Δ Γ' Δ' [s1] u g:=⟨qss_one h1.q,h1.o⟩
theorem css_weak (Γ1 Δ1:List Nat)(h:JSs X C E mr Γl Δl Γ Δ Γ1 Δ1 ss u g)(h1:∀i∈Γ',i∈Γ1:=by decide)(h2:∀i∈Δ',i∈Δ1:=by decide):JSs X C E mr Γl Δl Γ Δ Γ' Δ' ss u g:=⟨h.q,sok_weak h.o h1 h2⟩
theorem cs_never:JS X C E mr Γl Δl Γ Δ Γ' Δ' s1 tNever Dl.sNever:=⟨qs_never,sok_never⟩
theorem cs_ret (he:JE X C E Γ Δ 2 S e te fe)(h0:∀p∈S,p.1∈Δ:=by decide):JS X C E 2 Γl Δl Γ Δ Γ' Δ' (.Return (some e) pos) (tRet te) (Dl.sRet fe):=⟨qs_ret he.q,sok_ret2 he.o h0⟩
theorem cs_if {tA:TT}{fA:FT}(hc:JT X C E Γ Δ c tA fA)(ha:JSs X C E mr Γl Δl Γ Δ Γ' Δ' body u g)(hb:JSs X C E mr Γl Δl Γ Δ Γ' Δ' other v h):JS X C E mr Γl Δl Γ Δ Γ' Δ' (.If c body other pos) (tIfS tA u v) (Dl.sIf fA g h):=⟨qs_if hc.q ha.q hb.q,sok_if hc.o ha.o hb.o⟩
theorem cs_set {i:Nat}{x:Str}(hN:X.N.Nodup)(hi:X.N[i]?=some x)(hx:Loc X.env.scope x)(he:JE X C E Γ Δ 2 [] e te fe)(hs:swapsWith e (some (.Name x pos')) pos.line X.env=pure false:=by rfl)(hf:autoParam (X.fn x=true∨X.env.scope.names.lookup x=some .local) aT0._auto_1)
  (h1:∀j∈Γ',j=i∨j∈Γ:=by decide) (h2:∀j∈Δ',j=i∨j∈Δ:=by decide):JS X C E mr Γl Δl Γ Δ Γ' Δ' (.Assign [.Name x pos'] e pos) (tAsg te (gName i)) (Dl.sSet i fe):=⟨qs_set hN hi hx he.q hs hf,sok_set2 he.o h1 h2⟩
theorem cs_app {i:Nat}{x:Str}(hi:i∈Γ:=by decide)(hN:X.N[i]?=some x:=by rfl)(hv:autoParam (Vis X.env.scope x) aT3._auto_1)(hd:(x==("__debug__":Str))=false:=by decide)(hcd:(x==("__classdict__":Str))=false:=by decide)
  (he:JE X C E Γ Δ 2 [] e te fe) (hse:starEach [e] X.env=(false,eval e X.env)::starEach [] X.env)
  (hbase:attributeBase (.Name x p) "append" X.env (eval (.Name x p) X.env)=eval (.Name x p) X.env:=by rfl)
  (hfew:((backTo cpos (starEach [e] X.env)).all (fun x=>!x.1)&&(backToKw cpos (keywordEach [] X.env)).all (fun x=>x.1.isSome)&&decide (([e]:List Expr).length+([]:List Keyword).length+(if ([]:List Keyword).isEmpty then 0 else 1)<30))=true:=by rfl)
  (hline:(apos.endLine==cpos.line)=true:=by rfl) (hplain:(backTo cpos (starEach ([]:List Expr) X.env)).any (·.1)=false:=by rfl) (hsw:swapsWith (.Call (.Attribute (.Name x p) "append" apos) [e] [] cpos) none pos.line X.env=pure false:=by rfl) :
  JS X C E mr Γl Δl Γ Δ Γ Δ (.Expr (.Call (.Attribute (.Name x p) "append" apos) [e] [] cpos) pos) (tDrop (tBM X.K "list" rAppend (tVar i) (tCons te tNil))) (Dl.sApp i fe):=
 ⟨qs_expr (qe_bm PySem.F.plainAttrs_list PySem.F.slot_list_append PySem.F.type_list_append mt_append (qv i hN hv hd hcd) (qa_cons he.q qa_nil hse) hbase hfew hline hse hplain) hsw,sok_app2 hi he.o⟩
theorem cs_for {wi:TI}{tt:TG}{fi:FI}{fb:FB}(Γl Δl:List Nat)(hp:PassesOwn (model X.prog X.w) X.A X.env X.xe)(hc:X.calm=true)(hi:JI X C E Γ Δ S tg iter wi fi)(hg:JG X C Γl Δl tg tt fb)(hb:JSs X C E mr Γl Δl Γl Δl Γl Δl body u g)(hs:∀x,foldedSetIterable iter X.env x=pure x:=by intro _;rfl)
  (h1:∀i∈Γl,i∈Γ:=by decide) (h2:∀i∈Δl,i∈Δ:=by decide) (h3:∀p∈S,p.1∉Γl∧p.1∉Δl:=by decide):JS X C E mr Γk Δk Γ Δ Γl Δl (.For tg iter body [] pos) (tFor wi tt u) (Dl.sFor fi fb g):=⟨qs_for hp hc hi.q hg.q hb.q hs,sok_for hi.o hg.o hb.o h1 h2 h3⟩
end
theorem Fun.okC {P:Program}{w:World}{K:Frag}{C:String→Addr}{mg:Str→Option Value}{base:Heap}{x qual:Str}{st:Stmt}{f:Addr}{fd:FuncData}{N ps:List Str}{k n mr:Nat}{Γ' Δ':List Nat}{g:FS}(F:Fun K x qual st f fd)(S:FnScope N ps (defScope st))(hn:ps.length=n)
    (hbody:∀(cdv:Value) (A:Around) (outer:List Env) (s:Shared) (H:Hp) (E:XK),Room k (A.deeper (envOfC qual (defScope st) s.heap.objs.size f cdv))→
      ∃t,JSs (cxOf CX0 P w K mg base N qual (defScope st) f cdv A outer s H E).nox C E0 mr [] [] [] [] Γ' Δ' (defBody st) t g):FnOk P w K mg base CX0 (k+1) f fd ps (spD K C n mr fun ds=>(Dl.run N.length g ds).calm):=
  F.okQ S (fun vs H Q E h=>by
    obtain ⟨ds,B,h1,h2,_⟩:=h
    rw [h2.len,h1,hn]) fun cdv A outer s H vs Q E hr h=>by
    obtain ⟨ds,B,h1,h2,h3⟩:=h
    obtain ⟨t,ht⟩:=hbody cdv A outer s H E hr
    exact ⟨t,ht.q,run_post (K:=K) ht.o h2 (Post.imp (calm_of h3) (fun _ q=>q) fun _ _ z=>z.elim)⟩
section
variable {K:Frag}{C:String→Addr}{E:XK}{Γ Δ Γ' Δ' Γ1 Δ1 Γl Δl Γk Δk:List Nat}{m m1 m2 m3 mr:Nat}{S S1 S2 S3:List (Nat×Bool)}{H:Hp}{Q:VK}
def Kit (c:String):Prop:=∀(K:Frag) (d:D) (b:Bool),Dl.gIsI c d=some (.bl b)→kitOne K (.type (Dl.tyName d)) (.type c)=some b
theorem kit_int:Kit "int":=fun K d b h=>by cases d<;>cases h<;>rfl
theorem kit_bool:Kit "bool":=fun K d b h=>by cases d<;>cases h<;>rfl
theorem kit_str:Kit "str":=fun K d b h=>by cases d<;>cases h<;>rfl
theorem kit_list:Kit "list":=fun K d b h=>by cases d<;>cases h<;>rfl
theorem kit_tuple:Kit "tuple":=fun K d b h=>by cases d<;>cases h<;>rfl
theorem eok_isI {c:String}(hk:Kit c){ta:TE}{fa:FE}(ha:EOk K C E Γ Δ m S ta fa):EOk K C E Γ Δ 2 [] (tCB (rIsI K) (tCons ta (tCons (tC (.ty c)) tNil))) (Dl.f1 (Dl.gIsI c) fa):=fun H0 Hb H σ ρ A Q I p =>
  ha H0 Hb H σ ρ A _ I (p.bind.imp (fun x q v H1 g1 r=>by
    obtain ⟨d,e,q⟩:=oR_ok q
    obtain ⟨B,r,_⟩:=r
    have out:∀b t,d=.bl b→TyOf K H1 v t→t=.type (Dl.tyName x)→rIsI K [v,.ty c] H1 Q:=fun b t ed ty et=>by
      subst ed et
      exact rd_isI ty (hk K x b e) (q _ H1 g1 (Res.flat rpB))
    show rIsI K [v,.ty c] H1 Q
    cases x with
    | non=>cases e;exact out _ _ rfl (by rw [r.1];exact .non) rfl
    | bl b=>cases e;exact out _ _ rfl (by rw [r.1];exact .bl _) rfl
    | int i=>cases e;exact out _ _ rfl (by rw [r.1];exact .int _) rfl
    | str z=>cases e;exact out _ _ rfl (by rw [r.1];exact .str _) rfl
    | lst ds =>
      cases e
      obtain ⟨a,xs,B,rfl,e2,_⟩:=r
      exact out _ _ rfl (.lst e2) rfl
    | tup ds =>
      cases e
      obtain ⟨a,xs,rfl,e2,_⟩:=r
      exact out _ _ rfl (.tup e2) rfl
    | scr _=>cases e
    | rng _ _=>cases e
    | exc _ _=>cases e
    | obj _ _ _=>cases e
    | dct _ _=>cases e
    | dtt _ _=>cases e) fun c x q H' g'=>q H' g')
theorem EnvOk.rewrite {H0 Hb H H1:Hp}{σ:St}{ρ:DEnv}{A:Nat→List Addr}{i:Nat}{a:Addr}{l B':List Addr}{es:List D}{ys:List V}(I:EnvOk K C H0 Hb H Γ Δ σ ρ A)(g1:Same H H1)(hi:i∈Γ)(hA:A i=a::l)(hl:i<ρ.length)(s1:σ[i]?=some (some (.ref a)))(r:RpA K C H1 es ys B')
    (hB:∀b∈B',b∈l∨H b=none) (hD:i∈Δ→B'.Nodup):∃A',EnvOk K C H0 Hb (upd H1 a (.lst ys)) Γ Δ σ (ρ.set i (some (.lst es))) A':=by
  obtain ⟨tb,ta,tt⟩:=I.top i hi a l hA
  have ha:a∈A i:=by rw [hA];exact .head _
  have w1:∀b∈B',H0 b=none:=fun b hb=>(hB b hb).elim (fun z=>I.loc i hi b (by rw [hA];exact .tail _ z)) fun z=>I.s0.free (I.same.free z)
  have w0:a∉B':=fun z=>(hB a z).elim ta fun z=>I.ne ha z
  have w2:∀j∈Γ,j≠i→j∈Γ∧∀b l',A j=b::l'→b∉B':=fun j hj e=>⟨hj,fun b l' e' z=>(hB b z).elim
    (fun z=>(I.top j hj b l' e').2.2 i (fun w=>e w.symm) (by rw [hA];exact .tail _ z)) fun z=>I.ne (j:=j) (by rw [e'];exact .head _) z⟩
  have w3:∀j∈Δ,j≠i→j∈Δ∧∀b∈A j,b∉B':=fun j hj e=>⟨hj,fun b hb z=>(hB b z).elim
    (fun z=>(I.deep j hj).2.1 i (fun w=>e w.symm) b hb (by rw [hA];exact .tail _ z)) fun z=>I.ne hb z⟩
  have w4:i∈Δ→B'.Nodup∧(∀j,j≠i→∀b∈B',b∉A j)∧∀b∈B',Hb b=none:=fun hd=>by
    obtain ⟨d1,d2,d3⟩:=I.deep i hd
    rw [hA] at d2 d3
    exact ⟨hD hd,fun j hj b hb=>(hB b hb).elim (fun z=>d2 j hj b (.tail _ z)) fun z w=>I.ne w z,fun b hb=>(hB b hb).elim (fun z=>d3 b (.tail _ z)) fun z=>I.same.free z⟩
  exact (I.mono g1).write (Γ':=Γ) (Δ':=Δ) hi hA hl s1 r w1 w0 w2 w3 w4
theorem RpA.set:∀{ds:List D} {vs:List V} {A:List Addr} {j:Nat} {d:D} {v:V},RpA K C H ds vs A→Rp K C H d v []→Dl.flatA ds=true→RpA K C H (ds.set j d) (vs.set j v) []
 | [],_,_,_,_,_,r,_,_=>by rw [r.1];exact RpA.nil
 | x::ds,_,_,0,d,v,r,q,h=>by
  obtain ⟨y,l,B,B',e1,e2,e3,e4⟩:=r
  simp only [Dl.flatA,Bool.and_eq_true] at h
  subst e1
  exact ⟨v,l,[],[],rfl,q,e3.flat' h.2,rfl⟩
 | x::ds,_,_,j+1,d,v,r,q,h=>by
  obtain ⟨y,l,B,B',e1,e2,e3,e4⟩:=r
  simp only [Dl.flatA,Bool.and_eq_true] at h
  subst e1
  have z:=e2.flat h.1
  subst z
  exact ⟨y,_,[],[],rfl,e2,RpA.set e3 q h.2,rfl⟩
theorem sok_put {i:Nat}{te tk:TE}{fe fk:FE}(hi:i∈Γ:=by decide)(he:EOk K C E Γ Δ m1 S1 te fe)(hk:EOk K C E Γ Δ m2 S2 tk fk):SOk K C E mr Γl Δl Γ Δ Γ Δ (tAsg te (gSub (tVar i) tk rSetL)) (Dl.sPut i fk fe):=fun H0 Hb H σ ρ A D I p=>by
 refine he H0 Hb H σ ρ A _ I (Post.imp (Post.bind p) (fun d q v H1 g1 r=>?_) fun c x q H' g'=>q H' (Same.from0 I g'))
 have I1:=I.mono g1
 split at q
 ·rename_i ds e
  obtain ⟨a,xs,l,s1,h1,r1,hA,hl⟩:=slot_lst I1 e
  refine ⟨.ref a,s1,hk H0 Hb H1 σ ρ A _ I1 (Post.imp (Post.bind q) (fun z q w H2 g2 rz=>?_) fun c x q H' g'=>q H' (Same.from0 I1 g'))⟩
  obtain ⟨Bz,rz,_⟩:=rz
  obtain ⟨B,rd,_⟩:=r
  cases z with
  | int n =>
   obtain ⟨rfl,_⟩:=rz
   simp only at q
   split at q
   ·rename_i hf
    split at q
    ·rename_i j ej
     have zB:=rd.flat hf.1
     subst zB
     obtain ⟨A',I'⟩:=I1.rewrite g2 hi hA hl s1 (RpA.set (j:=j) (r1.same g2) (rd.same g2) hf.2) (fun _ hb=>nomatch hb) fun _=>nodup_nil
     exact ⟨a,xs,n,j,rfl,rfl,g2 _ _ h1,by rw [r1.len];exact ej,q _ _ A' I'⟩
    ·exact q.elim
   ·exact q.elim
  | _=>exact q.elim
 ·exact q.elim
def BsN (K:Frag)(C:String→Addr)(Γ Δ Γ' Δ':List Nat)(g:TGs)(b:List D→DEnv→R DEnv):Prop:=∀(H0 Hb H:Hp) (σ:St) (ρ:DEnv) (A:Nat→List Addr) (d:List D) (v:List V) (B:List Addr) (Rr:St→Hp→Prop),EnvOk K C H0 Hb H Γ Δ σ ρ A→RpA K C H d v B→B.Nodup→(∀a∈B,Hb a=none∧∀j,a∉A j)→
 Post (b d ρ) (fun ρ'=>∀σ' A',EnvOk K C H0 Hb H Γ' Δ' σ' ρ' A'→Rr σ' H) (fun _ _=>False)→g v σ H Rr
theorem bsn_nil (h1:∀i∈Γ',i∈Γ)(h2:∀i∈Δ',i∈Δ):BsN K C Γ Δ Γ' Δ' gNil Dl.bNil:=fun H0 Hb H σ ρ A d v B Rr I r _ _ p=>by
 cases d with
 | nil=>exact ⟨r.1,p _ A (I.weak h1 h2)⟩
 | cons _ _=>exact p.elim
theorem bsn_cons {i:Nat}{gs:TGs}{bs:List D→DEnv→R DEnv}(h2:BsN K C (i::Γ) (i::Δ) Γ' Δ' gs bs):BsN K C Γ Δ Γ' Δ' (gCons (gName i) gs) (Dl.bCons (Dl.bName i) bs):=fun H0 Hb H σ ρ A d v B Rr I r nd hB p=>by
  cases d with
  | nil=>exact p.elim
  | cons d ds =>
    obtain ⟨x,l,B1,B2,e1,e2,e3,e4⟩:=r
    subst e1 e4
    obtain ⟨n1,n2,n3⟩:=List.nodup_append.mp nd
    have hB1:∀a∈B1,Hb a=none∧∀j,a∉A j:=fun a ha=>hB a (mem_append_left _ ha)
    obtain ⟨A',I',hA'⟩:=I.put (Γ':=i::Γ) (Δ':=i::Δ) (i:=i) e2
      (fun j hj e=>⟨(List.mem_cons.mp hj).elim (fun z=>absurd z e) id,fun a l' e' ha=>(hB1 a ha).2 j (by rw [e'];exact .head _)⟩)
      (fun _=>⟨fun a ha=>I.s0.free (hB1 a ha).1,fun a l' e=>by
        subst e
        exact ⟨(hB1 a (.head _)).1,(List.nodup_cons.mp n1).1,fun j _=>(hB1 a (.head _)).2 j⟩⟩)
      (fun j hj e=>⟨(List.mem_cons.mp hj).elim (fun z=>absurd z e) id,fun a ha hb=>(hB1 a hb).2 j ha⟩)
      (fun _=>⟨n1,fun j _ a ha=>(hB1 a ha).2 j,fun a ha=>(hB1 a ha).1⟩)
    exact ⟨x,l,rfl,h2 H0 Hb H _ _ A' ds l B2 Rr I' e3 n2 (fun a ha=>⟨(hB a (mem_append_right _ ha)).1,fun j h=>(hA' j a h).elim (fun z=>n3 a z a ha rfl) fun z=>(hB a (mem_append_right _ ha)).2 j z⟩) p⟩
theorem sok_unpack {te:TE}{gs:TGs}{fe:FE}{bs:List D→DEnv→R DEnv}{n:Nat}(hn:∀ds ρ ρ',bs ds ρ=.ok ρ'→ds.length=n)(he:EOk K C E Γ Δ 2 [] te fe)(hb:BsN K C Γ Δ Γ' Δ' gs bs):SOk K C E mr Γl Δl Γ Δ Γ' Δ' (tAsg te (gTup K n gs)) (Dl.sAsg fe (Dl.bTup bs)):=fun H0 Hb H σ ρ A D I p=>by
 refine he H0 Hb H σ ρ A _ I (Post.imp (Post.bind p) (fun d q v H1 g1 r=>?_) fun c x q H' g'=>q H' (Same.from0 I g'))
 obtain ⟨B,r1,r2,_,r4⟩:=r
 have hn':∀a∈B,H a=none:=fun a ha=>(r2 a ha).elim id fun z=>z.none.elim
 have q':=calm_of (Post.bind q)
 cases d with
 | tup ds =>
  obtain ⟨a,xs,rfl,e2,e3⟩:=r1
  have q'':Post (bs ds ρ) (fun ρ'=>∀σ' H' A',EnvOk K C H0 Hb H' Γ' Δ' σ' ρ' A'→D.nx σ' H') (fun _ _=>False):=q'
  have hl:xs.length=n:=by
   rw [e3.len]
   cases e:bs ds ρ with
   | ok ρ'=>exact hn ds ρ ρ' e
   | err _ _=>rw [e] at q'';exact q''.elim
   | bad=>rw [e] at q'';exact q''.elim
  exact ⟨a,xs,rfl,SqT.of e2,hl,hb H0 Hb H1 σ ρ A ds xs B D.nx (I.mono g1) e3 (r4 rfl) (fun a ha=>⟨I.same.free (hn' a ha),fun j z=>I.ne z (hn' a ha)⟩) (Post.imp q'' (fun ρ' q σ' A' I'=>q σ' H1 A' I') fun _ _ z=>z)⟩
 | _=>exact q'.elim
end
section
variable {X:Cx}{C:String→Addr}{E:XK}{Γ Δ Γ' Δ' Γ1 Δ1 Γl Δl Γk Δk:List Nat}{m m1 m2 m3 mr:Nat}{S S1 S2 S3:List (Nat×Bool)}{a b c e st o tg iter:Expr}{es rest:List Expr}{ta tb tc te ts:TE}{fa fb fc fe fs:FE}{t:TA}{f:FA}{pos p p2 apos cpos pos':Pos}{n:Nat}
theorem ce_isI (K:Frag){T:String}{ty:Str}(hk:Kit T)(hg:Gl X "isinstance")(hm:X.mg "isinstance"=none)(hgt:Gl X ty)(hmt:X.mg ty=none)(hvt:bootBuiltins ty=some (.type T))(ha:JE X C E Γ Δ m S e te fe)(hse:starEach (e::[.Name ty p2]) X.env=(false,eval e X.env)::starEach [.Name ty p2] X.env)
  (hn:ty≠"__name__":=by decide) (hd:(ty==("__debug__":Str))=false:=by decide) (hpl:(backTo pos (starEach [.Name ty p2] X.env)).any (·.1)=false:=by rfl) (hK:X.K=K:=by rfl) :
  JE X C E Γ Δ 2 [] (.Call (.Name "isinstance" p) [e,.Name ty p2] [] pos) (tCB (rIsI K) (tCons te (tCons (tC (.ty T)) tNil))) (Dl.f1 (Dl.gIsI T) fe):=by
 subst hK
 exact ⟨qe_callB call_isinst hg hm PyProof.Rows.boot_isinstance (qa_cons ha.q (qa_cons (qe_bltn (v:=.ty T) hgt hmt hvt rfl hn hd) qa_nil star_name) hse) (by decide) (by decide) hse hpl,eok_isI hk ha.o⟩
theorem cs_put {i:Nat}{x:Str}{kx:Expr}{tk:TE}{fk:FE}(hi:i∈Γ:=by decide)(hN:X.N[i]?=some x:=by rfl)(hv:autoParam (Vis X.env.scope x) aT3._auto_1)(hd:(x==("__debug__":Str))=false:=by decide)(hcd:(x==("__classdict__":Str))=false:=by decide)
    (he:JE X C E Γ Δ m1 S1 e te fe) (hk:JE X C E Γ Δ m2 S2 kx tk fk) (hs:swapsWithSole [.Subscript (.Name x p) kx p2] e pos.line X.env=pure false:=by rfl) (hw:swappedStores [.Subscript (.Name x p) kx p2] e X.env=pure none:=by rfl) (h1:(assignEach [.Subscript (.Name x p) kx p2] X.env).map (·.2)=[assign (.Subscript (.Name x p) kx p2) X.env]:=by rfl)
    (hq:∀v,assign (.Subscript (.Name x p) kx p2) X.env v=(do
      let ov ← holding [v] (eval (.Name x p) X.env)
      let iv ← holding [v,ov] (eval kx X.env)
      standAt p2
      holding [v,ov,iv] (setItem ov iv v)
      release [v,ov,iv] []):=by intro _;rfl) :
    JS X C E mr Γl Δl Γ Δ Γ Δ (.Assign [.Subscript (.Name x p) kx p2] e pos) (tAsg te (gSub (tVar i) tk rSetL)) (Dl.sPut i fk fe):=⟨qs_asg he.q (qg_sub (qv i hN hv hd hcd) hk.q set_list hq) hs hw h1,sok_put hi he.o hk.o⟩
structure JN (X:Cx)(C:String→Addr)(Γ Δ Γ' Δ':List Nat)(es:List Expr)(n:Nat)(t:TGs)(f:List D→DEnv→R DEnv):Prop where
 q:QGs X es t
 o:BsN X.K C Γ Δ Γ' Δ' t f
 n:∀ds ρ ρ',f ds ρ=.ok ρ'→ds.length=n
theorem cn_nil (h1:∀i∈Γ',i∈Γ:=by decide)(h2:∀i∈Δ',i∈Δ:=by decide):JN X C Γ Δ Γ' Δ' [] 0 gNil Dl.bNil:=⟨qgs_nil,bsn_nil h1 h2,bn_nil⟩
theorem cn_cons {i:Nat}{x:Str}{u:TGs}{fu:List D→DEnv→R DEnv}(hN:X.N.Nodup)(hi:X.N[i]?=some x)(hx:Loc X.env.scope x)(h2:JN X C (i::Γ) (i::Δ) Γ' Δ' es n u fu)(hf:autoParam (X.fn x=true∨X.env.scope.names.lookup x=some .local) aT0._auto_1)
  (hs:(assignEach (.Name x p::es) X.env).map (·.2)=assign (.Name x p) X.env::(assignEach es X.env).map (·.2):=by rfl):JN X C Γ Δ Γ' Δ' (.Name x p::es) (n+1) (gCons (gName i) u) (Dl.bCons (Dl.bName i) fu):=⟨qgs_cons (qg_name hN hi hx hf) h2.q hs,bsn_cons h2.o,bn_cons h2.n⟩
theorem cs_unpack {k:Nat}{u:TGs}{fu:List D→DEnv→R DEnv}(hc:X.calm=true)(he:JE X C E Γ Δ 2 [] e te fe)(hb:JN X C Γ Δ Γ' Δ' es n u fu)(hn:(assignEach es X.env).length=n:=by rfl)(hst:(assignEach es X.env).findIdx? (·.1)=none:=by rfl)
  (hs:swapsWithSole [.Tuple es k p] e pos.line X.env=pure false:=by rfl) (hw:swappedStores [.Tuple es k p] e X.env=pure none:=by rfl) (h1:(assignEach [.Tuple es k p] X.env).map (·.2)=[assign (.Tuple es k p) X.env]:=by rfl) :
  JS X C E mr Γl Δl Γ Δ Γ' Δ' (.Assign [.Tuple es k p] e pos) (tAsg te (gTup X.K n u)) (Dl.sAsg fe (Dl.bTup fu)):=⟨qs_asg he.q (qg_tup hc hb.q hn hst) hs hw h1,sok_unpack hb.n he.o hb.o⟩
theorem ce_glob {x:Str}{i:Int}{u:Value}(hg:Gl X x)(hm:X.mg x=some u)(r:RelV (.int i) u)(hd:(x==("__debug__":Str))=false:=by decide):JE X C E Γ Δ 2 [] (.Name x pos) (tC (.int i)) (Dl.fC (.int i)):=⟨qe_glob hg hm r hd,eok_c fun _=>rpI⟩
end
section
variable {K:Frag}{C:String→Addr}{E:XK}{Γ Δ Γ' Δ' Γ1 Δ1 Γl Δl Γk Δk:List Nat}{m m1 m2 m3 mr:Nat}{S S1 S2 S3:List (Nat×Bool)}{H:Hp}{Q:VK}
end
section
variable {X:Cx}{C:String→Addr}{E:XK}{Γ Δ Γ' Δ' Γ1 Δ1 Γl Δl Γk Δk:List Nat}{m m1 m2 m3 mr:Nat}{S S1 S2 S3:List (Nat×Bool)}{a b c e st o tg iter:Expr}{es rest:List Expr}{ta tb tc te ts:TE}{fa fb fc fe fs:FE}{t:TA}{f:FA}{pos p p2 apos cpos pos':Pos}{n:Nat}
end
section
variable {K:Frag}{C:String→Addr}{E:XK}{Γ Δ Γ' Δ' Γ1 Δ1 Γl Δl Γk Δk:List Nat}{m m1 m2 m3 mr:Nat}{S S1 S2 S3:List (Nat×Bool)}{H:Hp}{Q:VK}
def JOk (K:Frag)(C:String→Addr)(E:XK)(Γ Δ:List Nat)(t:TJ)(f:FA):Prop:=∀(H0 Hb H:Hp) (σ:St) (ρ:DEnv) (A:Nat→List Addr) (Q:Hp→Prop),EnvOk K C H0 Hb H Γ Δ σ ρ A→
 Post (f ρ) (fun _=>∀H',Same H H'→Q H') (fun c x=>∀H',Same H H'→EC C E c x H')→t σ H Q
end
section
variable {X:Cx}{C:String→Addr}{E:XK}{Γ Δ Γ' Δ' Γ1 Δ1 Γl Δl Γk Δk:List Nat}{m n mr:Nat}{S:List (Nat×Bool)}{e:Expr}{es:List Expr}{t:TA}{f:FA}{np cpos pos hpos:Pos}
end
section
variable {K:Frag}{C:String→Addr}{E:XK}{Γ Δ Γ' Δ' Γ1 Δ1 Γl Δl Γk Δk:List Nat}{m m1 m2 m3 mr:Nat}{S S1 S2 S3:List (Nat×Bool)}{H:Hp}{Q:VK}
end
section
variable {X:Cx}{C:String→Addr}{E:XK}{Γ Δ Γ' Δ' Γ1 Δ1 Γl Δl Γk Δk:List Nat}{m m1 m2 m3 mr:Nat}{S S1 S2 S3:List (Nat×Bool)}{a b c e st o tg iter:Expr}{es rest:List Expr}{ta tb tc te ts:TE}{fa fb fc fe fs:FE}{t:TA}{f:FA}{pos p p2 apos cpos pos':Pos}{n:Nat}{body:List Stmt}{u:TS}{g:FS}
end
structure ClsIn (K:Frag)(C:Addr):Prop where
 ty:typeIn K (.ref C)=some (.type "type")
 cl:∃c,clsIn K C=some c
 se:subIn K (.ref C) (.ref C)=some true
theorem all_cons {α:Type}{P:α→Prop}{a:α}{l:List α}(h:P a)(hl:∀c∈l,P c):∀c∈a::l,P c:=fun c hc=>(List.mem_cons.mp hc).elim (fun e=>by rw [e];exact h) fun hc=>hl c hc
section
variable {K:Frag}{C:String→Addr}{E:XK}{Γ Δ Γ' Δ' Γ1 Δ1 Γl Δl Γk Δk:List Nat}{m m1 m2 m3 mr:Nat}{S S1 S2 S3:List (Nat×Bool)}{H:Hp}{Q:VK}
theorem sok_extF {i:Nat}{te:TE}{fe:FE}(hi:i∈Γ:=by decide)(he:EOk K C E Γ Δ m S te fe):SOk K C E mr Γl Δl Γ Δ Γ Δ (tDrop (tBM K "list" rExtend (tVar i) (tCons te tNil))) (Dl.sExtF i fe):=fun H0 Hb H σ ρ A D I p=>by
 unfold Dl.sExtF at p
 split at p
 ·rename_i ds e
  obtain ⟨a,xs,l,s1,h1,r1,hA,hl⟩:=slot_lst I e
  refine ⟨.ref a,s1,.inl ⟨rfl,xs,SqL.of h1⟩,he H0 Hb H σ ρ A _ I (Post.imp (Post.bind p) (fun d q v H1 g1 r=>?_) fun c x q H' g'=>q H' (Same.from0 I g'))⟩
  obtain ⟨B,r2,r3,_⟩:=r
  cases d with
  | lst es =>
   simp only at q
   split at q
   ·rename_i hz
    obtain ⟨b,zs,B2,rfl,e2,e3,e4⟩:=r2
    have e3:=e3.flat' hz.2
    show rExtend (.ref a) [.ref b] H1 fun _ H3=>D.nx σ H3
    refine ⟨a,b,xs,zs,rfl,rfl,g1 _ _ h1,e2,by rw [r1.len,e3.len];exact limLine hz.1,?_⟩
    have e5:=(r1.same g1).app e3
    rw [append_nil] at e5
    obtain ⟨A',I'⟩:=I.rewrite g1 hi hA hl s1 e5 (fun b hb=>.inl hb) fun hd=>by
     obtain ⟨d1,_⟩:=I.deep i hd
     rw [hA] at d1
     exact (List.nodup_cons.mp d1).2
    exact q _ _ A' I'
   ·exact q.elim
  | _=>exact q.elim
 ·exact p.elim
end
structure JJ (X:Cx)(C:String→Addr)(E:XK)(Γ Δ:List Nat)(es:List Expr)(t:TJ)(f:FA):Prop where
 q:QJ X es t
 o:JOk X.K C E Γ Δ t f
section
variable {X:Cx}{C:String→Addr}{E:XK}{Γ Δ Γ' Δ' Γ1 Δ1 Γl Δl Γk Δk:List Nat}{m m1 m2 m3 mr:Nat}{S S1 S2 S3:List (Nat×Bool)}{a b c e st o tg iter:Expr}{es rest:List Expr}{ta tb tc te ts:TE}{fa fb fc fe fs:FE}{t:TA}{f:FA}{pos p p2 apos cpos pos' np jp:Pos}{n:Nat}{body:List Stmt}{s:Stmt}{u:TS}{g:FS}{tj:TJ}
theorem cs_extF {i:Nat}{x:Str}(hi:i∈Γ:=by decide)(hN:X.N[i]?=some x:=by rfl)(hv:autoParam (Vis X.env.scope x) aT3._auto_1)(hd:(x==("__debug__":Str))=false:=by decide)(hcd:(x==("__classdict__":Str))=false:=by decide)
  (he:JE X C E Γ Δ m S e te fe) (hse:starEach [e] X.env=(false,eval e X.env)::starEach [] X.env)
  (hbase:attributeBase (.Name x p) "extend" X.env (eval (.Name x p) X.env)=eval (.Name x p) X.env:=by rfl)
  (hfew:((backTo cpos (starEach [e] X.env)).all (fun x=>!x.1)&&(backToKw cpos (keywordEach [] X.env)).all (fun x=>x.1.isSome)&&decide (([e]:List Expr).length+([]:List Keyword).length+(if ([]:List Keyword).isEmpty then 0 else 1)<30))=true:=by rfl)
  (hline:(apos.endLine==cpos.line)=true:=by rfl) (hplain:(backTo cpos (starEach ([]:List Expr) X.env)).any (·.1)=false:=by rfl) (hsw:swapsWith (.Call (.Attribute (.Name x p) "extend" apos) [e] [] cpos) none pos.line X.env=pure false:=by rfl) :
  JS X C E mr Γl Δl Γ Δ Γ Δ (.Expr (.Call (.Attribute (.Name x p) "extend" apos) [e] [] cpos) pos) (tDrop (tBM X.K "list" rExtend (tVar i) (tCons te tNil))) (Dl.sExtF i fe):=
 ⟨qs_expr (qe_bm PySem.F.plainAttrs_list PySem.F.slot_list_extend PySem.F.type_list_extend mt_extend (qv i hN hv hd hcd) (qa_cons he.q qa_nil hse) hbase hfew hline hse hplain) hsw,sok_extF hi he.o⟩
end
section
variable {K:Frag}{C:String→Addr}{E:XK}{Γ Δ Γ' Δ' Γ1 Δ1 Γl Δl Γk Δk:List Nat}{m m1 m2 m3 mr:Nat}{S S1 S2 S3:List (Nat×Bool)}{H:Hp}{Q:VK}
end
section
variable {X:Cx}{C:String→Addr}{E:XK}{Γ Δ Γ' Δ' Γ1 Δ1 Γl Δl Γk Δk:List Nat}{m m1 m2 m3 mr:Nat}{S S1 S2 S3:List (Nat×Bool)}{a b c e st o tg iter:Expr}{es rest:List Expr}{ta tb tc te ts:TE}{fa fb fc fe fs:FE}{t:TA}{f:FA}{pos p p2 apos cpos pos' np jp:Pos}{n:Nat}{tj:TJ}
end
section
variable {K:Frag}{C:String→Addr}{E:XK}{Γ Δ Γ' Δ' Γ1 Δ1 Γl Δl Γk Δk:List Nat}{m m1 m2 m3 mr:Nat}{S S1 S2 S3:List (Nat×Bool)}{H:Hp}{Q:VK}
end
section
variable {X:Cx}{C:String→Addr}{E:XK}{Γ Δ:List Nat}{m:Nat}{S:List (Nat×Bool)}{e:Expr}{es:List Expr}{te:TE}{fe:FE}{f:FA}{pos:Pos}{tj:TJ}
end
section
variable {K:Frag}{C:String→Addr}{E:XK}{Γ Δ Γ' Δ' Γ1 Δ1 Γl Δl Γk Δk:List Nat}{m m1 m2 m3 mr:Nat}{S S1 S2 S3:List (Nat×Bool)}{H:Hp}{Q:VK}
end
section
variable {X:Cx}{C:String→Addr}{E:XK}{Γ Δ Γ' Δ' Γ1 Δ1 Γl Δl Γk Δk:List Nat}{mr:Nat}{np pos hpos:Pos}
end
section
variable {K:Frag}{C:String→Addr}{E:XK}{Γ Δ Γ' Δ' Γ1 Δ1 Γl Δl Γk Δk:List Nat}{m m1 m2 m3 mr:Nat}{S S1 S2 S3:List (Nat×Bool)}{H:Hp}{Q:VK}
end
section
variable {X:Cx}{C:String→Addr}{E:XK}{Γ Δ Γ' Δ' Γ1 Δ1 Γl Δl Γk Δk:List Nat}{m m1 m2 m3 mr:Nat}{S S1 S2 S3:List (Nat×Bool)}{a b c e st o tg iter:Expr}{es rest:List Expr}{ta tb tc te ts:TE}{fa fb fc fe fs:FE}{pos p p2 apos cpos pos':Pos}
variable {pins:List (Addr×Obj)}{σ:St}{H:Hp}{s:Shared}{h':Heap}
end
section
variable {X:Cx}{a b e:Expr}{ta tb te:TE}{elts:List Expr}{x1:Nat}{tpos p pos:Pos}{tg:Expr}
variable {K:Frag}{C:String→Addr}{E:XK}{Γ Δ Γ' Δ':List Nat}{m m1 m2:Nat}{S S1 S2:List (Nat×Bool)}{H:Hp}
end
section
variable {X:Cx}{C:String→Addr}{E:XK}{Γ Δ Γ' Δ':List Nat}{m m1 m2:Nat}{S S1 S2:List (Nat×Bool)}{a b e:Expr}{ta tb te:TE}{fa fb fe:FE}{elts:List Expr}{x1:Nat}{tpos p pos:Pos}{tg:Expr}
end
section
variable {K:Frag}{C:String→Addr}{E:XK}{Γ Δ Γ' Δ' Γ1 Δ1 Γl Δl Γk Δk:List Nat}{m m1 m2 m3 mr:Nat}{S S1 S2 S3:List (Nat×Bool)}{H:Hp}{Q:VK}
variable {X:Cx}{kx e:Expr}{tk te:TE}{p p2 pos:Pos}{x:Str}{i:Nat}
end
section
variable {X:Cx}{C:String→Addr}{E:XK}{Γ Δ Γ' Δ' Γ1 Δ1 Γl Δl Γk Δk:List Nat}{m m1 m2 m3 mr:Nat}{S S1 S2 S3:List (Nat×Bool)}{a b c e st o tg iter:Expr}{es rest:List Expr}{ta tb tc te ts tk:TE}{fa fb fc fe fs fk:FE}{t:TA}{f:FA}{pos p p2 apos cpos pos' bpos:Pos}{n:Nat}
end
section
variable {X:Cx}{e:Expr}{te:TE}{p pos cp kp:Pos}{k:Nat}
variable {K:Frag}{C:String→Addr}{E:XK}{Γ Δ Γ' Δ' Γ1 Δ1 Γl Δl Γk Δk:List Nat}{m m1 m2 m3 mr:Nat}{S S1 S2 S3:List (Nat×Bool)}{H:Hp}{Q:VK}
end
section
variable {X:Cx}{C:String→Addr}{E:XK}{Γ Δ Γ' Δ' Γ1 Δ1 Γl Δl Γk Δk:List Nat}{m m1 m2 m3 mr:Nat}{S S1 S2 S3:List (Nat×Bool)}{a b c e st o tg iter:Expr}{es rest:List Expr}{ta tb tc te ts:TE}{fa fb fc fe fs:FE}{pos p p2 apos cpos pos' cp kp:Pos}{k:Nat}
variable {pins:List (Addr×Obj)}{σ:St}{H:Hp}{s:Shared}
end
section
variable {X:Cx}{C:String→Addr}{E:XK}{Γ Δ Γ' Δ' Γk Δk:List Nat}{m mr:Nat}{S:List (Nat×Bool)}{c tg iter:Expr}{body:List Stmt}{u:TS}{g:FS}{pos:Pos}
end
section
variable {K:Frag}{C:String→Addr}{E:XK}{Γ Δ Γ' Δ' Γ1 Δ1 Γl Δl:List Nat}{m m1 m2 mr:Nat}{S S1 S2:List (Nat×Bool)}{H:Hp}
end
section
variable {X:Cx}{C:String→Addr}{E:XK}{Γ Δ Γ' Δ' Γl Δl:List Nat}{m mr:Nat}{a b:Expr}{t:TA}{f:FA}{p p1 p2 pos pt2:Pos}{x y:Str}{i j k k2:Nat}
end
section
variable {K:Frag}{C:String→Addr}{E:XK}{Γ Δ Γ' Δ' Γ1 Δ1 Γl Δl Γk Δk:List Nat}{m m1 m2 m3 mr:Nat}{S S1 S2 S3:List (Nat×Bool)}{H:Hp}{Q:VK}
noncomputable def AtP (K:Frag)(H:Hp):V→List Int→Addr→Prop
 | v,[],b=>v=.ref b
 | v,n::r,b=>∃p xs u,v=.ref p∧(H p=some (.lst xs)∨H p=some (.tup xs))∧atI xs n=some u∧AtP K H u r b
theorem EnvOk.dead {H0 Hb H:Hp}{σ:St}{ρ:DEnv}{A:Nat→List Addr}{j:Nat}{σ':St}(I:EnvOk K C H0 Hb H Γ Δ σ ρ A)(hσ:σ'.length=σ.length)(hk:∀k,k≠j→σ'[k]?=σ[k]?)(h1:j∉Γ)(h2:j∉Δ):EnvOk K C H0 Hb H Γ Δ σ' (ρ.set j Option.none) (fun k=>if k=j then [] else A k):=by
 refine ⟨I.s0,I.same,by rw [length_set,hσ,I.len],fun k e h=>?_,fun k h=>?_,fun k hk a ha=>?_,fun k hk a l e=>?_,fun k hk=>?_⟩
 ·rcases get_set h with ⟨e1,_,e2⟩ | ⟨e1,e2⟩
  ·cases e2
  ·obtain ⟨w,q1,q2⟩:=I.rep k e e2
   exact ⟨w,(hk k e1).trans q1,by rw [if_neg e1];exact q2⟩
 ·by_cases e:k=j
  ·rw [if_pos e]
  ·rw [if_neg e]
   exact I.nil k fun x hx=>h x (by rw [getElem?_set_ne (fun z=>e z.symm)];exact hx)
 ·have e:k≠j:=fun z=>h1 (by rw [← z];exact hk)
  rw [if_neg e] at ha
  exact I.loc k hk a ha
 ·have e':k≠j:=fun z=>h1 (by rw [← z];exact hk)
  rw [if_neg e'] at e
  obtain ⟨t1,t2,t3⟩:=I.top k hk a l e
  refine ⟨t1,t2,fun i hi=>?_⟩
  by_cases ei:i=j
  ·rw [if_pos ei];exact fun z=>nomatch z
  ·rw [if_neg ei];exact t3 i hi
 ·have e':k≠j:=fun z=>h2 (by rw [← z];exact hk)
  simp only [if_neg e']
  obtain ⟨t1,t2,t3⟩:=I.deep k hk
  refine ⟨t1,fun i hi a ha=>?_,t3⟩
  by_cases ei:i=j
  ·rw [if_pos ei];exact fun z=>nomatch z
  ·rw [if_neg ei];exact t2 i hi a ha
end
section
variable {X:Cx}{C:String→Addr}{E:XK}{Γ Δ Γ' Δ' Γ1 Δ1 Γl Δl Γk Δk:List Nat}{m m1 m2 m3 mr:Nat}{S S1 S2 S3:List (Nat×Bool)}{a b c e st o tg iter kx lx:Expr}{es rest:List Expr}{ta tb tc te ts tk tl:TE}{fa fb fc fe fs fk fl:FE}{pos p p1 p2 apos cpos pos':Pos}{n:Nat}
end
section
variable {K:Frag}{C:String→Addr}{E:XK}{Γ Δ Γ' Δ' Γ1 Δ1 Γl Δl Γk Δk:List Nat}{m m1 m2 m3 mr:Nat}{H:Hp}{Q:VK}
end
section
variable {X:Cx}{C:String→Addr}{E:XK}{Γ Δ Γ' Δ' Γl Δl:List Nat}{mr:Nat}{pos p p2 apos cpos:Pos}
end
section
variable {prog:Program}{w:World}{A:Around}{E:Value→Shared→Prop}{s:Shared}{a₀:Array Keyed}
variable {X:Cx}
variable {K:Frag}{C:String→Addr}
end
section
variable {K:Frag}{C:String→Addr}{E:XK}{Γ Δ Γ' Δ' Γl Δl:List Nat}{m mr:Nat}{S:List (Nat×Bool)}
end
section
variable {X:Cx}{C:String→Addr}{E:XK}{Γ Δ Γ' Δ' Γl Δl:List Nat}{m mr:Nat}{S:List (Nat×Bool)}{e:Expr}{te:TE}{fe:FE}{p p1 p2 pos:Pos}{x y:Str}{i j k:Nat}
variable {tg:Expr}
end
section
variable {K:Frag}{C:String→Addr}{E:XK}{Γ Δ:List Nat}{m:Nat}{S:List (Nat×Bool)}{H:Hp}
end
section
variable {X:Cx}{C:String→Addr}{E:XK}{Γ Δ:List Nat}{m n:Nat}{S:List (Nat×Bool)}{tg a b c:Expr}{t:TA}{f:FA}{p pos:Pos}
end
section
variable {K:Frag}{C:String→Addr}
end
end L2
namespace L2
open PySem PySem.Spec PyProof.Rows
open Dl (D R FE FT FA FO FS FI FB Fl FM FMT)
section
variable {K:Frag}{C:String→Addr}{E:XK}{Γ Δ Γ' Δ' Γ1 Δ1 Γl Δl:List Nat}{m m1 m2 mr n:Nat}{S S1 S2:List (Nat×Bool)}{H:Hp}
def MOk (K:Frag)(C:String→Addr)(E:XK)(Γ Δ:List Nat)(t:TE)(f:FM):Prop:=∀(H0 Hb H:Hp) (σ:St) (ρ:DEnv) (A:Nat→List Addr) (Q:VK),EnvOk K C H0 Hb H Γ Δ σ ρ A→
 Post (f ρ) (fun p=>∀v H' A' B,EnvOk K C H0 Hb H' Γ Δ σ p.2 A'→Rp K C H' p.1 v B→B.Nodup→(∀a∈B,Hb a=none∧∀j,a∉A' j)→Q v H') (fun c x=>∀H',Same H0 H'→EC C E c x H')→t σ H Q
def MTOk (K:Frag)(C:String→Addr)(E:XK)(Γ Δ:List Nat)(t:TT)(f:FMT):Prop:=∀(H0 Hb H:Hp) (σ:St) (ρ:DEnv) (A:Nat→List Addr) (Q:Bool→Hp→Prop),EnvOk K C H0 Hb H Γ Δ σ ρ A→
 Post (f ρ) (fun p=>∀H' A',EnvOk K C H0 Hb H' Γ Δ σ p.2 A'→Q p.1 H') (fun c x=>∀H',Same H0 H'→EC C E c x H')→t σ H Q
def SOkP (K:Frag)(C:String→Addr)(E:XK)(Γ Δ Γ' Δ':List Nat)(t:TS)(f:FS):Prop:=∀(H0 Hb H:Hp) (σ:St) (ρ:DEnv) (A:Nat→List Addr) (D:Ends),EnvOk K C H0 Hb H Γ Δ σ ρ A→
  Post (f ρ) (fun fl=>match fl with
    | .nx ρ'=>∀σ' H' A',σ'[0]?=σ[0]?→EnvOk K C H0 Hb H' Γ' Δ' σ' ρ' A'→D.nx σ' H'
    | _=>False) (fun c x=>∀H',Same H0 H'→EC C E c x H')→t D σ H
def MBOk (K:Frag)(C:String→Addr)(E:XK)(Γ Δ:List Nat)(t:TS)(G:FM):Prop:=∀(H0 Hb H:Hp) (σ:St) (ρ:DEnv) (A:Nat→List Addr) (D:Ends) (Q:VK),EnvOk K C H0 Hb H Γ Δ σ ρ A→D.rt=Q→(D.nx=fun _ H'=>Q .non H')→
 Post (G ρ) (fun p=>∀v H' σ' A' B,σ'[0]?=σ[0]?→EnvOk K C H0 Hb H' [0] [0] σ' p.2 A'→Rp K C H' p.1 v B→B.Nodup→(∀a∈B,Hb a=none∧∀j,a∉A' j)→Q v H') (fun c x=>∀H',Same H0 H'→EC C E c x H')→t D σ H
end
structure JM (X:Cx)(C:String→Addr)(E:XK)(Γ Δ:List Nat)(e:Expr)(t:TE)(f:FM):Prop where
 q:QE X e t
 o:MOk X.K C E Γ Δ t f
structure JMT (X:Cx)(C:String→Addr)(E:XK)(Γ Δ:List Nat)(e:Expr)(t:TT)(f:FMT):Prop where
 q:QT X e t
 o:MTOk X.K C E Γ Δ t f
structure JMW (X:Cx)(C:String→Addr)(E:XK)(Γ Δ:List Nat)(e:Expr)(t:TT)(f:FMT):Prop where
 q:QW X e t
 o:MTOk X.K C E Γ Δ t f
structure JP (X:Cx)(C:String→Addr)(E:XK)(Γ Δ Γ' Δ':List Nat)(s:Stmt)(t:TS)(f:FS):Prop where
 q:QS X s t
 o:SOkP X.K C E Γ Δ Γ' Δ' t f
structure JMB (X:Cx)(C:String→Addr)(E:XK)(Γ Δ:List Nat)(s:List Stmt)(t:TS)(f:FM):Prop where
 q:QSs X s t
 o:MBOk X.K C E Γ Δ t f
structure MDef (P:Program)(w:World)(K:Frag)(mg:Str→Option Value)(base:Heap)(CX:CXT)(k:Nat)(C:Addr)(x:Str)(ps:List Str)(sp:Sp):Prop where
 ex:∃f fd,Meth K C x f∧Binds K fd ps []∧FnOk P w K mg base CX k f fd ps sp
structure MkDef (P:Program)(w:World)(K:Frag)(mg:Str→Option Value)(base:Heap)(CX:CXT)(k:Nat)(C:Addr)(ps:List Str)(sp:Sp):Prop where
 ex:∃f fd,Mk K C f∧Binds K fd ps []∧FnOk P w K mg base CX k f fd ps sp
section
variable {X:Cx}{C:String→Addr}{E:XK}{Γ Δ Γ' Δ' Γ1 Δ1 Γl Δl:List Nat}{m m1 m2 mr n:Nat}{S S1 S2:List (Nat×Bool)}{a b e o:Expr}{es rest:List Expr}{te:TE}{fe:FE}{t:TA}{fa:FA}{pos p p2 apos cpos:Pos}{c:String}{f md x:Str}{CX:CXT}{k:Nat}{ps:List Str}{s:Stmt}{ss:List Stmt}{tm:TE}{fm:FM}{u:TS}{g:FS}
end
section
variable {K:Frag}{C:String→Addr}{E:XK}{Γ Δ Γ' Δ' Γ1 Δ1 Γl Δl:List Nat}{m m1 m2 mr n:Nat}{S S1 S2:List (Nat×Bool)}{H:Hp}
end
section
variable {X:Cx}{C:String→Addr}{E:XK}{Γ Δ Γ' Δ' Γl Δl:List Nat}{m1 m2 n:Nat}{S2:List (Nat×Bool)}{a b e:Expr}{es:List Expr}{ta tb:TE}{fa fb:FE}{t:TA}{ff:FA}{pos p p2 cpos:Pos}{x y:Str}{CX:CXT}{k:Nat}{ps:List Str}
end
theorem allN0 {P:List Value→Prop}(h:P []):∀us:List Value,us.length=0→P us
 | [],_=>h
theorem allN1 {P:List Value→Prop}(h:∀a0,P [a0])(us:List Value)(hl:us.length=1):P us:=by
 cases us with
 | nil=>exact absurd hl (by decide)
 | cons a us=>exact allN0 (P:=fun z=>P (a::z)) (h a) us (Nat.succ.inj hl)
theorem allN2 {P:List Value→Prop}(h:∀a0 a1,P [a0,a1])(us:List Value)(hl:us.length=2):P us:=by
 cases us with
 | nil=>exact absurd hl (by decide)
 | cons a us=>exact allN1 (P:=fun z=>P (a::z)) (h a) us (Nat.succ.inj hl)
theorem allN3 {P:List Value→Prop}(h:∀a0 a1 a2,P [a0,a1,a2])(us:List Value)(hl:us.length=3):P us:=by
 cases us with
 | nil=>exact absurd hl (by decide)
 | cons a us=>exact allN2 (P:=fun z=>P (a::z)) (h a) us (Nat.succ.inj hl)
theorem allN4 {P:List Value→Prop}(h:∀a0 a1 a2 a3,P [a0,a1,a2,a3])(us:List Value)(hl:us.length=4):P us:=by
 cases us with
 | nil=>exact absurd hl (by decide)
 | cons a us=>exact allN3 (P:=fun z=>P (a::z)) (h a) us (Nat.succ.inj hl)
theorem allN5 {P:List Value→Prop}(h:∀a0 a1 a2 a3 a4,P [a0,a1,a2,a3,a4])(us:List Value)(hl:us.length=5):P us:=by
 cases us with
 | nil=>exact absurd hl (by decide)
 | cons a us=>exact allN4 (P:=fun z=>P (a::z)) (h a) us (Nat.succ.inj hl)
theorem walkX_of {q:Program}{loose:List Str}{XP:(Str→Option Value)→Heap→Prop}{K:Params→Frag}{as:List Addr}{n t:Nat}{r:PySem.W.RowW}{d:DefRec}{kwd:List (Str×Expr)}{run:Value→List Value→Sem Value}
  (e:∀P,as=(K P).map (·.1)) (W:PySem.W.WalkO q loose XP (PySem.W.InK K) r d kwd run):PySem.W.WalkX q loose XP (PySem.W.X.obsZ as) (PySem.W.X.valZ K n t) r d kwd run:=
 fun w s₀ s₁ mg mb G y a o pm cd doc dV kV ho hd hcd hD hmg hg args vals as' L hpre hlay hrd hwl hlo =>
  W w s₀ s₁ mg mb G (PySem.W.InK.keeps w _ _ (PySem.W.X.z_facts e y).2.1 (PySem.W.Laid.keeps L)) a o pm cd doc dV kV ho hd hcd hD hmg hg args vals as' hpre hlay hrd hwl hlo
end L2
namespace L2
open PySem PySem.Spec PyProof.Rows
open Dl (D R FE FT FA FO FS FI FB Fl)
section
variable {K:Frag}{C:String→Addr}{E:XK}{Γ Δ Γ' Δ' Γl Δl:List Nat}{mr:Nat}
end
section
variable {X:Cx}{C:String→Addr}{E:XK}{Γ Δ Γl Δl:List Nat}{m2 mr n k:Nat}{S2:List (Nat×Bool)}{es:List Expr}{t:TA}{ff:FA}{pos p p2 p3 cpos:Pos}{x y:Str}{CX:CXT}{ps:List Str}
end
end L2
namespace L2
open PySem PySem.Spec PyProof.Rows
noncomputable def excInI (K:Frag)(C:Addr)(bmB:List Value)(newId:String)(fI:Addr):Bool:=match K.lookup C with
  | some ⟨.type "type",_,.cls cd,sl⟩=>(match cd.mro,sl.toList with
    | .ref C'::bm,[_,_,_,_,some (.builtin n),_]=>C'==C&&n==newId&&!cd.hasDel&&cd.hasDict&&PySem.W.tailIn K bmB bm&&PySem.W.nsOkIn K cd.ns&&nsIn K cd.ns "__init__"==some (some (.ref fI))
    | _,_=>false)
  | _=>false
section
variable {prog:Program}{w:World}{A:Around}{E:Value→Shared→Prop}{h:Heap}{g:Array GenState}{d:Drawn}{t:Nat}{os:OsState}
variable {nm q:Str}{C N:Addr}{bs bm bmB:List Value}{hdct:Bool}{sn:List Str}{sub:List Value}{ab:Bool}{col:Option Bool}{dd:Option Addr}{k0 k1 k2 k3 k5:Option Value}{B newId initId:String}
end
section
variable {prog:Program}{w:World}{A:Around}{E:Value→Shared→Prop}{s:Shared}{env:Env}
variable {nm q:Str}{C N:Addr}{bs bm bmB:List Value}{hdct:Bool}{sn:List Str}{sub:List Value}{ab:Bool}{col:Option Bool}{dd:Option Addr}{k0 k1 k2 k3 k5:Option Value}{B newId initId:String}
end
end L2
namespace L2
open PySem PySem.Spec PyProof.Rows
open PySem.W (Looks)
open Builtin Builtin.ObjectAttr
section
variable {prog:Program}{w:World}{A:Around}{E:Value→Shared→Prop}{h:Heap}{g:Array GenState}{d:Drawn}{t:Nat}{os:OsState}
variable {nm q:Str}{C N x:Addr}{bs bm bmB:List Value}{sn:List Str}{sub:List Value}{ab:Bool}{col:Option Bool}{dd:Option Addr}{k0 k1 k2 k3 k5:Option Value}{B newId sa owner:String}
 {name:Str} {v:Value} {fs:Array Value} {sl:Array (Option Value)}
end
end L2
namespace L2
open PySem PySem.Spec PyProof.Rows
open PySem.W (Looks)
section
variable {prog:Program}{w:World}{A:Around}{E:Value→Shared→Prop}{h:Heap}{g:Array GenState}{d:Drawn}{t:Nat}{os:OsState}
variable {nm q:Str}{C N x:Addr}{bs bm bmB:List Value}{hdct:Bool}{sn:List Str}{sub:List Value}{ab:Bool}{col:Option Bool}{dd:Option Addr}{k0 k1 k2 k3 k5:Option Value}{B newId initId:String}
end
section
variable {prog:Program}{w:World}{A:Around}{E:Value→Shared→Prop}{h:Heap}{g:Array GenState}{d:Drawn}{t:Nat}{os:OsState}{a C dx:Addr}{o:Obj}{vs:Array Value}{mA:Str→Option Value}{v:Value}{name:Str}
end
end L2
namespace L2
open PySem PySem.Spec PyProof.Rows
open Dl (D R FE FT FA FO FS FI FB Fl)
structure ErrF (K:Frag)(C:Addr)(nm:Str)(fI:Addr):Prop where
 exc:excInI K C bmV "ValueError.__new__" fI=true
 sa:findIn K (.ref C) "__setattr__"=some (some (.builtin "object.__setattr__"))
 nf:findIn K (.ref C) nm=some none
 hd:PySem.W.hasDictIn K C=true
noncomputable def exA (e C:Addr)(dx:Option Addr):HO:=.ext fun h=>∃t sl,h.get? e=some {cls:=.ref C,dict:=dx,data:=.fields #[.ref t,.none,.none,.none,.bool false,.none],slots:=sl}
section
variable {X:Cx}{pins:List (Addr×Obj)}{σ:St}{H:Hp}{s:Shared}
end
structure BaseI (K:Frag)(B:Addr):Prop where
 sp:specialIn K (.ref B) "__getattribute__"=some (some (.builtin "type.__getattribute__"))
 rd:PySem.W.readsIn K B (.type "type")=true
 fc:PySem.W.findCls K (.ref B) (.type "type") "__init__"=some (.val (.builtin "ValueError.__init__"))
section
variable {X:Cx}{e o value:Expr}{es:List Expr}{t:TA}{ta tv:TE}{pos pos' apos np:Pos}{b f:Str}{B:Addr}
end
noncomputable def spInit (K:Frag)(nm:Str):Sp:=fun vs H Q _=>∃e C i fI,vs=[.ref e,.int i]∧H e=some (exA e C none)∧ErrF K C nm fI∧i.natAbs.log2<1920∧∀d,H d=none→Q .non (upd (upd H d (.xd [(nm,.int i)])) e (exA e C (some d)))
section
variable {P:Program}{w:World}{K:Frag}{mg:Str→Option Value}{base:Heap}
structure IDef (P:Program)(w:World)(K:Frag)(mg:Str→Option Value)(base:Heap)(C:Addr)(nm:Str):Prop where
 ex:∃fI fd ps,ErrF K C nm fI∧typeIn K (.ref fI)=some (.type "function")∧ps.length=2∧Binds K fd ps []∧FnOk P w K mg base CX0 1 fI fd ps (spInit K nm)
variable {C:String→Addr}{E:XK}{Γ Δ Γ' Δ' Γl Δl:List Nat}{m mr:Nat}{S:List (Nat×Bool)}
end
section
variable {X:Cx}{C:String→Addr}{E:XK}{Γ Δ Γ' Δ' Γl Δl:List Nat}{m mr:Nat}{S:List (Nat×Bool)}{e:Expr}{te:TE}{fe:FE}{np cpos pos:Pos}
end
section
variable {K:Frag}{C:String→Addr}{E:XK}{Γ Δ Γ' Δ' Γl Δl:List Nat}{m mr:Nat}{S:List (Nat×Bool)}
end
section
variable {X:Cx}{C:String→Addr}{E:XK}{Γ Δ Γ' Δ' Γl Δl:List Nat}{m m1 m2 mr:Nat}{S S1 S2:List (Nat×Bool)}{a b e:Expr}{ta tb te:TE}{fa fb fe:FE}{pos pos':Pos}
end
section
variable {K:Frag}{C:String→Addr}{E:XK}{Γ Δ Γ' Δ' Γk Δk:List Nat}{mr:Nat}{S:List (Nat×Bool)}
end
section
variable {X:Cx}{C:String→Addr}{E:XK}{Γ Δ Γk Δk:List Nat}{mr:Nat}{S:List (Nat×Bool)}{c iter:Expr}{ret:List Stmt}{u:TS}{g:FS}{pos p ip:Pos}{x:Str}{k:Nat}
end
structure Clz where
 c:Value
 i:Option Nat
 th:TS
noncomputable def tClz (K:Frag)(N:Nat)(D:Ends)(e:Addr)(cls:Value)(dx:Option Addr)(H':Hp):List Clz→Prop
  | []=>False
  | z::r=>∃b,exmOne K cls z.c=some b∧if b=true then (match z.i with
      | some i=>∀σ':St,σ'.length=N→z.th {nx:=fun _ H2=>D.nx (List.replicate N none) H2,rt:=D.rt,bk:=fun _ H2=>D.bk (List.replicate N none) H2,ct:=fun _ H2=>D.ct (List.replicate N none) H2} (σ'.set i (some (.ref e))) (upd H' e (exO e cls dx))
      | none=>∀σ':St,σ'.length=N→z.th D σ' H')
    else tClz K N D e cls dx H' r
inductive PClz (X:Cx):List ExceptHandler→List Clz→Prop
 | nil:PClz X [] []
 | named {c n:Str} {np hpos:Pos} {C:Addr} {b₀:Stmt} {suite:List Stmt} {i:Nat} {th:TS} {hs:List ExceptHandler} {zs:List Clz} (hm:X.mg c=some (.ref C)) (hg:Gl X c) (hdb:(c==("__debug__":Str))=false) (hi:X.N[i]?=some n) (hl:X.env.scope.names.lookup n=some .local)
   (hh:∀e:Addr,PSs (X.hand e) (b₀::suite) th) (hr:PClz X hs zs):PClz X (.ExceptHandler (some (.Name c np)) (some n) (b₀::suite) hpos::hs) (⟨.ref C,some i,th⟩::zs)
 | plain {c:Str} {np hpos:Pos} {C:Addr} {b₀:Stmt} {suite:List Stmt} {th:TS} {hs:List ExceptHandler} {zs:List Clz} (hm:X.mg c=some (.ref C)) (hg:Gl X c) (hdb:(c==("__debug__":Str))=false)
   (hh:∀e:Addr,PSs (X.hand e) (b₀::suite) th) (hr:PClz X hs zs):PClz X (.ExceptHandler (some (.Name c np)) none (b₀::suite) hpos::hs) (⟨.ref C,none,th⟩::zs)
section
variable {K:Frag}{C:String→Addr}{E:XK}{Γ Δ Γ1 Δ1 Γl Δl:List Nat}{mr:Nat}
inductive OClz (K:Frag)(C:String→Addr)(N mr:Nat)(Γl Δl Γ1 Δ1:List Nat):List Clz→List (List (String×Bool)×Option Nat×FS)→Prop
 | nil:OClz K C N mr Γl Δl Γ1 Δ1 [] []
 | named {c:Addr} {i:Nat} {th:TS} {fh:FS} {tb:List (String×Bool)} {Γ2 Δ2:List Nat} {Eh:XK} {zs:List Clz} {ds:List (List (String×Bool)×Option Nat×FS)} (ht:∀p∈tb,exmOne K (.ref (C p.1)) (.ref c)=some p.2) (hi:i<N) (hh:SOk K C Eh mr [] [] [] [] Γ2 Δ2 th fh)
   (hr:OClz K C N mr Γl Δl Γ1 Δ1 zs ds):OClz K C N mr Γl Δl Γ1 Δ1 (⟨.ref c,some i,th⟩::zs) ((tb,some i,fh)::ds)
 | plain {c:Addr} {th:TS} {fh:FS} {tb:List (String×Bool)} {Eh:XK} {zs:List Clz} {ds:List (List (String×Bool)×Option Nat×FS)} (ht:∀p∈tb,exmOne K (.ref (C p.1)) (.ref c)=some p.2) (hh:SOk K C Eh mr Γl Δl [] [] Γ1 Δ1 th fh)
   (hr:OClz K C N mr Γl Δl Γ1 Δ1 zs ds):OClz K C N mr Γl Δl Γ1 Δ1 (⟨.ref c,none,th⟩::zs) ((tb,none,fh)::ds)
end
inductive JClz (X:Cx)(C:String→Addr)(mr:Nat)(Γl Δl Γ1 Δ1:List Nat):List ExceptHandler→List Clz→List (List (String×Bool)×Option Nat×FS)→Prop
 | mk {hs:List ExceptHandler} {zs:List Clz} {ds:List (List (String×Bool)×Option Nat×FS)} (p:PClz X hs zs) (o:OClz X.K C X.N.length mr Γl Δl Γ1 Δ1 zs ds):JClz X C mr Γl Δl Γ1 Δ1 hs zs ds
section
variable {X:Cx}{C:String→Addr}{E:XK}{Γ Δ Γ1 Δ1 Γl Δl:List Nat}{mr:Nat}{np hpos pos:Pos}{hs:List ExceptHandler}{zs:List Clz}{ds:List (List (String×Bool)×Option Nat×FS)}{b₀:Stmt}{suite:List Stmt}{th:TS}{fh:FS}
end
section
variable {X:Cx}{C:String→Addr}{E:XK}{Γ Δ Γl Δl:List Nat}{mr:Nat}{e:Expr}{te:TE}{fe:FE}{pos p apos cpos:Pos}
def rSetD:V→V→V→Hp→(Hp→Prop)→Prop:=fun o i v H Q=>∃a H4,o=.ref a∧DPut H a i v H4∧Q H4
theorem set_dict (hu:X.A.units+64<cLine):PSet X rSetD:=by
 intro pins s σ H o i v ov iv u Q I ro ri rv h
 obtain ⟨a,H4,rfl,g,q⟩:=h
 cases (show ov=Value.ref a from ro)
 exact d_setItem (by omega) I g ri rv fun s4 I4=>⟨H4,I4,q⟩
end
section
variable {K:Frag}{C:String→Addr}{E:XK}{Γ Δ Γl Δl:List Nat}{m m1 m2 mr:Nat}{S S1 S2:List (Nat×Bool)}{H:Hp}
theorem keyD_kV {x:D}{k:Int ⊕ Str}{v:V}{B:List Addr}(e:Dl.keyD x=some k)(r:Rp K C H x v B):v=kV k:=by
 cases x with
 | int i=>cases e;exact r.1
 | str z=>cases e;exact r.1
 | _=>cases e
theorem RpA.snoc0 {d:D}{v:V}(r:Rp K C H d v []):∀{ds:List D} {xs:List V},RpA K C H ds xs []→RpA K C H (ds++[d]) (xs++[v]) []
 | [],xs,q=>by
  rw [q.1]
  exact ⟨v,[],[],[],rfl,r,RpA.nil,rfl⟩
 | x::ds,xs,q=>by
  obtain ⟨y,l,B,B',e1,e2,e3,e4⟩:=q
  obtain ⟨rfl,rfl⟩:=List.append_eq_nil_iff.mp e4.symm
  subst e1
  exact ⟨y,_,[],[],rfl,e2,RpA.snoc0 r e3,rfl⟩
end
section
variable {X:Cx}{C:String→Addr}{E:XK}{Γ Δ Γ' Δ' Γl Δl:List Nat}{m m1 m2 mr:Nat}{S S1 S2:List (Nat×Bool)}{a b e tg:Expr}{ta tb te:TE}{fa fb fe:FE}{p p2 pos:Pos}
noncomputable abbrev TX:=Str→St→Hp→VK→Prop
def PX (X:Cx)(es:List Expr)(t:TX):Prop:=
 ∀(out:Str) (pins:List (Addr×Obj)) (s:Shared) (σ:St) (H:Hp) (Q:VK),Inv X pins σ H s→out.length+2000*es.length≤sizeLine→t out σ H Q→
  wpAny (model X.prog X.w) X.A (joinParts out (evalEach es X.env)) (EP X pins σ Q) X.xe s
end
section
variable {K:Frag}{C:String→Addr}{E:XK}{Γ Δ:List Nat}{m m1 m2:Nat}{S S1 S2:List (Nat×Bool)}{H:Hp}
noncomputable def joinL (c:Nat):List (List Nat)→List Nat
 | []=>[]
 | [w]=>w
 | w::v::r=>w++32::c::32::joinL c (v::r)
def XOk (K:Frag)(C:String→Addr)(E:XK)(Γ Δ:List Nat)(t:TX)(f:FA):Prop:=∀(H0 Hb H:Hp) (σ:St) (ρ:Dl.Env) (A:Nat→List Addr) (Q:VK) (out:Str),PyData.strOk out=true→EnvOk K C H0 Hb H Γ Δ σ ρ A→
 Post ((f ρ).bind fun xs=>Dl.oR (Dl.catO out xs)) (fun d=>∀v H',Same H H'→Res K C 2 [] H A d v H'→Q v H') (fun c x=>∀H',Same H H'→EC C E c x H')→t out σ H Q
end
structure JX (X:Cx)(C:String→Addr)(E:XK)(Γ Δ:List Nat)(es:List Expr)(t:TX)(f:FA):Prop where
 q:PX X es t
 o:XOk X.K C E Γ Δ t f
section
variable {X:Cx}{C:String→Addr}{E:XK}{Γ Δ:List Nat}{m m1 m2:Nat}{S S1 S2:List (Nat×Bool)}{a b e o:Expr}{es:List Expr}{ta tb te:TE}{tx:TX}{fa fb fe:FE}{f:FA}{pos p apos cpos:Pos}
end
section
variable {K:Frag}{C:String→Addr}{E:XK}{Γ Δ Γl Δl:List Nat}{m m1 m2 m3 mr:Nat}{S S1 S2 S3:List (Nat×Bool)}{H:Hp}
theorem keysD_kV:∀{ds:List D} {k:List (Int ⊕ Str)} {vs:List V} {B:List Addr},Dl.keysD ds=some k→RpA K C H ds vs B→vs=k.map kV
 | [],k,vs,B,e,r=>by
  cases e
  exact r.1
 | d::ds,k,vs,B,e,r=>by
  obtain ⟨j,e1,e⟩:=Option.bind_eq_some_iff.mp (show ((Dl.keyD d).bind fun k=>(Dl.keysD ds).bind fun ks=>some (k::ks))=some k from e)
  obtain ⟨js,e2,e⟩:=Option.bind_eq_some_iff.mp e
  cases e
  obtain ⟨x,l,B1,B2,rfl,h1,h2,_⟩:=r
  rw [keyD_kV e1 h1,keysD_kV e2 h2]
  rfl
theorem keyT_at {y:D}{k:List (Int ⊕ Str)}{v:V}{B:List Addr}(e:Dl.keyT y=some k)(r:Rp K C H y v B):∃b,v=.ref b∧H b=some (.tup (k.map kV)):=by
 cases y with
 | tup ds =>
  obtain ⟨a,xs,rfl,h1,h2⟩:=r
  refine ⟨a,rfl,?_⟩
  rw [h1,keysD_kV e h2]
 | _=>cases e
theorem anyT_zip {k:List (Int ⊕ Str)}:∀{ks:List (List (Int ⊕ Str))} {xs:List V},ks.length=xs.length→((ks.zip xs).any fun kv=>decide (kv.1=k))=Dl.tHas ks k
 | [],_,_=>rfl
 | j::ks,[],h=>by cases h
 | j::ks,x::xs,h=>by
  have:=anyT_zip (k:=k) (ks:=ks) (xs:=xs) (by simpa using h)
  unfold Dl.tHas at *
  rw [zip_cons_cons,any_cons,any_cons,this]
theorem val_tAt {k:List (Int ⊕ Str)}:∀{ks:List (List (Int ⊕ Str))} {ds:List D} {xs:List V},RpA K C H ds xs []→Dl.flatA ds=true→match Dl.tAt ks ds k with
  | some d=>∃v,valV (ks.zip xs) k=some v∧Rp K C H d v []∧Dl.flat d=true
  | none=>valV (ks.zip xs) k=none
 | [],ds,xs,_,_=>by cases ds<;>rfl
 | j::ks,[],xs,q,_=>by
  rw [q.1]
  rfl
 | j::ks,x::ds,xs,q,h=>by
  obtain ⟨y,l,B,B',e1,e2,e3,e4⟩:=q
  simp only [Dl.flatA,Bool.and_eq_true] at h
  subst e1
  have z:=e2.flat h.1
  subst z
  rw [Dl.tAt]
  by_cases e:j=k
  ·rw [if_pos e]
   exact ⟨y,valV_pos e,e2,h.1⟩
  ·rw [if_neg e,zip_cons_cons,valV_neg e]
   exact val_tAt (e3.flat' h.2) h.2
theorem eok_tnew:EOk K C E Γ Δ 2 [] tDNewT (Dl.fC (.dtt [] [])):=fun H0 Hb H σ ρ A Q I p q hp=>by
 refine p _ _ (sameNew hp _) ⟨[q],⟨q,[],[],rfl,upd_same,rfl,RpA.nil,rfl⟩,fun a ha=>?_,fun z=>by omega,fun _=>List.nodup_cons.mpr ⟨(fun z=>nomatch z),nodup_nil⟩⟩
 have:a=q:=by simpa using ha
 subst this
 exact .inl hp
theorem putT_zip {k:List (Int ⊕ Str)}{v:V}:∀{ks:List (List (Int ⊕ Str))} {xs:List V},ks.length=xs.length→(ks.zip xs).map (fun kv=>if kv.1=k then (kv.1,v) else kv)=ks.zip (List.zipWith (fun j x=>if j=k then v else x) ks xs)
 | [],_,_=>rfl
 | j::ks,[],h=>by cases h
 | j::ks,x::xs,h=>by
  have:=putT_zip (k:=k) (v:=v) (ks:=ks) (xs:=xs) (by simpa using h)
  rw [zip_cons_cons,map_cons,this,List.zipWith_cons_cons,zip_cons_cons]
  congr 1
  by_cases e:j=k
  ·simp [e]
  ·simp [e]
theorem RpA.replT {k:List (Int ⊕ Str)}{d:D}{v:V}(r:Rp K C H d v []):∀{ks:List (List (Int ⊕ Str))} {ds:List D} {xs:List V},RpA K C H ds xs []→Dl.flatA ds=true→RpA K C H (List.zipWith (fun j x=>if j=k then d else x) ks ds) (List.zipWith (fun j x=>if j=k then v else x) ks xs) []
 | [],ds,xs,_,_=>by cases ds<;>cases xs<;>exact RpA.nil
 | j::ks,[],xs,q,_=>by
  rw [q.1]
  exact RpA.nil
 | j::ks,x::ds,xs,q,h=>by
  obtain ⟨y,l,B,B',e1,e2,e3,e4⟩:=q
  simp only [Dl.flatA,Bool.and_eq_true] at h
  subst e1
  have z:=e2.flat h.1
  subst z
  refine ⟨_,_,[],[],rfl,?_,RpA.replT r (e3.flat' h.2) h.2,rfl⟩
  show Rp K C H (if j=k then d else x) (if j=k then v else y) []
  by_cases e:j=k
  ·rw [if_pos e,if_pos e]
   exact r
  ·rw [if_neg e,if_neg e]
   exact e2
theorem slot_dtt {H0 Hb H:Hp}{σ:St}{ρ:Dl.Env}{A:Nat→List Addr}{i:Nat}{ks:List (List (Int ⊕ Str))}{ds:List D}(I:EnvOk K C H0 Hb H Γ Δ σ ρ A)(e:ρ[i]?=some (some (.dtt ks ds))):∃a xs l,σ[i]?=some (some (.ref a))∧H a=some (.dT (ks.zip xs))∧ks.length=ds.length∧RpA K C H ds xs l∧A i=a::l∧i<ρ.length:=by
 obtain ⟨v,h1,h2⟩:=I.rep i _ e
 obtain ⟨a,xs,B,rfl,h3,h4,h5,h6⟩:=h2
 exact ⟨a,xs,B,h1,h3,h4,h5,h6,(List.getElem?_eq_some_iff.mp e).1⟩
theorem sok_tput {i:Nat}{te tk:TE}{fe fk:FE}(hi:i∈Γ:=by decide)(he:EOk K C E Γ Δ m1 S1 te fe)(hk:EOk K C E Γ Δ m2 S2 tk fk):SOk K C E mr Γl Δl Γ Δ Γ Δ (tAsg te (gSub (tVar i) tk rSetD)) (Dl.sTPut i fk fe):=fun H0 Hb H σ ρ A D I p=>by
 refine he H0 Hb H σ ρ A _ I (Post.imp (Post.bind p) (fun d q v H1 g1 r=>?_) fun c x q H' g'=>q H' (Same.from0 I g'))
 have I1:=I.mono g1
 split at q
 ·rename_i ks ds e
  obtain ⟨a,xs,l,s1,h1,h2,r1,hA,hl⟩:=slot_dtt I1 e
  refine ⟨.ref a,s1,hk H0 Hb H1 σ ρ A _ I1 (Post.imp (Post.bind q) (fun z q w H2 g2 rz=>?_) fun c x q H' g'=>q H' (Same.from0 I1 g'))⟩
  obtain ⟨Bz,rz,_⟩:=rz
  obtain ⟨B,rd,_⟩:=r
  split at q
  ·rename_i k hk
   split at q
   ·rename_i hf
    obtain ⟨b,rfl,hb⟩:=keyT_at hk rz
    have zB:=rd.flat hf.1
    subst zB
    have hx:ks.length=xs.length:=by rw [h2,r1.len]
    have r2:=(r1.same g2).flat' hf.2.1
    have rd2:=rd.same g2
    have I2:=I1.mono g2
    refine ⟨a,_,rfl,DPut.t (g2 _ _ h1) hb (Nat.lt_of_le_of_lt (by rw [List.length_zip];exact Nat.min_le_left _ _) (limLine' hf.2.2)),?_⟩
    unfold Dl.tPut at q
    unfold putK
    rw [anyT_zip hx]
    split at q
    ·rename_i hh
     rw [if_pos hh,putT_zip hx]
     obtain ⟨A',I'⟩:=I2.writeO (Γ':=Γ) (Δ':=Δ) (o':=.dT (ks.zip (List.zipWith (fun j x=>if j=k then v else x) ks xs))) (d':=.dtt ks (List.zipWith (fun j x=>if j=k then d else x) ks ds)) hi hA hl s1 (fun H' q1 q2=>⟨a,_,_,rfl,q1,by rw [List.length_zipWith,h2,Nat.min_self],q2,rfl⟩) (RpA.replT rd2 r2 hf.2.1) (fun _ z=>nomatch z) (fun z=>nomatch z) (fun j hj _=>⟨hj,fun _ _ _ z=>nomatch z⟩) (fun j hj _=>⟨hj,fun _ _ z=>nomatch z⟩) (fun _=>⟨nodup_nil,(fun _ _ _ z=>nomatch z),(fun _ z=>nomatch z)⟩)
     exact q _ _ A' I'
    ·rename_i hh
     rw [if_neg hh,show ks.zip xs++[(k,v)]=(ks++[k]).zip (xs++[v]) by rw [List.zip_append hx];rfl]
     obtain ⟨A',I'⟩:=I2.writeO (Γ':=Γ) (Δ':=Δ) (o':=.dT ((ks++[k]).zip (xs++[v]))) (d':=.dtt (ks++[k]) (ds++[d])) hi hA hl s1 (fun H' q1 q2=>⟨a,_,_,rfl,q1,by simp [h2],q2,rfl⟩) (RpA.snoc0 rd2 r2) (fun _ z=>nomatch z) (fun z=>nomatch z) (fun j hj _=>⟨hj,fun _ _ _ z=>nomatch z⟩) (fun j hj _=>⟨hj,fun _ _ z=>nomatch z⟩) (fun _=>⟨nodup_nil,(fun _ _ _ z=>nomatch z),(fun _ z=>nomatch z)⟩)
     exact q _ _ A' I'
   ·exact q.elim
  ·exact q.elim
 ·exact q.elim
theorem eok_tat {td ty:TE}{fd fy:FE}(hd:EOk K C E Γ Δ m1 S1 td fd)(hy:EOk K C E Γ Δ m2 S2 ty fy):EOk K C E Γ Δ 2 [] (tDGet td ty) (Dl.f2 Dl.gTAt fd fy):=
  fun H0 Hb H σ ρ A Q I p=>hd H0 Hb H σ ρ A _ I (p.bind.imp (fun d q vd H1 g1 r1=>hy H0 Hb H1 σ ρ A _ (I.mono g1) (q.bind.imp (fun y q vy H2 g2 r2=>by
    obtain ⟨z,e,q2⟩:=oR_ok q
    obtain ⟨Bd,r1,_⟩:=r1
    obtain ⟨By,r2,_⟩:=r2
    cases d with
    | dtt ks ds =>
      have e:(if Dl.flatA ds then (Dl.keyT y).bind fun k=>Dl.tAt ks ds k else none)=some z:=e
      split at e
      · rename_i hf
        obtain ⟨k,hk,e⟩:=Option.bind_eq_some_iff.mp e
        obtain ⟨a,xs,B,rfl,h1,h2,h3,_⟩:=r1
        obtain ⟨b,rfl,hb⟩:=keyT_at hk r2
        have hv:=val_tAt (ks:=ks) (k:=k) ((h3.same g2).flat' hf) hf
        rw [e] at hv
        obtain ⟨v,v1,v2,_⟩:=hv
        refine ⟨a,v,rfl,?_,q2 v H2 (g1.trans g2) (Res.flat v2)⟩
        rw [← v1]
        exact DGet.t (g2 _ _ h1) hb
      · cases e
    | _=>cases e) fun c x q H' g'=>q H' (g1.trans g'))) fun c x q H' g'=>q H' g')
end
section
variable {X:Cx}{C:String→Addr}{E:XK}{Γ Δ Γ' Δ' Γl Δl:List Nat}{m m1 m2 m3 mr:Nat}{S S1 S2 S3:List (Nat×Bool)}{a b c e o:Expr}{ta tb tc te:TE}{fa fb fc fe:FE}{p p2 pos apos cpos:Pos}
theorem ce_tnew:JE X C E Γ Δ 2 [] (.Dict [] [] pos) tDNewT (Dl.fC (.dtt [] [])):=⟨⟨pe_dnewT⟩,eok_tnew⟩
theorem ce_tat (ha:JE X C E Γ Δ m1 S1 a ta fa)(hb:JE X C E Γ Δ m2 S2 b tb fb)(hu:X.A.units+64<cLine)(hs:NoSl b:=by intro _ _;rfl):JE X C E Γ Δ 2 [] (.Subscript a b pos) (tDGet ta tb) (Dl.f2 Dl.gTAt fa fb):=⟨⟨pe_dget (by omega) ha.q.out hb.q.out hs⟩,eok_tat ha.o hb.o⟩
theorem cs_tput {i:Nat}{x:Str}{kx:Expr}{tk:TE}{fk:FE}(hi:i∈Γ:=by decide)(hN:X.N[i]?=some x:=by rfl)(hv:autoParam (Vis X.env.scope x) aT3._auto_1)(hd:(x==("__debug__":Str))=false:=by decide)(hcd:(x==("__classdict__":Str))=false:=by decide)
    (he:JE X C E Γ Δ m1 S1 e te fe) (hk:JE X C E Γ Δ m2 S2 kx tk fk) (hs:swapsWithSole [.Subscript (.Name x p) kx p2] e pos.line X.env=pure false:=by rfl) (hw:swappedStores [.Subscript (.Name x p) kx p2] e X.env=pure none:=by rfl) (h1:(assignEach [.Subscript (.Name x p) kx p2] X.env).map (·.2)=[assign (.Subscript (.Name x p) kx p2) X.env]:=by rfl)
    (hq:∀v,assign (.Subscript (.Name x p) kx p2) X.env v=(do
      let ov ← holding [v] (eval (.Name x p) X.env)
      let iv ← holding [v,ov] (eval kx X.env)
      standAt p2
      holding [v,ov,iv] (setItem ov iv v)
      release [v,ov,iv] []):=by intro _;rfl) (hu:X.A.units+64<cLine) :
    JS X C E mr Γl Δl Γ Δ Γ Δ (.Assign [.Subscript (.Name x p) kx p2] e pos) (tAsg te (gSub (tVar i) tk rSetD)) (Dl.sTPut i fk fe):=⟨qs_asg he.q (qg_sub (qv i hN hv hd hcd) hk.q (set_dict hu) hq) hs hw h1,sok_tput hi he.o hk.o⟩
end
section
variable {K:Frag}{C:String→Addr}{E:XK}{Γ Δ:List Nat}
end
section
variable {X:Cx}{C:String→Addr}{E:XK}{mr:Nat}{Γ Δ Γ' Δ' Γl Δl:List Nat}{n:Nat}{pos:Pos}
end
end L2
namespace L2
open PySem PyProof.Rows
noncomputable def gallopP:Bool→Keyed→Array Keyed→Nat→Nat→Nat→StateT SortSt Sem (Option Nat):=sortPriv% PySem.Builtin.gallop
noncomputable def mergeLoP:Array Keyed→Array Keyed→StateT SortSt Sem (Array Keyed):=sortPriv% PySem.Builtin.mergeLo
noncomputable def mergeHiP:Array Keyed→Array Keyed→StateT SortSt Sem (Array Keyed):=sortPriv% PySem.Builtin.mergeHi
noncomputable def setMinP:Nat→StateT SortSt Sem Unit:=sortPriv% PySem.Builtin.setMinGallop
structure Ask (prog:Program)(w:World)(A:Around)(s:Shared)(κ:SortKind)(P:Keyed→Prop)(r:Keyed→Keyed→Bool):Prop where
 run:∀{x y:Keyed} {Q:Bool→Shared→Prop} {E:Value→Shared→Prop},P x→P y→Q (r x y) s→wpAny (model prog w) A (keyLt' κ x.1 y.1) Q E s
 tr:∀{x y z:Keyed},P x→P y→P z→r y x=false→r z y=false→r z x=false
 as:∀{x y:Keyed},P x→P y→r x y=true→r y x=false
noncomputable def bey (r:Keyed→Keyed→Bool)(left:Bool)(key x:Keyed):Bool:=if left=true then r x key else !r key x
section
variable {prog:Program}{w:World}{A:Around}{E:Value→Shared→Prop}{s:Shared}{κ:SortKind}{P:Keyed→Prop}{r:Keyed→Keyed→Bool}{st:SortSt}
theorem ask_lt {x y:Keyed}{Q:Option Bool→SortSt→Prop}(K:Ask prog w A s κ P r)(hk:kindOf st=κ)(hx:P x)(hy:P y)(h:Q (some (r x y)) st):wpS (model prog w) A E s (lt' x y) Q st:=by
 rw [lt'_eq]
 refine wpS_bind (wpS_get ?_)
 rw [hk]
 exact wpS_bind (wpS_lift (wpAny_attempt (K.run hx hy ⟨rfl,wpS_pure h⟩)))
theorem ask_elem {arr:Array Keyed}{i:Nat}{x:Keyed}{Q:Keyed→SortSt→Prop}(e:arr[i]?=some x)(h:Q x st):wpS (model prog w) A E s (elem' arr i) Q st:=by
 rw [elem'_eq,e]
 exact wpS_pure h
theorem ask_bey {arr:Array Keyed}{i:Nat}{x key:Keyed}{left:Bool}{Q:Option Bool→SortSt→Prop}(K:Ask prog w A s κ P r)(hk:kindOf st=κ)(e:arr[i]?=some x)(hx:P x)(hy:P key)(h:Q (some (bey r left key x)) st) :
    wpS (model prog w) A E s (do
      let z ← elem' arr i
      if left=true then lt' z key else do
        let b ← lt' key z
        pure (Option.map (fun b=>!b) b)) Q st:=by
  refine wpS_bind (ask_elem e ?_)
  unfold bey at h
  cases left with
  | true=>exact ask_lt K hk hx hy h
  | false=>exact wpS_bind (ask_lt K hk hy hx (wpS_pure h))
theorem bey_mono {left:Bool}{key x y:Keyed}(K:Ask prog w A s κ P r)(hk:P key)(hx:P x)(hy:P y)(hxy:r y x=false)(h:bey r left key y=true):bey r left key x=true:=by
 unfold bey at *
 cases left with
 | true =>
  simp only [if_true] at *
  cases e:r x key with
  | true=>rfl
  | false=>rw [K.tr hk hx hy e hxy] at h;cases h
 | false =>
  simp only [Bool.false_eq_true,if_false,Bool.not_eq_true'] at *
  exact K.tr hx hy hk hxy h
theorem ask_gallop {left:Bool}{key:Keyed}{arr:Array Keyed}{base n hint:Nat}{at_:Nat→Keyed}{Q:Option Nat→SortSt→Prop}(K:Ask prog w A s κ P r)(hk:kindOf st=κ)(hkey:P key)(ha:∀i,i<n→arr[base+i]?=some (at_ i)∧P (at_ i))
    (hs:∀i j,i≤j→j<n→r (at_ j) (at_ i)=false) (hh:hint<n) (h:∀k,k≤n→(∀i,i<k→bey r left key (at_ i)=true)→(∀i,k≤i→i<n→bey r left key (at_ i)=false)→Q (some k) st) :
    wpS (model prog w) A E s (gallopP left key arr base n hint) Q st:=by
  have up:∀{i j},i≤j→j<n→bey r left key (at_ j)=true→bey r left key (at_ i)=true:=fun {i j} hij hj hb=>bey_mono K hkey (ha i (by omega)).2 (ha j hj).2 (hs i j hij hj) hb
  have dn:∀{i j},i≤j→j<n→bey r left key (at_ i)=false→bey r left key (at_ j)=false:=fun {i j} hij hj hb=>by
    cases e:bey r left key (at_ j) with
    | false=>rfl
    | true=>rw [up hij hj e] at hb;cases hb
  have fin:∀{f:Nat→Option (Option Nat)×Nat×Nat→StateT SortSt Sem (ForInStep (Option (Option Nat)×Nat×Nat))} {g:Option (Option Nat)×Nat×Nat→StateT SortSt Sem (Option Nat)},
      (∀(x lo hi:Nat) (Q':ForInStep (Option (Option Nat)×Nat×Nat)→SortSt→Prop),hi≤n→(lo≥hi→Q' (.done (none,lo,hi)) st)→(lo<hi→bey r left key (at_ (lo+(hi - lo) / 2))=true→Q' (.yield (none,lo+(hi - lo) / 2+1,hi)) st)→
        (lo<hi→bey r left key (at_ (lo+(hi - lo) / 2))=false→Q' (.yield (none,lo,lo+(hi - lo) / 2)) st)→wpS (model prog w) A E s (f x (none,lo,hi)) Q' st)→
      (∀lo hi,Q (some hi) st→wpS (model prog w) A E s (g (none,lo,hi)) Q st)→
      ∀lo hi,lo≤hi→hi≤n→(∀i,i<lo→bey r left key (at_ i)=true)→(∀i,hi≤i→i<n→bey r left key (at_ i)=false)→
      wpS (model prog w) A E s (forIn [:n] ((none,lo,hi):Option (Option Nat)×Nat×Nat) f >>= g) Q st:=fun {f g} hf hg lo hi hlh hhn hlo hhi=>by
    refine wpS_bind (wpS_mono (wpS_forRange
      (I:=fun x c st'=>st'=st∧∃lo hi,c=(none,lo,hi)∧lo≤hi∧hi≤n∧hi - lo≤n - x∧(∀i,i<lo→bey r left key (at_ i)=true)∧(∀i,hi≤i→i<n→bey r left key (at_ i)=false))
      (Q:=fun c st'=>st'=st∧∃lo hi,c=(none,lo,hi)∧hi≤lo∧hi≤n∧(∀i,i<lo→bey r left key (at_ i)=true)∧(∀i,hi≤i→i<n→bey r left key (at_ i)=false)) ?step ?fin ⟨rfl,lo,hi,rfl,hlh,hhn,by omega,hlo,hhi⟩) ?post)
    case post =>
      rintro c st' ⟨rfl,lo,hi,rfl,h1,h2,h3,h4⟩
      exact hg _ _ (h hi h2 (fun i hi'=>h3 i (by omega)) h4)
    case fin =>
      rintro c st' ⟨rfl,lo,hi,rfl,h1,h2,h3,h4,h5⟩
      exact ⟨rfl,lo,hi,rfl,by omega,h2,h4,h5⟩
    case step =>
      rintro x c st' _ hx ⟨rfl,lo,hi,rfl,h1,h2,h3,h4,h5⟩
      exact hf x lo hi _ h2 (fun hge=>⟨rfl,lo,hi,rfl,hge,h2,h4,h5⟩) (fun hl e=>⟨rfl,_,_,rfl,by omega,h2,by omega,fun i hi'=>up (j:=lo+(hi - lo) / 2) (by omega) (by omega) e,h5⟩)
        (fun hl e=>⟨rfl,_,_,rfl,by omega,by omega,by omega,h4,fun i h6 h7=>dn (i:=lo+(hi - lo) / 2) h6 h7 e⟩)
  obtain ⟨e1,e2⟩:=ha hint hh
  refine wpS_bind (ask_bey (left:=left) K hk e1 e2 hkey ?_)
  dsimp only
  cases e:bey r left key (at_ hint) with
  | true =>
    rw [if_pos rfl]
    refine wpS_bind (wpS_mono (wpS_forRange
      (I:=fun x c st'=>st'=st∧∃la o,c=(none,la,o)∧x+1≤o∧la<o∧hint+la<n∧bey r left key (at_ (hint+la))=true)
      (Q:=fun c st'=>st'=st∧∃la o,c=(none,la,o)∧la<o∧hint+la<n∧bey r left key (at_ (hint+la))=true∧(n - hint≤o∨(hint+o<n∧bey r left key (at_ (hint+o))=false))) ?step ?fin ⟨rfl,0,1,rfl,by omega,by omega,by omega,e⟩) ?post)
    case post =>
      rintro c st' ⟨rfl,la,o,rfl,h1,h2,h3,h4⟩
      refine fin (fun x lo hi Q' hn q1 q2 q3=>by
        dsimp only
        by_cases hge:lo≥hi
        · rw [if_pos hge]
          exact wpS_pure (q1 hge)
        · rw [if_neg hge]
          obtain ⟨e3,e4⟩:=ha (lo+(hi - lo) / 2) (by omega)
          refine wpS_bind (ask_bey K hk e3 e4 hkey ?_)
          dsimp only
          cases e5:bey r left key (at_ (lo+(hi - lo) / 2)) with
          | true =>
            rw [if_pos rfl]
            exact wpS_pure (q2 (by omega) e5)
          | false =>
            rw [if_neg Bool.false_ne_true]
            exact wpS_pure (q3 (by omega) e5)) (fun lo hi q=>wpS_pure q) (hint+la+1) (hint+min o (n - hint)) (by omega) (by omega) (fun i hi'=>up (j:=hint+la) (by omega) h2 h3) (fun i h6 h7=>?_)
      rcases h4 with h4 | ⟨h4,h5⟩
      · omega
      · exact dn (i:=hint+o) (by omega) h7 h5
    case fin =>
      rintro c st' ⟨rfl,la,o,rfl,h1,h2,h3,h4⟩
      exact ⟨rfl,la,o,rfl,h2,h3,h4,.inl (by omega)⟩
    case step =>
      rintro x c st' _ hx ⟨rfl,la,o,rfl,h1,h2,h3,h4⟩
      dsimp only
      by_cases hge:o≥n - hint
      · rw [if_pos hge]
        exact wpS_pure ⟨rfl,la,o,rfl,h2,h3,h4,.inl hge⟩
      · rw [if_neg hge]
        obtain ⟨e3,e4⟩:=ha (hint+o) (by omega)
        refine wpS_bind (ask_bey K hk e3 e4 hkey ?_)
        dsimp only
        cases e5:bey r left key (at_ (hint+o)) with
        | true =>
          rw [if_neg (by decide)]
          exact wpS_pure ⟨rfl,_,_,rfl,by omega,by omega,by omega,e5⟩
        | false =>
          rw [if_pos (by decide)]
          exact wpS_pure ⟨rfl,la,o,rfl,h2,h3,h4,.inr ⟨by omega,e5⟩⟩
  | false =>
    rw [if_neg Bool.false_ne_true]
    refine wpS_bind (wpS_mono (wpS_forRange
      (I:=fun x c st'=>st'=st∧∃la o,c=(none,la,o)∧x+1≤o∧la<o∧la≤hint∧bey r left key (at_ (hint - la))=false)
      (Q:=fun c st'=>st'=st∧∃la o,c=(none,la,o)∧la<o∧la≤hint∧bey r left key (at_ (hint - la))=false∧(hint+1≤o∨(o≤hint∧bey r left key (at_ (hint - o))=true))) ?step ?fin ⟨rfl,0,1,rfl,by omega,by omega,by omega,e⟩) ?post)
    case post =>
      rintro c st' ⟨rfl,la,o,rfl,h1,h2,h3,h4⟩
      refine fin (fun x lo hi Q' hn q1 q2 q3=>by
        dsimp only
        by_cases hge:lo≥hi
        · rw [if_pos hge]
          exact wpS_pure (q1 hge)
        · rw [if_neg hge]
          obtain ⟨e3,e4⟩:=ha (lo+(hi - lo) / 2) (by omega)
          refine wpS_bind (ask_bey K hk e3 e4 hkey ?_)
          dsimp only
          cases e5:bey r left key (at_ (lo+(hi - lo) / 2)) with
          | true =>
            rw [if_pos rfl]
            exact wpS_pure (q2 (by omega) e5)
          | false =>
            rw [if_neg Bool.false_ne_true]
            exact wpS_pure (q3 (by omega) e5)) (fun lo hi q=>wpS_pure q) (hint+1 - min o (hint+1)) (hint - la) (by omega) (by omega) (fun i hi'=>?_) (fun i h6 h7=>dn (i:=hint - la) (by omega) h7 h3)
      rcases h4 with h4 | ⟨h4,h5⟩
      · omega
      · exact up (j:=hint - o) (by omega) (by omega) h5
    case fin =>
      rintro c st' ⟨rfl,la,o,rfl,h1,h2,h3,h4⟩
      exact ⟨rfl,la,o,rfl,h2,h3,h4,.inl (by omega)⟩
    case step =>
      rintro x c st' _ hx ⟨rfl,la,o,rfl,h1,h2,h3,h4⟩
      dsimp only
      by_cases hge:o≥hint+1
      · rw [if_pos hge]
        exact wpS_pure ⟨rfl,la,o,rfl,h2,h3,h4,.inl hge⟩
      · rw [if_neg hge]
        obtain ⟨e3,e4⟩:=ha (hint - o) (by omega)
        refine wpS_bind (ask_bey K hk e3 e4 hkey ?_)
        dsimp only
        cases e5:bey r left key (at_ (hint - o)) with
        | true =>
          rw [if_pos rfl]
          exact wpS_pure ⟨rfl,la,o,rfl,h2,h3,h4,.inr ⟨by omega,e5⟩⟩
        | false =>
          rw [if_neg Bool.false_ne_true]
          exact wpS_pure ⟨rfl,_,_,rfl,by omega,by omega,by omega,e5⟩
end
section
variable {r:Keyed→Keyed→Bool}
def Up (r:Keyed→Keyed→Bool)(l:List Keyed):Prop:=l.Pairwise fun x y=>r y x=false
structure MI (r:Keyed→Keyed→Bool)(a b out:List Keyed)(ia ib:Nat):Prop where
 pm:out.Perm (a.take ia++b.take ib)
 so:Up r out
 le:∀x∈out,∀y,(y∈a.drop ia∨y∈b.drop ib)→r y x=false
variable {a b out:List Keyed}{ia ib:Nat}{x:Keyed}
theorem take_snoc {l:List Keyed}{i:Nat}{x:Keyed}(e:l[i]?=some x):l.take (i+1)=l.take i++[x]:=by
 rw [List.take_add_one,e]
 rfl
theorem drop_cons {l:List Keyed}{i:Nat}{x:Keyed}(e:l[i]?=some x):l.drop i=x::l.drop (i+1):=by
 obtain ⟨h,rfl⟩:=List.getElem?_eq_some_iff.mp e
 exact drop_eq_getElem_cons h
theorem Up.drop {l:List Keyed}(h:Up r l)(i:Nat):Up r (l.drop i):=h.sublist (List.drop_sublist i l)
theorem MI.a1 (m:MI r a b out ia ib)(sa:Up r a)(e:a[ia]?=some x)(h:∀y∈b.drop ib,r y x=false):MI r a b (out++[x]) (ia+1) ib:=by
 have ed:=drop_cons e
 have sd:=sa.drop ia
 rw [ed] at sd
 refine ⟨?_,List.pairwise_append.mpr ⟨m.so,pairwise_singleton _ _,fun z hz y hy=>?_⟩,fun z hz y hy=>?_⟩
 ·rw [take_snoc e]
  refine (m.pm.append_right [x]).trans ?_
  rw [append_assoc,append_assoc]
  exact List.Perm.append_left _ perm_append_comm
 ·rw [List.mem_singleton.mp hy]
  exact m.le z hz x (.inl (by rw [ed];exact .head _))
 ·rcases List.mem_append.mp hz with hz | hz
  ·exact m.le z hz y (hy.imp (fun q=>by rw [ed];exact .tail _ q) id)
  ·rw [List.mem_singleton.mp hz]
   rcases hy with hy | hy
   ·exact (List.pairwise_cons.mp sd).1 y hy
   ·exact h y hy
theorem MI.swap (m:MI r a b out ia ib):MI r b a out ib ia:=⟨m.pm.trans perm_append_comm,m.so,fun x hx y hy=>m.le x hx y hy.symm⟩
theorem MI.b1 (m:MI r a b out ia ib)(sb:Up r b)(e:b[ib]?=some x)(h:∀y∈a.drop ia,r y x=false):MI r a b (out++[x]) ia (ib+1):=(m.swap.a1 sb e h).swap
theorem MI.ak (m:MI r a b out ia ib)(sa:Up r a):∀(k:Nat),ia+k≤a.length→(∀i,i<k→∀z,a[ia+i]?=some z→∀y∈b.drop ib,r y z=false)→MI r a b (out++(a.drop ia).take k) (ia+k) ib
 | 0,_,_=>by rw [take_zero,append_nil];exact m
 | k+1,hl,h=>by
  have ih:=m.ak sa k (by omega) fun i hi=>h i (by omega)
  have e:a[ia+k]?=some a[ia+k]:=getElem?_eq_getElem (by omega)
  have e2:(a.drop ia)[k]?=some a[ia+k]:=by rw [getElem?_drop];exact e
  rw [take_snoc e2,← append_assoc]
  exact ih.a1 sa e (h k (by omega) _ e)
theorem MI.bk (m:MI r a b out ia ib)(sb:Up r b)(k:Nat)(hl:ib+k≤b.length)(h:∀i,i<k→∀z,b[ib+i]?=some z→∀y∈a.drop ia,r y z=false):MI r a b (out++(b.drop ib).take k) ia (ib+k):=(m.swap.ak sb k hl h).swap
theorem MI.endA (m:MI r a b out ia ib)(sa:Up r a)(sb:Up r b)(h:∀x∈b.drop ib,∀y∈a.drop ia,r y x=false):(out++b.drop ib++a.drop ia).Perm (a++b)∧Up r (out++b.drop ib++a.drop ia):=by
 constructor
 ·have h1:(out++b.drop ib++a.drop ia).Perm (a.take ia++b.take ib++b.drop ib++a.drop ia):=(m.pm.append_right _).append_right _
  refine h1.trans ?_
  rw [append_assoc (a.take ia),take_append_drop,append_assoc]
  refine (List.Perm.append_left _ perm_append_comm).trans ?_
  rw [← append_assoc,take_append_drop]
 ·refine List.pairwise_append.mpr ⟨List.pairwise_append.mpr ⟨m.so,sb.drop ib,fun x hx y hy=>m.le x hx y (.inr hy)⟩,sa.drop ia,fun x hx y hy=>?_⟩
  rcases List.mem_append.mp hx with hx | hx
  ·exact m.le x hx y (.inl hy)
  ·exact h x hx y hy
theorem MI.endB (m:MI r a b out ia ib)(sa:Up r a)(sb:Up r b)(h:∀x∈a.drop ia,∀y∈b.drop ib,r y x=false):(out++a.drop ia++b.drop ib).Perm (a++b)∧Up r (out++a.drop ia++b.drop ib):=
 (m.swap.endA sb sa h).imp (fun q=>q.trans perm_append_comm) id
structure MJ (r:Keyed→Keyed→Bool)(a b out:List Keyed)(na nb:Nat):Prop where
 pm:out.Perm (a.drop na++b.drop nb)
 so:Up r out
 le:∀x∈out,∀y,(y∈a.take na∨y∈b.take nb)→r x y=false
theorem Up.take {l:List Keyed}(h:Up r l)(i:Nat):Up r (l.take i):=h.sublist (List.take_sublist i l)
theorem MJ.swap {na nb:Nat}(m:MJ r a b out na nb):MJ r b a out nb na:=⟨m.pm.trans perm_append_comm,m.so,fun x hx y hy=>m.le x hx y hy.symm⟩
theorem MJ.a1 {na nb:Nat}(m:MJ r a b out (na+1) nb)(sa:Up r a)(e:a[na]?=some x)(h:∀y∈b.take nb,r x y=false):MJ r a b (x::out) na nb:=by
 have et:=take_snoc e
 have st:=sa.take (na+1)
 rw [et] at st
 refine ⟨?_,List.pairwise_cons.mpr ⟨fun y hy=>m.le y hy x (.inl (by rw [et];exact mem_append_right _ (.head _))),m.so⟩,fun z hz y hy=>?_⟩
 ·rw [drop_cons e]
  exact m.pm.cons x
 ·rcases List.mem_cons.mp hz with rfl | hz
  ·rcases hy with hy | hy
   ·exact (List.pairwise_append.mp st).2.2 y hy z (.head _)
   ·exact h y hy
  ·exact m.le z hz y (hy.imp (fun q=>by rw [et];exact mem_append_left _ q) id)
theorem MJ.b1 {na nb:Nat}(m:MJ r a b out na (nb+1))(sb:Up r b)(e:b[nb]?=some x)(h:∀y∈a.take na,r x y=false):MJ r a b (x::out) na nb:=(m.swap.a1 sb e h).swap
theorem MJ.ak {na nb:Nat}(m:MJ r a b out na nb)(sa:Up r a)(hna:na≤a.length):∀(k:Nat),k≤na→(∀i,na - k≤i→i<na→∀z,a[i]?=some z→∀y∈b.take nb,r z y=false)→MJ r a b ((a.drop (na - k)).take k++out) (na - k) nb
 | 0,_,_=>by rw [take_zero];exact m
 | k+1,hl,h=>by
  have ih:=m.ak sa hna k (by omega) fun i hi=>h i (by omega)
  have e:a[na - (k+1)]?=some a[na - (k+1)]:=getElem?_eq_getElem (by omega)
  rw [drop_cons e,List.take_succ_cons,cons_append,show na - (k+1)+1=na - k by omega]
  rw [show na - k=na - (k+1)+1 by omega] at ih
  have:=ih.a1 sa e (h _ (le_refl _) (by omega) _ e)
  rw [show na - (k+1)+1=na - k by omega] at this
  exact this
theorem MJ.bk {na nb:Nat}(m:MJ r a b out na nb)(sb:Up r b)(hnb:nb≤b.length)(k:Nat)(hl:k≤nb)(h:∀i,nb - k≤i→i<nb→∀z,b[i]?=some z→∀y∈a.take na,r z y=false):MJ r a b ((b.drop (nb - k)).take k++out) na (nb - k):=(m.swap.ak sb hnb k hl h).swap
theorem MJ.endA {na nb:Nat}(m:MJ r a b out na nb)(sa:Up r a)(sb:Up r b)(h:∀x∈a.take na,∀y∈b.take nb,r y x=false):(a.take na++b.take nb++out).Perm (a++b)∧Up r (a.take na++b.take nb++out):=by
 constructor
 ·refine (m.pm.append_left _).trans ?_
  rw [append_assoc]
  refine (List.Perm.append_left _ (List.perm_append_comm_assoc _ _ _)).trans ?_
  rw [take_append_drop,← append_assoc,take_append_drop]
 ·refine List.pairwise_append.mpr ⟨List.pairwise_append.mpr ⟨sa.take na,sb.take nb,h⟩,m.so,fun x hx y hy=>?_⟩
  rcases List.mem_append.mp hx with hx | hx
  ·exact m.le y hy x (.inl hx)
  ·exact m.le y hy x (.inr hx)
theorem MJ.endB {na nb:Nat}(m:MJ r a b out na nb)(sa:Up r a)(sb:Up r b)(h:∀x∈b.take nb,∀y∈a.take na,r y x=false):(b.take nb++a.take na++out).Perm (a++b)∧Up r (b.take nb++a.take na++out):=
 (m.swap.endA sb sa h).imp (fun q=>q.trans perm_append_comm) id
end
structure SG (st st':SortSt):Prop where
 k:kindOf st'=kindOf st
 a:arrOf st'=arrOf st
 p:pendingOf st'=pendingOf st
 f:failedOf st'=failedOf st
theorem SG.refl (st:SortSt):SG st st:=⟨rfl,rfl,rfl,rfl⟩
theorem SG.trans {st st1 st2:SortSt}(g:SG st st1)(h:SG st1 st2):SG st st2:=⟨h.k.trans g.k,h.a.trans g.a,h.p.trans g.p,h.f.trans g.f⟩
theorem ext_drop (a:Array Keyed)(i:Nat):(a.extract i a.size).toList=a.toList.drop i:=by
 rw [Array.toList_extract,List.extract_eq_take_drop]
 exact take_of_length_le (by simp)
theorem ext_mid (a:Array Keyed)(i k:Nat):(a.extract i (i+k)).toList=(a.toList.drop i).take k:=by simp [List.extract_eq_take_drop]
section
variable {prog:Program}{w:World}{A:Around}{E:Value→Shared→Prop}{s:Shared}{κ:SortKind}{P:Keyed→Prop}{r:Keyed→Keyed→Bool}{st:SortSt}
theorem Ask.ir {x:Keyed}(K:Ask prog w A s κ P r)(hx:P x):r x x=false:=by
 cases e:r x x with
 | false=>rfl
 | true=>rw [K.as hx hx e] at e;cases e
theorem ask_setMin {g:Nat}{Q:Unit→SortSt→Prop}(h:∀st',SG st st'→Q () st'):wpS (model prog w) A E s (setMinP g) Q st:=wpS_modify (h _ ⟨rfl,rfl,rfl,rfl⟩)
theorem up_at (K:Ask prog w A s κ P r){l:List Keyed}(hl:∀x∈l,P x)(h:Up r l){i j:Nat}{x y:Keyed}(hij:i≤j)(e1:l[i]?=some x)(e2:l[j]?=some y):r y x=false:=by
 obtain ⟨h1,rfl⟩:=List.getElem?_eq_some_iff.mp e1
 obtain ⟨h2,rfl⟩:=List.getElem?_eq_some_iff.mp e2
 rcases Nat.eq_or_lt_of_le hij with e | hlt
 ·subst e
  exact K.ir (hl _ (getElem_mem h1))
 ·exact List.pairwise_iff_getElem.mp h i j h1 h2 hlt
theorem ask_gal {left:Bool}{key:Keyed}{a:Array Keyed}{base n hint:Nat}{Q:Option Nat→SortSt→Prop}(K:Ask prog w A s κ P r)(hk:kindOf st=κ)(hP:∀x∈a.toList,P x)(hkey:P key)(hb:base+n≤a.size)
  (hs:∀i j x y,i≤j→j<n→a.toList[base+i]?=some x→a.toList[base+j]?=some y→r y x=false) (hh:hint<n)
  (h:∀k,k≤n→(∀i x,i<k→a.toList[base+i]?=some x→bey r left key x=true)→(∀i x,k≤i→i<n→a.toList[base+i]?=some x→bey r left key x=false)→Q (some k) st):wpS (model prog w) A E s (gallopP left key a base n hint) Q st:=by
 have at_:∀i,i<n→a.toList[base+i]?=some (a.toList.getD (base+i) key):=fun i hi=>by
  have hl:base+i<a.toList.length:=by rw [length_toList];omega
  rw [List.getD_eq_getElem?_getD,getElem?_eq_getElem hl]
  rfl
 refine ask_gallop (at_:=fun i=>a.toList.getD (base+i) key) K hk hkey (fun i hi=>⟨by rw [← getElem?_toList];exact at_ i hi,hP _ (mem_of_getElem? (at_ i hi))⟩) (fun i j hij hj=>hs i j _ _ hij hj (at_ i (by omega)) (at_ j hj)) hh fun k h1 h2 h3=>?_
 refine h k h1 (fun i x hi e=>?_) (fun i x h4 h5 e=>?_)
 ·have:=h2 i hi
  rw [at_ i (by omega)] at e
  cases e
  exact this
 ·have:=h3 i h4 h5
  rw [at_ i h5] at e
  cases e
  exact this
theorem ge_of (K:Ask prog w A s κ P r){l:List Keyed}(hl:∀x∈l,P x)(h:Up r l){i:Nat}{x y:Keyed}(e:l[i]?=some x)(hy:y∈l.drop i):r y x=false:=by
 obtain ⟨j,hj⟩:=List.mem_iff_getElem?.mp hy
 rw [getElem?_drop] at hj
 exact up_at K hl h (le_add_right _ _) e hj
theorem ask_if {α:Type}{c:Prop}[Decidable c]{x y:StateT SortSt Sem α}{Q:α→SortSt→Prop}(h1:c→wpS (model prog w) A E s x Q st)(h2:¬c→wpS (model prog w) A E s y Q st):wpS (model prog w) A E s (if c then x else y) Q st:=by
 by_cases h:c
 ·rw [if_pos h]
  exact h1 h
 ·rw [if_neg h]
  exact h2 h
theorem nbeq {m n:Nat}(h:¬(m==n)=true):m≠n:=fun z=>h (by rw [z];exact beq_self_eq_true _)
noncomputable def StQ {β:Type}(good:Array Keyed→Prop)(inv:Array Keyed→Nat→Nat→Prop):ForInStep (Option (Array Keyed)×Array Keyed×Nat×Nat×β)→Prop
 | .done (some res,_)=>good res
 | .done (none,out,ia,ib,_)=>inv out ia ib
 | .yield (some _,_)=>False
 | .yield (none,out,ia,ib,_)=>inv out ia ib
noncomputable def EndQ {β:Type}(good:Array Keyed→Prop)(inv:Array Keyed→Nat→Nat→Prop):Option (Array Keyed)×Array Keyed×Nat×Nat×β→Prop
 | (some res,_)=>good res
 | (none,out,ia,ib,_)=>inv out ia ib
theorem ask_mergeLo {a b:Array Keyed}{b0:Keyed}{Q:Array Keyed→SortSt→Prop}(K:Ask prog w A s κ P r)(hk:kindOf st=κ)(pa:∀x∈a.toList,P x)(pb:∀x∈b.toList,P x)(sa:Up r a.toList)(sb:Up r b.toList)(na:1≤a.size)(eb0:b[0]?=some b0)
  (h0:∀x∈a.toList,r x b0=false) (hl:∀x,a.toList[a.size - 1]?=some x→∀y∈b.toList,r x y=false)
  (h:∀out st',out.toList.Perm (a.toList++b.toList)→Up r out.toList→SG st st'→Q out st'):wpS (model prog w) A E s (mergeLoP a b) Q st:=by
 have la:=a.length_toList
 have lb:=b.length_toList
 have eb0':b.toList[0]?=some b0:=by rw [getElem?_toList];exact eb0
 have nb:1≤b.size:=(Array.getElem?_eq_some_iff.mp eb0).1
 let good:Array Keyed→Prop:=fun out=>out.toList.Perm (a.toList++b.toList)∧Up r out.toList
 let mi:Array Keyed→Nat→Nat→Prop:=fun out ia ib=>MI r a.toList b.toList out.toList ia ib
 have gB:∀{out ia ib},mi out ia ib→(a.size≤ia∨b.size≤ib)→good (out++a.extract ia a.size++b.extract ib b.size):=fun {out ia ib} m q=>by
  show (out++a.extract ia a.size++b.extract ib b.size).toList.Perm _∧Up r (out++a.extract ia a.size++b.extract ib b.size).toList
  rw [toList_append,toList_append,ext_drop,ext_drop]
  refine MI.endB m sa sb fun x hx y hy=>?_
  rcases q with q | q
  ·rw [drop_eq_nil_of_le (by omega)] at hx
   cases hx
  ·rw [drop_eq_nil_of_le (by omega)] at hy
   cases hy
 have gA:∀{out ia ib},mi out ia ib→ia+1=a.size→good (out++b.extract ib b.size++a.extract ia a.size):=fun {out ia ib} m q=>by
  show (out++b.extract ib b.size++a.extract ia a.size).toList.Perm _∧Up r (out++b.extract ib b.size++a.extract ia a.size).toList
  rw [toList_append,toList_append,ext_drop,ext_drop]
  have e:a.toList[ia]?=some a.toList[ia]:=getElem?_eq_getElem (by omega)
  refine MI.endA m sa sb fun x hx y hy=>?_
  rw [drop_cons e,drop_eq_nil_of_le (by omega)] at hy
  rw [List.mem_singleton.mp hy]
  exact hl _ (by rw [show a.size - 1=ia by omega];exact e) x (mem_of_mem_drop hx)
 have m0:mi #[b0] 0 1:=by
  refine ⟨?_,pairwise_singleton _ _,fun x hx y hy=>?_⟩
  ·rw [take_zero,nil_append,take_snoc eb0',take_zero]
   exact List.Perm.refl _
  ·have e:x=b0:=List.mem_singleton.mp hx
   subst e
   rcases hy with hy | hy
   ·exact h0 y hy
   ·obtain ⟨i,hi⟩:=List.mem_iff_getElem?.mp hy
    rw [getElem?_drop] at hi
    exact up_at K pb sb (zero_le _) eb0' hi
 have pushA:∀{out ia ib x},mi out ia ib→a.toList[ia]?=some x→(∀y∈b.toList.drop ib,r y x=false)→mi (out.push x) (ia+1) ib:=fun {out ia ib x} m e q=>by
  show MI r a.toList b.toList (out.push x).toList (ia+1) ib
  rw [toList_push]
  exact MI.a1 m sa e q
 have pushB:∀{out ia ib x},mi out ia ib→b.toList[ib]?=some x→(∀y∈a.toList.drop ia,r y x=false)→mi (out.push x) ia (ib+1):=fun {out ia ib x} m e q=>by
  show MI r a.toList b.toList (out.push x).toList ia (ib+1)
  rw [toList_push]
  exact MI.b1 m sb e q
 have atA:∀i,i<a.size→∃x,a.toList[i]?=some x∧a[i]?=some x∧P x:=fun i hi=>⟨a[i],by rw [getElem?_toList];exact Array.getElem?_eq_getElem hi,Array.getElem?_eq_getElem hi,pa _ (by simp)⟩
 have atB:∀i,i<b.size→∃x,b.toList[i]?=some x∧b[i]?=some x∧P x:=fun i hi=>⟨b[i],by rw [getElem?_toList];exact Array.getElem?_eq_getElem hi,Array.getElem?_eq_getElem hi,pb _ (by simp)⟩
 refine wpS_bind (wpS_lift (wpAny_rule ⟨rfl,?_⟩))
 refine wpS_bind (ask_elem eb0 ?_)
 extract_lets o0 i0 j0
 by_cases c1:(j0==b.size)=true
 ·rw [if_pos c1]
  have q:=gB m0 (.inr (by have:1=b.size:=eq_of_beq c1;omega))
  exact wpS_pure (h _ _ q.1 q.2 (SG.refl _))
 rw [if_neg c1]
 by_cases c2:(i0+1==a.size)=true
 ·rw [if_pos c2]
  have q:=gA m0 (show 0+1=a.size from eq_of_beq c2)
  exact wpS_pure (h _ _ q.1 q.2 (SG.refl _))
 rw [if_neg c2]
 have c1':¬1=b.size:=fun z=>c1 (by show (1==b.size)=true;rw [← z];rfl)
 have c2':¬1=a.size:=fun z=>c2 (by show (0+1==a.size)=true;rw [← z];rfl)
 refine wpS_bind (wpS_get ?_)
 let inv:Nat→Array Keyed→Nat→Nat→Prop:=fun n out ia ib=>mi out ia ib∧ia+1<a.size∧ib<b.size∧n≤ia+ib
 refine wpS_bind (wpS_mono (wpS_forRange (I:=fun x c st'=>SG st st'∧c.1=none∧inv (x+1) c.2.1 c.2.2.1 c.2.2.2.1) (Q:=fun c st'=>SG st st'∧EndQ good (fun _ _ _=>False) c) ?step ?fin ⟨SG.refl _,rfl,m0,by show 0+1<_;omega,by show 1<_;omega,by show 0+1≤0+1;omega⟩) ?post)
 case post =>
  rintro ⟨rr,out,ia,ib,g⟩ st' ⟨sg,q⟩
  cases rr with
  | none=>exact q.elim
  | some res=>exact wpS_pure (h _ _ q.1 q.2 sg)
 case fin =>
  rintro ⟨rr,out,ia,ib,g⟩ st' ⟨sg,e,m,q1,q2,q3⟩
  have e:rr=none:=e
  subst e
  exfalso
  have q1:ia+1<a.size:=q1
  have q2:ib<b.size:=q2
  have q3:max 0 (a.size+b.size)+1≤ia+ib:=q3
  omega
 case step =>
  rintro x ⟨rr,out,ia,ib,g⟩ st' _ hx ⟨sg,e,m,q1,q2,q3⟩
  have e:rr=none:=e
  subst e
  have m:mi out ia ib:=m
  have q1:ia+1<a.size:=q1
  have q2:ib<b.size:=q2
  have q3:x+1≤ia+ib:=q3
  refine wpS_bind (wpS_mono (wpS_forRange (I:=fun y c st''=>st''=st'∧c.1=none∧inv (x+1+y) c.2.1 c.2.2.1 c.2.2.2.1) (Q:=fun c st''=>st''=st'∧EndQ good (inv (x+2)) c) ?s1 ?f1 ⟨rfl,rfl,m,q1,q2,q3⟩) ?p1)
  case f1 =>
   rintro ⟨rr,out,ia,ib,g⟩ st'' ⟨e1,e,m,q1,q2,q3⟩
   have e:rr=none:=e
   subst e
   exact ⟨e1,m,q1,q2,le_trans (by omega) q3⟩
  case s1 =>
   rintro y ⟨rr,out,ia,ib,ac,bc⟩ st'' _ hy ⟨e1,e,m,q1,q2,q3⟩
   have e:rr=none:=e
   subst e e1
   have m:mi out ia ib:=m
   have q1:ia+1<a.size:=q1
   have q2:ib<b.size:=q2
   have q3:x+1+y≤ia+ib:=q3
   obtain ⟨xa,ea',ea,ha⟩:=atA ia (by omega)
   obtain ⟨xb,eb',eb,hb⟩:=atB ib q2
   refine wpS_bind (ask_elem eb ?_)
   refine wpS_bind (ask_elem ea ?_)
   refine wpS_bind (ask_lt K (sg.k.trans hk) hb ha ?_)
   dsimp only
   cases er:r xb xa with
   | true =>
    have m':=pushB m eb' (fun z hz=>K.tr hb ha (pa z (mem_of_mem_drop hz)) (K.as hb ha er) (ge_of K pa sa ea' hz))
    rw [if_pos rfl]
    refine wpS_bind (ask_elem eb ?_)
    by_cases c3:(ib+1==b.size)=true
    ·rw [if_pos c3]
     exact wpS_pure ⟨rfl,gB m' (.inr (le_of_eq (eq_of_beq c3).symm))⟩
    ·rw [if_neg c3]
     have c3':ib+1<b.size:=by
      have:¬ib+1=b.size:=fun z=>c3 (by rw [z];exact beq_self_eq_true _)
      omega
     by_cases c4:bc+1≥g
     ·rw [if_pos c4]
      exact wpS_pure ⟨rfl,m',q1,c3',by show x+2≤ia+(ib+1);omega⟩
     ·rw [if_neg c4]
      exact wpS_pure ⟨rfl,rfl,m',q1,c3',by show x+1+(y+1)≤ia+(ib+1);omega⟩
   | false =>
    have m':=pushA m ea' (fun z hz=>K.tr ha hb (pb z (mem_of_mem_drop hz)) er (ge_of K pb sb eb' hz))
    rw [if_neg Bool.false_ne_true]
    refine wpS_bind (ask_elem ea ?_)
    by_cases c3:(ia+1+1==a.size)=true
    ·rw [if_pos c3]
     exact wpS_pure ⟨rfl,gA m' (eq_of_beq c3)⟩
    ·rw [if_neg c3]
     have c3':ia+1+1<a.size:=by
      have:¬ia+1+1=a.size:=fun z=>c3 (by rw [z];exact beq_self_eq_true _)
      omega
     by_cases c4:ac+1≥g
     ·rw [if_pos c4]
      exact wpS_pure ⟨rfl,m',c3',q2,by show x+2≤ia+1+ib;omega⟩
     ·rw [if_neg c4]
      exact wpS_pure ⟨rfl,rfl,m',c3',q2,by show x+1+(y+1)≤ia+1+ib;omega⟩
  case p1 =>
   rintro ⟨rr,out,ia,ib,ac,bc⟩ st'' ⟨e1,q⟩
   subst e1
   cases rr with
   | some res=>exact wpS_pure ⟨sg,q⟩
   | none =>
    obtain ⟨m,q1,q2,q3⟩:=(show inv (x+2) out ia ib from q)
    refine wpS_bind (wpS_lift (wpAny_rule ⟨rfl,?_⟩))
    refine wpS_bind (wpS_mono (wpS_forRange (I:=fun y c st3=>SG st st3∧c.1=none∧inv (x+2) c.2.1 c.2.2.1 c.2.2.2.1) (Q:=fun c st3=>SG st st3∧EndQ good (inv (x+2)) c) ?s2 ?f2 ⟨sg,rfl,m,q1,q2,q3⟩) ?p2)
    case f2 =>
     rintro ⟨rr,out,ia,ib,g⟩ st3 ⟨sg3,e,q⟩
     have e:rr=none:=e
     subst e
     exact ⟨sg3,q⟩
    case p2 =>
     rintro ⟨rr,out,ia,ib,g,ac,bc⟩ st3 ⟨sg3,q⟩
     cases rr with
     | some res=>exact wpS_pure ⟨sg3,q⟩
     | none=>exact wpS_bind (ask_setMin fun st4 sg4=>wpS_pure ⟨sg3.trans sg4,rfl,q⟩)
    case s2 =>
     rintro y ⟨rr,out,ia,ib,g,ac,bc⟩ st3 _ hy ⟨sg3,e,m,q1,q2,q3⟩
     have e:rr=none:=e
     subst e
     have m:mi out ia ib:=m
     have q1:ia+1<a.size:=q1
     have q2:ib<b.size:=q2
     have q3:x+2≤ia+ib:=q3
     obtain ⟨xb,eb',eb,hb⟩:=atB ib q2
     refine wpS_mono (Q:=fun rr st4=>SG st st4∧StQ good (inv (x+2)) rr) ?_ (fun rr st4 q=>?_)
     rotate_left
     ·cases rr with
      | done c =>
       obtain ⟨r0,c⟩:=c
       cases r0<;>exact q
      | yield c =>
       obtain ⟨r0,c⟩:=c
       cases r0 with
       | some _=>exact q.2.elim
       | none=>exact ⟨q.1,rfl,q.2⟩
     extract_lets v1 v2 v3 v4 v5 v6 v7 v8 v9 v10 v11 jb jp
     have hj:∀g',wpS (model prog w) A E s (jp () g') (fun rr st4=>SG st st4∧StQ good (inv (x+2)) rr) st3:=fun g'=>by
      refine wpS_bind (ask_setMin fun st4 sg4=>?_)
      refine wpS_bind (ask_elem eb ?_)
      refine wpS_bind (ask_gal K ((sg3.trans sg4).k.trans hk) pa hb (base:=ia) (n:=a.size - ia) (by omega) (fun i j x y hij _ e1 e2=>up_at K pa sa (by omega) e1 e2) (by omega) fun k k1 k2 k3=>?_)
      dsimp -zeta -zetaHave only
      extract_lets ac2 jp2 o2 i2
      have hj2:∀out' ia',mi out' ia' ib→ia'+1<a.size→ia≤ia'→(∀y∈a.toList.drop ia',r y xb=false)→wpS (model prog w) A E s (jp2 () out' ia') (fun rr st4=>SG st st4∧StQ good (inv (x+2)) rr) st4:=fun out' ia' m' g1 g2 g3=>by
       have m2:=pushB m' eb' g3
       refine wpS_bind (ask_elem eb ?_)
       refine ask_if (fun c5=>?_) (fun c5=>?_)
       ·exact wpS_pure ⟨sg3.trans sg4,gB m2 (.inr (le_of_eq (eq_of_beq c5).symm))⟩
       ·have c5':ib+1≠b.size:=nbeq c5
        obtain ⟨xa,ea',ea,ha⟩:=atA ia' (by omega)
        refine wpS_bind (ask_elem ea ?_)
        refine wpS_bind (ask_gal K ((sg3.trans sg4).k.trans hk) pb ha (base:=ib+1) (n:=b.size - (ib+1)) (by omega) (fun i j x y hij _ e1 e2=>up_at K pb sb (by omega) e1 e2) (by omega) fun k' k1' k2' k3'=>?_)
        dsimp -zeta -zetaHave only
        extract_lets bc2 i4 jp3 o3 i3
        have hj3:∀out'' ib'',mi out'' ia' ib''→ib''<b.size→ib+1≤ib''→(∀y∈b.toList.drop ib'',r y xa=false)→wpS (model prog w) A E s (jp3 () out'' ib'') (fun rr st4=>SG st st4∧StQ good (inv (x+2)) rr) st4:=fun out'' ib'' m'' f1 f2 f3=>by
         have m3:=pushA m'' ea' f3
         refine wpS_bind (ask_elem ea ?_)
         refine ask_if (fun c6=>?_) (fun c6=>?_)
         ·exact wpS_pure ⟨sg3.trans sg4,gA m3 (eq_of_beq c6)⟩
         ·have c6':ia'+1+1≠a.size:=nbeq c6
          have iv:inv (x+2) (out''.push xa) (ia'+1) ib'':=⟨m3,by omega,f1,by omega⟩
          exact ask_if (fun _=>wpS_pure ⟨sg3.trans sg4,iv⟩) (fun _=>wpS_pure ⟨sg3.trans sg4,iv⟩)
        have rest:∀k0,k'≤k0→∀y∈b.toList.drop (ib+1+k0),r y xa=false:=fun k0 hk0 y hy=>by
         obtain ⟨j,hj⟩:=List.mem_iff_getElem?.mp hy
         rw [getElem?_drop] at hj
         have hjl:=(List.getElem?_eq_some_iff.mp hj).1
         have:=k3' (k0+j) y (by omega) (by omega) (by rw [← add_assoc];exact hj)
         exact this
        refine ask_if (fun c6=>?_) (fun c6=>?_)
        ·have m3:mi (out'.push xb++b.extract (ib+1) (ib+1+k')) ia' (ib+1+k'):=by
          show MI r _ _ (out'.push xb++b.extract (ib+1) (ib+1+k')).toList ia' (ib+1+k')
          rw [toList_append,ext_mid]
          refine MI.bk m2 sb k' (by omega) fun i hi z hz y hy=>?_
          have hb1:r z xa=true:=k2' i z hi hz
          have pz:=pb z (mem_of_getElem? hz)
          exact K.tr pz ha (pa y (mem_of_mem_drop hy)) (K.as pz ha hb1) (ge_of K pa sa ea' hy)
         refine ask_if (fun c7=>?_) (fun c7=>?_)
         ·exact wpS_pure ⟨sg3.trans sg4,gB m3 (.inr (le_of_eq (eq_of_beq c7).symm))⟩
         ·have c7':ib+1+k'≠b.size:=nbeq c7
          exact hj3 (out'.push xb++b.extract (ib+1) (ib+1+k')) (ib+1+k') m3 (by omega) (by omega) (rest k' (le_refl _))
        ·have:k'=0:=by omega
         exact hj3 (out'.push xb) (ib+1) m2 (by omega) (le_refl _) (fun y hy=>rest 0 (by omega) y hy)
      have rest:∀k0,k≤k0→∀y∈a.toList.drop (ia+k0),r y xb=false:=fun k0 hk0 y hy=>by
       obtain ⟨j,hj⟩:=List.mem_iff_getElem?.mp hy
       rw [getElem?_drop] at hj
       have hjl:=(List.getElem?_eq_some_iff.mp hj).1
       have q:bey r false xb y=false:=k3 (k0+j) y (by omega) (by omega) (by rw [← add_assoc];exact hj)
       have q:r xb y=true:=by simpa [bey] using q
       exact K.as hb (pa y (mem_of_getElem? hj)) q
      refine ask_if (fun c6=>?_) (fun c6=>?_)
      ·have m3:mi (out++a.extract ia (ia+k)) (ia+k) ib:=by
        show MI r _ _ (out++a.extract ia (ia+k)).toList (ia+k) ib
        rw [toList_append,ext_mid]
        refine MI.ak m sa k (by omega) fun i hi z hz y hy=>?_
        have q:bey r false xb z=true:=k2 i z hi hz
        have q:r xb z=false:=by simpa [bey] using q
        exact K.tr (pa z (mem_of_getElem? hz)) hb (pb y (mem_of_mem_drop hy)) q (ge_of K pb sb eb' hy)
       refine ask_if (fun c7=>?_) (fun c7=>?_)
       ·exact wpS_pure ⟨sg3.trans sg4,gA m3 (eq_of_beq c7)⟩
       ·refine ask_if (fun c8=>?_) (fun c8=>?_)
        ·exact wpS_pure ⟨sg3.trans sg4,gB m3 (.inl (le_of_eq (eq_of_beq c8).symm))⟩
        ·have c7':ia+k+1≠a.size:=nbeq c7
         have c8':ia+k≠a.size:=nbeq c8
         exact hj2 (out++a.extract ia (ia+k)) (ia+k) m3 (by omega) (by omega) (rest k (le_refl _))
      ·exact hj2 out ia m q1 (le_refl _) (fun y hy=>rest 0 (by omega) y hy)
     exact ask_if (fun _=>hj _) (fun _=>hj _)
end
theorem ext_take (a:Array Keyed)(i:Nat):(a.extract 0 i).toList=a.toList.take i:=by simp [List.extract_eq_take_drop]
theorem ext_to (a:Array Keyed)(i j:Nat):(a.extract i j).toList=(a.toList.drop i).take (j - i):=by simp [List.extract_eq_take_drop]
section
variable {prog:Program}{w:World}{A:Around}{E:Value→Shared→Prop}{s:Shared}{κ:SortKind}{P:Keyed→Prop}{r:Keyed→Keyed→Bool}{st:SortSt}
theorem le_of (K:Ask prog w A s κ P r){l:List Keyed}(hl:∀x∈l,P x)(h:Up r l){i:Nat}{x y:Keyed}(e:l[i]?=some x)(hy:y∈l.take (i+1)):r x y=false:=by
 obtain ⟨j,hj⟩:=List.mem_iff_getElem?.mp hy
 have hlt:=(List.getElem?_eq_some_iff.mp hj).1
 rw [length_take] at hlt
 rw [getElem?_take,if_pos (by omega)] at hj
 exact up_at K hl h (show j≤i by omega) hj e
theorem mem_take_at {l:List Keyed}{k:Nat}{y:Keyed}(hy:y∈l.take k):∃j,j<k∧l[j]?=some y:=by
 obtain ⟨j,hj⟩:=List.mem_iff_getElem?.mp hy
 have hlt:=(List.getElem?_eq_some_iff.mp hj).1
 rw [length_take] at hlt
 rw [getElem?_take,if_pos (by omega)] at hj
 exact ⟨j,by omega,hj⟩
noncomputable def StR {β:Type}(good:Array Keyed→Prop)(inv:Array Keyed→Nat→Nat→Prop):ForInStep (Option (Array Keyed)×Nat×Nat×Array Keyed×β)→Prop
 | .done (some res,_)=>good res
 | .done (none,na,nb,out,_)=>inv out na nb
 | .yield (some _,_)=>False
 | .yield (none,na,nb,out,_)=>inv out na nb
noncomputable def EndR {β:Type}(good:Array Keyed→Prop)(inv:Array Keyed→Nat→Nat→Prop):Option (Array Keyed)×Nat×Nat×Array Keyed×β→Prop
 | (some res,_)=>good res
 | (none,na,nb,out,_)=>inv out na nb
theorem ask_mergeHi {a b:Array Keyed}{b0 al:Keyed}{Q:Array Keyed→SortSt→Prop}(K:Ask prog w A s κ P r)(hk:kindOf st=κ)(pa:∀x∈a.toList,P x)(pb:∀x∈b.toList,P x)(sa:Up r a.toList)(sb:Up r b.toList)(na0:1≤a.size)(eb0:b[0]?=some b0)
  (h0:∀x∈a.toList,r x b0=false) (el:a[a.size - 1]?=some al) (hl:∀y∈b.toList,r al y=false)
  (h:∀out st',out.toList.Perm (a.toList++b.toList)→Up r out.toList→SG st st'→Q out st'):wpS (model prog w) A E s (mergeHiP a b) Q st:=by
 have la:=a.length_toList
 have lb:=b.length_toList
 have eb0':b.toList[0]?=some b0:=by rw [getElem?_toList];exact eb0
 have el':a.toList[a.size - 1]?=some al:=by rw [getElem?_toList];exact el
 have nb0:1≤b.size:=(Array.getElem?_eq_some_iff.mp eb0).1
 let good:Array Keyed→Prop:=fun out=>out.toList.Perm (a.toList++b.toList)∧Up r out.toList
 let mj:Array Keyed→Nat→Nat→Prop:=fun out na nb=>MJ r a.toList b.toList out.toList.reverse na nb
 have gA:∀{out na nb},mj out na nb→(na=0∨nb=0)→good (a.extract 0 na++b.extract 0 nb++out.reverse):=fun {out na nb} m q=>by
  show (a.extract 0 na++b.extract 0 nb++out.reverse).toList.Perm _∧Up r (a.extract 0 na++b.extract 0 nb++out.reverse).toList
  rw [toList_append,toList_append,ext_take,ext_take,toList_reverse]
  refine MJ.endA m sa sb fun x hx y hy=>?_
  rcases q with q | q
  ·rw [q] at hx
   cases hx
  ·rw [q] at hy
   cases hy
 have gB:∀{out na nb},mj out na nb→nb=1→good (b.extract 0 nb++a.extract 0 na++out.reverse):=fun {out na nb} m q=>by
  show (b.extract 0 nb++a.extract 0 na++out.reverse).toList.Perm _∧Up r (b.extract 0 nb++a.extract 0 na++out.reverse).toList
  rw [toList_append,toList_append,ext_take,ext_take,toList_reverse]
  refine MJ.endB m sa sb fun x hx y hy=>?_
  rw [q,take_snoc eb0',take_zero] at hx
  rw [List.mem_singleton.mp hx]
  exact h0 y (mem_of_mem_take hy)
 have pushA:∀{out na nb x},mj out (na+1) nb→a.toList[na]?=some x→(∀y∈b.toList.take nb,r x y=false)→mj (out.push x) na nb:=fun {out na nb x} m e q=>by
  show MJ r a.toList b.toList (out.push x).toList.reverse na nb
  rw [toList_push,List.reverse_append]
  exact MJ.a1 m sa e q
 have pushB:∀{out na nb x},mj out na (nb+1)→b.toList[nb]?=some x→(∀y∈a.toList.take na,r x y=false)→mj (out.push x) na nb:=fun {out na nb x} m e q=>by
  show MJ r a.toList b.toList (out.push x).toList.reverse na nb
  rw [toList_push,List.reverse_append]
  exact MJ.b1 m sb e q
 have atA:∀i,i<a.size→∃x,a.toList[i]?=some x∧a[i]?=some x∧P x:=fun i hi=>⟨a[i],by rw [getElem?_toList];exact Array.getElem?_eq_getElem hi,Array.getElem?_eq_getElem hi,pa _ (by simp)⟩
 have atB:∀i,i<b.size→∃x,b.toList[i]?=some x∧b[i]?=some x∧P x:=fun i hi=>⟨b[i],by rw [getElem?_toList];exact Array.getElem?_eq_getElem hi,Array.getElem?_eq_getElem hi,pb _ (by simp)⟩
 have m0:mj #[al] (a.size - 1) b.size:=by
  have m:MJ r a.toList b.toList [] (a.size - 1+1) b.size:=⟨by rw [drop_eq_nil_of_le (by omega),drop_eq_nil_of_le (by omega)];exact List.Perm.refl _,List.Pairwise.nil,fun _ hx=>nomatch hx⟩
  exact pushA (out:=#[]) m el' fun y hy=>hl y (mem_of_mem_take hy)
 refine wpS_bind (wpS_lift (wpAny_rule ⟨rfl,?_⟩))
 refine wpS_bind (ask_elem el ?_)
 extract_lets o0
 refine ask_if (fun c1=>?_) (fun c1=>?_)
 ·have q:=gA m0 (.inl (eq_of_beq c1))
  exact wpS_pure (h _ _ q.1 q.2 (SG.refl _))
 have c1':a.size - 1≠0:=nbeq c1
 refine ask_if (fun c2=>?_) (fun c2=>?_)
 ·have q:=gB m0 (eq_of_beq c2)
  exact wpS_pure (h _ _ q.1 q.2 (SG.refl _))
 have c2':b.size≠1:=nbeq c2
 refine wpS_bind (wpS_get ?_)
 let inv:Nat→Array Keyed→Nat→Nat→Prop:=fun n out na nb=>mj out na nb∧1≤na∧2≤nb∧na+nb+n≤a.size+b.size∧na≤a.size∧nb≤b.size
 refine wpS_bind (wpS_mono (wpS_forRange (I:=fun x c st'=>SG st st'∧c.1=none∧inv (x+1) c.2.2.2.1 c.2.1 c.2.2.1) (Q:=fun c st'=>SG st st'∧EndR good (fun _ _ _=>False) c) ?step ?fin ⟨SG.refl _,rfl,m0,by show 1≤a.size - 1;omega,by show 2≤b.size;omega,by show a.size - 1+b.size+(0+1)≤a.size+b.size;omega,Nat.sub_le _ _,le_refl _⟩) ?post)
 case post =>
  rintro ⟨rr,na,nb,out,g⟩ st' ⟨sg,q⟩
  cases rr with
  | none=>exact q.elim
  | some res=>exact wpS_pure (h _ _ q.1 q.2 sg)
 case fin =>
  rintro ⟨rr,na,nb,out,g⟩ st' ⟨sg,e,m,q1,q2,q3,_⟩
  exfalso
  have q1:1≤na:=q1
  have q2:2≤nb:=q2
  have q3:na+nb+(max 0 (a.size+b.size)+1)≤a.size+b.size:=q3
  omega
 case step =>
  rintro x ⟨rr,na,nb,out,g⟩ st' _ hx ⟨sg,e,iv⟩
  have e:rr=none:=e
  subst e
  have iv:inv (x+1) out na nb:=iv
  refine wpS_bind (wpS_mono (wpS_forRange (I:=fun y c st''=>st''=st'∧c.1=none∧inv (x+1+y) c.2.2.2.1 c.2.1 c.2.2.1) (Q:=fun c st''=>st''=st'∧EndR good (inv (x+2)) c) ?s1 ?f1 ⟨rfl,rfl,iv⟩) ?p1)
  case f1 =>
   rintro ⟨rr,na,nb,out,g⟩ st'' ⟨e1,e,m,q1,q2,q3,q4,q5⟩
   have e:rr=none:=e
   subst e
   exact ⟨e1,m,q1,q2,le_trans (by have hx':x<a.size+b.size:=hx;show na+nb+(x+2)≤na+nb+(x+1+max 0 (a.size+b.size));omega) q3,q4,q5⟩
  case s1 =>
   rintro y ⟨rr,na,nb,out,ac,bc⟩ st'' _ hy ⟨e1,e,m,q1,q2,q3,q4,q5⟩
   have e:rr=none:=e
   subst e e1
   have m:mj out na nb:=m
   have q1:1≤na:=q1
   have q2:2≤nb:=q2
   have q3:na+nb+(x+1+y)≤a.size+b.size:=q3
   have q4:na≤a.size:=q4
   have q5:nb≤b.size:=q5
   obtain ⟨n1,rfl⟩:∃n1,na=n1+1:=⟨na - 1,by omega⟩
   obtain ⟨n2,rfl⟩:∃n2,nb=n2+1:=⟨nb - 1,by omega⟩
   obtain ⟨xa,ea',ea,ha⟩:=atA n1 (by omega)
   obtain ⟨xb,eb',eb,hb⟩:=atB n2 (by omega)
   refine wpS_bind (ask_elem eb ?_)
   refine wpS_bind (ask_elem ea ?_)
   refine wpS_bind (ask_lt K (sg.k.trans hk) hb ha ?_)
   dsimp only
   cases er:r xb xa with
   | true =>
    have m':=pushA m ea' (fun z hz=>K.tr (pb z (mem_of_mem_take hz)) hb ha (le_of K pb sb eb' hz) (K.as hb ha er))
    rw [if_pos rfl]
    refine wpS_bind (ask_elem ea ?_)
    refine ask_if (fun c3=>?_) (fun c3=>?_)
    ·exact wpS_pure ⟨rfl,gA m' (.inl (eq_of_beq c3))⟩
    ·have c3':n1≠0:=nbeq c3
     refine ask_if (fun c4=>?_) (fun c4=>?_)
     ·exact wpS_pure ⟨rfl,m',by show 1≤n1;omega,q2,by show n1+(n2+1)+(x+2)≤_;omega,by show n1≤_;omega,q5⟩
     ·exact wpS_pure ⟨rfl,rfl,m',by show 1≤n1;omega,q2,by show n1+(n2+1)+(x+1+(y+1))≤_;omega,by show n1≤_;omega,q5⟩
   | false =>
    have m':=pushB m eb' (fun z hz=>K.tr (pa z (mem_of_mem_take hz)) ha hb (le_of K pa sa ea' hz) er)
    rw [if_neg Bool.false_ne_true]
    refine wpS_bind (ask_elem eb ?_)
    refine ask_if (fun c3=>?_) (fun c3=>?_)
    ·exact wpS_pure ⟨rfl,gB m' (eq_of_beq c3)⟩
    ·have c3':n2≠1:=nbeq c3
     refine ask_if (fun c4=>?_) (fun c4=>?_)
     ·exact wpS_pure ⟨rfl,m',q1,by show 2≤n2;omega,by show n1+1+n2+(x+2)≤_;omega,q4,by show n2≤_;omega⟩
     ·exact wpS_pure ⟨rfl,rfl,m',q1,by show 2≤n2;omega,by show n1+1+n2+(x+1+(y+1))≤_;omega,q4,by show n2≤_;omega⟩
  case p1 =>
   rintro ⟨rr,na,nb,out,ac,bc⟩ st'' ⟨e1,q⟩
   subst e1
   cases rr with
   | some res=>exact wpS_pure ⟨sg,q⟩
   | none =>
    have iv:=(show inv (x+2) out na nb from q)
    refine wpS_bind (wpS_lift (wpAny_rule ⟨rfl,?_⟩))
    refine wpS_bind (wpS_mono (wpS_forRange (I:=fun y c st3=>SG st st3∧c.1=none∧inv (x+2) c.2.2.2.1 c.2.1 c.2.2.1) (Q:=fun c st3=>SG st st3∧EndR good (inv (x+2)) c) ?s2 ?f2 ⟨sg,rfl,iv⟩) ?p2)
    case f2 =>
     rintro ⟨rr,na,nb,out,g⟩ st3 ⟨sg3,e,q⟩
     have e:rr=none:=e
     subst e
     exact ⟨sg3,q⟩
    case p2 =>
     rintro ⟨rr,na,nb,out,g,ac,bc⟩ st3 ⟨sg3,q⟩
     cases rr with
     | some res=>exact wpS_pure ⟨sg3,q⟩
     | none=>exact wpS_bind (ask_setMin fun st4 sg4=>wpS_pure ⟨sg3.trans sg4,rfl,q⟩)
    case s2 =>
     rintro y ⟨rr,na,nb,out,g,ac,bc⟩ st3 _ hy ⟨sg3,e,m,q1,q2,q3,q4,q5⟩
     have e:rr=none:=e
     subst e
     have m:mj out na nb:=m
     have q1:1≤na:=q1
     have q2:2≤nb:=q2
     have q3:na+nb+(x+2)≤a.size+b.size:=q3
     have q4:na≤a.size:=q4
     have q5:nb≤b.size:=q5
     obtain ⟨n2,rfl⟩:∃n2,nb=n2+1:=⟨nb - 1,by omega⟩
     obtain ⟨xb,eb',eb,hb⟩:=atB n2 (by omega)
     refine wpS_mono (Q:=fun rr st4=>SG st st4∧StR good (inv (x+2)) rr) ?_ (fun rr st4 q=>?_)
     rotate_left
     ·cases rr with
      | done c =>
       obtain ⟨r0,c⟩:=c
       cases r0<;>exact q
      | yield c =>
       obtain ⟨r0,c⟩:=c
       cases r0 with
       | some _=>exact q.2.elim
       | none=>exact ⟨q.1,rfl,q.2⟩
     extract_lets v1 v2 v3 v4 v5 v6 v7 v8 v9 v10 v11 jb jp
     have hj:∀g',wpS (model prog w) A E s (jp () g') (fun rr st4=>SG st st4∧StR good (inv (x+2)) rr) st3:=fun g'=>by
      refine wpS_bind (ask_setMin fun st4 sg4=>?_)
      have sg5:=sg3.trans sg4
      refine wpS_bind (ask_elem eb ?_)
      refine wpS_bind (ask_gal K (sg5.k.trans hk) pa hb (base:=0) (n:=na) (by omega) (fun i j x y hij _ e1 e2=>up_at K pa sa (by omega) e1 e2) (by show na - 1<na;omega) fun k k1 k2 k3=>?_)
      dsimp -zeta -zetaHave only
      extract_lets kk ac2 jp2 o2 i2
      have lo:∀y∈a.toList.take k,r xb y=false:=fun y hy=>by
       obtain ⟨j,hj,e⟩:=mem_take_at hy
       have q:bey r false xb y=true:=k2 j y hj (by rw [zero_add];exact e)
       simpa [bey] using q
      have hj2:∀na' out',mj out' na' (n2+1)→1≤na'→na'≤na→(∀y∈a.toList.take na',r xb y=false)→wpS (model prog w) A E s (jp2 () na' out') (fun rr st4=>SG st st4∧StR good (inv (x+2)) rr) st4:=fun na' out' m' g1 g2 g3=>by
       have m2:=pushB m' eb' g3
       refine wpS_bind (ask_elem eb ?_)
       refine ask_if (fun c5=>?_) (fun c5=>?_)
       ·exact wpS_pure ⟨sg5,gB m2 (eq_of_beq c5)⟩
       ·have c5':n2≠1:=nbeq c5
        obtain ⟨n1,rfl⟩:∃n1,na'=n1+1:=⟨na' - 1,by omega⟩
        obtain ⟨xa,ea',ea,ha⟩:=atA n1 (by omega)
        refine wpS_bind (ask_elem ea ?_)
        refine wpS_bind (ask_gal K (sg5.k.trans hk) pb ha (base:=0) (n:=n2) (by omega) (fun i j x y hij _ e1 e2=>up_at K pb sb (by omega) e1 e2) (by show n2 - 1<n2;omega) fun k' k1' k2' k3'=>?_)
        dsimp -zeta -zetaHave only
        extract_lets kk2 bc2 n4 jp3 o3 i3
        have lo':∀y∈b.toList.take k',r xa y=false:=fun y hy=>by
         obtain ⟨j,hj,e⟩:=mem_take_at hy
         have q:r y xa=true:=k2' j y hj (by rw [zero_add];exact e)
         exact K.as (pb y (mem_of_getElem? e)) ha q
        have hj3:∀nb'' out'',mj out'' (n1+1) nb''→2≤nb''→nb''≤n2→(∀y∈b.toList.take nb'',r xa y=false)→wpS (model prog w) A E s (jp3 () nb'' out'') (fun rr st4=>SG st st4∧StR good (inv (x+2)) rr) st4:=fun nb'' out'' m'' f1 f2 f3=>by
         have m3:=pushA m'' ea' f3
         refine wpS_bind (ask_elem ea ?_)
         refine ask_if (fun c6=>?_) (fun c6=>?_)
         ·exact wpS_pure ⟨sg5,gA m3 (.inl (eq_of_beq c6))⟩
         ·have c6':n1≠0:=nbeq c6
          have iv:inv (x+2) (out''.push xa) n1 nb'':=⟨m3,by omega,f1,by omega,by omega,by omega⟩
          exact ask_if (fun _=>wpS_pure ⟨sg5,iv⟩) (fun _=>wpS_pure ⟨sg5,iv⟩)
        refine ask_if (fun c6=>?_) (fun c6=>?_)
        ·have m3:mj (out'.push xb++(b.extract k' n2).reverse) (n1+1) k':=by
          show MJ r _ _ (out'.push xb++(b.extract k' n2).reverse).toList.reverse (n1+1) k'
          rw [toList_append,List.reverse_append,toList_reverse,List.reverse_reverse,ext_to]
          have:=MJ.bk m2 sb (by omega) (n2 - k') (by omega) fun i hi1 hi2 z hz y hy=>by
           have q:r z xa=false:=k3' i z (by omega) hi2 (by rw [zero_add];exact hz)
           exact K.tr (pa y (mem_of_mem_take hy)) ha (pb z (mem_of_getElem? hz)) (le_of K pa sa ea' hy) q
          rw [show n2 - (n2 - k')=k' by omega] at this
          exact this
         refine ask_if (fun c7=>?_) (fun c7=>?_)
         ·exact wpS_pure ⟨sg5,gB m3 (eq_of_beq c7)⟩
         ·refine ask_if (fun c8=>?_) (fun c8=>?_)
          ·exact wpS_pure ⟨sg5,gA m3 (.inr (eq_of_beq c8))⟩
          ·have c7':k'≠1:=nbeq c7
           have c8':k'≠0:=nbeq c8
           exact hj3 k' (out'.push xb++(b.extract k' n2).reverse) m3 (by omega) k1' lo'
        ·have c6':¬n2 - k' > 0:=c6
         have e:k'=n2:=by omega
         subst e
         exact hj3 k' (out'.push xb) m2 (by omega) (le_refl _) lo'
      refine ask_if (fun c6=>?_) (fun c6=>?_)
      ·have m3:mj (out++(a.extract k na).reverse) k (n2+1):=by
        show MJ r _ _ (out++(a.extract k na).reverse).toList.reverse k (n2+1)
        rw [toList_append,List.reverse_append,toList_reverse,List.reverse_reverse,ext_to]
        have:=MJ.ak m sa (by omega) (na - k) (by omega) fun i hi1 hi2 z hz y hy=>by
         have q:bey r false xb z=false:=k3 i z (by omega) hi2 (by rw [zero_add];exact hz)
         have q:r xb z=true:=by simpa [bey] using q
         have pz:=pa z (mem_of_getElem? hz)
         exact K.tr (pb y (mem_of_mem_take hy)) hb pz (le_of K pb sb eb' hy) (K.as hb pz q)
        rw [show na - (na - k)=k by omega] at this
        exact this
       refine ask_if (fun c7=>?_) (fun c7=>?_)
       ·exact wpS_pure ⟨sg5,gA m3 (.inl (eq_of_beq c7))⟩
       ·have c7':k≠0:=nbeq c7
        exact hj2 k (out++(a.extract k na).reverse) m3 (by omega) k1 lo
      ·have c6':¬na - k > 0:=c6
       have e:k=na:=by omega
       subst e
       exact hj2 k out m q1 (le_refl _) lo
     exact ask_if (fun _=>hj _) (fun _=>hj _)
end
section
variable {α:Type}
theorem seg_at {A X B:List α}{i:Nat}(hi:i<X.length):(A++X++B)[A.length+i]?=X[i]?:=by
 rw [append_assoc,getElem?_append_right (le_add_right _ _),Nat.add_sub_cancel_left,getElem?_append_left hi]
theorem lay_list:∀(M:List α) (a:Array α) (base k:Nat),base+k+M.length≤a.size→((M.zipIdx k).foldl (fun a p=>a.setIfInBounds (base+p.2) p.1) a).toList=a.toList.take (base+k)++M++a.toList.drop (base+k+M.length)
 | [],a,base,k,h=>by simp
 | x::M,a,base,k,h=>by
  rw [length_cons] at h
  have ih:=lay_list M (a.setIfInBounds (base+k) x) base (k+1) (by rw [Array.size_setIfInBounds];omega)
  have hl:base+k<a.toList.length:=by rw [length_toList];omega
  rw [List.zipIdx_cons,List.foldl_cons,ih,Array.toList_setIfInBounds,length_cons]
  rw [List.take_set,List.drop_set_of_lt (by omega),show base+(k+1)=base+k+1 by omega,List.take_add_one,getElem?_eq_getElem hl,show base+k+1+M.length=base+k+(M.length+1) by omega]
  have ht:(a.toList.take (base+k)).length=base+k:=List.length_take_of_le (le_of_lt hl)
  rw [set_append_right _ _ (le_of_eq ht),ht,sub_self]
  simp
variable {prog:Program}{w:World}{A:Around}{E:Value→Shared→Prop}{s:Shared}{κ:SortKind}{P:Keyed→Prop}{r:Keyed→Keyed→Bool}{st:SortSt}
theorem ask_set {x:SortSt}{Q:PUnit→SortSt→Prop}(h:Q ⟨⟩ x):wpS (model prog w) A E s (set x:StateT SortSt Sem PUnit) Q st:=by
 unfold wpS
 rw [StateT.run_set]
 exact wpAny_pure ⟨rfl,h⟩
theorem ask_mergeAt {i sa na pw nb q:Nat}{L X Y B:List Keyed}{Q:Bool→SortSt→Prop}(K:Ask prog w A s κ P r)(hk:kindOf st=κ)(hf:failedOf st=none)(hp1:(pendingOf st)[i]?=some (sa,na,pw))(hp2:(pendingOf st)[i+1]?=some (sa+na,nb,q))
    (hl:(arrOf st).toList=L++X++Y++B) (lA:L.length=sa) (lX:X.length=na) (lY:Y.length=nb) (nX:1≤na) (nY:1≤nb) (hP:∀x∈(arrOf st).toList,P x) (uX:Up r X) (uY:Up r Y)
    (h:∀M st',M.Perm (X++Y)→Up r M→(arrOf st').toList=L++M++B→kindOf st'=κ→failedOf st'=none→pendingOf st'=((pendingOf st).setIfInBounds i (sa,na+nb,pw)).eraseIdxIfInBounds (i+1)→Q true st') :
    wpS (model prog w) A E s (mergeAt' i) Q st:=by
  have hsz:(arrOf st).size=sa+na+nb+B.length:=by
    rw [← length_toList,hl]
    simp only [length_append]
    omega
  have pX:∀x∈X,P x:=fun x hx=>hP x (by rw [hl];simp [hx])
  have pY:∀x∈Y,P x:=fun x hx=>hP x (by rw [hl];simp [hx])
  have eX:∀j,j<na→(arrOf st).toList[sa+j]?=X[j]?:=fun j hj=>by
    rw [hl,← lA,append_assoc]
    exact seg_at (by omega)
  have eY:∀j,j<nb→(arrOf st).toList[sa+na+j]?=Y[j]?:=fun j hj=>by
    have:=seg_at (A:=L++X) (X:=Y) (B:=B) (i:=j) (by omega)
    rw [length_append,lA,lX] at this
    rw [hl]
    exact this
  obtain ⟨y0,ey0⟩:∃y,Y[0]?=some y:=⟨Y[0],getElem?_eq_getElem (by omega)⟩
  obtain ⟨xl,exl⟩:∃x,X[na - 1]?=some x:=⟨X[na - 1],getElem?_eq_getElem (by omega)⟩
  have hy0:=pY _ (mem_of_getElem? ey0)
  have hxl:=pX _ (mem_of_getElem? exl)
  have ey0':(arrOf st)[sa+na]?=some y0:=by rw [← getElem?_toList];exact (eY 0 (by omega)).trans ey0
  refine wpS_bind (wpS_get ?_)
  simp only [hp1,hp2]
  refine wpS_bind (ask_set ?_)
  refine wpS_bind (ask_elem ey0' ?_)
  have hb1:sa+na≤(arrOf st).size:=by omega
  have hb2:sa+na+nb≤(arrOf st).size:=by omega
  refine wpS_bind (ask_gal K hk hP hy0 (base:=sa) (n:=na) hb1 (fun i j x y hij hj e1 e2=>?_) (by omega) fun k k1 k2 k3=>?_)
  · rw [eX i (by omega)] at e1
    rw [eX j hj] at e2
    exact up_at K pX uX hij e1 e2
  have lo1:∀x∈X.take k,r y0 x=false:=fun x hx=>by
    obtain ⟨j,hj,e⟩:=mem_take_at hx
    have q:bey r false y0 x=true:=k2 j x hj (by rw [eX j (by omega)];exact e)
    simpa [bey] using q
  have hi1:∀x∈X.drop k,r x y0=false:=fun x hx=>by
    obtain ⟨j,hj⟩:=List.mem_iff_getElem?.mp hx
    rw [getElem?_drop] at hj
    have hjl:=(List.getElem?_eq_some_iff.mp hj).1
    have q:bey r false y0 x=false:=k3 (k+j) x (by omega) (by omega) (by rw [eX (k+j) (by omega)];exact hj)
    have q:r y0 x=true:=by simpa [bey] using q
    exact K.as hy0 (pX x (mem_of_getElem? hj)) q
  have geY:∀y∈Y,r y y0=false:=fun y hy=>ge_of K pY uY ey0 (by rw [List.drop_zero];exact hy)
  have leX:∀x∈X,r xl x=false:=fun x hx=>le_of K pX uX exl (by rw [show na - 1+1=X.length by omega,List.take_length];exact hx)
  dsimp only
  refine ask_if (fun c1=>?_) (fun c1=>?_)
  ·
    have c1':na - k=0:=eq_of_beq c1
    refine wpS_pure (h (X++Y) _ (List.Perm.refl _) (List.pairwise_append.mpr ⟨uX,uY,fun x hx y hy=>?_⟩) (by rw [← append_assoc];exact hl) hk hf rfl)
    exact K.tr (pX x hx) hy0 (pY y hy) (lo1 x (by rw [take_of_length_le (by omega)];exact hx)) (geY y hy)
  have c1':na - k≠0:=nbeq c1
  have exl':(arrOf st)[sa+k+(na - k) - 1]?=some xl:=by
    rw [← getElem?_toList,show sa+k+(na - k) - 1=sa+(na - 1) by omega,eX (na - 1) (by omega)]
    exact exl
  refine wpS_bind (ask_elem exl' ?_)
  refine wpS_bind (ask_gal K hk hP hxl (base:=sa+na) (n:=nb) hb2 (fun i j x y hij hj e1 e2=>?_) (by omega) fun m m1 m2 m3=>?_)
  · rw [eY i (by omega)] at e1
    rw [eY j hj] at e2
    exact up_at K pY uY hij e1 e2
  have lo2:∀y∈Y.take m,r xl y=false:=fun y hy=>by
    obtain ⟨j,hj,e⟩:=mem_take_at hy
    have q:r y xl=true:=m2 j y hj (by rw [eY j (by omega)];exact e)
    exact K.as (pY y (mem_of_getElem? e)) hxl q
  have hi2:∀y∈Y.drop m,r y xl=false:=fun y hy=>by
    obtain ⟨j,hj⟩:=List.mem_iff_getElem?.mp hy
    rw [getElem?_drop] at hj
    have hjl:=(List.getElem?_eq_some_iff.mp hj).1
    exact m3 (m+j) y (by omega) (by omega) (by rw [eY (m+j) (by omega)];exact hj)
  dsimp only
  refine ask_if (fun c2=>?_) (fun c2=>?_)
  · have c2':m=0:=eq_of_beq c2
    refine wpS_pure (h (X++Y) _ (List.Perm.refl _) (List.pairwise_append.mpr ⟨uX,uY,fun x hx y hy=>?_⟩) (by rw [← append_assoc];exact hl) hk hf rfl)
    exact K.tr (pX x hx) hxl (pY y hy) (leX x hx) (hi2 y (by rw [c2',List.drop_zero];exact hy))
  have c2':m≠0:=nbeq c2
  have tX:((arrOf st).extract (sa+k) (sa+na)).toList=X.drop k:=by
    rw [ext_to,hl,append_assoc,append_assoc,← lA,← List.drop_drop,List.drop_left,List.drop_append_of_le_length (by omega),List.take_append_of_le_length (by rw [length_drop];omega),take_of_length_le (by rw [length_drop];omega)]
  have tY:((arrOf st).extract (sa+na) (sa+na+m)).toList=Y.take m:=by
    rw [ext_mid,hl,append_assoc (L++X),show sa+na=(L++X).length by rw [length_append];omega,List.drop_left,List.take_append_of_le_length (by omega)]
  have fin:∀(out:Array Keyed) (st':SortSt),out.toList.Perm (X.drop k++Y.take m)→Up r out.toList→kindOf st'=κ→failedOf st'=none→arrOf st'=arrOf st→pendingOf st'=((pendingOf st).setIfInBounds i (sa,na+nb,pw)).eraseIdxIfInBounds (i+1)→
      wpS (model prog w) A E s (do
        modify fun s=>setArr s (out.toList.zipIdx.foldl (fun a p=>a.setIfInBounds (sa+k+p.2) p.1) (arrOf s))
        pure (failedOf (← get)).isNone) Q st':=fun out st' hpm hup hk' hf' ha' hp'=>by
    have hol:out.toList.length=na - k+m:=by rw [hpm.length_eq,length_append,length_drop,length_take];omega
    refine wpS_bind (wpS_modify (wpS_bind (wpS_get (wpS_pure ?_))))
    show Q (failedOf st').isNone _
    rw [hf']
    refine h (X.take k++out.toList++Y.drop m) _ ?_ ?_ ?_ hk' hf' hp'
    · have h1:(X.take k++out.toList++Y.drop m).Perm (X.take k++(X.drop k++Y.take m)++Y.drop m):=(hpm.append_left _).append_right _
      refine h1.trans ?_
      rw [← append_assoc,take_append_drop,append_assoc,take_append_drop]
    · have mem:∀z∈out.toList,z∈X.drop k∨z∈Y.take m:=fun z hz=>List.mem_append.mp (hpm.mem_iff.mp hz)
      refine List.pairwise_append.mpr ⟨List.pairwise_append.mpr ⟨uX.take k,hup,fun x hx z hz=>?_⟩,uY.drop m,fun x hx y hy=>?_⟩
      · rcases mem z hz with q | q
        · exact (List.pairwise_append.mp (by rw [take_append_drop];exact uX:Up r (X.take k++X.drop k))).2.2 x hx z q
        · exact K.tr (pX x (mem_of_mem_take hx)) hy0 (pY z (mem_of_mem_take q)) (lo1 x hx) (geY z (mem_of_mem_take q))
      · rcases List.mem_append.mp hx with hx | hx
        · exact K.tr (pX x (mem_of_mem_take hx)) hxl (pY y (mem_of_mem_drop hy)) (leX x (mem_of_mem_take hx)) (hi2 y hy)
        · rcases mem x hx with q | q
          · exact K.tr (pX x (mem_of_mem_drop q)) hxl (pY y (mem_of_mem_drop hy)) (leX x (mem_of_mem_drop q)) (hi2 y hy)
          · exact (List.pairwise_append.mp (by rw [take_append_drop];exact uY:Up r (Y.take m++Y.drop m))).2.2 x q y hy
    · show ((out.toList.zipIdx 0).foldl (fun a p=>a.setIfInBounds (sa+k+p.2) p.1) (arrOf st')).toList=_
      rw [ha',lay_list _ _ _ _ (by rw [hol];omega),hol,Nat.add_zero,hl]
      have e1:(L++X++Y++B).take (sa+k)=L++X.take k:=by
        rw [append_assoc,append_assoc,← lA,List.take_append,take_of_length_le (le_add_right _ _),Nat.add_sub_cancel_left,List.take_append_of_le_length (by omega)]
      have e2:(L++X++Y++B).drop (sa+k+(na - k+m))=Y.drop m++B:=by
        rw [append_assoc (L++X),show sa+k+(na - k+m)=(L++X).length+m by rw [length_append];omega,← List.drop_drop,List.drop_left,List.drop_append_of_le_length (by omega)]
      rw [e1,e2]
      simp only [append_assoc]
  have p2:∀x∈((arrOf st).extract (sa+k) (sa+na)).toList,P x:=fun x hx=>pX x (mem_of_mem_drop (tX▸hx))
  have p3:∀x∈((arrOf st).extract (sa+na) (sa+na+m)).toList,P x:=fun x hx=>pY x (mem_of_mem_take (tY▸hx))
  have sz2:((arrOf st).extract (sa+k) (sa+na)).size=na - k:=by rw [← length_toList,tX,length_drop];omega
  have u2:Up r ((arrOf st).extract (sa+k) (sa+na)).toList:=by rw [tX];exact uX.drop k
  have u3:Up r ((arrOf st).extract (sa+na) (sa+na+m)).toList:=by rw [tY];exact uY.take m
  have g0:((arrOf st).extract (sa+na) (sa+na+m))[0]?=some y0:=by rw [← getElem?_toList,tY,getElem?_take,if_pos (by omega)];exact ey0
  have g1:∀x∈((arrOf st).extract (sa+k) (sa+na)).toList,r x y0=false:=fun x hx=>hi1 x (tX▸hx)
  have g2:((arrOf st).extract (sa+k) (sa+na)).toList[((arrOf st).extract (sa+k) (sa+na)).size - 1]?=some xl:=by rw [sz2,tX,getElem?_drop,show k+(na - k - 1)=na - 1 by omega];exact exl
  have g3:∀y∈((arrOf st).extract (sa+na) (sa+na+m)).toList,r xl y=false:=fun y hy=>lo2 y (tY▸hy)
  have fin':∀(out:Array Keyed) (st':SortSt),out.toList.Perm (((arrOf st).extract (sa+k) (sa+na)).toList++((arrOf st).extract (sa+na) (sa+na+m)).toList)→Up r out.toList→kindOf st'=κ→failedOf st'=none→arrOf st'=arrOf st→pendingOf st'=((pendingOf st).setIfInBounds i (sa,na+nb,pw)).eraseIdxIfInBounds (i+1)→_:=fun out st' q=>fin out st' (by rw [tX,tY] at q;exact q)
  refine ask_if (fun c3=>?_) (fun c3=>?_)
  · exact wpS_bind (ask_mergeLo K hk p2 p3 u2 u3 (by rw [sz2];omega) g0 g1 (fun x hx=>by rw [g2] at hx;cases hx;exact g3) fun out st' h1 h2 sg=>fin' out st' h1 h2 (sg.k.trans hk) (sg.f.trans hf) sg.a sg.p)
  · exact wpS_bind (ask_mergeHi K hk p2 p3 u2 u3 (by rw [sz2];omega) g0 g1 (by rw [← getElem?_toList];exact g2) g3 fun out st' h1 h2 sg=>fin' out st' h1 h2 (sg.k.trans hk) (sg.f.trans hf) sg.a sg.p)
end
section
variable {prog:Program}{w:World}{A:Around}{E:Value→Shared→Prop}{s:Shared}{κ:SortKind}{P:Keyed→Prop}{r:Keyed→Keyed→Bool}{st:SortSt}
theorem ask_ltAt {i j:Nat}{x y:Keyed}{Q:Option Bool→SortSt→Prop}(K:Ask prog w A s κ P r)(hk:kindOf st=κ)(hi:(arrOf st)[i]?=some x)(hj:(arrOf st)[j]?=some y)(hx:P x)(hy:P y)(h:Q (some (r x y)) st):wpS (model prog w) A E s (ltAt' i j) Q st:=by
 rw [ltAt'_eq]
 exact wpS_bind (wpS_get (wpS_bind (ask_elem hi (wpS_bind (ask_elem hj (ask_lt K hk hx hy h))))))
structure SC (κ:SortKind)(lo:Nat)(st st':SortSt):Prop where
 k:kindOf st'=κ
 f:failedOf st'=none
 p:pendingOf st'=pendingOf st
 m:(arrOf st').Perm (arrOf st)
 o:∀i,i<lo→(arrOf st')[i]?=(arrOf st)[i]?
theorem SC.size {lo:Nat}{st st':SortSt}(c:SC κ lo st st'):(arrOf st').size=(arrOf st).size:=c.m.size_eq
theorem SC.put {lo:Nat}{st st':SortSt}(c:SC κ lo st st'){a:Array Keyed}(hm:a.Perm (arrOf st'))(ho:∀i,i<lo→a[i]?=(arrOf st')[i]?):SC κ lo st (setArr st' a):=⟨c.k,c.f,c.p,hm.trans c.m,fun i hi=>(ho i hi).trans (c.o i hi)⟩
noncomputable def gx (d0:Keyed)(lo:Nat)(a:Array Keyed)(i:Nat):Keyed:=(a[lo+i]?).getD d0
theorem gx_at {d0:Keyed}{lo i:Nat}{a:Array Keyed}(h:lo+i<a.size):a[lo+i]?=some (gx d0 lo a i):=by
 unfold gx
 rw [Array.getElem?_eq_getElem h]
 rfl
theorem gx_congr {d0:Keyed}{lo i j:Nat}{a b:Array Keyed}(h:a[lo+i]?=b[lo+j]?):gx d0 lo a i=gx d0 lo b j:=by unfold gx;rw [h]
variable {d0:Keyed}{lo nrem:Nat}
theorem gx_P (hP:∀x∈(arrOf st).toList,P x){st':SortSt}(c:SC κ lo st st')(hn:lo+nrem≤(arrOf st).size){i:Nat}(hi:i<nrem):P (gx d0 lo (arrOf st') i):=by
 have e:=gx_at (d0:=d0) (a:=arrOf st') (lo:=lo) (i:=i) (by rw [c.size];omega)
 have hm:gx d0 lo (arrOf st') i∈(arrOf st').toList:=mem_of_getElem? (by rw [getElem?_toList];exact e)
 exact hP _ (c.m.toList.mem_iff.mp hm)
theorem ask_gx (K:Ask prog w A s κ P r)(hP:∀x∈(arrOf st).toList,P x)(hn:lo+nrem≤(arrOf st).size){st':SortSt}(c:SC κ lo st st'){i j i' j':Nat}(hi:i<nrem)(hj:j<nrem)(ei:i'=lo+i)(ej:j'=lo+j){Q:Option Bool→SortSt→Prop}(h:Q (some (r (gx d0 lo (arrOf st') i) (gx d0 lo (arrOf st') j))) st'):wpS (model prog w) A E s (ltAt' i' j') Q st':=by
 subst ei ej
 exact ask_ltAt K c.k (gx_at (by rw [c.size];omega)) (gx_at (by rw [c.size];omega)) (gx_P hP c hn hi) (gx_P hP c hn hj) h
theorem mir_gx {a:Array Keyed}{i j:Nat}(hj:lo+j≤a.size)(k:Nat):gx d0 lo (mirror a (lo+i) (lo+j) ((lo+j - (lo+i)) / 2)) k=if i≤k∧k<j then gx d0 lo a (i+j - 1 - k) else gx d0 lo a k:=by
 have e:=getElem?_mirror_all (i:=lo+i) hj (lo+k)
 by_cases c:i≤k∧k<j
 ·rw [if_pos c]
  rw [if_pos (by omega)] at e
  exact gx_congr (e.trans (by congr 1;omega))
 ·rw [if_neg c]
  rw [if_neg (by omega)] at e
  exact gx_congr e
theorem mir_old {a:Array Keyed}{i j:Nat}(hj:lo+j≤a.size)(k:Nat)(hk:k<lo):(mirror a (lo+i) (lo+j) ((lo+j - (lo+i)) / 2))[k]?=a[k]?:=by
 rw [getElem?_mirror_all (i:=lo+i) hj k,if_neg (by omega)]
def UpTo (r:Keyed→Keyed→Bool)(g:Nat→Keyed)(n:Nat):Prop:=∀i j,i≤j→j<n→r (g j) (g i)=false
def DnTo (r:Keyed→Keyed→Bool)(g:Nat→Keyed)(n:Nat):Prop:=∀i j,i≤j→j<n→r (g i) (g j)=false
def Eqv (r:Keyed→Keyed→Bool)(x y:Keyed):Prop:=r x y=false∧r y x=false
theorem UpTo.snoc (K:Ask prog w A s κ P r){g:Nat→Keyed}{n:Nat}(hp:∀i,i<n+1→P (g i))(h1:1≤n)(h:UpTo r g n)(q:r (g n) (g (n - 1))=false):UpTo r g (n+1):=fun i j hij hj=>by
 by_cases e:j<n
 ·exact h i j hij e
 ·have ej:j=n:=by omega
  subst ej
  by_cases ei:i=j
  ·subst ei
   exact K.ir (hp i hj)
  ·exact K.tr (hp i (by omega)) (hp (j - 1) (by omega)) (hp j hj) (h i (j - 1) (by omega) (by omega)) q
theorem DnTo.snoc (K:Ask prog w A s κ P r){g:Nat→Keyed}{n:Nat}(hp:∀i,i<n+1→P (g i))(h1:1≤n)(h:DnTo r g n)(q:r (g (n - 1)) (g n)=false):DnTo r g (n+1):=fun i j hij hj=>by
 by_cases e:j<n
 ·exact h i j hij e
 ·have ej:j=n:=by omega
  subst ej
  by_cases ei:i=j
  ·subst ei
   exact K.ir (hp i hj)
  ·exact K.tr (hp j hj) (hp (j - 1) (by omega)) (hp i (by omega)) q (h i (j - 1) (by omega) (by omega))
theorem DnTo.eqv (K:Ask prog w A s κ P r){g g':Nat→Keyed}{n:Nat}(hp:∀i,i<n→P (g i))(hp':∀i,i<n→P (g' i))(h:DnTo r g n)(q:∀i,i<n→Eqv r (g' i) (g i)):DnTo r g' n:=fun i j hij hj =>
 K.tr (hp' j hj) (hp j hj) (hp' i (by omega)) (q j hj).2 (K.tr (hp j hj) (hp i (by omega)) (hp' i (by omega)) (h i j hij hj) (q i (by omega)).1)
theorem ask_asc (K:Ask prog w A s κ P r)(hP:∀x∈(arrOf st).toList,P x)(hn:lo+nrem≤(arrOf st).size){st':SortSt}(c:SC κ lo st st'){a:Nat}(ha:1≤a)(han:a≤nrem)(hs:UpTo r (gx d0 lo (arrOf st')) a)
  {f:Nat→Option (Option Nat)×Nat→StateT SortSt Sem (ForInStep (Option (Option Nat)×Nat))} {Q:Option (Option Nat)×Nat→SortSt→Prop}
  (hf:∀x n (Q':ForInStep (Option (Option Nat)×Nat)→SortSt→Prop),wpS (model prog w) A E s (ltAt' (lo+n) (lo+n - 1)) (fun b st''=>st''=st'∧∃b',b=some b'∧(b'=true→Q' (.done (none,n)) st')∧(b'=false→Q' (.yield (none,n+1)) st')) st'→wpS (model prog w) A E s (f x (none,n)) Q' st')
  (h:∀n,a≤n→n≤nrem→UpTo r (gx d0 lo (arrOf st')) n→(n=nrem∨r (gx d0 lo (arrOf st') n) (gx d0 lo (arrOf st') (n - 1))=true)→Q (none,n) st') :
  wpS (model prog w) A E s (forIn [a:nrem] ((none,a):Option (Option Nat)×Nat) f) Q st':=by
 refine wpS_forRange (I:=fun x c st''=>st''=st'∧c=(none,x)∧UpTo r (gx d0 lo (arrOf st')) x) ?step ?fin ⟨rfl,rfl,hs⟩
 case fin =>
  rintro c st'' ⟨rfl,rfl,hs'⟩
  rw [show max a nrem=nrem by omega] at hs' ⊢
  exact h nrem han (le_refl _) hs' (.inl rfl)
 case step =>
  rintro x c st'' hax hxn ⟨rfl,rfl,hs'⟩
  have hp:∀i,i<x+1→P (gx d0 lo (arrOf st'') i):=fun i hi=>gx_P hP c hn (by omega)
  refine hf x x _ (ask_gx (d0:=d0) K hP hn c (i:=x) (j:=x - 1) (by omega) (by omega) rfl (by omega) ⟨rfl,_,rfl,fun e=>?_,fun e=>?_⟩)
  ·exact h x hax (by omega) hs' (.inr e)
  ·exact ⟨rfl,rfl,UpTo.snoc K hp (by omega) hs' e⟩
theorem Eqv.same (K:Ask prog w A s κ P r){x:Keyed}(hx:P x):Eqv r x x:=⟨K.ir hx,K.ir hx⟩
theorem Eqv.via (K:Ask prog w A s κ P r){x y z:Keyed}(hx:P x)(hy:P y)(hz:P z)(h1:Eqv r x y)(h2:Eqv r z y):Eqv r x z:=⟨K.tr hz hy hx h2.2 h1.1,K.tr hx hy hz h1.2 h2.1⟩
theorem DnTo.mir (K:Ask prog w A s κ P r)(hP:∀x∈(arrOf st).toList,P x)(hn:lo+nrem≤(arrOf st).size){st':SortSt}(c:SC κ lo st st'){i j n:Nat}(hj:j≤n)(hnn:n≤nrem)(h:DnTo r (gx d0 lo (arrOf st')) n)(he:∀k,i≤k→k<j→Eqv r (gx d0 lo (arrOf st') k) (gx d0 lo (arrOf st') (j - 1))){a':Array Keyed}
  (ea:a'=mirror (arrOf st') (lo+i) (lo+j) ((lo+j - (lo+i)) / 2)):SC κ lo st (setArr st' a')∧DnTo r (gx d0 lo a') n:=by
 subst ea
 have hsz:lo+j≤(arrOf st').size:=by rw [c.size];omega
 have c':SC κ lo st (setArr st' (mirror (arrOf st') (lo+i) (lo+j) ((lo+j - (lo+i)) / 2))):=c.put (mirror_perm _ _ _ _) (fun k hk=>mir_old hsz k hk)
 have hp:∀k,k<n→P (gx d0 lo (arrOf st') k):=fun k hk=>gx_P hP c hn (by omega)
 refine ⟨c',DnTo.eqv K hp (fun k hk=>gx_P (d0:=d0) hP c' hn (by omega)) h fun k hk=>?_⟩
 rw [mir_gx hsz]
 split
 ·rename_i q
  exact Eqv.via K (hp _ (by omega)) (hp (j - 1) (by omega)) (hp k hk) (he _ (by omega) (by omega)) (he k q.1 q.2)
 ·exact Eqv.same K (hp k hk)
theorem ask_rev {st':SortSt}{i j i' j':Nat}{Q:Unit→SortSt→Prop}(ei:i'=lo+i)(ej:j'=lo+j)(h:Q () (setArr st' (mirror (arrOf st') (lo+i) (lo+j) ((lo+j - (lo+i)) / 2)))):wpS (model prog w) A E s (reverseSlice' i' j') Q st':=by
 subst ei ej
 exact wpS_reverse h
theorem ask_count {Q:Option Nat→SortSt→Prop}(d0:Keyed)(K:Ask prog w A s κ P r)(hP:∀x∈(arrOf st).toList,P x)(hk:kindOf st=κ)(hf:failedOf st=none)(hn:lo+nrem≤(arrOf st).size)(h1:1≤nrem)
    (h:∀m st',SC κ lo st st'→1≤m→m≤nrem→UpTo r (gx d0 lo (arrOf st')) m→Q (some m) st'):wpS (model prog w) A E s (countRun' lo nrem) Q st:=by
  have c0:SC κ lo st st:=⟨hk,hf,rfl,Array.Perm.refl _,fun _ _=>rfl⟩
  refine wpS_bind (ask_asc (d0:=d0) K hP hn c0 (le_refl 1) h1 (fun i j hij hj=>by rw [show i=0 by omega,show j=0 by omega];exact K.ir (gx_P hP c0 hn (by omega))) (fun x n Q' q=>?_) fun n n1 n2 n3 n4=>?_)
  · refine wpS_bind (wpS_mono q ?_)
    rintro b st'' ⟨rfl,b',rfl,q1,q2⟩
    dsimp only
    cases b' with
    | true =>
      rw [if_pos rfl]
      exact wpS_pure (q1 rfl)
    | false =>
      rw [if_neg Bool.false_ne_true]
      exact wpS_pure (q2 rfl)
  refine ask_if (fun c1=>?_) (fun c1=>?_)
  · exact wpS_pure (h n st c0 n1 n2 n3)
  have c1':n≠nrem:=nbeq c1
  have n4':r (gx d0 lo (arrOf st) n) (gx d0 lo (arrOf st) (n - 1))=true:=n4.resolve_left c1'
  have hp0:∀i,i<nrem→P (gx d0 lo (arrOf st) i):=fun i hi=>gx_P hP c0 hn hi
  have n5:r (gx d0 lo (arrOf st) (n - 1)) (gx d0 lo (arrOf st) n)=false:=K.as (hp0 _ (by omega)) (hp0 _ (by omega)) n4'
  extract_lets -underBinder jp
  have hd:∀st1,SC κ lo st st1→DnTo r (gx d0 lo (arrOf st1)) (n+1)→wpS (model prog w) A E s (jp ()) Q st1:=fun st1 sc1 dn1=>by
    refine wpS_bind (wpS_lift (wpAny_rule ⟨rfl,?_⟩))
    refine wpS_bind (wpS_mono (wpS_forRange (I:=fun x c st2=>∃q,c=(none,x,q)∧SC κ lo st st2∧DnTo r (gx d0 lo (arrOf st2)) x∧q+1≤x∧∀i,x - (q+1)≤i→i<x→Eqv r (gx d0 lo (arrOf st2) i) (gx d0 lo (arrOf st2) (x - 1)))
      (Q:=fun c st2=>∃m q,c=(none,m,q)∧n+1≤m∧m≤nrem∧SC κ lo st st2∧DnTo r (gx d0 lo (arrOf st2)) m∧q+1≤m∧∀i,m - (q+1)≤i→i<m→Eqv r (gx d0 lo (arrOf st2) i) (gx d0 lo (arrOf st2) (m - 1))) ?step ?fin
      ⟨0,rfl,sc1,dn1,by omega,fun i i1 i2=>by rw [show i=n+1 - 1 by omega];exact Eqv.same K (gx_P hP sc1 hn (by omega))⟩) ?post)
    case fin =>
      rintro c st2 ⟨q,rfl,sc,dn,hq,he⟩
      rw [show max (n+1) nrem=nrem by omega] at dn hq he ⊢
      exact ⟨nrem,q,rfl,by omega,le_refl _,sc,dn,hq,he⟩
    case step =>
      rintro x c st2 hx1 hx2 ⟨q,rfl,sc,dn,hq,he⟩
      have hp:∀i,i<nrem→P (gx d0 lo (arrOf st2) i):=fun i hi=>gx_P hP sc hn hi
      refine wpS_bind (ask_gx (d0:=d0) K hP hn sc (i:=x) (j:=x - 1) hx2 (by omega) rfl (by show lo+x - 1=_;omega) ?_)
      cases e:r (gx d0 lo (arrOf st2) x) (gx d0 lo (arrOf st2) (x - 1)) with
      | true =>
        have dn':=DnTo.snoc K (fun i hi=>hp i (by omega)) (by omega) dn (K.as (hp x hx2) (hp (x - 1) (by omega)) e)
        refine ask_if (fun _=>?_) (fun z=>absurd rfl z)
        refine ask_if (fun q0=>?_) (fun q0=>?_)
        · obtain ⟨c2,d2⟩:=DnTo.mir K hP hn sc (i:=x - (q+1)) (j:=x) (n:=x+1) (by omega) hx2 dn' he rfl
          refine wpS_bind (ask_rev (i:=x - (q+1)) (j:=x) (by show lo+x - (q+1)=_;omega) rfl ?_)
          exact wpS_pure ⟨0,rfl,c2,d2,by omega,fun i i1 i2=>by rw [show i=x+1 - 1 by omega];exact Eqv.same K (gx_P hP c2 hn hx2)⟩
        · exact wpS_pure ⟨0,rfl,sc,dn',by omega,fun i i1 i2=>by rw [show i=x+1 - 1 by omega];exact Eqv.same K (hp x hx2)⟩
      | false =>
        refine ask_if (fun z=>absurd z Bool.false_ne_true) (fun _=>?_)
        refine wpS_bind (ask_gx (d0:=d0) K hP hn sc (i:=x - 1) (j:=x) (by omega) hx2 (by show lo+x - 1=_;omega) rfl ?_)
        cases e2:r (gx d0 lo (arrOf st2) (x - 1)) (gx d0 lo (arrOf st2) x) with
        | true =>
          refine ask_if (fun _=>?_) (fun z=>absurd rfl z)
          exact wpS_pure ⟨x,q,rfl,hx1,by omega,sc,dn,hq,he⟩
        | false =>
          refine ask_if (fun z=>absurd z Bool.false_ne_true) (fun _=>?_)
          refine wpS_pure ⟨q+1,rfl,sc,DnTo.snoc K (fun i hi=>hp i (by omega)) (by omega) dn e2,by omega,fun i i1 i2=>?_⟩
          rw [show x+1 - 1=x by omega]
          by_cases ix:i=x
          · rw [ix]
            exact Eqv.same K (hp x hx2)
          · exact Eqv.via K (hp i (by omega)) (hp (x - 1) (by omega)) (hp x hx2) (he i (by omega) (by omega)) ⟨e,e2⟩
    case post =>
      rintro c st2 ⟨m,q,rfl,m1,m2,sc,dn,hq,he⟩
      dsimp -zeta -zetaHave only
      extract_lets -underBinder u1 u2 u3 u4
      dsimp -zeta -zetaHave only [u1]
      extract_lets -underBinder jp4
      have hd3:∀st3,SC κ lo st st3→DnTo r (gx d0 lo (arrOf st3)) m→wpS (model prog w) A E s (jp4 ()) Q st3:=fun st3 sc3 dn3=>by
        refine wpS_bind (ask_rev (lo:=lo) (i:=0) (j:=m) rfl rfl ?_)
        have hsz:lo+m≤(arrOf st3).size:=by rw [sc3.size];omega
        have c4:SC κ lo st (setArr st3 (mirror (arrOf st3) (lo+0) (lo+m) ((lo+m - (lo+0)) / 2))):=sc3.put (mirror_perm _ _ _ _) (fun k hk=>mir_old hsz k hk)
        refine wpS_bind (ask_asc (d0:=d0) K hP hn c4 (by omega) m2 (fun i j hij hj=>?_) (fun x n Q' q=>?_) fun n g1 g2 g3 _=>wpS_pure (h n _ c4 (by omega) g2 g3))
        · show r (gx d0 lo (mirror (arrOf st3) (lo+0) (lo+m) ((lo+m - (lo+0)) / 2)) j) (gx d0 lo (mirror (arrOf st3) (lo+0) (lo+m) ((lo+m - (lo+0)) / 2)) i)=false
          rw [mir_gx hsz,mir_gx hsz,if_pos (by omega),if_pos (by omega)]
          exact dn3 _ _ (by omega) (by omega)
        · refine wpS_bind (wpS_mono q ?_)
          rintro b st'' ⟨rfl,b',rfl,q1,q2⟩
          dsimp only
          cases b' with
          | true =>
            rw [if_pos rfl]
            exact wpS_pure (q1 rfl)
          | false =>
            rw [if_neg Bool.false_ne_true]
            exact wpS_pure (q2 rfl)
      refine ask_if (fun q0=>?_) (fun q0=>?_)
      · obtain ⟨c2,d2⟩:=DnTo.mir K hP hn sc (i:=m - (q+1)) (j:=m) (n:=m) (le_refl _) m2 dn he rfl
        refine wpS_bind (ask_rev (i:=m - (q+1)) (j:=m) (by show lo+m - (q+1)=_;omega) rfl ?_)
        exact hd3 _ c2 d2
      · exact hd3 _ sc dn
  refine ask_if (fun c2=>?_) (fun c2=>?_)
  · refine wpS_bind (ask_gx (d0:=d0) K hP hn c0 (i:=0) (j:=n - 1) (by omega) (by omega) rfl (by show lo+n - 1=_;omega) ?_)
    cases e:r (gx d0 lo (arrOf st) 0) (gx d0 lo (arrOf st) (n - 1)) with
    | true =>
      refine ask_if (fun _=>?_) (fun z=>absurd rfl z)
      exact wpS_pure (h n st c0 n1 n2 n3)
    | false =>
      refine ask_if (fun z=>absurd z Bool.false_ne_true) (fun _=>?_)
      have all:∀k,k<n→Eqv r (gx d0 lo (arrOf st) k) (gx d0 lo (arrOf st) (n - 1)):=fun k hk =>
        ⟨K.tr (hp0 (n - 1) (by omega)) (hp0 0 (by omega)) (hp0 k (by omega)) e (n3 0 k (zero_le _) hk),n3 k (n - 1) (by omega) (by omega)⟩
      have dn:DnTo r (gx d0 lo (arrOf st)) n:=fun i j hij hj=>(Eqv.via K (hp0 i (by omega)) (hp0 (n - 1) (by omega)) (hp0 j (by omega)) (all i (by omega)) (all j hj)).1
      obtain ⟨c3,d3⟩:=DnTo.mir K hP hn c0 (i:=0) (j:=n) (n:=n+1) (by omega) (by omega) (DnTo.snoc K (fun i hi=>hp0 i (by omega)) n1 dn n5) (fun k _ hk=>all k hk) rfl
      refine wpS_bind (ask_rev (lo:=lo) (i:=0) (j:=n) rfl rfl ?_)
      exact hd _ c3 d3
  · have e1:n=1:=by omega
    subst e1
    refine hd _ c0 (DnTo.snoc K (fun i hi=>hp0 i (by omega)) (le_refl 1) (fun i j hij hj=>?_) n5)
    rw [show i=0 by omega,show j=0 by omega]
    exact K.ir (hp0 0 (by omega))
variable {d0:Keyed}{lo nrem:Nat}
theorem bub_gx {a:Array Keyed}{k l:Nat}(hk:lo+k<a.size)(hl:l≤k)(i:Nat):gx d0 lo (bubble a (lo+k) (lo+k - (lo+l))) i=if i=l then gx d0 lo a k else if l<i∧i≤k then gx d0 lo a (i - 1) else gx d0 lo a i:=by
 have e:=getElem?_bubble hk (lo+k - (lo+l)) (by omega) (lo+i)
 rw [show lo+k - (lo+k - (lo+l))=lo+l by omega] at e
 by_cases c:i=l
 ·rw [if_pos c]
  rw [if_pos (by omega)] at e
  exact gx_congr e
 ·rw [if_neg c]
  rw [if_neg (by omega)] at e
  by_cases c2:l<i∧i≤k
  ·rw [if_pos c2]
   rw [if_pos (by omega)] at e
   exact gx_congr (e.trans (by congr 1;omega))
  ·rw [if_neg c2]
   rw [if_neg (by omega)] at e
   exact gx_congr e
theorem bub_old {a:Array Keyed}{k l:Nat}(hk:lo+k<a.size)(hl:l≤k)(i:Nat)(hi:i<lo):(bubble a (lo+k) (lo+k - (lo+l)))[i]?=a[i]?:=by
 rw [getElem?_bubble hk (lo+k - (lo+l)) (by omega) i,if_neg (by omega),if_neg (by omega)]
theorem ask_bin {Q:Bool→SortSt→Prop}(d0:Keyed)(K:Ask prog w A s κ P r)(hP:∀x∈(arrOf st).toList,P x)(hn:lo+nrem≤(arrOf st).size){st1:SortSt}(c1:SC κ lo st st1){n ok:Nat}(hnn:n≤nrem)(hok:ok≤n)(h1:1≤n)(hs:UpTo r (gx d0 lo (arrOf st1)) ok)
    (h:∀st',SC κ lo st st'→UpTo r (gx d0 lo (arrOf st')) n→Q true st'):wpS (model prog w) A E s (binarySort' lo n ok) Q st1:=by
  refine wpS_bind (wpS_mono (wpS_forRange (I:=fun k c st'=>c.1=none∧SC κ lo st st'∧UpTo r (gx d0 lo (arrOf st')) (min k n)) (Q:=fun c st'=>c.1=none∧SC κ lo st st'∧UpTo r (gx d0 lo (arrOf st')) n) ?step ?fin ?init) ?post)
  case post =>
    rintro ⟨c,_⟩ st' ⟨e,sc,u⟩
    have e:c=none:=e
    subst e
    exact wpS_pure (h st' sc u)
  case init =>
    refine ⟨rfl,c1,fun i j hij hj=>?_⟩
    by_cases z:ok=0
    · rw [show i=0 by omega,show j=0 by omega]
      exact K.ir (gx_P hP c1 hn (by omega))
    · exact hs i j hij (by omega)
  case fin =>
    rintro c st' ⟨e,sc,u⟩
    rw [show min (max (max ok 1) n) n=n by omega] at u
    exact ⟨e,sc,u⟩
  case step =>
    rintro k ⟨c,_⟩ st' hk1 hk2 ⟨e,sc,u⟩
    have e:c=none:=e
    subst e
    rw [show min k n=k by omega] at u
    have hp:∀i,i<nrem→P (gx d0 lo (arrOf st') i):=fun i hi=>gx_P hP sc hn hi
    refine wpS_bind (wpS_mono (wpS_forRange (I:=fun x c st2=>st2=st'∧∃l m,c=(none,l,m)∧l≤m∧m≤k∧m - l≤k - x∧(∀i,i<l→r (gx d0 lo (arrOf st') k) (gx d0 lo (arrOf st') i)=false)∧(∀i,m≤i→i<k→r (gx d0 lo (arrOf st') k) (gx d0 lo (arrOf st') i)=true))
      (Q:=fun c st2=>st2=st'∧∃l m,c=(none,l,m)∧l≤k∧(∀i,i<l→r (gx d0 lo (arrOf st') k) (gx d0 lo (arrOf st') i)=false)∧(∀i,l≤i→i<k→r (gx d0 lo (arrOf st') k) (gx d0 lo (arrOf st') i)=true)) ?istep ?ifin ⟨rfl,0,k,rfl,zero_le _,le_refl _,by omega,fun i hi=>by omega,fun i q1 q2=>by omega⟩) ?ipost)
    case ifin =>
      rintro c st2 ⟨rfl,l,m,rfl,q1,q2,q3,q4,q5⟩
      have:l=m:=by omega
      subst this
      exact ⟨rfl,l,l,rfl,q2,q4,q5⟩
    case istep =>
      rintro x c st2 _ hx ⟨rfl,l,m,rfl,q1,q2,q3,q4,q5⟩
      refine ask_if (fun z=>?_) (fun z=>?_)
      · have z:l≥m:=z
        have:l=m:=by omega
        subst this
        exact wpS_pure ⟨rfl,l,l,rfl,q2,q4,q5⟩
      · have z:¬l≥m:=z
        refine wpS_bind (ask_gx (d0:=d0) K hP hn sc (i:=k) (j:=(l+m) / 2) (by omega) (by omega) rfl rfl ?_)
        cases e:r (gx d0 lo (arrOf st2) k) (gx d0 lo (arrOf st2) ((l+m) / 2)) with
        | true =>
          refine ask_if (fun _=>?_) (fun z=>absurd rfl z)
          refine wpS_pure ⟨rfl,l,(l+m) / 2,rfl,by omega,by omega,by omega,q4,fun i i1 i2=>?_⟩
          cases e2:r (gx d0 lo (arrOf st2) k) (gx d0 lo (arrOf st2) i) with
          | true=>rfl
          | false=>rw [K.tr (hp _ (by omega)) (hp i (by omega)) (hp k (by omega)) (u ((l+m) / 2) i i1 i2) e2] at e;cases e
        | false =>
          refine ask_if (fun z=>absurd z Bool.false_ne_true) (fun _=>?_)
          exact wpS_pure ⟨rfl,(l+m) / 2+1,m,rfl,by omega,q2,by omega,fun i i1=>K.tr (hp i (by omega)) (hp _ (by omega)) (hp k (by omega)) (u i ((l+m) / 2) (by omega) (by omega)) e,q5⟩
    case ipost =>
      rintro c st2 ⟨rfl,l,m,rfl,q1,q2,q3⟩
      refine wpS_bind (wpS_modify (wpS_pure ⟨rfl,sc.put (bubble_perm _ _ _) (fun i hi=>bub_old (by rw [sc.size];omega) q1 i hi),?_⟩))
      rw [show min (k+1) n=k+1 by omega]
      have hks:lo+k<(arrOf st2).size:=by rw [sc.size];omega
      intro i j hij hj
      show r (gx d0 lo (bubble (arrOf st2) (lo+k) (lo+k - (lo+l))) j) (gx d0 lo (bubble (arrOf st2) (lo+k) (lo+k - (lo+l))) i)=false
      rw [bub_gx hks q1,bub_gx hks q1]
      by_cases ij:i=j
      · subst ij
        refine K.ir ?_
        repeat' split
        all_goals exact hp _ (by omega)
      · repeat' split
        all_goals first
          | (exfalso;omega)
          | exact q2 _ (by omega)
          | exact K.as (hp _ (by omega)) (hp _ (by omega)) (q3 _ (by omega) (by omega))
          | exact u _ _ (by omega) (by omega)
end
noncomputable abbrev Pn:=Nat×Nat×Nat
noncomputable def Pend:Nat→List (List Keyed)→List Pn→Prop
 | _,[],[]=>True
 | off,R::Rs,p::ps=>p.1=off∧p.2.1=R.length∧Pend (off+R.length) Rs ps
 | _,_,_=>False
theorem Pend.len:∀{Rs:List (List Keyed)} {off:Nat} {ps:List Pn},Pend off Rs ps→ps.length=Rs.length
 | [],_,[],_=>rfl
 | [],_,_::_,h=>h.elim
 | _::_,_,[],h=>h.elim
 | R::Rs,off,p::ps,h=>by rw [length_cons,length_cons,Pend.len h.2.2]
theorem Pend.split:∀{R1 R2:List (List Keyed)} {off:Nat} {ps:List Pn},Pend off (R1++R2) ps→∃p1 p2,ps=p1++p2∧Pend off R1 p1∧Pend (off+R1.flatten.length) R2 p2
 | [],R2,off,ps,h=>⟨[],ps,rfl,trivial,h⟩
 | R::R1,R2,off,[],h=>h.elim
 | R::R1,R2,off,p::ps,h=>by
  obtain ⟨p1,p2,e,h1,h2⟩:=Pend.split (R1:=R1) (R2:=R2) h.2.2
  refine ⟨p::p1,p2,by rw [e];rfl,⟨h.1,h.2.1,h1⟩,?_⟩
  rw [flatten_cons,length_append,← add_assoc]
  exact h2
theorem Pend.join:∀{R1 R2:List (List Keyed)} {off:Nat} {p1 p2:List Pn},Pend off R1 p1→Pend (off+R1.flatten.length) R2 p2→Pend off (R1++R2) (p1++p2)
 | [],R2,off,[],p2,_,h=>h
 | [],_,_,_::_,_,h,_=>h.elim
 | _::_,_,_,[],_,h,_=>h.elim
 | R::R1,R2,off,p::p1,p2,h1,h2=>by
  refine ⟨h1.1,h1.2.1,Pend.join h1.2.2 ?_⟩
  rw [flatten_cons,length_append,← add_assoc] at h2
  exact h2
structure RI (κ:SortKind)(r:Keyed→Keyed→Bool)(a0:List Keyed)(st:SortSt)(Rs:List (List Keyed))(Z:List Keyed):Prop where
 k:kindOf st=κ
 f:failedOf st=none
 m:(arrOf st).toList.Perm a0
 l:(arrOf st).toList=Rs.flatten++Z
 p:Pend 0 Rs (pendingOf st).toList
 u:∀R∈Rs,Up r R∧1≤R.length
section
variable {prog:Program}{w:World}{A:Around}{E:Value→Shared→Prop}{s:Shared}{κ:SortKind}{P:Keyed→Prop}{r:Keyed→Keyed→Bool}{st:SortSt}{d0:Keyed}{a0 Z:List Keyed}{Rs:List (List Keyed)}
theorem set_erase {α:Type}{l p1 p2:List α}{i:Nat}{x y v:α}(e:l=p1++x::y::p2)(hi:p1.length=i):(l.set i v).eraseIdx (i+1)=p1++v::p2:=by
 subst e hi
 rw [set_append_right _ _ (le_refl _),sub_self,List.set_cons_zero,List.eraseIdx_append_of_length_le (le_succ _),Nat.succ_sub (le_refl _),sub_self]
 rfl
theorem ask_mergeR {R1 R2:List (List Keyed)}{X Y:List Keyed}{i:Nat}{Q:Bool→SortSt→Prop}(K:Ask prog w A s κ P r)(hP:∀x∈a0,P x)(ri:RI κ r a0 st (R1++X::Y::R2) Z)(hi:R1.length=i)(h:∀M st',RI κ r a0 st' (R1++M::R2) Z→Q true st'):wpS (model prog w) A E s (mergeAt' i) Q st:=by
 obtain ⟨p1,p2,e,h1,h2⟩:=Pend.split ri.p
 match p2,h2 with
 | (x1,x2,x3)::(y1,y2,y3)::p2,h2 =>
  obtain ⟨e1,e2,e3,e4,h3⟩:=h2
  have l1:=h1.len
  have e1:x1=0+R1.flatten.length:=e1
  have e2:x2=X.length:=e2
  have e3:y1=0+R1.flatten.length+X.length:=e3
  have e4:y2=Y.length:=e4
  rw [zero_add] at e1 e3
  have uX:=ri.u X (mem_append_right _ (.head _))
  have uY:=ri.u Y (mem_append_right _ (.tail _ (.head _)))
  have hl:(arrOf st).toList=R1.flatten++X++Y++(R2.flatten++Z):=by
   rw [ri.l]
   simp only [flatten_append,flatten_cons,append_assoc]
  have q1:(pendingOf st)[i]?=some (x1,x2,x3):=by
   rw [← getElem?_toList,e,getElem?_append_right (by omega),show i - p1.length=0 by omega]
   rfl
  have q2:(pendingOf st)[i+1]?=some (x1+x2,y2,y3):=by
   rw [← getElem?_toList,e,getElem?_append_right (by omega),show i+1 - p1.length=1 by omega,e1,e2,← e3]
   rfl
  refine ask_mergeAt K ri.k ri.f q1 q2 hl e1.symm e2.symm e4.symm (by omega) (by omega) (fun x hx=>hP x (ri.m.mem_iff.mp hx)) uX.1 uY.1 fun M st' hm hu ha hk hf hp=>?_
  have lm:=hm.length_eq
  rw [length_append] at lm
  refine h M st' ⟨hk,hf,?_,?_,?_,fun R hR=>?_⟩
  ·rw [ha]
   refine List.Perm.trans ?_ ri.m
   rw [hl]
   simp only [append_assoc]
   refine List.Perm.append_left _ ?_
   rw [← append_assoc X Y]
   exact hm.append_right _
  ·rw [ha]
   simp only [flatten_append,flatten_cons,append_assoc]
  ·rw [hp]
   rw [Array.toList_eraseIdxIfInBounds,Array.toList_setIfInBounds,set_erase e (by omega)]
   refine h1.join ⟨by show x1=_;rw [e1,zero_add],by show x2+y2=_;omega,?_⟩
   rw [lm,← add_assoc]
   exact h3
  ·rcases List.mem_append.mp hR with q | q
   ·exact ri.u R (mem_append_left _ q)
   ·rcases List.mem_cons.mp q with q | q
    ·subst q
     exact ⟨hu,by omega⟩
    ·exact ri.u R (mem_append_right _ (.tail _ (.tail _ q)))
theorem RI.sc {st':SortSt}(ri:RI κ r a0 st Rs Z)(c:SC κ Rs.flatten.length st st'):∃Z',RI κ r a0 st' Rs Z'∧Z'.length=Z.length∧∀i,Z'[i]?=(arrOf st')[Rs.flatten.length+i]?:=by
 have hsz:=c.size
 have h1:(arrOf st).size=Rs.flatten.length+Z.length:=by rw [← length_toList,ri.l,length_append]
 have e:(arrOf st').toList=Rs.flatten++(arrOf st').toList.drop Rs.flatten.length:=by
  refine List.ext_getElem? fun i=>?_
  by_cases hi:i<Rs.flatten.length
  ·rw [getElem?_append_left hi,getElem?_toList,c.o i hi,← getElem?_toList,ri.l,getElem?_append_left hi]
  ·rw [getElem?_append_right (by omega),getElem?_drop,show Rs.flatten.length+(i - Rs.flatten.length)=i by omega]
 refine ⟨(arrOf st').toList.drop Rs.flatten.length,⟨c.k,c.f,c.m.toList.trans ri.m,e,by rw [c.p];exact ri.p,ri.u⟩,?_,fun i=>?_⟩
 ·rw [length_drop,length_toList]
  omega
 ·rw [getElem?_drop,getElem?_toList]
theorem upTo_up {g:Nat→Keyed}{l:List Keyed}{n:Nat}(h:UpTo r g n)(e:∀i x,i<n→l[i]?=some x→x=g i):Up r (l.take n):=by
 refine List.pairwise_iff_getElem.mpr fun i j hi hj hij=>?_
 rw [length_take] at hi hj
 rw [List.getElem_take,List.getElem_take,e i _ (by omega) (getElem?_eq_getElem (by omega)),e j _ (by omega) (getElem?_eq_getElem (by omega))]
 exact h i j (by omega) (by omega)
theorem len_flat:∀{Rs:List (List Keyed)},(∀R∈Rs,1≤R.length)→Rs.length≤Rs.flatten.length
 | [],_=>le_refl _
 | R::Rs,h=>by
  have h1:=h R (.head _)
  have h2:=len_flat fun R hR=>h R (.tail _ hR)
  rw [flatten_cons,length_append,length_cons]
  omega
theorem two_at {Rs:List (List Keyed)}{i:Nat}(h:i+1<Rs.length):∃R1 X Y R2,Rs=R1++X::Y::R2∧R1.length=i:=by
 refine ⟨Rs.take i,Rs[i],Rs[i+1],Rs.drop (i+2),?_,List.length_take_of_le (by omega)⟩
 rw [← drop_eq_getElem_cons,← drop_eq_getElem_cons,take_append_drop]
theorem RI.size (ri:RI κ r a0 st Rs Z):a0.length=Rs.flatten.length+Z.length:=by rw [← ri.m.length_eq,ri.l,length_append]
theorem Pend.mod {f:Pn→Pn}(hf:∀p,(f p).1=p.1∧(f p).2.1=p.2.1):∀{Rs:List (List Keyed)} {off:Nat} {ps:List Pn} (i:Nat),Pend off Rs ps→Pend off Rs (ps.modify i f)
 | [],_,[],i,h=>by rw [List.modify_nil];exact h
 | [],_,_::_,_,h=>h.elim
 | _::_,_,[],_,h=>h.elim
 | R::Rs,off,p::ps,0,h=>by
  rw [List.modify_zero_cons]
  exact ⟨(hf p).1.trans h.1,(hf p).2.trans h.2.1,h.2.2⟩
 | R::Rs,off,p::ps,i+1,h=>by
  rw [List.modify_succ_cons]
  exact ⟨h.1,h.2.1,Pend.mod hf i h.2.2⟩
noncomputable def RunQ (κ:SortKind)(r:Keyed→Keyed→Bool)(a0:List Keyed)(size x:Nat):ForInStep (Option Unit×Nat)→SortSt→Prop
 | .done (c,_),st'=>c=none∧∃Rs,RI κ r a0 st' Rs []
 | .yield (c,lo),st'=>c=none∧x+1≤lo∧∃Rs Z,RI κ r a0 st' Rs Z∧Rs.flatten.length=lo∧lo≤size
theorem ask_runs {Q:Unit→SortSt→Prop}(d0:Keyed)(K:Ask prog w A s κ P r)(hP:∀x∈(arrOf st).toList,P x)(hk:kindOf st=κ)(hf:failedOf st=none)(hp:pendingOf st=#[])(h2:1≤(arrOf st).size)
  (h:∀st',(arrOf st').toList.Perm (arrOf st).toList→failedOf st'=none→Up r (arrOf st').toList→Q () st'):wpS (model prog w) A E s sortRuns' Q st:=by
 have r0:RI κ r (arrOf st).toList st [] (arrOf st).toList:=⟨hk,hf,List.Perm.refl _,rfl,by rw [hp];trivial,fun _ z=>nomatch z⟩
 refine wpS_bind (wpS_get ?_)
 extract_lets -underBinder size minrun l0
 have hsz:size=(arrOf st).size:=rfl
 clear_value size minrun
 refine wpS_bind (wpS_mono (wpS_forRange (I:=fun x c st'=>c.1=none∧x≤c.2∧∃Rs Z,RI κ r (arrOf st).toList st' Rs Z∧Rs.flatten.length=c.2∧c.2≤size) (Q:=fun c st'=>c.1=none∧∃Rs,RI κ r (arrOf st).toList st' Rs []) ?step ?fin ⟨rfl,zero_le _,[],_,r0,rfl,zero_le _⟩) ?post)
 case fin =>
  rintro ⟨c,lo⟩ st' ⟨e,h1,Rs,Z,ri,h3,h4⟩
  have h1:max 0 size≤lo:=h1
  have h3:Rs.flatten.length=lo:=h3
  have h4:lo≤size:=h4
  have hl:=congrArg List.length ri.l
  rw [length_toList,length_append,h3,← length_toList,ri.m.length_eq,length_toList] at hl
  have:Z=[]:=List.length_eq_zero_iff.mp (by omega)
  subst this
  exact ⟨e,Rs,ri⟩
 case step =>
  rintro x ⟨c,lo⟩ st' _ hx ⟨e,h1,Rs,Z,ri,h3,h4⟩
  have e:c=none:=e
  subst e
  have h1:x≤lo:=h1
  have h3:Rs.flatten.length=lo:=h3
  have h4:lo≤size:=h4
  have hrs:=ri.size
  rw [length_toList] at hrs
  have hP':∀x∈(arrOf st').toList,P x:=fun x hx=>hP x (ri.m.mem_iff.mp hx)
  have hs':(arrOf st').size=size:=by rw [← length_toList,ri.m.length_eq,length_toList];exact hsz.symm
  refine ask_if (fun c1=>?_) (fun c1=>?_)
  ·have c1:lo≥size:=c1
   have:Z=[]:=List.length_eq_zero_iff.mp (by omega)
   subst this
   exact wpS_pure ⟨rfl,Rs,ri⟩
  have c1:¬lo≥size:=c1
  subst h3
  refine wpS_bind (ask_count (lo:=Rs.flatten.length) (nrem:=size - Rs.flatten.length) d0 K hP' ri.k ri.f (by omega) (by omega) fun m st1 sc1 m1 m2 u1=>?_)
  refine wpS_mono (Q:=RunQ κ r (arrOf st).toList size x) ?_ (fun rr st4 q=>by cases rr<;>exact q)
  dsimp -zeta -zetaHave only
  extract_lets -underBinder n0 jp
  have hj:∀n st2,SC κ Rs.flatten.length st' st2→1≤n→n≤size - Rs.flatten.length→UpTo r (gx d0 Rs.flatten.length (arrOf st2)) n→wpS (model prog w) A E s (jp () n) (RunQ κ r (arrOf st).toList size x) st2:=fun n st2 sc2 g1 g2 u2=>by
   obtain ⟨Z2,ri2,lz,ez⟩:=ri.sc sc2
   have uz:Up r (Z2.take n):=upTo_up u2 fun i x hi e=>by
    rw [ez] at e
    unfold gx
    rw [e]
    rfl
   have lt:(Z2.take n).length=n:=List.length_take_of_le (by omega)
   refine wpS_bind (wpS_get ?_)
   extract_lets -underBinder jp2
   have hj2:∀st3 Rs3,RI κ r (arrOf st).toList st3 Rs3 Z2→Rs3.flatten.length=Rs.flatten.length→wpS (model prog w) A E s (jp2 ()) (RunQ κ r (arrOf st).toList size x) st3:=fun st3 Rs3 ri3 hl3=>by
    refine wpS_bind (wpS_modify (wpS_pure ⟨rfl,by omega,Rs3++[Z2.take n],Z2.drop n,⟨ri3.k,ri3.f,ri3.m,?_,?_,fun R hR=>?_⟩,?_,by omega⟩))
    ·show (arrOf st3).toList=_
     rw [ri3.l,flatten_append,flatten_cons,List.flatten_nil,append_nil,append_assoc,take_append_drop]
    ·show Pend 0 _ ((pendingOf st3).push (Rs.flatten.length,n,0)).toList
     rw [toList_push]
     exact ri3.p.join ⟨by rw [zero_add];exact hl3.symm,lt.symm,trivial⟩
    ·rcases List.mem_append.mp hR with q | q
     ·exact ri3.u R q
     ·rw [List.mem_singleton.mp q]
      exact ⟨uz,by omega⟩
    ·rw [flatten_append,flatten_cons,List.flatten_nil,append_nil,length_append,lt,hl3]
   cases eb:(pendingOf st2).back? with
   | none=>exact hj2 st2 Rs ri2 rfl
   | some t =>
    obtain ⟨s1,n1,w0⟩:=t
    dsimp -zeta -zetaHave only
    extract_lets -underBinder pw
    refine wpS_bind (wpS_mono (wpS_forRange (I:=fun y c st3=>c.1=none∧∃Rs3,RI κ r (arrOf st).toList st3 Rs3 Z2∧Rs3.flatten.length=Rs.flatten.length) (Q:=fun c st3=>c.1=none∧∃Rs3,RI κ r (arrOf st).toList st3 Rs3 Z2∧Rs3.flatten.length=Rs.flatten.length) ?s3 (fun _ _ q=>q) ⟨rfl,Rs,ri2,rfl⟩) ?p3)
    case p3 =>
     rintro ⟨c,u⟩ st3 ⟨e,Rs3,ri3,hl3⟩
     have e:c=none:=e
     subst e
     refine wpS_bind (wpS_modify ?_)
     refine hj2 _ Rs3 ⟨ri3.k,ri3.f,ri3.m,ri3.l,?_,ri3.u⟩ hl3
     show Pend 0 _ ((pendingOf st3).modify ((pendingOf st3).size - 1) fun x=>(x.1,x.2.1,pw)).toList
     rw [Array.toList_modify]
     exact Pend.mod (f:=fun x=>(x.1,x.2.1,pw)) (fun p=>⟨rfl,rfl⟩) _ ri3.p
    case s3 =>
     rintro y ⟨c,u⟩ st3 _ _ ⟨e,Rs3,ri3,hl3⟩
     have e:c=none:=e
     subst e
     have hpl:(pendingOf st3).size=Rs3.length:=by rw [← length_toList];exact ri3.p.len
     refine wpS_bind (wpS_get ?_)
     dsimp only
     by_cases c5:(pendingOf st3).size > 1
     ·rw [if_pos c5,Array.getElem?_eq_getElem (show (pendingOf st3).size - 2<(pendingOf st3).size by omega)]
      dsimp only
      refine ask_if (fun _=>wpS_pure ⟨rfl,Rs3,ri3,hl3⟩) (fun _=>?_)
      obtain ⟨R1,X,Y,R2,eR,l1⟩:=two_at (Rs:=Rs3) (i:=(pendingOf st3).size - 2) (by omega)
      subst eR
      have q0:=ri3.size
      refine wpS_bind (ask_mergeR K hP ri3 l1 fun M st4 ri4=>?_)
      refine ask_if (fun z=>absurd z (by decide)) (fun _=>?_)
      have q1:=ri4.size
      exact wpS_pure ⟨rfl,_,ri4,by omega⟩
     ·rw [if_neg c5]
      exact wpS_pure ⟨rfl,Rs3,ri3,hl3⟩
  refine ask_if (fun c2=>?_) (fun c2=>?_)
  ·have c2:m<minrun:=c2
   refine wpS_bind (wpS_lift (wpAny_rule ⟨rfl,?_⟩))
   refine wpS_bind (ask_bin (lo:=Rs.flatten.length) (nrem:=size - Rs.flatten.length) d0 K hP' (by omega) sc1 (n:=min (size - Rs.flatten.length) minrun) (by omega) (by omega) (by omega) u1 fun st2 sc2 u2=>?_)
   refine ask_if (fun z=>absurd z (by decide)) (fun _=>?_)
   exact hj _ st2 sc2 (by omega) (by omega) u2
  ·exact hj m st1 sc1 m1 m2 u1
 case post =>
  rintro ⟨c,lo⟩ st' ⟨e,Rs,ri⟩
  have e:c=none:=e
  subst e
  refine wpS_bind (wpS_mono (wpS_forRange (I:=fun x c st''=>c.1=none∧∃Rs,RI κ r (arrOf st).toList st'' Rs []∧Rs.length+x≤size+1) (Q:=fun c st''=>c.1=none∧∃Rs,RI κ r (arrOf st).toList st'' Rs []∧Rs.length≤1) ?st2 ?fi2 ?in2) ?po2)
  case po2 =>
   rintro ⟨c,u⟩ st'' ⟨e,Rs,ri,h1⟩
   have e:c=none:=e
   subst e
   refine wpS_pure (h st'' ri.m ri.f ?_)
   rw [ri.l,append_nil]
   match Rs,h1 with
   | [],_=>exact List.Pairwise.nil
   | [R],_=>rw [flatten_cons,List.flatten_nil,append_nil];exact (ri.u R (.head _)).1
  case fi2 =>
   rintro c st'' ⟨e,Rs,ri,h1⟩
   exact ⟨e,Rs,ri,by omega⟩
  case in2 =>
   refine ⟨rfl,Rs,ri,?_⟩
   have h5:=len_flat fun R hR=>(ri.u R hR).2
   have h6:=ri.size
   rw [length_toList,List.length_nil] at h6
   omega
  case st2 =>
   rintro x ⟨c,u⟩ st'' _ hx ⟨e,Rs,ri,h1⟩
   have e:c=none:=e
   subst e
   have hpl:(pendingOf st'').size=Rs.length:=by rw [← length_toList];exact ri.p.len
   refine wpS_bind (wpS_get ?_)
   refine ask_if (fun c1=>?_) (fun c1=>?_)
   ·have c1:(pendingOf st'').size≤1:=c1
    exact wpS_pure ⟨rfl,Rs,ri,by omega⟩
   ·have c1:¬(pendingOf st'').size≤1:=c1
    have go:∀i,i+1<Rs.length→wpS (model prog w) A E s (mergeAt' i) (fun b st3=>b=true∧∃Rs',RI κ r (arrOf st).toList st3 Rs' []∧Rs'.length+(x+1)≤size+1) st'':=fun i hi=>by
     obtain ⟨R1,X,Y,R2,eR,l1⟩:=two_at hi
     subst eR
     refine ask_mergeR K hP ri l1 fun M st3 ri3=>⟨rfl,_,ri3,?_⟩
     rw [length_append,length_cons,length_cons] at h1
     rw [length_append,length_cons]
     omega
    refine wpS_bind (wpS_mono (go _ ?_) ?_)
    ·have key:∀(c:Prop) [Decidable c],(if c then (pendingOf st'').size - 2 - 1 else (pendingOf st'').size - 2)+1<Rs.length:=fun c _=>by
      by_cases z:c
      ·rw [if_pos z]
       omega
      ·rw [if_neg z]
       omega
     exact key _
    ·rintro b st3 ⟨rfl,Rs',ri',h7⟩
     refine ask_if (fun z=>absurd z (by decide)) (fun _=>?_)
     exact wpS_pure ⟨rfl,Rs',ri',h7⟩
end
end L2
namespace L2
open PySem PySem.SeqAt PySem.MeetsSeq PySem.MeetsSeq3
open AutoSeq1 (wpAny_loadPart')
noncomputable def lexI (e l:Nat→Bool)(m n:Nat):List Nat→Bool
 | []=>decide (m<n)
 | j::js=>if e j=true then lexI e l m n js else l j
end L2
namespace L2
open PySem PySem.SeqAt PyProof.Rows
open Dl (Pc sLt pcLt ctLt)
noncomputable def pP (p:Pc):PyData:=.tuple [.int p.1,.str p.2]
noncomputable def cP (c:List Pc):PyData:=.list (c.map pP)
section
variable {A:Around}{s:Shared}
end
theorem sLt_irr (x:Str):sLt x x=false:=decide_eq_false (List.lt_irrefl _)
theorem sLt_tr {x y z:Str}(h:sLt x y=true)(h2:sLt y z=true):sLt x z=true:=decide_eq_true (List.lt_trans (of_decide_eq_true h) (of_decide_eq_true h2))
theorem sLt_tri {x y:Str}(h:x≠y):sLt x y=true∨sLt y x=true:=by
 have hne:x.cps.toList≠y.cps.toList:=fun e=>h (by cases x;cases y;congr 1;exact Array.toList_inj.mp e)
 by_cases q:x.cps.toList<y.cps.toList
 ·exact .inl (decide_eq_true q)
 ·rcases List.le_iff_lt_or_eq.mp (List.not_lt.mp q) with h' | h'
  ·exact .inr (decide_eq_true h')
  ·exact absurd h'.symm hne
noncomputable def cutOf (h:Heap)(v:Value):List Pc:=open Classical in if q:∃c as,Reads h v (cP c) as then q.choose else []
section
variable {prog:Program}{w:World}{A:Around}{E:Value→Shared→Prop}{s:Shared}
theorem zip_twice:∀vs:List Value,vs.zip vs=vs.map fun v=>(v,v)
 | []=>rfl
 | v::vs=>by rw [zip_cons_cons,map_cons,zip_twice vs]
theorem zip_self (vs:List Value):(vs.toArray.zip vs.toArray).toList=vs.map fun v=>(v,v):=by
 rw [← zip_twice]
 simp
end
end L2
namespace L2
open PySem PySem.SeqAt PyProof.Rows
open Dl (sLt Pr kLt prLt)
noncomputable def side (b:Bool):Int ⊕ Str→Prop
 | .inl _=>b=true
 | .inr _=>b=false
theorem kLt_irr (x:Int ⊕ Str):kLt x x=false:=by
 cases x with
 | inl a=>exact decide_eq_false (Int.lt_irrefl a)
 | inr a=>exact sLt_irr a
theorem kLt_as {x y:Int ⊕ Str}(h:kLt x y=true):kLt y x=false:=by
 cases x with
 | inl a =>
  cases y with
  | inl b=>exact decide_eq_false (by have:=of_decide_eq_true (show decide (a<b)=true from h);omega)
  | inr b=>rfl
 | inr a =>
  cases y with
  | inl b=>rfl
  | inr b =>
   cases e:kLt (.inr b) (.inr a) with
   | false=>rfl
   | true =>
    have:=sLt_tr (show sLt a b=true from h) (show sLt b a=true from e)
    rw [sLt_irr] at this
    cases this
theorem kLt_le {b:Bool}{x y z:Int ⊕ Str}(hx:side b x)(hy:side b y)(hz:side b z)(h:kLt y x=false)(h2:kLt z y=false):kLt z x=false:=by
 cases x with
 | inl x =>
  cases y with
  | inr y=>unfold side at hx hy;rw [hx] at hy;cases hy
  | inl y =>
   cases z with
   | inr z=>unfold side at hx hz;rw [hx] at hz;cases hz
   | inl z =>
    have h:=of_decide_eq_false (show decide (y<x)=false from h)
    have h2:=of_decide_eq_false (show decide (z<y)=false from h2)
    exact decide_eq_false (by omega)
 | inr x =>
  cases y with
  | inl y=>unfold side at hx hy;rw [hx] at hy;cases hy
  | inr y =>
   cases z with
   | inl z=>unfold side at hx hz;rw [hx] at hz;cases hz
   | inr z =>
    cases e:kLt (.inr z) (.inr x) with
    | false=>rfl
    | true =>
     have e:sLt z x=true:=e
     have h:sLt y x=false:=h
     have h2:sLt z y=false:=h2
     by_cases q:x=y
     ·subst q
      rw [e] at h2;cases h2
     ·rcases sLt_tri q with w | w
      ·have:=sLt_tr e w
       rw [h2] at this;cases this
      ·rw [h] at w;cases w
theorem prLt_as {p q:Pr}(h:prLt p q=true):prLt q p=false:=by
 unfold prLt at *
 by_cases e:p.1=q.1
 ·rw [if_pos e] at h
  rw [if_pos e.symm]
  exact kLt_as h
 ·rw [if_neg e] at h
  rw [if_neg fun z=>e z.symm]
  have:=of_decide_eq_true h
  exact decide_eq_false (by omega)
theorem prLt_le {b:Bool}{p q t:Pr}(hp:side b p.2)(hq:side b q.2)(ht:side b t.2)(h:prLt q p=false)(h2:prLt t q=false):prLt t p=false:=by
 unfold prLt at *
 by_cases e1:q.1=p.1
 ·rw [if_pos e1] at h
  by_cases e2:t.1=q.1
  ·rw [if_pos e2] at h2
   rw [if_pos (e2.trans e1)]
   exact kLt_le hp hq ht h h2
  ·rw [if_neg e2] at h2
   rw [if_neg (by omega)]
   have:=of_decide_eq_false h2
   exact decide_eq_false (by omega)
 ·rw [if_neg e1] at h
  have h:=of_decide_eq_false h
  by_cases e2:t.1=q.1
  ·rw [if_neg (by omega)]
   exact decide_eq_false (by omega)
  ·rw [if_neg e2] at h2
   have:=of_decide_eq_false h2
   rw [if_neg (by omega)]
   exact decide_eq_false (by omega)
noncomputable def prV:Value→Int ⊕ Str
 | .int y _=>.inl y
 | .str y _=>.inr y
 | _=>.inl 0
noncomputable def prI:Value→Int
 | .int y _=>y
 | _=>0
noncomputable def prO (o:Obj):Pr:=match o.data with
 | .seq its _=>(((its[0]?).map prI).getD 0,((its[1]?).map prV).getD (.inl 0))
 | _=>(0,.inl 0)
noncomputable def prOf (h:Heap):Value→Pr
 | .ref a=>((h.get? a).map prO).getD (0,.inl 0)
 | _=>(0,.inl 0)
def IsPr (b:Bool)(h:Heap)(v:Value):Prop:=∃(a:Addr) (o:Obj) (x:Int) (t:Tok) (u:Value) (n:Nat),v=.ref a∧h.get? a=some o∧o.cls=.type "tuple"∧o.data=.seq #[.int x t,u] n∧((b=true∧∃y t',u=.int y t')∨(b=false∧∃y t',u=.str y t'))
theorem prOf_eq {h:Heap}{a:Addr}{o:Obj}{x:Int}{t:Tok}{u:Value}{n:Nat}(h1:h.get? a=some o)(h2:o.data=.seq #[.int x t,u] n):prOf h (.ref a)=(x,prV u):=by
 show ((h.get? a).map prO).getD (0,.inl 0)=_
 rw [h1]
 show prO o=_
 unfold prO
 rw [h2]
 rfl
theorem IsPr.keeps {b:Bool}{h h':Heap}{v:Value}(i:IsPr b h v)(k:∀b o,h.get? b=some o→h'.get? b=some o):IsPr b h' v∧prOf h' v=prOf h v:=by
 obtain ⟨a,o,x,t,u,n,rfl,h1,h2,h3,h4⟩:=i
 exact ⟨⟨a,o,x,t,u,n,rfl,k _ _ h1,h2,h3,h4⟩,(prOf_eq (k _ _ h1) h3).trans (prOf_eq h1 h3).symm⟩
theorem IsPr.side {b:Bool}{h:Heap}{v:Value}(i:IsPr b h v):side b (prOf h v).2:=by
 obtain ⟨a,o,x,t,u,n,rfl,h1,h2,h3,h4⟩:=i
 rw [prOf_eq h1 h3]
 rcases h4 with ⟨hb,y,t',rfl⟩ | ⟨hb,y,t',rfl⟩
 ·exact hb
 ·exact hb
section
variable {prog:Program}{w:World}{A:Around}{E:Value→Shared→Prop}{s:Shared}
noncomputable def fstOf (h:Heap)(v:Value):Value:=match v with
 | .ref a=>(((h.get? a).bind fun o=>match o.data with | .seq its _=>its[0]? | _=>none)).getD .none
 | _=>.none
theorem fst_eq {h:Heap}{a:Addr}{o:Obj}{x:Int}{t:Tok}{u:Value}{n:Nat}(h1:h.get? a=some o)(h2:o.data=.seq #[.int x t,u] n):fstOf h (.ref a)=.int x t:=by
 show (((h.get? a).bind fun o=>match o.data with | .seq its _=>its[0]? | _=>none)).getD .none=_
 rw [h1]
 show ((match o.data with | .seq its _=>its[0]? | _=>none):Option Value).getD .none=_
 rw [h2]
 rfl
theorem pr_tups {b:Bool}{h:Heap}:∀{vs:List Value},(∀v∈vs,IsPr b h v)→PySem.W.KatTups h vs (vs.map (fstOf h))
 | [],_=>PySem.W.KatTups.nil
 | v::vs,hv=>by
  obtain ⟨a,o,x,t,u,n,rfl,h1,h2,h3,h4⟩:=hv v (.head _)
  refine PySem.W.KatTups.cons h1 h2 h3 ?_ (pr_tups fun v hv'=>hv v (.tail _ hv'))
  rw [fst_eq h1 h3]
  rfl
theorem pr_looks {M:Model}{b:Bool}{h:Heap}{vs:List Value}(hv:∀v∈vs,IsPr b h v):∀v∈vs.map (fstOf h),PySem.W.Looks M h (typeOf v) (.type "int"):=fun f hf=>by
 obtain ⟨v,hm,rfl⟩:=List.mem_map.mp hf
 obtain ⟨a,o,x,t,u,n,rfl,h1,h2,h3,h4⟩:=hv v hm
 rw [fst_eq h1 h3]
 exact .now
theorem ask_prs {b:Bool}(hu:A.units+8<cLine):Ask prog w A s (tuples' true) (fun x=>IsPr b s.heap x.1) (fun x y=>prLt (prOf s.heap x.1) (prOf s.heap y.1)) where
 run:=fun {x y Q E} hx hy q=>by
  obtain ⟨a,o,i,t,u,n,e1,h1,h2,h3,h4⟩:=hx
  obtain ⟨a',o',i',t',u',n',e1',h1',h2',h3',h4'⟩:=hy
  rw [e1,e1'] at q ⊢
  rw [prOf_eq h1 h3,prOf_eq h1' h3'] at q
  refine PySem.W.kat_lt h1 h3 h1' h3' ?_
  show PySem.W.KatLex prog w A true (decide (2<2)) Q [(.int i t,.int i' t'),(u,u')] 0 s
  refine PySem.W.kat_cons (wpAny_eqBool_int ?_)
  by_cases e:i=i'
  ·have q:Q (kLt (prV u) (prV u')) s:=by
    unfold prLt at q
    rwa [if_pos e] at q
   rw [show (i==i')=true from by simpa using e]
   refine kat_yes (PySem.W.kat_cons ?_)
   rcases h4 with ⟨hb,z,tz,rfl⟩ | ⟨hb,z,tz,rfl⟩<;>rcases h4' with ⟨hb',z',tz',rfl⟩ | ⟨hb',z',tz',rfl⟩
   ·refine wpAny_eqBool_int ?_
    by_cases ez:z=z'
    ·rw [show (z==z')=true from by simpa using ez]
     refine kat_yes (PySem.W.kat_nil ?_)
     have:kLt (prV (.int z tz)) (prV (.int z' tz'))=false:=decide_eq_false (by omega)
     rw [this] at q
     exact q
    ·rw [show (z==z')=false from by simpa using ez]
     exact kat_no (PySem.W.kat_one _ _ (PySem.P.lt_int q))
   ·rw [hb] at hb';cases hb'
   ·rw [hb] at hb';cases hb'
   ·refine wpAny_eqBool_str ?_
    by_cases ez:z=z'
    ·rw [decide_eq_true ez]
     refine kat_yes (PySem.W.kat_nil ?_)
     have:kLt (prV (.str z tz)) (prV (.str z' tz'))=false:=by rw [ez];exact kLt_irr _
     rw [this] at q
     exact q
    ·rw [decide_eq_false ez]
     exact kat_no (PySem.W.kat_one _ _ (PySem.P.lt_str q))
  ·have q:Q (decide (i<i')) s:=by
    unfold prLt at q
    rwa [if_neg e] at q
   rw [show (i==i')=false from by simpa using e]
   exact kat_no (oneLt_int q)
 tr:=fun hx hy hz h1 h2=>prLt_le hx.side hy.side hz.side h1 h2
 as:=fun _ _ h=>prLt_as h
theorem pr_sort {a:Addr}{vs:List Value}{n:Nat}{b:Bool}{P:Fin→Shared→Prop}(ho:s.heap.get? a=some (seqObj "list" vs.toArray n))(hI:∀s':Shared,(∀b o,b≠a→s.heap.get? b=some o→s'.heap.get? b=some o)→∀v∈vs,IsPr b s'.heap v∧prOf s'.heap v=prOf s.heap v)(hm:vs.length≤sizeLine)(hu:A.units+8<cLine)
    (h:∀out:Array Value,out.toList.Perm vs→(out.toList.map (prOf s.heap)).Pairwise (fun c d=>prLt d c=false)→P (.done (.ret .none)) {s with heap:=sortedHeap s.heap a vs out}) :
    wpAny (model prog w) A (Builtin.«list.sort» ⟨[.ref a],[]⟩) P E s:=by
  have hlt:=lt_size ho
  obtain ⟨e0,h1⟩:∃e0,(s.heap.update a (Obj.mapSeq fun _=>#[])).get? a=some (seqObj "list" #[] e0):=⟨_,get?_update_seq ho (fun _=>#[])⟩
  have h6:(((s.heap.update a (Obj.mapSeq fun _=>#[])).push (seqObj "tuple" vs.toArray 0)).push (seqObj "list" #[] 0)).get? a=some (seqObj "list" #[] e0):=by
    rw [Heap.get?_push_ne _ _ _ (ne_of_lt (by rw [size_push',Heap.size_update];exact Nat.lt_succ_of_lt hlt)),Heap.get?_push_ne _ _ _ (ne_of_lt (by rw [Heap.size_update];exact hlt))]
    exact h1
  have keep:∀b o,b≠a→s.heap.get? b=some o→(((s.heap.update a (Obj.mapSeq fun _=>#[])).push (seqObj "tuple" vs.toArray 0)).push (seqObj "list" #[] 0)).get? b=some o:=fun b o hb q=>by
    refine get?_push_of_some _ (get?_push_of_some _ ?_)
    rw [Heap.get?_update_ne _ _ _ _ hb]
    exact q
  have hI6:=hI {s with heap:=((s.heap.update a (Obj.mapSeq fun _=>#[])).push (seqObj "tuple" vs.toArray 0)).push (seqObj "list" #[] 0)} keep
  rw [list_sort_plain]
  refine wpAny_bind (listItems_at ho rfl (wpAny_bind (listUpdate_at ho rfl (wpAny_bind (seqEpoch_at h1 rfl (wpAny_bind (wpAny_newTuple (wpAny_bind (wpAny_newList (wpAny_holding ?_))) (by simpa using hm)))))
    (by simpa using hm))))
  have fin:∀(st':SortSt),(arrOf st').toList.Perm (vs.map fun v=>(v,v))→failedOf st'=none→((arrOf st').toList.map fun x=>prOf s.heap x.1).Pairwise (fun c d=>prLt d c=false)→
      wpAny (model prog w) A (do
        let touched:=(← seqEpoch a) != e0
        Builtin.List.listUpdate (.ref a) fun _=>(arrOf st').map (·.2)
        if let some e:=failedOf st' then rule "list.sort.comparison-raised";throw e
        if touched then rule "list.sort.modified";raiseError "ValueError" "list modified during sort"
        ret .none) P E {s with heap:=((s.heap.update a (Obj.mapSeq fun _=>#[])).push (seqObj "tuple" vs.toArray 0)).push (seqObj "list" #[] 0)}:=fun st' hp hf hs=>by
    have same:∀x∈(arrOf st').toList,x.1=x.2:=fun x hx=>by
      obtain ⟨v,_,rfl⟩:=List.mem_map.mp (hp.mem_iff.mp hx)
      rfl
    refine wpAny_bind (seqEpoch_at h6 rfl (wpAny_bind (listUpdate_at h6 rfl ?_ (hsz2:=by
      refine le_trans (le_of_eq (Array.size_map ..)) ?_
      rw [← length_toList,hp.length_eq,length_map]
      omega))))
    rw [hf]
    simp only [bne_self_eq_false,Bool.false_eq_true,if_false]
    refine wpAny_pure (h _ ?_ ?_)
    · rw [Array.toList_map]
      have:=hp.map (·.2)
      rw [map_map,show ((fun x:Keyed=>x.2)∘fun v:Value=>(v,v))=id from rfl,map_id] at this
      exact this
    · rw [Array.toList_map,map_map]
      rw [map_congr_left (g:=fun x=>prOf s.heap x.1) (fun x hx=>by show prOf s.heap x.2=_;rw [same x hx])]
      exact hs
  by_cases h2:vs.toArray.size<2
  · simp only [if_pos h2]
    refine wpAny_bind (wpAny_pure ?_)
    rw [StateT.run_pure]
    refine wpAny_bind (wpAny_pure ?_)
    refine fin (SortSt.mk' general' (vs.toArray.zip vs.toArray) #[] 7 none) (by show (vs.toArray.zip vs.toArray).toList.Perm _;rw [zip_self]) rfl ?_
    show ((vs.toArray.zip vs.toArray).toList.map fun x=>prOf s.heap x.1).Pairwise _
    rw [zip_self]
    match vs,h2 with
    | [],_=>exact List.Pairwise.nil
    | [v],_=>exact pairwise_singleton _ _
    | _::_::_,h2=>exact absurd h2 (by simp)
  · simp only [if_neg h2]
    have h2':2≤vs.length:=by rw [size_toArray] at h2;omega
    refine wpAny_bind (PySem.W.kat_kind (T:=.type "int") (pr_tups fun v hv=>(hI6 v hv).1) (by rw [length_map];omega) (pr_looks fun v hv=>(hI6 v hv).1) (by decide) ?_)
    have hne:∃x,x∈vs:=⟨vs[0],getElem_mem (by omega)⟩
    obtain ⟨v0,hv0⟩:=hne
    have ek:tuples' ((Value.type "int") != Value.type "tuple")=tuples' true:=rfl
    rw [ek]
    refine wpAny_bind (wpAny_mono (ask_runs (st:=SortSt.mk' (tuples' true) (vs.toArray.zip vs.toArray) #[] 7 none) (Q:=fun _ st'=>(arrOf st').toList.Perm (vs.map fun v=>(v,v))∧failedOf st'=none∧((arrOf st').toList.map fun x=>prOf s.heap x.1).Pairwise (fun c d=>prLt d c=false)) (v0,v0) (ask_prs (b:=b) hu) ?_ rfl rfl rfl ?_ fun st' q1 q2 q3=>⟨?_,q2,?_⟩) ?_ fun _ _ e=>e)
    · intro x hx
      have hx:x∈(vs.toArray.zip vs.toArray).toList:=hx
      rw [zip_self] at hx
      obtain ⟨v,hv,rfl⟩:=List.mem_map.mp hx
      exact (hI6 v hv).1
    · show 1≤(vs.toArray.zip vs.toArray).size
      rw [← length_toList,zip_self,length_map]
      omega
    · have q1:(arrOf st').toList.Perm (vs.toArray.zip vs.toArray).toList:=q1
      rw [zip_self] at q1
      exact q1
    · have q1:(arrOf st').toList.Perm (vs.toArray.zip vs.toArray).toList:=q1
      rw [zip_self] at q1
      refine List.pairwise_map.mpr (List.Pairwise.imp_of_mem (fun {x y} hx hy z=>?_) q3)
      obtain ⟨v,hv,rfl⟩:=List.mem_map.mp (q1.mem_iff.mp hx)
      obtain ⟨v',hv',rfl⟩:=List.mem_map.mp (q1.mem_iff.mp hy)
      have e1:=(hI6 v hv).2
      have e2:=(hI6 v' hv').2
      show prLt (prOf s.heap v') (prOf s.heap v)=false
      rw [← e1,← e2]
      exact z
    · rintro ⟨⟨⟩,st'⟩ s' ⟨rfl,q1,q2,q3⟩
      exact fin st' q1 q2 q3
theorem pr_sorted {l:Addr}{vs:List Value}{b:Bool}{Q:Value→Shared→Prop}(hl:s.heap.IsList l vs.toArray)(hI:∀v∈vs,IsPr b s.heap v)(hm:vs.length≤sizeLine)(hu:A.units+12<cLine)
  (h:∀out:Array Value,out.toList.Perm vs→(out.toList.map (prOf s.heap)).Pairwise (fun c d=>prLt d c=false)→Q (.ref (s.heap.objs.size+1)) {s with heap:=sortedAll s.heap vs out}) :
  wpAny (model prog w) A (call (.builtin "sorted") [.ref l]) Q E s:=by
 have hz:((s.heap.push (seqObj "list" #[] 0)).update s.heap.objs.size (Obj.mapSeq (·++vs.toArray))).objs.size=s.heap.objs.size+1:=by rw [Heap.size_update,size_push']
 have hL:=get?_push_size ((s.heap.push (seqObj "list" #[] 0)).update s.heap.objs.size (Obj.mapSeq (·++vs.toArray))) (o:=seqObj "list" vs.toArray 0) rfl
 rw [hz] at hL
 have keep:∀b o,s.heap.get? b=some o→(((s.heap.push (seqObj "list" #[] 0)).update s.heap.objs.size (Obj.mapSeq (·++vs.toArray))).push (seqObj "list" vs.toArray 0)).get? b=some o:=fun b o q=>by
  refine get?_push_of_some _ ?_
  rw [Heap.get?_update_ne _ _ _ _ (ne_of_lt (lt_size q))]
  exact get?_push_of_some _ q
 refine Calls.call_function_entry kind_sorted plain_sorted entry_sorted (args_sorted1 _) ?_
 unfold Builtin.«sorted»
 refine wpAny_bind (m:=checkCount "sorted" 1 1 _) (wpAny_pure (wpAny_bind (collect_list hl (wpAny_bind (wpAny_newList ?_ (by simpa using hm))) hm)))
 simp only [hz]
 have hI0:∀v∈vs,IsPr b (((s.heap.push (seqObj "list" #[] 0)).update s.heap.objs.size (Obj.mapSeq (·++vs.toArray))).push (seqObj "list" vs.toArray 0)) v∧prOf (((s.heap.push (seqObj "list" #[] 0)).update s.heap.objs.size (Obj.mapSeq (·++vs.toArray))).push (seqObj "list" vs.toArray 0)) v=prOf s.heap v:=fun v hv=>(hI v hv).keeps keep
 have old:∀b o,s.heap.get? b=some o→b≠s.heap.objs.size+1:=fun b o q=>ne_of_lt (Nat.lt_succ_of_lt (lt_size q))
 refine wpAny_bind (wpAny_holding (wpAny_call_entry slot_list_sort ⟨_,hL,rfl⟩ entry_list_sort (pr_sort (b:=b) hL (fun s' k v hv=>?_) hm (by show A.units+1+1+8<cLine;omega) fun out q1 q2=>⟨_,rfl,?_⟩) (args_list_sort _)))
 ·have:=(hI v hv).keeps (h':=s'.heap) fun b o q=>k b o (old b o q) (keep b o q)
  exact ⟨this.1,this.2.trans (hI0 v hv).2.symm⟩
 ·refine wpAny_pure ⟨_,rfl,h out q1 ?_⟩
  rw [map_congr_left (g:=prOf (((s.heap.push (seqObj "list" #[] 0)).update s.heap.objs.size (Obj.mapSeq (·++vs.toArray))).push (seqObj "list" vs.toArray 0))) (fun v hv=>((hI0 v (q1.mem_iff.mp hv)).2).symm)]
  exact q2
end
end L2
namespace L2
open PySem PySem.Spec PyProof.Rows
open Dl (D R FE FT FA FO FS FI FB Fl Pc ctLt)
section
variable {K:Frag}{C:String→Addr}{E:XK}{Γ Δ Γl Δl:List Nat}{m m1 m2 m3 mr:Nat}{S S1 S2 S3:List (Nat×Bool)}{H:Hp}
end
theorem vals_refs:∀{bs:List Addr} {its:List Value},Vals (bs.map V.ref) its→its=bs.map Value.ref
 | [],_,.nil=>rfl
 | b::bs,_,.cons r rs=>by
  rw [show _=Value.ref b from r,vals_refs rs]
  rfl
theorem refs_vals:∀(bs:List Addr),Vals (bs.map V.ref) (bs.map Value.ref)
 | []=>.nil
 | b::bs=>.cons rfl (refs_vals bs)
noncomputable def adr:Value→Addr
 | .ref a=>a
 | _=>0
section
variable {X:Cx}
variable {K:Frag}{C:String→Addr}{E:XK}{Γ Δ Γl Δl:List Nat}{m m1 m2 m3 mr:Nat}{S S1 S2 S3:List (Nat×Bool)}{H:Hp}
end
section
variable {X:Cx}{C:String→Addr}{E:XK}{Γ Δ Γ' Δ' Γl Δl:List Nat}{m m1 m2 m3 mr:Nat}{S S1 S2 S3:List (Nat×Bool)}{a b c e o kx:Expr}{ta tb tc te tk:TE}{fa fb fc fe fk:FE}{p p1 p2 pos apos cpos:Pos}
end
end L2
namespace L2
open PySem PySem.Spec PyProof.Rows
open Dl (D R FE FT FA FO FS FI FB Fl)
structure RoomH (k:Nat)(A:Around):Prop where
 dp:A.depth+3*k+5<recursionLimit
 un:A.units+16*k+200<cLine
structure FnOkH (P:Program)(w:World)(K:Frag)(mg:Str→Option Value)(base:Heap)(k:Nat)(f:Addr)(fd:FuncData)(ps:List Str)(sp:Sp):Prop where
 len:∀vs H Q E,sp vs H Q E→vs.length=ps.length
 run:∀(A:Around) (outer:List Env) (s:Shared) (H:Hp) (args:Args) (us:List Value) (vs:List V) (Q:VK) (E:XK),RoomH k A→Env0 P w K mg base A outer s H→BindsTo s fd args (ps.zip us)→Vals vs us→sp vs H Q E→
  codeAny (model P w) A (.call (.ref f) args) (CR CX0 outer P w H s Q E) s
structure DefH (P:Program)(w:World)(K:Frag)(mg:Str→Option Value)(base:Heap)(k:Nat)(x:Str)(ps:List Str)(sp:Sp):Prop where
 ex:∃f fd,mg x=some (.ref f)∧keepIn K (.ref f)=true∧Binds K fd ps []∧FnOkH P w K mg base k f fd ps sp
noncomputable abbrev Cx.wild (X:Cx):Cx:={X with calm:=false,xe:=fun _ _=>False}
section
variable {X:Cx}{C:String→Addr}{E:XK}{Γ Δ:List Nat}{m n mr k:Nat}{S:List (Nat×Bool)}{x:Str}{p pos:Pos}{e:Expr}{es:List Expr}{t:TA}
end
end L2
namespace L2
open PySem PySem.Spec PyProof.Rows
open Dl (D R FE FT FA FO FS FI FB Fl Pc ctLt)
section
variable {K:Frag}{C:String→Addr}{E:XK}{Γ Δ Γl Δl:List Nat}{m m1 m2 m3 mr:Nat}{S S1 S2 S3:List (Nat×Bool)}{H:Hp}
variable {X:Cx}
end
section
variable {X:Cx}{C:String→Addr}{E:XK}{Γ Δ Γ' Δ' Γl Δl:List Nat}{m m1 m2 m3 mr:Nat}{S S1 S2 S3:List (Nat×Bool)}{a b c e o kx:Expr}{ta tb tc te tk:TE}{fa fb fc fe fk:FE}{p p1 p2 pos apos cpos:Pos}
end
end L2
namespace L2
open PySem PySem.Spec PyProof.Rows
open Dl (D R FE FT FA FO FS FI FB Fl)
section
variable {prog:Program}{w:World}{K:Type}[DecidableEq K]{knd:HeapKind prog w K}{A:Around}{E:Value→Shared→Prop}{s:Shared}
end
section
variable {X:Cx}
variable {K:Frag}{C:String→Addr}{E:XK}{Γ Δ:List Nat}{m:Nat}{S:List (Nat×Bool)}{H:Hp}
variable {e:Expr}{te:TE}{fe:FE}{p pos:Pos}
variable {tg:Expr}
end
section
variable {X:Cx}{C:String→Addr}{E:XK}{Γ Δ:List Nat}{m n:Nat}{S:List (Nat×Bool)}{tg a b c:Expr}{t:TA}{f:FA}{p pos:Pos}
end
end L2
namespace L2
open PySem PySem.Spec PyProof.Rows
structure LamSc (X:Cx)(N:List Str)(p:Str)(sc:Scope)(cl:List (Str×Addr)):Prop where
 kind:sc.kind=.function
 co:sc.isCoroutine=false
 gen:sc.isGenerator=false
 nocell:∀x∈sc.names,x.2≠.cell
 par:sc.names.lookup p=some .local
 nd:N.Nodup
 hd:N.head?=some p
 tl:∀x∈N.tail,sc.names.lookup x=some .free
 fr:∀x,sc.names.lookup x=some .free→∃c,cl.lookup x=some c
 cls:∀x c,cl.lookup x=some c→X.env.cells.lookup x=some c
section
variable {X:Cx}{pins:List (Addr×Obj)}{σ:St}{H:Hp}{s:Shared}
end
def BMod (base:Heap)(mg:Str→Option Value):Prop:=∃bm ob,mg "__builtins__"=some (.ref bm)∧bm≠builtinsNs∧base.get? bm=some ob∧ob.cls=.type "module"∧ob.dict=some builtinsNs∧ob.data=.plain
section
variable {X:Cx}{pins:List (Addr×Obj)}{σ:St}{H:Hp}{s:Shared}{P c:Addr}{pos:Pos}{qual:Str}{params:Arguments}{body:Expr}{sc:Scope}{cl:List (Str×Addr)}{E:Value→Shared→Prop}
end
noncomputable def keysT (K:Frag)(a:Addr)(xs:List V)(tb:V→Hp→VK→Prop):List V→Hp→(List Int→Hp→Prop)→Prop
 | [],H,Q=>Q [] H
 | x::r,H,Q=>tb x H fun v H'=>∃k,v=.int k∧SqL K H' a xs∧keysT K a xs tb r H' fun ks H2=>Q (k::ks) H2
section
variable {X:Cx}{pins:List (Addr×Obj)}{σ:St}{H:Hp}{s:Shared}{a f I S:Addr}{xs:List V}{tb:V→Hp→VK→Prop}{R:Result→Shared→Prop}{Q:V→Hp→Prop}
end
section
variable {X:Cx}{pins:List (Addr×Obj)}{σ:St}{H:Hp}{s:Shared}{a f:Addr}{xs:List V}{tb:V→Hp→VK→Prop}{Q:VK}
end
structure LamOk (X:Cx)(N:List Str)(p qual:Str)(params:Arguments)(body:Expr)(sc:Scope)(cl:List (Str×Addr))(js:List Nat)(P c:Addr)(lpos:Pos):Prop where
 bm:BMod X.base X.mg
 tab:X.H₀ P=some (.tbl lpos qual)
 code:X.env.code=.ref c
 hd:PySem.W.CodeHd X.base c P
 clo:closureFor sc X.env=pure cl
 qu:X.env.qual++"<lambda>"=qual
 df:defaultsOf params X.env=([],[])
 lsc:LamSc X N p sc cl
 jsx:∀(i:Nat) (x:Str),N.tail[i]?=some x→∃j:Nat,js[i]?=some j∧X.N[j]?=some x∧Vis X.env.scope x∧X.env.kindOf x≠some .local
 len:js.length+1=N.length
 bind:∀(u pm ctv:Value) (c:Addr),bindArgs (PySem.W.kla_fn "<lambda>" qual params body sc cl pm (.ref c) ctv) ⟨[u],[]⟩=pure [(p,u)]
 dep:X.A.in1.depth<recursionLimit
 calm:X.calm=true
section
variable {X:Cx}{pins:List (Addr×Obj)}{σ:St}{H:Hp}{s:Shared}{N:List Str}{p qual:Str}{params:Arguments}{body:Expr}{sc:Scope}{cl:List (Str×Addr)}{js:List Nat}{P c:Addr}{lpos:Pos}
variable {np pos kp:Pos}{e:Expr}{te tb:TE}
end
end L2
namespace L2
open PySem PySem.Spec PyProof.Rows
open Dl (D R FE FT FA FO FS FI FB Fl)
section
variable {K:Frag}{C:String→Addr}{E:XK}{Γ Δ Γ' Δ':List Nat}{m m1 m2 mb:Nat}{S Sb:List (Nat×Bool)}{H:Hp}
end
section
variable {X:Cx}{C:String→Addr}{E:XK}{Γ Δ Γ' Δ' Γl Δl:List Nat}{m mb mr:Nat}{S Sb:List (Nat×Bool)}{N:List Str}{p qual:Str}{params:Arguments}{body:Expr}{sc:Scope}{cl:List (Str×Addr)}{js:List Nat}{P c:Addr}{lpos np pos kp p2:Pos}{e:Expr}{te tb:TE}{fe fb:FE}{x y:Str}{i j:Nat}
end
section
variable {K:Frag}{C:String→Addr}{E:XK}{Γ Δ Γ' Δ' Γl Δl:List Nat}{m mr:Nat}{S:List (Nat×Bool)}{H:Hp}
end
section
variable {X:Cx}{C:String→Addr}{E:XK}{Γ Δ Γ' Δ' Γl Δl:List Nat}{m mr:Nat}{e:Expr}{te:TE}{fe:FE}{pos pos':Pos}{x:Str}{i j:Nat}
end
structure FunL (K:Frag)(x qual:Str)(st:Stmt)(f:Addr)(fd:FuncData)(c:Addr):Prop where
 ex:∃(oc:Value) (od:Option Addr) (kV doc pm:Value) (an:Option Addr) (ct:Value) (osl:Array (Option Value)),
  fd=fnOf x qual (defArgs st) (defBody st) (defScope st) .none kV doc pm an (.ref c) ct∧K.lookup f=some ⟨oc,od,.func fd,osl⟩∧codeIn K (.ref c) qual=true
 kp:keepIn K (.ref f)=true
section
variable {P:Program}{w:World}{K:Frag}{C:String→Addr}{mg:Str→Option Value}{base:Heap}{x qual:Str}{st:Stmt}{f c:Addr}{fd:FuncData}{N ps:List Str}{k n mr:Nat}{Γ' Δ':List Nat}{g:FS}{ts:List (Addr×Pos×Str)}
end
section
variable {X:Cx}{C:String→Addr}{E:XK}{Γ Δ:List Nat}{m n mr k:Nat}{S:List (Nat×Bool)}{x:Str}{p pos:Pos}{e:Expr}{es:List Expr}{t:TA}{ts:List (Addr×Pos×Str)}
end
end L2
namespace L2
open PySem PySem.Spec PyProof.Rows
noncomputable def dropT (T:List Addr)(K:Frag):Frag:=K.filter fun p=>!T.contains p.1
theorem dropT_out {T:List Addr}{a:Addr}(h:T.contains a=true):∀K:Frag,(dropT T K).lookup a=none
 | []=>rfl
 | (b,o)::K=>by
  unfold dropT
  rw [List.filter_cons]
  split
  ·rename_i hb
   rw [lookup_cons]
   split
   ·rename_i e
    have e:=eq_of_beq e
    subst e
    have hb:(!T.contains a)=true:=hb
    rw [h] at hb
    cases hb
   ·exact dropT_out h K
  ·exact dropT_out h K
theorem dropT_get {T:List Addr}{a:Addr}(h:T.contains a=false):∀K:Frag,(dropT T K).lookup a=K.lookup a
 | []=>rfl
 | (b,o)::K=>by
  unfold dropT
  rw [List.filter_cons,lookup_cons]
  split
  ·rw [lookup_cons]
   split
   ·rfl
   ·exact dropT_get h K
  ·rename_i hb
   have hb:¬(!T.contains b)=true:=hb
   split
   ·rename_i e
    have e:=eq_of_beq e
    subst e
    rw [h] at hb
    exact absurd rfl hb
   ·exact dropT_get h K
theorem dropT_in {T:List Addr}{K:Frag}{h:Heap}(x:K.In h):(dropT T K).In h:=fun a o e=>by
 cases q:T.contains a with
 | true=>rw [dropT_out q] at e;cases e
 | false=>rw [dropT_get q] at e;exact x a o e
section
variable {T:List Addr}{K:Frag}{a f c:Addr}{n x qual:Str}{v:Option Value}
theorem dropT_ns (e:nsIn K a n=some v)(h:T.contains a=false:=by decide):nsIn (dropT T K) a n=some v:=by
 unfold nsIn at e ⊢
 rw [dropT_get h]
 exact e
theorem dropT_code (e:codeIn K (.ref c) qual=true)(h:T.contains c=false:=by decide):codeIn (dropT T K) (.ref c) qual=true:=by
 unfold codeIn at e ⊢
 simp only [dropT_get h]
 exact e
theorem dropT_hd {P:Addr}(e:codeHdIn K c P=true)(h:T.contains c=false:=by decide):codeHdIn (dropT T K) c P=true:=by
 unfold codeHdIn at e ⊢
 rw [dropT_get h]
 exact e
theorem dropT_keep {oc:Value}{od:Option Addr}{fd:FuncData}{osl:Array (Option Value)}(l:K.lookup f=some ⟨oc,od,.func fd,osl⟩)(h:T.contains f=false:=by decide):keepIn (dropT T K) (.ref f)=true:=by
 unfold keepIn
 simp only [dropT_get h,l]
theorem fun_mkT {st:Stmt}{oc:Value}{od an:Option Addr}{osl:Array (Option Value)}{kV doc pm ct:Value}(l:K.lookup f=some ⟨oc,od,.func (fnOf x qual (defArgs st) (defBody st) (defScope st) .none kV doc pm an (.ref c) ct),osl⟩)
  (cd:codeIn K (.ref c) qual=true) (hf:T.contains f=false:=by decide) (hc:T.contains c=false:=by decide):FunL (dropT T K) x qual st f (fnOf x qual (defArgs st) (defBody st) (defScope st) .none kV doc pm an (.ref c) ct) c:=
 ⟨⟨oc,od,kV,doc,pm,an,ct,osl,rfl,by rw [dropT_get hf];exact l,dropT_code cd hc⟩,dropT_keep l hf⟩
theorem dropT_look {o:Obj}(l:K.lookup a=some o)(h:T.contains a=false:=by decide):(dropT T K).lookup a=some o:=by
 rw [dropT_get h]
 exact l
end
end L2
namespace L2
open PySem PySem.Spec PyProof.Rows
open Dl (D R FE FT FA FO FS FI FB Fl)
section
variable {K:Frag}{C:String→Addr}{E:XK}{Γ Δ Γ' Δ' Γk Δk:List Nat}{m mr:Nat}{H H2:Hp}
end
section
variable {X:Cx}{C:String→Addr}{E:XK}{Γ Δ Γ' Δ' Γk Δk:List Nat}{m mr:Nat}{e:Expr}{te:TE}{fe:FE}{pos p p1 p2 pa pb pc pd apos cpos:Pos}
end
end L2
namespace L2
open PySem PySem.Spec PyProof.Rows
section
variable {P:Program}{w:World}{H H':Hp}{h h':Heap}{a:Addr}{o:HO}
theorem ObjOk.stayF (x:ObjOk P w H h a o)(ho:∀b,H b=some (.own a)→H' b=some (.own a))(ht:∀b xs,H b=some (.tup xs)→H' b=some (.tup xs))(hf:∀b o,H b=some (.frz o (.own 0))→H' b=some (.frz o (.own 0))):ObjOk P w H' h a o:=by
 induction o with
 | dT kvs =>
  obtain ⟨z,y,xs,r,ob,es,ep,e,c⟩:=x
  exact ⟨z,y,xs,Paired.mapP r fun p q z=>⟨z.1,ht _ _ z.2.1,z.2.2⟩,ob,es,ep,e,c⟩
 | ins C dx fs =>
  obtain ⟨d,r⟩:=x
  exact ⟨ho _ d,r⟩
 | frz ob u ih=>obtain ⟨e,q⟩:=x;exact ⟨e,ih q⟩
 | tbl pos qual =>
  obtain ⟨ps,e,tr,hc⟩:=x
  refine ⟨ps,e,tr,fun v hv=>?_⟩
  obtain ⟨c,o,vs,t,e1,e2,e3⟩:=hc v hv
  exact ⟨c,o,vs,t,e1,hf _ _ e2,e3⟩
 | _=>exact x
end
section
variable {X:Cx}{pins:List (Addr×Obj)}{σ:St}{H H':Hp}{s:Shared}{a:Addr}{u u':HO}{o:Obj}
theorem Inv.unfz (I:Inv X pins σ H s)(e:H a=some (.frz o u))(hu:u≠.own 0)(h0:∀o u,X.H₀ a≠some (.frz o u)):Inv X pins σ (upd H a u) s:=by
 have ne:∀{b:Addr} {v:HO},H b=some v→(∀o u,v≠.frz o u)→b≠a:=fun {b v} hb hv z=>by
  subst z
  rw [e] at hb
  cases hb
  exact hv _ _ rfl
 have nn:∀{b:Addr},H b=none→b≠a:=fun {b} hb z=>by
  subst z
  rw [e] at hb
  cases hb
 refine ⟨I.ok,I.os,I.bare,⟨I.base.keep,I.base.slot,fun b ob q n hx=>?_,I.base.there,fun b xs q=>?_,fun b ob v q=>?_,fun b p q r=>?_⟩,I.loc,I.cell,?_,fun x c q=>?_,fun p hp=>?_,fun b v q=>?_,I.len⟩
 ·have z:=I.base.free b ob q n hx
  rw [upd_ne (nn z)]
  exact z
 ·have z:=I.base.tups b xs q
  rw [upd_ne (ne z fun _ _ y=>nomatch y)]
  exact z
 ·have hb:b≠a:=fun y=>by subst y;exact h0 _ _ q
  rw [upd_ne hb]
  exact I.base.frzs b ob v q
 ·have z:=I.base.tbls b p q r
  rw [upd_ne (ne z fun _ _ y=>nomatch y)]
  exact z
 ·rw [upd_ne (nn I.free)]
  exact I.free
 ·have z:=I.freeC x c q
  rw [upd_ne (nn z)]
  exact z
 ·obtain ⟨p1,p2,p3⟩:=I.pin p hp
  refine ⟨p1,?_,p3⟩
  rw [upd_ne (nn p2)]
  exact p2
 ·have st:∀{b v},ObjOk X.prog X.w H s.heap b v→ObjOk X.prog X.w (upd H a u) s.heap b v:=fun {b v} x=>x.stayF (fun c q=>by rw [upd_ne (ne q fun _ _ y=>nomatch y)];exact q) (fun c xs q=>by rw [upd_ne (ne q fun _ _ y=>nomatch y)];exact q) fun c ob q2=>by
   have hc:c≠a:=fun y=>by
    rw [y,e] at q2
    cases q2
    exact hu rfl
   rw [upd_ne hc]
   exact q2
  by_cases hb:b=a
  ·subst hb
   rw [upd_same] at q
   cases q
   exact st (I.hok b _ e).2
  ·rw [upd_ne hb] at q
   exact st (I.hok b v q)
theorem Inv.fz (I:Inv X pins σ H s)(e:H a=some u)(mu:Mut (H a))(hu:∀b o v,u≠.own b∧u≠.frz o v)(ho:s.heap.get? a=some o):Inv X pins σ (upd H a (.frz o u)) s∧∀o u,X.H₀ a≠some (.frz o u):=by
 refine ⟨?_,fun o' u' q=>?_⟩
 ·have new:ObjOk X.prog X.w (upd H a (.frz o u)) s.heap a (.frz o u):=by
   refine ⟨ho,(I.hok a u e).stayF (fun c q=>?_) (fun c xs q=>?_) fun c ob q=>?_⟩
   ·rw [upd_ne fun z=>by subst z;rw [e] at q;cases q;exact (hu _ o (.own 0)).1 rfl]
    exact q
   ·rw [upd_ne fun z=>by subst z;rw [q] at mu;exact mu]
    exact q
   ·rw [upd_ne fun z=>by subst z;rw [q] at mu;exact mu]
    exact q
  have z:=I.write (x:=a) (e:=a) (t':=s.toks) (h':=s.heap) mu (.inl rfl) (fun b q _ z=>z) ⟨o,ho⟩ new
  exact z
 ·have z:=I.base.frzs a o' u' q
  rw [e] at z
  cases z
  exact (hu 0 o' u').2 rfl
variable {tg:Expr}
end
end L2
namespace L2
open PySem PySem.Spec PyProof.Rows
open Dl (D R FE FT FA FO FS FI FB Fl)
section
variable {K:Frag}{C:String→Addr}{E:XK}{Γ Δ Γl Δl:List Nat}{m m1 m2 m3 mr:Nat}{S S1 S2 S3:List (Nat×Bool)}{H:Hp}
end
section
variable {X:Cx}{C:String→Addr}{E:XK}{Γ Δ Γ' Δ' Γl Δl:List Nat}{m m1 m2 m3 mr:Nat}{S S1 S2 S3:List (Nat×Bool)}{a b c e o:Expr}{ta tb tc te:TE}{fa fb fc fe:FE}{p p2 pos apos cpos:Pos}{n:Nat}
end
section
variable {K:Frag}{C:String→Addr}{E:XK}{Γ Δ Γ' Δ' Γ1 Δ1 Γl Δl Γk Δk:List Nat}{m m1 m2 m3 mr:Nat}{H:Hp}{Q:VK}
end
section
variable {X:Cx}{C:String→Addr}{E:XK}{Γ Δ Γ' Δ' Γl Δl:List Nat}{mr:Nat}{pos p p2 apos cpos:Pos}{e:Expr}{te:TE}{fe:FE}
end
section
variable {K:Frag}{C:String→Addr}{E:XK}{Γ Δ Γ' Δ' Γ1 Δ1 Γl Δl Γk Δk:List Nat}{m m1 m2 m3 mr:Nat}{H:Hp}{Q:VK}
end
section
variable {X:Cx}{C:String→Addr}{E:XK}{Γ Δ Γ' Δ' Γl Δl:List Nat}{m1 m2 mr:Nat}{pos pos2 p1 p2:Pos}{e1 e2:Expr}{t1 t2:TE}{f1 f2:FE}{x y:Str}{ss:List Stmt}{v:TS}{h:FS}
end
end L2
namespace L2
open PySem PySem.Spec PyProof.Rows
open Dl (D R FE FT FA FO FS FI FB FM Fl)
section
variable {K:Frag}{C:String→Addr}{E:XK}{Γ Δ Γ' Δ' Γ1 Δ1 Γl Δl Γk Δk:List Nat}{m m1 m2 m3 mr n:Nat}{S:List (Nat×Bool)}{H:Hp}{Q:VK}
def MOkF (K:Frag)(C:String→Addr)(E:XK)(Γ Δ:List Nat)(i:Nat)(t:TE)(f:FM):Prop:=∀(H0 Hb H:Hp) (σ:St) (ρ:DEnv) (A:Nat→List Addr) (Q:VK),EnvOk K C H0 Hb H Γ Δ σ ρ A→
 Post (f ρ) (fun p=>∀v H' A' B,EnvOk K C H0 Hb H' Γ Δ σ p.2 A'→(∀b o,b∉A i→H b=some o→H' b=some o)→(∀j,j≠i→p.2[j]?=ρ[j]?∧A' j=A j)→Rp K C H' p.1 v B→B.Nodup→(∀a∈B,Hb a=none∧∀j,a∉A' j)→Q v H') (fun c x=>∀H',Same H0 H'→EC C E c x H')→t σ H Q
end
section
variable {X:Cx}{C:String→Addr}{E:XK}{Γ Δ Γ' Δ' Γl Δl:List Nat}{m m2 mr n:Nat}{S2:List (Nat×Bool)}{e:Expr}{es:List Expr}{t:TA}{fa:FA}{pos p p1 p2 p3 p4 p5 apos cpos mpos mapos:Pos}{c:String}{md x y kx:Str}{CX:CXT}{k:Nat}{ps:List Str}{tm:TE}{fm:FM}
structure JMF (X:Cx)(C:String→Addr)(E:XK)(Γ Δ:List Nat)(j:Nat)(e:Expr)(t:TE)(f:FM):Prop where
 q:QE X e t
 o:MOkF X.K C E Γ Δ j t f
end
end L2
namespace L2
open PySem PySem.Spec PyProof.Rows
@[reducible] noncomputable def Cx.blkC (X:Cx)(N2:List Str)(y:Str)(sc:Scope)(cl:List (Str×Addr))(C:Addr)(s0:Shared)(H0:Hp)(fp:List Addr):Cx:=
 {X with N:=N2++[y],s₀:=s0,H₀:=H0,env:=compEnvC sc cl C X.env,outer:=X.stack,ex:=fp,fn:=fun z=>z==y,pn:=[],xe:=fun _ _=>False}
structure BlkC (sc esc:Scope)(y:Str)(N N2:List Str):Prop where
 kind:sc.kind=.function
 cell:∀n acc,cellsFrom n sc.names acc=(y,n)::acc
 one:∀z∈sc.names,z.2=.cell→z.1=y
 nfree:∀z∈sc.names,z.2=.free→z.1≠y
 loc:∀z∈sc.names,z.2=.local→sc.names.lookup z.1=some .local
 free:∀z∈sc.names,z.2=.free→esc.names.lookup z.1=some .cell∨esc.names.lookup z.1=some .free
 out:∀z∈N2,sc.names.lookup z≠some .local∧z≠y
 nd:N.Nodup
 len:N2.length=N.length
 ren:∀p∈N.zip N2,p.2=p.1∨sc.names.lookup p.2=none
section
variable {X:Cx}{elt iter tg:Expr}{y:Str}{pos:Pos}{g:TG}{ifs:List Expr}{sc:Scope}{N2:List Str}{wi:TI}{tc:TT}{te:TE}
end
end L2
namespace L2
open PySem PySem.Spec PyProof.Rows
open Dl (D R FE FT FA FO FS FI FB FM Fl)
section
variable {K:Frag}{C:String→Addr}{E:XK}{Γ Δ:List Nat}{S:List (Nat×Bool)}
end
section
variable {X:Cx}{C:String→Addr}{E:XK}{mr:Nat}{Γ Δ Γ' Δ' Γl Δl:List Nat}{S:List (Nat×Bool)}{n:Nat}{pos:Pos}{elt iter:Expr}{ifs:List Expr}{sc:Scope}{wi:TI}{tc:TT}{te:TE}{gg:TG}{fi:FI}{fc:FT}{fg:FB}{fe:FE}
end
end L2
namespace L2
open PySem PySem.Spec PyProof.Rows
open Dl (D R FE FT FA FO FS FI FB FM FMT Fl)
section
variable {K:Frag}{C:String→Addr}{E:XK}{Γ Δ Γ' Δ' Γ1 Δ1 Γl Δl Γk Δk:List Nat}{m m1 m2 mr n:Nat}{S S1 S2:List (Nat×Bool)}
end
section
variable {X:Cx}{C:String→Addr}{E:XK}{Γ Δ Γ' Δ' Γ1 Δ1 Γk Δk Γl Δl:List Nat}{m m1 m2 mr n k:Nat}{S S1 S2:List (Nat×Bool)}{a b e:Expr}{es:List Expr}{te:TE}{fe:FE}{t:TA}{fa:FA}{tm:TE}{fm:FM}{pos p p1 p2 apos cpos q3:Pos}{x y:Str}{CX:CXT}{ps:List Str}
end
section
variable {K:Frag}{C:String→Addr}{E:XK}{Γ Δ Γ' Δ' Γ1 Δ1 Γl Δl:List Nat}{m mr n:Nat}{S:List (Nat×Bool)}{H:Hp}
theorem EnvOk.away {H0 Hb H H':Hp}{σ:St}{ρ:DEnv}{A:Nat→List Addr}{W:List Addr}(I:EnvOk K C H0 Hb H Γ Δ σ ρ A)(hk:∀b o,b∉W→H b=some o→H' b=some o)(hb:∀a∈W,Hb a=Option.none)(hA:∀k,∀a∈A k,a∉W)(hm:∀a∈W,∀o,H a=some o→IsM o):EnvOk K C H0 Hb H' Γ Δ σ ρ A:=by
 have ext:Ext (fun c=>c∈W) H H':=fun c o h=>by
  by_cases e:c∈W
  ·exact .inr ⟨e,hm c e o h⟩
  ·exact .inl (hk c o e h)
 refine ⟨I.s0,fun c o h=>?_,I.len,fun i d h=>?_,I.nil,I.loc,I.top,I.deep⟩
 ·exact hk c o (fun z=>by rw [hb c z] at h;cases h) (I.same c o h)
 ·obtain ⟨v,e,r⟩:=I.rep i d h
  exact ⟨v,e,r.ext ext fun a ha z=>hA i a ha z⟩
end
section
variable {X:Cx}{C:String→Addr}{E:XK}{Γ Δ Γ' Δ' Γl Δl:List Nat}{m2 mr n k:Nat}{S2:List (Nat×Bool)}{es:List Expr}{t:TA}{ff:FA}{pos p p2 p3 cpos:Pos}{x y z:Str}{CX:CXT}{ps:List Str}
end
section
variable {X:Cx}{C:String→Addr}{E:XK}{Γ Δ:List Nat}{m2:Nat}{S2:List (Nat×Bool)}{a b:Expr}{tm te:TE}{fm:FM}{fe:FE}{pos:Pos}
end
section
variable {K:Frag}{C:String→Addr}{E:XK}{Γ Δ:List Nat}{m n:Nat}{S:List (Nat×Bool)}
def SOkT (K:Frag)(C:String→Addr)(E:XK)(t:TS)(f:FS):Prop:=∀(H0 Hb H:Hp) (σ:St) (ρ:DEnv) (A:Nat→List Addr) (D:Ends),EnvOk K C H0 Hb H [] [] σ ρ A→
  Post (f ρ) (fun fl=>match fl with
    | .ret d=>∀v H' Br,Same H H'→Rp K C H' d v Br→(∀a∈Br,(∃j,a∈A j)∨H a=none)→D.rt v H'
    | _=>False) (fun c x=>∀H',Same H H'→EC C E c x H')→t D σ H
end
structure JTs (X:Cx)(C:String→Addr)(E:XK)(ss:List Stmt)(t:TS)(f:FS):Prop where
 q:QSs X ss t
 o:SOkT X.K C E t f
 n:∀ρ ρ',f ρ≠.ok (.nx ρ')
section
variable {X:Cx}{C:String→Addr}{E:XK}{Γ Δ:List Nat}{m mr n k:Nat}{S:List (Nat×Bool)}{e:Expr}{es:List Expr}{ss:List Stmt}{t:TA}{f:FA}{te:TE}{fe:FE}{u:TS}{g:FS}{pos pos' p:Pos}{x:Str}{CX:CXT}{ps:List Str}
end
end L2
namespace L2
open PySem PySem.Spec PyProof.Rows
open Dl (D R FE FT FA FO FS FI FB FM FMT Fl Pr kLt prLt)
theorem insP_perm (c:Pr):∀l,(Dl.insP c l).Perm (c::l)
 | []=>List.Perm.refl _
 | d::l=>by
  unfold Dl.insP
  split
  ·exact List.Perm.refl _
  ·exact ((insP_perm c l).cons d).trans (List.Perm.swap c d l)
theorem sortP_perm:∀l,(Dl.sortP l).Perm l
 | []=>List.Perm.refl _
 | c::l=>(insP_perm c _).trans ((sortP_perm l).cons c)
theorem insP_up {b:Bool}(c:Pr)(hc:side b c.2):∀l,(∀x∈l,side b x.2)→l.Pairwise (fun x y=>prLt y x=false)→(Dl.insP c l).Pairwise (fun x y=>prLt y x=false)
 | [],_,_=>pairwise_singleton _ _
 | d::l,hs,h=>by
  obtain ⟨h1,h2⟩:=List.pairwise_cons.mp h
  unfold Dl.insP
  split
  ·rename_i q
   refine List.pairwise_cons.mpr ⟨fun y hy=>?_,h⟩
   rcases List.mem_cons.mp hy with e | e
   ·rw [e]
    exact prLt_as q
   ·exact prLt_le hc (hs d (.head _)) (hs y (.tail _ e)) (prLt_as q) (h1 y e)
  ·rename_i q
   refine List.pairwise_cons.mpr ⟨fun y hy=>?_,insP_up c hc l (fun x hx=>hs x (.tail _ hx)) h2⟩
   rcases List.mem_cons.mp ((insP_perm c l).mem_iff.mp hy) with e | e
   ·rw [e]
    exact Bool.eq_false_iff.mpr q
   ·exact h1 y e
theorem sortP_up {b:Bool}:∀l,(∀x∈l,side b x.2)→(Dl.sortP l).Pairwise (fun x y=>prLt y x=false)
 | [],_=>List.Pairwise.nil
 | c::l,hs=>insP_up c (hs c (.head _)) _ (fun x hx=>hs x (.tail _ ((sortP_perm l).mem_iff.mp hx))) (sortP_up l fun x hx=>hs x (.tail _ hx))
theorem prLt_anti {b:Bool}{p q:Pr}(hp:side b p.2)(hq:side b q.2)(h1:prLt q p=false)(h2:prLt p q=false):p=q:=by
 unfold prLt at *
 by_cases e:p.1=q.1
 ·rw [if_pos e.symm] at h1
  rw [if_pos e] at h2
  refine Prod.ext e ?_
  cases ep:p.2 with
  | inl x =>
   cases eq:q.2 with
   | inl y =>
    rw [ep,eq] at h1 h2
    have h1:=of_decide_eq_false (show decide (y<x)=false from h1)
    have h2:=of_decide_eq_false (show decide (x<y)=false from h2)
    rw [show x=y by omega]
   | inr y =>
    rw [ep] at hp
    rw [eq] at hq
    unfold side at hp hq
    rw [hp] at hq;cases hq
  | inr x =>
   cases eq:q.2 with
   | inl y =>
    rw [ep] at hp
    rw [eq] at hq
    unfold side at hp hq
    rw [hp] at hq;cases hq
   | inr y =>
    rw [ep,eq] at h1 h2
    by_cases z:x=y
    ·rw [z]
    ·rcases sLt_tri z with w | w
     ·rw [show kLt (.inr x) (.inr y)=Dl.sLt x y from rfl,w] at h2;cases h2
     ·rw [show kLt (.inr y) (.inr x)=Dl.sLt y x from rfl,w] at h1;cases h1
 ·rw [if_neg fun z=>e z.symm] at h1
  rw [if_neg e] at h2
  have h1:=of_decide_eq_false h1
  have h2:=of_decide_eq_false h2
  exact absurd (show p.1=q.1 by omega) e
theorem sortP_eq {b:Bool}{l l':List Pr}(hs:∀x∈l,side b x.2)(hp:l'.Perm l)(hu:l'.Pairwise (fun x y=>prLt y x=false)):Dl.sortP l=l':=
 List.Perm.eq_of_pairwise (fun x y hx hy h1 h2=>prLt_anti (hs x ((sortP_perm l).mem_iff.mp hx)) (hs y (hp.mem_iff.mp hy)) h1 h2) (sortP_up l hs) hu ((sortP_perm l).trans hp.symm)
def rSortP (K:Frag):List V→Hp→VK→Prop:=fun vs H Q=>∃(a:Addr) (L:List (Addr×Pr)) (b:Bool),vs=[.ref a]∧SqL K H a (L.map fun x=>V.ref x.1)∧(∀x∈L,H x.1=some (.tup [.int x.2.1,kV x.2.2])∧side b x.2.2)∧L.length≤100000∧
 ∀(L':List (Addr×Pr)) (r:Addr),L'.Perm L→(L'.map (·.2)).Pairwise (fun x y=>prLt y x=false)→H r=none→Q (.ref r) (upd H r (.lst (L'.map fun x=>V.ref x.1)))
section
variable {X:Cx}
theorem pr_at {pins:List (Addr×Obj)}{σ:St}{H:Hp}{s:Shared}{b:Bool}{a:Addr}{p:Pr}(I:Inv X pins σ H s)(h:H a=some (.tup [.int p.1,kV p.2]))(hs:side b p.2):IsPr b s.heap (.ref a)∧prOf s.heap (.ref a)=p:=by
 obtain ⟨its,rv,⟨o,h1,h2,n,h3⟩,_⟩:=I.tuple (SqT.of h)
 cases rv with
 | cons r1 rv =>
  cases rv with
  | cons r2 rv =>
   cases rv
   obtain ⟨t,rfl⟩:=r1
   obtain ⟨i,k⟩:=p
   cases k with
   | inl y =>
    obtain ⟨t',rfl⟩:=r2
    exact ⟨⟨a,o,i,t,.int y t',n,rfl,h1,h2,h3,.inl ⟨hs,y,t',rfl⟩⟩,prOf_eq h1 h3⟩
   | inr y =>
    obtain ⟨t',rfl⟩:=r2
    exact ⟨⟨a,o,i,t,.str y t',n,rfl,h1,h2,h3,.inr ⟨hs,y,t',rfl⟩⟩,prOf_eq h1 h3⟩
theorem call_sortedP (hu:X.A.units+64<cLine):CallR X (.builtin "sorted") (rSortP X.K):=by
 intro pins s σ H xs us Q I r h
 obtain ⟨a,L,b,rfl,hq,hL,hl,q⟩:=h
 obtain ⟨u,rfl,rx⟩:=vals1 r
 cases rx
 obtain ⟨its,rv,p,hz⟩:=I.list hq
 have rv':Vals ((L.map (·.1)).map V.ref) its:=by rw [map_map];exact rv
 have ei:=vals_refs rv'
 have hI:∀v∈its,IsPr b s.heap v:=fun v hv=>by
  rw [ei,map_map] at hv
  obtain ⟨x,hx,rfl⟩:=List.mem_map.mp hv
  exact (pr_at I (hL x hx).1 (hL x hx).2).1
 have hlen:its.length≤sizeLine:=by
  rw [ei,length_map,length_map,sizeLine_eq]
  omega
 refine pr_sorted (b:=b) p.isList hI hlen (by omega) fun out q1 q2=>?_
 obtain ⟨e,he⟩:=sortedAll_at s.heap its out
 have hn:H (s.heap.objs.size+1)=none:=I.hok.fresh (le_succ _)
 have eo:out.toList=(out.toList.map adr).map Value.ref:=by
  rw [map_map]
  conv=>lhs;rw [← map_id out.toList]
  refine map_congr_left fun v hv=>?_
  have:=q1.mem_iff.mp hv
  rw [ei] at this
  obtain ⟨b,_,rfl⟩:=List.mem_map.mp this
  rfl
 have pb:(out.toList.map adr).Perm (L.map (·.1)):=by
  have:=q1.map adr
  rw [ei,map_map,show (adr∘Value.ref)=id from rfl,map_id] at this
  exact this
 have cut:∀x∈L,prOf s.heap (.ref x.1)=x.2:=fun x hx=>(pr_at I (hL x hx).1 (hL x hx).2).2
 have eL:L=(L.map (·.1)).map fun b=>(b,prOf s.heap (.ref b)):=by
  rw [map_map]
  conv=>lhs;rw [← map_id L]
  refine map_congr_left fun x hx=>?_
  show x=(x.1,prOf s.heap (.ref x.1))
  rw [cut x hx]
 have pL:((out.toList.map adr).map fun b=>(b,prOf s.heap (.ref b))).Perm L:=by
  conv=>rhs;rw [eL]
  exact pb.map _
 have hs:(((out.toList.map adr).map fun b=>(b,prOf s.heap (.ref b))).map (·.2)).Pairwise (fun x y=>prLt y x=false):=by
  rw [eo,map_map] at q2
  rw [map_map]
  exact q2
 have hv:Vals ((((out.toList.map adr).map fun b=>(b,prOf s.heap (.ref b))).map fun x=>V.ref x.1)) out.toList:=by
  rw [map_map,eo]
  have:=refs_vals (out.toList.map adr)
  rw [show (List.map adr (List.map Value.ref (List.map adr out.toList)))=List.map adr out.toList by rw [map_map,show (adr∘Value.ref)=id from rfl,map_id]]
  exact this
 have hv2:=hv.length
 have I2:=I.laid (t':=s.toks) (o:=.lst ((((out.toList.map adr).map fun b=>(b,prOf s.heap (.ref b))).map fun x=>V.ref x.1))) (h':=sortedAll s.heap its out) (fun b o q=>sortedAll_old q) (le_succ _) ⟨by rw [length_map,pL.length_eq];exact le_trans hl (by decide),out.toList,e,hv,by simpa [seqObj] using he⟩
 exact ⟨.ref (s.heap.objs.size+1),_,I2,rfl,q _ _ pL hs hn⟩
variable {K:Frag}{C:String→Addr}{H:Hp}
theorem prOfD_eq {d:D}{p:Pr}(h:Dl.prOfD d=some p):d=Dl.prD p:=by
 unfold Dl.prOfD at h
 split at h
 ·cases h;rfl
 ·cases h;rfl
 ·cases h
theorem flat_prD (p:Pr):Dl.flat (Dl.prD p)=true:=by
 obtain ⟨i,k⟩:=p
 cases k<;>rfl
theorem pr_rep {p:Pr}{v:V}{B:List Addr}(r:Rp K C H (Dl.prD p) v B):∃b,v=.ref b∧H b=some (.tup [.int p.1,kV p.2])∧Rp K C H (Dl.prD p) (.ref b) []:=by
 have e:=r.flat (flat_prD p)
 subst e
 obtain ⟨b,vs,rfl,h1,h2⟩:=id r
 refine ⟨b,rfl,?_,r⟩
 obtain ⟨x,l,B1,B2,rfl,r1,r2,_⟩:=h2
 obtain ⟨y,l2,B3,B4,rfl,r3,r4,_⟩:=r2
 obtain ⟨rfl,_⟩:=r4
 rw [h1]
 obtain ⟨rfl,_⟩:=r1
 obtain ⟨i,k⟩:=p
 cases k with
 | inl z =>
  obtain ⟨rfl,_⟩:=r3
  rfl
 | inr z =>
  obtain ⟨rfl,_⟩:=r3
  rfl
theorem prs_rep:∀{ds:List D} {cs:List Pr} {ys:List V} {B:List Addr},Dl.prsOf ds=some cs→RpA K C H ds ys B→∃L:List (Addr×Pr),ys=L.map (fun x=>V.ref x.1)∧cs=L.map (·.2)∧∀x∈L,H x.1=some (.tup [.int x.2.1,kV x.2.2])∧Rp K C H (Dl.prD x.2) (.ref x.1) []
 | [],cs,ys,B,e,r=>by
  cases e
  exact ⟨[],r.1,rfl,fun _ h=>nomatch h⟩
 | d::ds,cs,ys,B,e,r=>by
  obtain ⟨p,e1,e⟩:=Option.bind_eq_some_iff.mp (show ((Dl.prOfD d).bind fun c=>(Dl.prsOf ds).bind fun cs=>some (c::cs))=some cs from e)
  obtain ⟨ps,e2,e⟩:=Option.bind_eq_some_iff.mp e
  cases e
  obtain ⟨x,l,B1,B2,rfl,h1,h2,_⟩:=r
  rw [prOfD_eq e1] at h1
  obtain ⟨b,rfl,q1,q2⟩:=pr_rep h1
  obtain ⟨L,rfl,rfl,hL⟩:=prs_rep e2 h2
  refine ⟨(b,p)::L,rfl,rfl,fun x hx=>?_⟩
  rcases List.mem_cons.mp hx with z | z
  ·subst z;exact ⟨q1,q2⟩
  ·exact hL x z
theorem prs_back:∀{L:List (Addr×Pr)},(∀x∈L,Rp K C H (Dl.prD x.2) (.ref x.1) [])→RpA K C H ((L.map (·.2)).map Dl.prD) (L.map fun x=>V.ref x.1) []
 | [],_=>RpA.nil
 | x::L,h=>⟨_,_,[],[],rfl,h x (.head _),prs_back fun y hy=>h y (.tail _ hy),rfl⟩
theorem gak_sortP:GAk K C (rSortP K) Dl.gSortP:=by
  intro H xs d vs Bx Q r e q
  match xs,e with
  | [.lst ds],e =>
    obtain ⟨cs,h1,h2⟩:=Option.bind_eq_some_iff.mp (show ((Dl.prsOf ds).bind fun cs=>if cs.length≤100000∧((cs.all fun p=>p.2.isLeft)=true∨(cs.all fun p=>p.2.isRight)=true) then some (D.lst ((Dl.sortP cs).map Dl.prD)) else none)=some d from e)
    split at h2
    · rename_i hh
      cases h2
      obtain ⟨v,l,B1,B2,rfl,r1,r2,_⟩:=r
      obtain ⟨rfl,_⟩:=r2
      obtain ⟨a,ys,B',rfl,e2,e3,_⟩:=r1
      obtain ⟨L,rfl,rfl,hL⟩:=prs_rep h1 e3
      obtain ⟨b,hb⟩:∃b:Bool,∀x∈L,side b x.2.2:=by
        rcases hh.2 with z | z
        · refine ⟨true,fun x hx=>?_⟩
          have:=List.all_eq_true.mp z x.2 (List.mem_map.mpr ⟨x,hx,rfl⟩)
          cases e:x.2.2 with
          | inl i=>rfl
          | inr i=>rw [e] at this;cases this
        · refine ⟨false,fun x hx=>?_⟩
          have:=List.all_eq_true.mp z x.2 (List.mem_map.mpr ⟨x,hx,rfl⟩)
          cases e:x.2.2 with
          | inr i=>rfl
          | inl i=>rw [e] at this;cases this
      refine ⟨a,L,b,rfl,SqL.of e2,fun x hx=>⟨(hL x hx).1,hb x hx⟩,by have:=hh.1;rwa [length_map] at this,fun L' r pL hs hr=>?_⟩
      have es:Dl.sortP (L.map (·.2))=L'.map (·.2):=sortP_eq (b:=b) (fun x hx=>by
        obtain ⟨y,hy,rfl⟩:=List.mem_map.mp hx
        exact hb y hy) (pL.map _) hs
      have g2:=sameNew hr (.lst (L'.map fun x=>V.ref x.1))
      rw [es] at q
      refine q _ _ [r] g2 ⟨r,_,[],rfl,upd_same,(prs_back fun x hx=>(hL x (pL.mem_iff.mp hx)).2).same g2,rfl⟩ (List.nodup_cons.mpr ⟨(fun z=>nomatch z),nodup_nil⟩) fun a ha=>?_
      rw [List.mem_singleton.mp ha]
      exact hr
    · cases h2
end
end L2
namespace L2
open PySem PySem.Spec PyProof.Rows
open Dl (D R FE FT FA FO FS FI FB FM FMT Fl)
section
variable {X:Cx}
noncomputable def rDNot:R2:=fun x y H Q=>∃a o,y=.ref a∧DGet H a x o∧Q (.bl (!o.isSome)) H
theorem op_dnot (hu:X.A.units+64<cLine):OpR X (compareOp .NotIn) rDNot:=by
 intro pins s σ H x y v u Q I rx ry h
 obtain ⟨a,o,rfl,g,q⟩:=h
 cases (show u=Value.ref a from ry)
 exact d_notIn (by omega) I g rx fun s3 I3=>⟨.bl (!o.isSome),H,I3,rfl,q⟩
variable {K:Frag}{C:String→Addr}
theorem gok_tnot:GOk K C rDNot Dl.gTNotIn:=by
 intro H x y d vx vy Bx By Q rx ry e q
 unfold Dl.gTNotIn at e
 split at e
 ·rename_i ks ds
  obtain ⟨k,hk,e⟩:=Option.map_eq_some_iff.mp e
  cases e
  obtain ⟨a,xs,B,rfl,h1,h2,h3,_⟩:=ry
  obtain ⟨b,rfl,hb⟩:=keyT_at hk rx
  refine ⟨a,_,rfl,DGet.t h1 hb,?_⟩
  rw [← valV_any,anyT_zip (by rw [h2,h3.len])]
  exact Out.flat q rpB
 ·cases e
end
end L2
namespace L2
open PySem PySem.Spec PyProof.Rows
section
variable {prog:Program}{w:World}{A:Around}{E:Value→Shared→Prop}{s:Shared}
theorem keys_item {it d:Addr}{i ep:Nat}{od:Obj}{es:Array DictEntry}{Q:Option Value→Shared→Prop}(hit:s.heap.IsKeyIter it d i es.size ep)(hod:s.heap.get? d=some od)(hdd:od.data=.dict es ep)(hi:i<es.size)
  (q:∀h',h'.IsKeyIter it d (i+1) es.size ep→Heap.SameBut it s.heap h'→Q (some es[i].key) {s with heap:=h'}):wpAny (model prog w) A (pyNext (.ref it)) Q E s:=by
 obtain ⟨o,ho,hc,hd⟩:=id hit
 have T:=hit.typeIs
 have hit':(s.heap.update it (Obj.mapFields (·.setIfInBounds 1 (rawInt ((i:Int)+1))))).IsKeyIter it d (i+1) es.size ep:=⟨_,Heap.get?_update_self _ ho (Obj.isFreed_of_fields (Obj.data_mapFields hd _)),(Obj.cls_mapFields ..).trans hc,by rw [Obj.data_mapFields hd];simp [rawInt]⟩
 unfold pyNext
 refine wpAny_bind (wpAny_attempt (wpAny_callSpecial?_slot (name:=Str.ofString "__next__") T F.slot_dict_keyiterator_next (wpAny_call_entry F.slot_dict_keyiterator_next T F.entry_dict_keyiterator_next (wpAny_bind (wpAny_pure (wpAny_bind (wpAny_bind ?_)))) (F.args_dict_keyiterator_next_1 _))))
 first | refine wpAny_bind (wpAny_typeNameOfWhole_keyiter T (wpAny_pure (wpAny_bind (wpAny_fieldsOf ho hd ?_)))) | refine wpAny_bind (wpAny_typeNameOf_keyiter T (wpAny_pure (wpAny_bind (wpAny_fieldsOf ho hd ?_))))
 simp only [show Builtin.Dict_items.ownsTuple "dict_keyiterator"=false by decide,Bool.false_eq_true,if_false]
 change wpAny _ _ (ite ((Value.ref d==Value.none)=true) _ _) _ _ s
 rw [if_neg fun z:(Value.ref d==Value.none)=true=>Bool.false_ne_true z]
 refine wpAny_bind (wpAny_pure (wpAny_bind (wpAny_dictEntries hod hdd ?_)))
 rw [if_neg (by simp)]
 refine wpAny_bind (wpAny_pure (wpAny_bind (wpAny_dictEpoch hod hdd ?_)))
 rw [if_neg (by simp)]
 refine wpAny_pure ?_
 simp only [show ¬((i:Int)<0) from by omega,if_false,toNat_natCast,Array.getElem?_eq_getElem hi]
 refine wpAny_bind ?_
 first | refine wpAny_bind (wpAny_typeNameOfWhole_keyiter T (wpAny_pure (wpAny_bind (wpAny_isOneOf_keyiter T ?_)))) | refine wpAny_bind (wpAny_typeNameOf_keyiter T (wpAny_pure (wpAny_bind (wpAny_isOneOf_keyiter T ?_))))
 change wpAny _ _ (setField (.ref it) 1 (rawInt ((i:Int)+1)) >>= _) _ _ s
 refine wpAny_bind (wpAny_setField ho hd (by simp) (wpAny_bind (wpAny_holding (wpAny_bind (wpAny_isOneOf_keyiter (s:={s with heap:=s.heap.update it (Obj.mapFields (·.setIfInBounds 1 (rawInt ((i:Int)+1))))}) hit'.typeIs ?_)))))
 change wpAny _ _ (pure es[i].key) _ _ _
 exact wpAny_pure (wpAny_pure ⟨_,rfl,wpAny_pure (q _ hit' (Heap.SameBut.update ..))⟩)
theorem keys_end {it d:Addr}{i ep:Nat}{od:Obj}{es:Array DictEntry}{Q:Option Value→Shared→Prop}(hh:A.handled=none)(hit:s.heap.IsKeyIter it d i es.size ep)(hod:s.heap.get? d=some od)(hdd:od.data=.dict es ep)(hi:es.size≤i)
  (q:∀h',Heap.ExtBut it s.heap h'→Q none {s with heap:=h'}):wpAny (model prog w) A (pyNext (.ref it)) Q E s:=by
 obtain ⟨o,ho,hc,hd⟩:=id hit
 have T:=hit.typeIs
 unfold pyNext
 refine wpAny_bind (wpAny_attempt (wpAny_callSpecial?_slot (name:=Str.ofString "__next__") T F.slot_dict_keyiterator_next (wpAny_call_entry F.slot_dict_keyiterator_next T F.entry_dict_keyiterator_next (wpAny_bind (wpAny_pure (wpAny_bind (wpAny_bind ?_)))) (F.args_dict_keyiterator_next_1 _))))
 first | refine wpAny_bind (wpAny_typeNameOfWhole_keyiter T (wpAny_pure (wpAny_bind (wpAny_fieldsOf ho hd ?_)))) | refine wpAny_bind (wpAny_typeNameOf_keyiter T (wpAny_pure (wpAny_bind (wpAny_fieldsOf ho hd ?_))))
 simp only [show Builtin.Dict_items.ownsTuple "dict_keyiterator"=false by decide,Bool.false_eq_true,if_false]
 change wpAny _ _ (ite ((Value.ref d==Value.none)=true) _ _) _ _ s
 rw [if_neg fun z:(Value.ref d==Value.none)=true=>Bool.false_ne_true z]
 refine wpAny_bind (wpAny_pure (wpAny_bind (wpAny_dictEntries hod hdd ?_)))
 rw [if_neg (by simp)]
 refine wpAny_bind (wpAny_pure (wpAny_bind (wpAny_dictEpoch hod hdd ?_)))
 rw [if_neg (by simp)]
 refine wpAny_pure ?_
 simp only [show ¬((i:Int)<0) from by omega,if_false,toNat_natCast,Array.getElem?_eq_none hi]
 refine wpAny_bind ?_
 first | refine wpAny_bind (wpAny_typeNameOfWhole_keyiter T (wpAny_pure ?_)) | refine wpAny_bind (wpAny_typeNameOf_keyiter T (wpAny_pure ?_))
 change wpAny _ _ (setField (.ref it) 0 .none >>= _) _ _ s
 apply wpAny_bind
 refine wpAny_setField ho hd (by simp) ?_
 change wpAny _ _ (newExc (.type "StopIteration") [] >>= _) _ _ _
 refine wpAny_bind ?_
 simp only [newExc,newTuple]
 refine wpAny_bind (wpAny_newObj_type (wpAny_bind (m:=firstArgMember _ _) (wpAny_of_eq (a:=Value.none) (by first | rfl | (simp only [firstArgMember];rfl)) (wpAny_newObj_type ?_ (by size_fits)))) (by size_fits))
 simp only [raiseNew]
 apply wpAny_bind
 refine wpAny_handled ?_
 have h9:A.in1.handled=none:=hh
 rw [h9]
 refine wpAny_bind (wpAny_pure (wpAny_throw ?_))
 exact wpAny_bind (wpAny_isInstance (T:="StopIteration") (b:=true) ⟨_,get?_push_size _ rfl,rfl⟩ isSubtype_stop (wpAny_pure (q _ (((Heap.SameBut.update ..).extBut.push _).push _))))
theorem keys_iter {d:Addr}{ep:Nat}{od:Obj}{es:Array DictEntry}{Q:Value→Shared→Prop}(hs:(d==sysModules)=false)(hod:s.heap.get? d=some od)(hx:od.ExactDict)(hdd:od.data=.dict es ep)
  (q:Q (.ref s.heap.objs.size) {s with heap:=s.heap.push {cls:=.type "dict_keyiterator",data:=.fields #[.ref d,.int 0 0,.int es.size 0,.int ep 0]}}):wpAny (model prog w) A (pyIter (.ref d)) Q E s:=by
 have T:s.TypeIs (.ref d) "dict":=⟨od,hod,hx.1⟩
 refine wpAny_pyIter_slot T F.slot_dict_iter (wpAny_call_entry F.slot_dict_iter T F.entry_dict_iter ?_ (F.args_dict_iter_1 _))
 unfold Builtin.«dict.__iter__» Builtin.Dict.dictSlotNone
 refine wpAny_bind (wpAny_bind (wpAny_notOrdered_dict T ?_))
 change wpAny _ _ (pure (Value.ref d)) _ _ s
 refine wpAny_pure ?_
 change wpAny _ _ (Builtin.Dict.showsAll d >>= _) _ _ s
 unfold Builtin.Dict.showsAll
 rw [if_neg (by rw [hs];exact Bool.false_ne_true)]
 refine wpAny_bind (wpAny_pure (wpAny_bind (wpAny_dictEntries hod hdd (wpAny_bind (wpAny_dictEpoch hod hdd (wpAny_bind (wpAny_newObj_type (wpAny_pure ⟨_,rfl,"dict_keyiterator",_,⟨_,get?_push_size _ rfl,rfl⟩,F.slot_dict_keyiterator_next.lookup,?_⟩))))))))
 simpa [rawInt] using q
end
noncomputable def ItDt (a:Addr)(o:Obj)(kvs:List (List Key×V)):It:=
 ⟨fun i H=>H a=some (.frz o (.dT kvs))∧i<kvs.length,fun i H x H'=>H'=H∧∃kv b,kvs[i]?=some kv∧x=.ref b∧H b=some (.tup (kv.1.map kV)),fun i H=>H a=some (.frz o (.dT kvs))∧kvs.length=i⟩
theorem Paired.at_ {α β:Type}{R:α→β→Prop}:∀{l:List α} {m:List β} {i:Nat} {p:α},Paired R l m→l[i]?=some p→∃q,m[i]?=some q∧R p q
 | _,_,_,_,.nil,e=>by simp at e
 | _,_,0,_,.cons (b:=q) r _,e=>by simp at e;subst e;exact ⟨q,rfl,r⟩
 | _,_,i+1,p,.cons _ t,e=>by
  obtain ⟨q,h1,h2⟩:=Paired.at_ (i:=i) (p:=p) t (by simpa using e)
  exact ⟨q,by simpa using h1,h2⟩
theorem turn_dictT {P:Program}{w:World}{K:Frag}{tg:Expr}(a it:Addr)(o:Obj)(kvs:List (List Key×V))(es:Array DictEntry)(ep:Nat)(h2:o.data=.dict es ep)(hn:es.size=kvs.length) :
  Turn P w K tg (ItDt a o kvs) [it] it (fun i h=>h.IsKeyIter it a i es.size ep) where
 mem:=by simp
 obj:=fun i h st b hb=>by
  have e:b=it:=by simpa using hb
  subst e
  obtain ⟨o,e,c,d⟩:=st
  exact ⟨o,e,fun v z=>by rw [d] at z;cases z⟩
 keep:=fun i h h' st k=>st.at fun o e=>k it (by simp) o e
 item:=by
  intro X hP hw hK hc i pins s σ H E I hf st hg
  subst hP hw hK
  obtain ⟨f0,f1,f2,f3,f4,f5⟩:=hf it (by simp)
  obtain ⟨hfz,hi⟩:=hg
  obtain ⟨ho,hob⟩:=I.hok a _ hfz
  obtain ⟨_,_,xs,r,o',es',ep',e1,_,e3,e4,_⟩:=hob
  rw [ho] at e1
  cases e1
  rw [h2] at e3
  cases e3
  have hk:kvs[i]?=some kvs[i]:=getElem?_eq_getElem hi
  obtain ⟨q,hq1,hq2,hq3,_⟩:=Paired.at_ r hk
  have hie:i<es.size:=by omega
  have ek:es[i].key=.ref q.2.1:=by
   have:es.toList[i]?=some (entryOfKey (tupleKind (mixKind X.prog X.w)) q):=by rw [e4,getElem?_map,hq1];rfl
   rw [getElem?_eq_getElem (by simpa using hie)] at this
   have z:=Option.some.inj this
   rw [Array.getElem_toList] at z
   rw [z]
   rfl
  refine keys_item st ho h2 hie fun h' st' sb=>?_
  have I1:Inv X pins σ H {s with heap:=h'}:=I.turned (t':=s.toks) (fun b o hb e=>(sb.2 b hb).trans e) f0 f1 f3 f4 f5
  obtain ⟨o',e,c,d⟩:=id st'
  rw [ek]
  exact ⟨.ref q.2.1,rfl,go_of (s:={s with heap:=h'}) e c d (by decide) ⟨.ref q.2.1,H,I1,rfl,⟨rfl,kvs[i],q.2.1,hk,rfl,hq3⟩,st',fun b hb=>(hf b hb).1⟩⟩
 done:=by
  intro X hP hw hK hc i pins s σ H E I hf st hg
  subst hP hw hK
  obtain ⟨f0,f1,f2,f3,f4,f5⟩:=hf it (by simp)
  obtain ⟨hfz,hi⟩:=hg
  have ho:=(I.hok a _ hfz).1
  exact keys_end (I.ok.hd hc) st ho h2 (by omega) fun h' eb=>⟨rfl,I.turned (t':=s.toks) (fun b o hb e=>eb b o hb e) f0 f1 f3 f4 f5⟩
 self:=fun _ _ _ _ _ st h=>wpAny_pyIter_keyiter st h
section
variable {X:Cx}{tg:Expr}
noncomputable def iDictT (tl:TE):TI:=fun σ H R=>tl σ H fun x H1=>∃a kvs,x=.ref a∧H1 a=some (.dT kvs)∧∀o,R (ItDt a o kvs) (upd H1 a (.frz o (.dT kvs)))
theorem pi_dictT {l:Expr}{tl:TE}(hl:PE X l tl):PI X tg l (iDictT tl):=by
 intro pins s σ H R I h
 refine thn (hl pins s σ H _ I h) fun v s1 hz9=>?_
 obtain ⟨x,H1,I1,r1,a,kvs,e,hq,q⟩:=hz9
 subst e
 cases r1
 obtain ⟨z,hd,xs,r,o,es,ep,ho,h1,h2,h3,_⟩:=I1.hok a _ hq
 have hn:es.size=kvs.length:=by
  rw [← length_toList,h3,length_map]
  exact (Paired.length r).symm
 refine keys_iter hd ho h1 h2 ?_
 have I2:=(I1.fz hq (by rw [hq];trivial) (fun _ _ _=>⟨(fun z=>nomatch z),(fun z=>nomatch z)⟩) ho).1
 refine ⟨s1.heap.objs.size,[s1.heap.objs.size],_,_,_,rfl,I2.kept (t':=s1.toks) fun b o e=>get?_push_of_some _ e,turn_dictT a _ o kvs es ep h2 hn,⟨_,get?_push_size _ rfl,rfl,rfl⟩,fun b hb=>?_,q o⟩
 have e:b=s1.heap.objs.size:=by simpa using hb
 subst e
 exact I2.fpOk (le_refl _) (I2.hok.fresh (le_refl _))
def tUS (i:Nat)(ts:TS):TS:=fun D σ H=>∃a kvs,σ[i]?=some (some (.ref a))∧H a=some (.dT kvs)∧ts {D with nx:=fun σ' H'=>∃o,H' a=some (.frz o (.dT kvs))∧D.nx σ' (upd H' a (.dT kvs)),rt:=fun v H'=>∃o,H' a=some (.frz o (.dT kvs))∧D.rt v (upd H' a (.dT kvs)),bk:=fun _ _=>False,ct:=fun _ _=>False} σ H
theorem ps_us {st:Stmt}{ts:TS}{i:Nat}(h:PS X st ts):PS X st (tUS i ts):=by
 intro pins s σ H D I hq
 obtain ⟨a,kvs,e1,e2,hq⟩:=hq
 have nf:∀o u,X.H₀ a≠some (.frz o u):=fun o' u' z=>by
  have:=I.base.frzs a o' u' z
  rw [e2] at this
  cases this
 refine thn (h pins s σ H _ I hq) fun f s1 hz=>?_
 cases f with
 | next =>
  obtain ⟨σ',H',I',o,hz,q⟩:=hz
  exact ⟨σ',_,I'.unfz hz (fun z=>(nomatch z)) nf,q⟩
 | ret u =>
  obtain ⟨v,σ',H',I',rv,o,hz,q⟩:=hz
  exact ⟨v,σ',_,I'.unfz hz (fun z=>(nomatch z)) nf,rv,q⟩
 | brk =>
  obtain ⟨_,_,_,z⟩:=hz
  exact z.elim
 | cont =>
  obtain ⟨_,_,_,z⟩:=hz
  exact z.elim
end
open Dl (D R FE FT FA FO FS FI FB FM FMT Fl) in
section
variable {K:Frag}{C:String→Addr}{E:XK}{Γ Δ Γ' Δ' Γk Δk:List Nat}{mr:Nat}
theorem rpA_key {H:Hp}:∀{k:List Key},k.all Dl.kOk=true→RpA K C H (k.map Dl.kdD) (k.map kV) []
 | [],_=>RpA.nil
 | x::k,h=>by
  rw [List.all_cons,Bool.and_eq_true] at h
  refine ⟨_,_,[],[],rfl,?_,rpA_key h.2,rfl⟩
  cases x with
  | inl i=>exact ⟨rfl,rfl⟩
  | inr z=>exact ⟨rfl,h.1,rfl⟩
theorem sok_walkT {i j:Nat}{tc:TT}{fc:Dl.FT}{b:Bool}(hc:TOk K C E0 [] [] tc fc)(hi:i∈Γ)(h3:∀k∈Γ',k∈Γ∧k≠j)(h4:∀k∈Δ',k∈Δ∧k≠j) :
    SOk K C E mr Γk Δk Γ Δ Γ' Δ' (tUS i (tFor (iDictT (tVar i)) (gName j) (tIfS tc (tRet (tC (.bl b))) tNext))) (Dl.sForT i j fc b):=fun H0 Hb H σ ρ A D I p=>by
  unfold Dl.sForT at p
  split at p
  · rename_i ks ds ed
    split at p
    · rename_i hh
      obtain ⟨hok,hjl,hij⟩:=hh
      obtain ⟨v,hs,a,xs,B,rfl,h1,h2,h5,hA⟩:=I.rep i _ ed
      obtain ⟨t1,t2,t3⟩:=I.top i hi a B hA
      have hl:ks.length=xs.length:=by rw [h2,h5.len]
      have hzl:(ks.zip xs).length=ks.length:=by rw [List.length_zip,hl,Nat.min_self]
      have hza:∀n,(hn:n<ks.length)→∃x,(ks.zip xs)[n]?=some (ks[n],x):=fun n hn=>⟨xs[n]'(by omega),by rw [List.getElem?_zip_eq_some];exact ⟨getElem?_eq_getElem hn,getElem?_eq_getElem _⟩⟩
      have I1:=(I.weak (Γ':=[]) (Δ':=[]) (fun _ z=>nomatch z) (fun _ z=>nomatch z)).dead (j:=i) (σ':=σ) rfl (fun _ _=>rfl) (fun z=>nomatch z) (fun z=>nomatch z)
      refine ⟨a,ks.zip xs,hs,h1,?_⟩
      refine ⟨.ref a,hs,a,ks.zip xs,rfl,h1,fun o=>?_⟩
      have I2:=I1.away (H':=upd H a (.frz o (.dT (ks.zip xs)))) (W:=[a]) (fun b ob hb h=>by rw [upd_ne fun z=>hb (by rw [z];exact .head _)];exact h) (fun c hc=>by rw [List.mem_singleton.mp hc];exact t1) (fun k c hck hcm=>by
        rw [List.mem_singleton.mp hcm] at hck
        by_cases ek:k=i
        · rw [if_pos ek] at hck;cases hck
        · rw [if_neg ek] at hck;exact t3 k ek hck) (fun c hcm ob h=>by
        rw [List.mem_singleton.mp hcm,h1] at h
        cases h
        exact .dtt)
      have back:∀{H'},Same (upd H a (.frz o (.dT (ks.zip xs)))) H'→H' a=some (.frz o (.dT (ks.zip xs)))∧Same H (upd H' a (.dT (ks.zip xs))):=fun {H'} g=>⟨g _ _ upd_same,fun c ob h=>by
        by_cases e:c=a
        · subst e
          rw [h1] at h
          cases h
          exact upd_same
        · rw [upd_ne e]
          exact g _ _ (by rw [upd_ne e];exact h)⟩
      have nj1:j∉Γ':=fun z=>(h3 j z).2 rfl
      have nj2:j∉Δ':=fun z=>(h4 j z).2 rfl
      refine ⟨fun k m σ' H'=>m=ks.length - k∧k≤ks.length∧Same (upd H a (.frz o (.dT (ks.zip xs)))) H'∧σ'.length=σ.length∧(∀n,n≠j→σ'[n]?=σ[n]?)∧PostS K C E mr Γk Δk Γ' Δ' H0 Hb D (Dl.forT i j fc b ρ (ks.drop k)),⟨ks.length,rfl,zero_le _,Same.refl _,rfl,fun _ _=>rfl,p⟩,?_⟩
      rintro k m σ' H' ⟨rfl,hk,g,hsl,hsn,pq⟩
      obtain ⟨bk1,bk2⟩:=back g
      by_cases hlt:k<ks.length
      · right
        refine ⟨⟨bk1,by rw [hzl];exact hlt⟩,fun σ2 H2=>Same (upd H a (.frz o (.dT (ks.zip xs)))) H2∧σ2.length=σ.length∧(∀n,n≠j→σ2[n]?=σ[n]?)∧PostS K C E mr Γk Δk Γ' Δ' H0 Hb D (Dl.forT i j fc b ρ (ks.drop (k+1))),fun σ2 H2 z=>⟨ks.length - (k+1),by omega,rfl,hlt,z⟩,fun x H2 hy=>?_⟩
        obtain ⟨e2,kv,c,hkv,e3,hb⟩:=hy
        subst e2 e3
        obtain ⟨x,hx⟩:=hza k hlt
        rw [hx] at hkv
        cases hkv
        have hrk:Rp K C H2 (.tup (ks[k].map Dl.kdD)) (.ref c) []:=⟨c,_,rfl,hb,rpA_key (List.all_eq_true.mp hok _ (getElem_mem hlt))⟩
        rw [drop_eq_getElem_cons hlt] at pq
        have pq:=calm_of (Post.bind (show Post ((fc ((ρ.set i none).set j (some (.tup (ks[k].map Dl.kdD))))).calm.bind fun t=>if t=true then R.ok (Fl.ret (.bl b)) else Dl.forT i j fc b ρ (ks.drop (k+1))) _ _ from pq))
        have I3:=(I2.mono g).dead (j:=j) (σ':=σ') hsl hsn (fun z=>nomatch z) (fun z=>nomatch z)
        obtain ⟨A4,I4,_⟩:=I3.put (Γ':=[]) (Δ':=[]) (i:=j) hrk (fun _ h=>nomatch h) (fun h=>nomatch h) (fun _ h=>nomatch h) (fun h=>nomatch h)
        rw [List.set_set] at I4
        refine hc _ _ _ _ _ _ _ I4 (Post.imp pq (fun t q H5 g5=>?_) fun _ _ z=>z.elim)
        cases t with
        | true =>
          obtain ⟨c1,c2⟩:=back (g.trans g5)
          exact ⟨o,c1,q _ _ (I.same.trans c2 |> fun z=>I.s0.trans z) (Res.flat ⟨rfl,rfl⟩)⟩
        | false=>exact ⟨g.trans g5,by rw [length_set];exact hsl,fun n hn=>by rw [getElem?_set_ne fun z=>hn z.symm];exact hsn n hn,q⟩
      · left
        have e:k=ks.length:=by omega
        subst e
        rw [List.drop_length] at pq
        refine ⟨⟨bk1,hzl⟩,o,bk1,?_⟩
        have I5:=((I.mono bk2).weak (Γ':=Γ') (Δ':=Δ') (fun k hk=>(h3 k hk).1) (fun k hk=>(h4 k hk).1)).dead (j:=j) (σ':=σ') hsl hsn nj1 nj2
        exact pq σ' _ _ I5
    · exact p.elim
  · exact p.elim
end
section
variable {X:Cx}{C:String→Addr}{E:XK}{Γ Δ Γ' Δ' Γk Δk:List Nat}{mr:Nat}{c e:Expr}{tA:TT}{fA:Dl.FT}{pos p p1 ip rp:Pos}{x y:Str}
theorem cs_walkT {i j:Nat}{b:Bool}(hp:PassesOwn (model X.prog X.w) X.A X.env X.xe)(hcalm:X.calm=true)(ht:JT X C E0 [] [] c tA fA)(he:QE X e (tC (.bl b)))
  (hN:X.N.Nodup) (hi:X.N[i]?=some x) (hj:X.N[j]?=some y) (hy:Loc X.env.scope y) (hf:autoParam (X.fn y=true∨X.env.scope.names.lookup y=some .local) aT0._auto_1)
  (hv:autoParam (Vis X.env.scope x) aT3._auto_1) (hd:(x==("__debug__":Str))=false:=by decide) (hcd:(x==("__classdict__":Str))=false:=by decide)
  (hiΓ:i∈Γ:=by decide) (h3:∀k∈Γ',k∈Γ∧k≠j:=by decide) (h4:∀k∈Δ',k∈Δ∧k≠j:=by decide) (hs:∀z,foldedSetIterable (.Name x p) X.env z=pure z:=by intro _;rfl) :
  JS X C E mr Γk Δk Γ Δ Γ' Δ' (.For (.Name y p1) (.Name x p) [.If c [.Return (some e) rp] [] ip] [] pos) (tUS i (tFor (iDictT (tVar i)) (gName j) (tIfS tA (tRet (tC (.bl b))) tNext))) (Dl.sForT i j fA b):=
 ⟨⟨ps_us (qs_for hp hcalm ⟨pi_dictT (qv i hi hv hd hcd).out⟩ (qg_name hN hj hy hf) (qss_one (qs_if ht.q (qss_one (qs_ret he)) qss_nil)) hs).out⟩,sok_walkT ht.o hiΓ h3 h4⟩
end
end L2
namespace Dl
open PySem
noncomputable def q_spoilt:FS:=
  (sSeq (sIf (cOr (cE (f2 gLt (fV 1) (fC (.int 0)))) (cOr (cE (f2 gGt (fV 2) (fA gLen (aCons (fV 0) aNil)))) (cE (f2 gGt (fV 1) (fV 2))))) sNever sNx)
    (sRet (fA gSum (aCons (fSl gSl (fV 0) (oSome (fV 1)) (oSome (fV 2))) aNil))))
noncomputable def F_spoilt (ds:List D):R D:=(run 3 q_spoilt ds).calm
noncomputable def q_turned:FS:=
 (sRet (f1 gLRev (fV 0)))
noncomputable def F_turned (ds:List D):R D:=(run 1 q_turned ds).calm
noncomputable def l_kind_of_1:FS:=
 (sIf (cE (f2 gEq (f2 gIx (fV 2) (fC (.int 0))) (fV 1))) (sRet (f1 gFlat (fV 2))) sNx)
noncomputable def q_kind_of:FS:=
  (sSeq (sFor (jList (fV 0)) (bName 2) l_kind_of_1)
    sNever)
noncomputable def F_kind_of (ds:List D):R D:=(run 3 q_kind_of ds).calm
noncomputable def l__law_cell_4:FS:=
 (sSet 2 (f2 gMod (f2 gAdd (f2 gAdd (f2 gMul (fV 2) (fC (.int 48271))) (f2 gMod (fV 3) (fC (.int 1000003)))) (fC (.int 1))) (fC (.int 2147483647))))
noncomputable def q__law_cell:FS:=
  (sSeq (sIf (cE (f2 gLt (fV 1) (fA gLen (aCons (fV 0) aNil)))) (sRet (f1 gFlat (f2 gIx (fV 0) (fV 1)))) sNx)
    (sSeq (sSet 2 (fC (.int 5)))
    (sSeq (sFor (jList (fSl gSl (fV 0) oNone (oSome (fC (.int 63))))) (bName 3) l__law_cell_4)
    (sRet (f2 gMod (f2 gAdd (fV 2) (f2 gMul (fC (.int 7919)) (fV 1))) (fC (.int 1000003)))))))
noncomputable def F__law_cell (ds:List D):R D:=(run 4 q__law_cell ds).calm
noncomputable def q__law_mix:FS:=
  (sSeq (sSet 2 (f2 gMod (f2 gPow (f2 gAdd (f2 gAdd (f2 gMod (fV 0) (fC (.int 2147483629))) (f2 gMul (fC (.int 1013)) (fV 1))) (fC (.int 7919))) (fC (.int 3))) (fC (.int 2147483647))))
    (sSeq (sSet 3 (f2 gMod (f2 gAdd (f2 gAdd (f2 gMul (fV 2) (fC (.int 40699))) (f2 gMul (f2 gMul (fC (.int 3793)) (fV 1)) (fV 1))) (fC (.int 11))) (fC (.int 2147483399))))
    (sRet (f2 gDiv (fV 3) (fC (.int 101))))))
noncomputable def F__law_mix (ds:List D):R D:=(run 4 q__law_mix ds).calm
noncomputable def q__law_is_whole:FS:=
 (sRet (fAnd (f1 (gIsI "int") (fV 0)) (f1 gNot (f1 (gIsI "bool") (fV 0)))))
noncomputable def F__law_is_whole (ds:List D):R D:=(run 1 q__law_is_whole ds).calm
noncomputable def q_changed:FS:=
  (sSeq (sIf (cNot (cE (fChain gLe gLt (fC (.int 0)) (fV 1) (fA gLen (aCons (fV 0) aNil))))) sNever sNx)
    (sSeq (sSet 3 (fA gList (aCons (fV 0) aNil)))
    (sSeq (sPut 3 (fV 1) (fV 2))
    (sRet (fV 3)))))
noncomputable def F_changed (ds:List D):R D:=(run 4 q_changed ds).calm
noncomputable def l_joined_2:FS:=
 (sExtF 1 (fV 2))
noncomputable def q_joined:FS:=
  (sSeq (sSet 1 (fA gLst aNil))
    (sSeq (sFor (jList (fV 0)) (bName 2) l_joined_2)
    (sSeq (sIf (cE (f2 gGt (fA gLen (aCons (fV 1) aNil)) (fC (.int 200)))) sNever sNx)
    (sRet (fV 1)))))
noncomputable def F_joined (ds:List D):R D:=(run 3 q_joined ds).calm
noncomputable def l__law_spot_1:FS:=
 (sIf (cE (f2 gEq (f2 gIx (f2 gIx (fV 1) (fV 2)) (fC (.int 0))) (f2 gIx (fV 0) (fC (.int 1))))) (sRet (fA gTup (aCons (f1 gFlat (f2 gIx (fV 0) (fC (.int 0)))) (aCons (f1 gFlat (fV 2)) aNil)))) sNx)
noncomputable def q__law_spot:FS:=
  (sSeq (sFor (jRng1 (aCons (fA gLen (aCons (fV 1) aNil)) aNil)) (bName 2) l__law_spot_1)
    (sRet (fA gTup (aCons (f1 gFlat (f2 gIx (fV 0) (fC (.int 0)))) (aCons (fA gLen (aCons (fV 1) aNil)) aNil)))))
noncomputable def F__law_spot (ds:List D):R D:=(run 3 q__law_spot ds).calm
noncomputable def q_fits:FS:=
  (sSeq (sSet 3 (f2 gAdd (fV 2) (f2 gIx (fV 1) (fC (.int 1)))))
    (sSeq (sIf (cOr (cE (f2 gLt (fV 2) (fC (.int 0)))) (cE (f2 gGt (fV 3) (fA gLen (aCons (fV 0) aNil))))) (sRet (fC (.bl false))) sNx)
    (sRet (f2 gLe (fCall F_spoilt (aCons (fV 0) (aCons (fV 2) (aCons (fV 3) aNil)))) (f2 gIx (fV 1) (fC (.int 3)))))))
noncomputable def F_fits (ds:List D):R D:=(run 4 q_fits ds).calm
noncomputable def q_end_of:FS:=
 (sRet (f2 gAdd (f2 gIx (fV 1) (fC (.int 0))) (f2 gIx (fCall F_kind_of (aCons (fV 0) (aCons (f2 gIx (fV 1) (fC (.int 1))) aNil))) (fC (.int 1)))))
noncomputable def F_end_of (ds:List D):R D:=(run 2 q_end_of ds).calm
noncomputable def l__law_row_4:FS:=
  (sIf (cE (f2 gLt (fV 3) (f2 gPow (fC (.int 10)) (fC (.int 18))))) (sApp 5 (f2 gMod (fCall F__law_mix (aCons (fV 3) (aCons (fV 6) aNil))) (f2 gIx (fV 2) (fV 6)))) (sIf (cE (f2 gGt (fV 4) (fC (.int 0)))) (sSeq (sApp 5 (f2 gMod (fV 4) (f2 gIx (fV 2) (fV 6))))
    (sSet 4 (f2 gDiv (fV 4) (f2 gIx (fV 2) (fV 6))))) (sSeq (sSet 7 (fCall F__law_cell (aCons (fV 0) (aCons (f2 gMod (f2 gAdd (f2 gAdd (fV 1) (fC (.int 1))) (fV 6)) (fC (.int 63))) aNil))))
    (sApp 5 (f2 gMod (fCall F__law_mix (aCons (fV 7) (aCons (fV 6) aNil))) (f2 gIx (fV 2) (fV 6)))))))
noncomputable def q__law_row:FS:=
  (sSeq (sSet 3 (fCall F__law_cell (aCons (fV 0) (aCons (fV 1) aNil))))
    (sSeq (sSet 4 (f1 gFlat (fV 3)))
    (sSeq (sSet 5 (fA gLst aNil))
    (sSeq (sFor (jRng1 (aCons (fA gLen (aCons (fV 2) aNil)) aNil)) (bName 6) l__law_row_4)
    (sRet (fV 5))))))
noncomputable def F__law_row (ds:List D):R D:=(run 8 q__law_row ds).calm
noncomputable def l__law_is_cutting_3:FS:=
  (sSeq (sIf (cOr (cNot (cE (f1 (gIsI "tuple") (fV 1)))) (cE (f2 gNe (fA gLen (aCons (fV 1) aNil)) (fC (.int 2))))) (sRet (fC (.bl false))) sNx)
    (sIf (cOr (cNot (cE (fCall F__law_is_whole (aCons (f2 gIx (fV 1) (fC (.int 0))) aNil)))) (cNot (cE (f1 (gIsI "str") (f2 gIx (fV 1) (fC (.int 1))))))) (sRet (fC (.bl false))) sNx))
noncomputable def q__law_is_cutting:FS:=
  (sSeq (sIf (cNot (cE (f1 (gIsI "list") (fV 0)))) (sRet (fC (.bl false))) sNx)
    (sSeq (sFor (jList (fV 0)) (bName 1) l__law_is_cutting_3)
    (sRet (fC (.bl true)))))
noncomputable def F__law_is_cutting (ds:List D):R D:=(run 2 q__law_is_cutting ds).calm
noncomputable def l_all_pieces_3:FS:=
 (sIf (cE (fCall F_fits (aCons (fV 0) (aCons (fV 4) (aCons (fV 3) aNil))))) (sApp 2 (fA gTup (aCons (f1 gFlat (fV 3)) (aCons (f1 gFlat (f2 gIx (fV 4) (fC (.int 0)))) aNil)))) sNx)
noncomputable def l_all_pieces_2:FS:=
 (sFor (jList (fV 1)) (bName 4) l_all_pieces_3)
noncomputable def q_all_pieces:FS:=
  (sSeq (sSet 2 (fA gLst aNil))
    (sSeq (sFor (jRng1 (aCons (fA gLen (aCons (fV 0) aNil)) aNil)) (bName 3) l_all_pieces_2)
    (sRet (fV 2))))
noncomputable def F_all_pieces (ds:List D):R D:=(run 5 q_all_pieces ds).calm
noncomputable def l__law_table_7:FS:=
  (sSeq (sSet 9 (f2 gAdd (f2 gMul (fC (.int 3)) (fV 8)) (fC (.int 6))))
    (sSeq (sSet 10 (f1 gFlat (f2 gIx (fA gLst (aCons (fC (.int 1)) (aCons (fC (.int 2)) (aCons (fC (.int 3)) (aCons (fC (.int 4)) (aCons (fC (.int 5)) (aCons (fC (.int 6)) (aCons (fC (.int 2)) (aCons (fC (.int 3)) (aCons (fC (.int 11)) (aCons (fC (.int 40)) (aCons (f2 gIx (fA gLst (aCons (fC (.int 150)) (aCons (fC (.int 200)) aNil))) (f2 gMod (fV 8) (fC (.int 2)))) aNil)))))))))))) (f2 gIx (fV 4) (fV 9)))))
    (sSeq (sSet 11 (f2 gAdd (fC (.int 1)) (f2 gIx (fV 4) (f2 gAdd (fV 9) (fC (.int 1))))))
    (sSeq (sIf (cE (f2 gEq (f2 gIx (fV 4) (fC (.int 3))) (fC (.int 1)))) (sSet 11 (f2 gAdd (f2 gMul (fC (.int 3)) (fV 10)) (f2 gMod (f2 gIx (fV 4) (f2 gAdd (fV 9) (fC (.int 1)))) (fC (.int 4))))) sNx)
    (sSeq (sIf (cE (f2 gEq (f2 gIx (fV 4) (fC (.int 3))) (fC (.int 2)))) (sSet 11 (f2 gAdd (fC (.int 1)) (f2 gMod (f2 gIx (fV 4) (f2 gAdd (fV 9) (fC (.int 1)))) (fC (.int 3))))) sNx)
    (sSeq (sIf (cE (f2 gEq (f2 gIx (fV 4) (fC (.int 3))) (fC (.int 3)))) (sSet 11 (f1 gFlat (fV 10))) sNx)
    (sSeq (sSet 12 (fA gMin (aCons (f2 gMul (f2 gIx (fA gLst (aCons (fC (.int 0)) (aCons (fC (.int 0)) (aCons (fC (.int 1)) (aCons (fC (.int 2)) (aCons (fC (.int 3)) (aCons (fC (.int 12)) aNil))))))) (f2 gIx (fV 4) (f2 gAdd (fV 9) (fC (.int 2))))) (fV 5)) (aCons (f2 gSub (f2 gPow (fC (.int 10)) (fC (.int 18))) (fC (.int 1))) aNil))))
    (sSeq (sSet 13 (f1 gFlat (f2 gIx (fV 3) (f2 gMod (f2 gAdd (f2 gIx (fV 4) (fC (.int 4))) (f2 gMul (f2 gAdd (f2 gMul (fC (.int 2)) (f2 gIx (fV 4) (fC (.int 5)))) (fC (.int 1))) (fV 8))) (fC (.int 16))))))
    (sApp 7 (fA gTup (aCons (f1 gFlat (fV 13)) (aCons (f1 gFlat (fV 10)) (aCons (fA gMin (aCons (f2 gMul (fV 11) (fV 6)) (aCons (f2 gPow (fC (.int 10)) (fC (.int 18))) aNil))) (aCons (f1 gFlat (fV 12)) aNil))))))))))))))
noncomputable def q__law_table:FS:=
  (sSeq (sSet 3 (fA gLst (aCons (fC (.str ("a":Str))) (aCons (fC (.str ("ab":Str))) (aCons (fC (.str ("abc":Str))) (aCons (fC (.str ("b":Str))) (aCons (fC (.str ("ba":Str))) (aCons (fC (.str ("z":Str))) (aCons (fC (.str ("zzzzzzzz":Str))) (aCons (fC (.str ("roll":Str))) (aCons (fC (.str ("cut":Str))) (aCons (fC (.str ("by":Str))) aNil))))))))))))
    (sSeq (sSet 3 (f2 gAdd (fV 3) (fA gLst (aCons (fC (.str ("aab":Str))) (aCons (fC (.str ("zz":Str))) (aCons (fC (.str ("kind":Str))) (aCons (fC (.str ("qsvw":Str))) (aCons (fC (.str ("fghjmp":Str))) (aCons (fC (.str ("x":Str))) aNil)))))))))
    (sSeq (sSet 4 (fCall F__law_row (aCons (fV 0) (aCons (fV 1) (aCons (f2 gAdd (fA gLst (aCons (f2 gAdd (fV 2) (fC (.int 1))) (aCons (fC (.int 4)) (aCons (fC (.int 4)) (aCons (fC (.int 4)) (aCons (fC (.int 16)) (aCons (fC (.int 4)) aNil))))))) (f2 gMul (fA gLst (aCons (fC (.int 11)) (aCons (fC (.int 40)) (aCons (fC (.int 6)) aNil)))) (fV 2))) aNil)))))
    (sSeq (sSet 5 (f1 gFlat (f2 gIx (fA gLst (aCons (fC (.int 1)) (aCons (fC (.int 1)) (aCons (fC (.int 7)) (aCons (f2 gPow (fC (.int 10)) (fC (.int 17))) aNil))))) (f2 gIx (fV 4) (fC (.int 1))))))
    (sSeq (sSet 6 (f1 gFlat (f2 gIx (fA gLst (aCons (fC (.int 1)) (aCons (fC (.int 1)) (aCons (f2 gPow (fC (.int 10)) (fC (.int 6))) (aCons (f2 gMul (fC (.int 25)) (f2 gPow (fC (.int 10)) (fC (.int 15)))) aNil))))) (f2 gIx (fV 4) (fC (.int 2))))))
    (sSeq (sSet 7 (fA gLst aNil))
    (sSeq (sFor (jRng1 (aCons (f2 gIx (fV 4) (fC (.int 0))) aNil)) (bName 8) l__law_table_7)
    (sRet (fV 7)))))))))
noncomputable def F__law_table (ds:List D):R D:=(run 14 q__law_table ds).calm
noncomputable def q__law_flaw:FS:=
 (sRet (f1 gFlat (f2 gIx (fA gLst (aCons (fC (.int 1)) (aCons (fC (.int 1)) (aCons (fC (.int 7)) (aCons (f2 gPow (fC (.int 10)) (fC (.int 17))) aNil))))) (f2 gIx (fCall F__law_row (aCons (fV 0) (aCons (fV 1) (aCons (fA gLst (aCons (f2 gAdd (fV 2) (fC (.int 1))) (aCons (fC (.int 4)) aNil))) aNil)))) (fC (.int 1))))))
noncomputable def F__law_flaw (ds:List D):R D:=(run 3 q__law_flaw ds).calm
noncomputable def l__law_roll_6:FS:=
  (sSeq (sSet 8 (f2 gAdd (f2 gMul (fC (.int 2)) (fV 7)) (fC (.int 3))))
    (sSeq (sSet 9 (fC (.int 0)))
    (sSeq (sIf (cE (f2 gLt (f2 gIx (fV 4) (fV 8)) (f2 gIx (fA gLst (aCons (fC (.int 0)) (aCons (fC (.int 1)) (aCons (fC (.int 3)) (aCons (fC (.int 6)) aNil))))) (f2 gIx (fV 4) (fC (.int 1)))))) (sSet 9 (f1 gFlat (f2 gIx (fA gLst (aCons (fV 3) (aCons (fV 3) (aCons (f2 gMul (fC (.int 2)) (fV 3)) (aCons (f2 gMul (fC (.int 3)) (fV 3)) (aCons (fV 5) aNil)))))) (f2 gIx (fV 4) (f2 gAdd (fV 8) (fC (.int 1))))))) sNx)
    (sApp 6 (f1 gFlat (fV 9))))))
noncomputable def q__law_roll:FS:=
  (sSeq (sSet 4 (fCall F__law_row (aCons (fV 0) (aCons (fV 1) (aCons (f2 gAdd (fA gLst (aCons (f2 gAdd (fV 2) (fC (.int 1))) (aCons (fC (.int 4)) (aCons (fC (.int 3)) aNil)))) (f2 gMul (fA gLst (aCons (fC (.int 8)) (aCons (fC (.int 5)) aNil))) (fV 2))) aNil)))))
    (sSeq (sSet 5 (f2 gMul (fC (.int 9)) (fV 3)))
    (sSeq (sIf (cE (f2 gEq (f2 gIx (fV 4) (fC (.int 2))) (fC (.int 0)))) (sSet 5 (f2 gPow (fC (.int 10)) (fC (.int 18)))) sNx)
    (sSeq (sSet 6 (fA gLst aNil))
    (sSeq (sFor (jRng1 (aCons (f2 gIx (fV 4) (fC (.int 0))) aNil)) (bName 7) l__law_roll_6)
    (sRet (fV 6)))))))
noncomputable def F__law_roll (ds:List D):R D:=(run 10 q__law_roll ds).calm
noncomputable def q__law_drawn:FS:=
  (sSeq (sSet 4 (fCall F__law_flaw (aCons (fV 0) (aCons (fV 1) (aCons (fV 3) aNil)))))
    (sRet (fA gTup (aCons (fCall F__law_roll (aCons (fV 0) (aCons (f2 gAdd (fV 1) (fC (.int 1))) (aCons (fV 2) (aCons (fV 4) aNil))))) (aCons (fCall F__law_table (aCons (fV 0) (aCons (fV 1) (aCons (fV 3) aNil)))) aNil)))))
noncomputable def F__law_drawn (ds:List D):R D:=(run 5 q__law_drawn ds).calm
@[simp] theorem ev_fC (d:D)(ρ:Env):fC d ρ=.ok d:=(rfl)
@[simp] theorem ev_f1 (g:D→Option D)(a:FE)(ρ:Env):f1 g a ρ=(a ρ).bind fun x=>oR (g x):=(rfl)
@[simp] theorem ev_f2 (g:D→D→Option D)(a b:FE)(ρ:Env):f2 g a b ρ=(a ρ).bind fun x=>(b ρ).bind fun y=>oR (g x y):=(rfl)
@[simp] theorem ev_aNil (ρ:Env):aNil ρ=.ok []:=(rfl)
@[simp] theorem ev_aCons (a:FE)(r:FA)(ρ:Env):aCons a r ρ=(a ρ).bind fun x=>(r ρ).bind fun xs=>.ok (x::xs):=(rfl)
@[simp] theorem ev_fA (g:List D→Option D)(a:FA)(ρ:Env):fA g a ρ=(a ρ).bind fun xs=>oR (g xs):=(rfl)
@[simp] theorem ev_fCall (F:List D→R D)(a:FA)(ρ:Env):fCall F a ρ=(a ρ).bind F:=(rfl)
@[simp] theorem ev_fV0 (d:D)(ρ:Env):fV 0 (some d::ρ)=.ok d:=(rfl)
@[simp] theorem ev_fVs (i:Nat)(o:Option D)(ρ:Env):fV (i+1) (o::ρ)=fV i ρ:=by simp [fV]
@[simp] theorem ev_cE (a:FE)(ρ:Env):cE a ρ=(a ρ).bind fun d=>match d with | .bl b=>.ok b | _=>.bad:=(rfl)
@[simp] theorem ev_cNot (a:FT)(ρ:Env):cNot a ρ=(a ρ).bind fun b=>.ok (!b):=(rfl)
@[simp] theorem ev_cAnd (a b:FT)(ρ:Env):cAnd a b ρ=(a ρ).bind fun x=>if x then b ρ else .ok false:=(rfl)
@[simp] theorem ev_cOr (a b:FT)(ρ:Env):cOr a b ρ=(a ρ).bind fun x=>if x then .ok true else b ρ:=(rfl)
@[simp] theorem ev_cYes (ρ:Env):cYes ρ=.ok true:=(rfl)
@[simp] theorem ev_fAnd (a b:FE)(ρ:Env):fAnd a b ρ=(a ρ).bind fun x=>match x with | .bl true=>b ρ | .bl false=>.ok (.bl false) | _=>.bad:=(rfl)
@[simp] theorem ev_fOr (a b:FE)(ρ:Env):fOr a b ρ=(a ρ).bind fun x=>match x with | .bl true=>.ok (.bl true) | .bl false=>b ρ | _=>.bad:=(rfl)
@[simp] theorem ev_fIf (c:FT)(a b:FE)(ρ:Env):fIf c a b ρ=(c ρ).bind fun x=>if x then a ρ else b ρ:=(rfl)
@[simp] theorem ev_fChain (g g':D→D→Option D)(a b c:FE)(ρ:Env):fChain g g' a b c ρ=(a ρ).bind fun x=>(b ρ).bind fun y=>(oR (g x y)).bind fun z=>match z with | .bl true=>(c ρ).bind fun w=>oR (g' y w) | .bl false=>.ok (.bl false) | _=>.bad:=(rfl)
@[simp] theorem ev_fSl (g:D→Option Int→Option Int→Option D)(a:FE)(l h:FO)(ρ:Env):fSl g a l h ρ=(a ρ).bind fun x=>(l ρ).bind fun lo=>(h ρ).bind fun hi=>oR (g x lo hi):=(rfl)
@[simp] theorem ev_oNone (ρ:Env):oNone ρ=.ok none:=(rfl)
@[simp] theorem ev_oSome (a:FE)(ρ:Env):oSome a ρ=(a ρ).bind fun d=>match d with | .int i=>.ok (some i) | _=>.bad:=(rfl)
@[simp] theorem ev_jList (a:FE)(ρ:Env):jList a ρ=(a ρ).bind fun d=>match d with | .lst xs=>if xs.length≤lim then .ok xs else .bad | .scr ns=>if ns.length≤lim then .ok (ns.map D.int) else .bad | _=>.bad:=(rfl)
@[simp] theorem ev_jTup (a:FE)(ρ:Env):jTup a ρ=(a ρ).bind fun d=>match d with | .tup xs=>if xs.length≤lim then .ok xs else .bad | _=>.bad:=(rfl)
@[simp] theorem ev_jRng1 (a:FA)(ρ:Env):jRng1 a ρ=(a ρ).bind fun ds=>match ds with | [.int j]=>if -1000000000≤j∧j≤1000000 then .ok (rngL 0 j.toNat) else .bad | _=>.bad:=(rfl)
noncomputable def rngOf2 (ds:List D):R (List D):=match ds with
 | [.int i,.int j]=>if -1000000000≤i∧i≤1000000000∧-1000000000≤j∧j≤1000000000∧(j - i).toNat≤lim then .ok (rngL i (j - i).toNat) else .bad
 | _=>.bad
@[simp] theorem ev_jRng2 (a:FA)(ρ:Env):jRng2 a ρ=(a ρ).bind rngOf2:=(rfl)
@[simp] theorem ev_fComp (n k:Nat)(it:FI)(b:FB)(c:FT)(e:FE)(ρ:Env):fComp n k it b c e ρ=if ρ.length=n then (it ρ).bind fun xs=>(compN k b c e ρ xs).calm.bind fun ys=>.ok (.lst ys) else .bad:=(rfl)
@[simp] theorem ev_sNx (ρ:Env):sNx ρ=.ok (.nx ρ):=(rfl)
@[simp] theorem ev_sNever (ρ:Env):sNever ρ=.bad:=(rfl)
@[simp] theorem ev_sSeq (a b:FS)(ρ:Env):sSeq a b ρ=(a ρ).bind fun fl=>match fl with | .nx ρ'=>b ρ' | fl=>.ok fl:=(rfl)
@[simp] theorem ev_sSet (i:Nat)(e:FE)(ρ:Env):sSet i e ρ=(e ρ).bind fun d=>.ok (.nx (ρ.set i (some d))):=(rfl)
@[simp] theorem ev_sRet (e:FE)(ρ:Env):sRet e ρ=(e ρ).bind fun d=>.ok (.ret d):=(rfl)
@[simp] theorem ev_sIf (c:FT)(a b:FS)(ρ:Env):sIf c a b ρ=(c ρ).bind fun x=>if x then a ρ else b ρ:=(rfl)
@[simp] theorem ev_sApp (i:Nat)(e:FE)(ρ:Env):sApp i e ρ=(fV i ρ).bind fun v=>match v with | .lst xs=>(e ρ).bind fun d=>if xs.length<lim then .ok (.nx (ρ.set i (some (.lst (xs++[d]))))) else .bad | _=>.bad:=by
 unfold sApp fV
 split
 ·rename_i xs e;simp [e]
 ·rename_i h
  split
  ·rename_i d e
   cases d<;>simp
   rename_i xs
   exact absurd e (h xs)
  ·rfl
@[simp] theorem ev_sRaise (c:String)(f:FA)(ρ:Env):sRaise c f ρ=(f ρ).bind fun _=>.err c none:=(rfl)
@[simp] theorem ev_sFor (it:FI)(b:FB)(s:FS)(ρ:Env):sFor it b s ρ=(it ρ).bind fun xs=>forD b s xs ρ:=(rfl)
@[simp] theorem ev_sWhile (n:Nat)(c:FT)(s:FS)(ρ:Env):sWhile n c s ρ=whileD c s n ρ:=(rfl)
@[simp] theorem ev_sAsg (e:FE)(b:FB)(ρ:Env):sAsg e b ρ=(e ρ).bind fun d=>(b d ρ).calm.bind fun ρ'=>.ok (.nx ρ'):=(rfl)
@[simp] theorem ev_bName (i:Nat)(d:D)(ρ:Env):bName i d ρ=.ok (ρ.set i (some d)):=(rfl)
@[simp] theorem ev_bNil (ρ:Env):bNil [] ρ=.ok ρ:=(rfl)
@[simp] theorem ev_bCons (b:FB)(r:List D→Env→R Env)(d:D)(ds:List D)(ρ:Env):bCons b r (d::ds) ρ=(b d ρ).bind fun ρ'=>r ds ρ':=(rfl)
@[simp] theorem ev_bTup (r:List D→Env→R Env)(ds:List D)(ρ:Env):bTup r (.tup ds) ρ=r ds ρ:=(rfl)
@[simp] theorem ev_run (N:Nat)(b:FS)(ds:List D):run N b ds=(b (ds.map some++List.replicate (N - ds.length) none)).bind fun fl=>match fl with | .nx _=>.ok .non | .ret d=>.ok d | _=>.bad:=(rfl)
@[simp] theorem forD_nil (b:FB)(s:FS)(ρ:Env):forD b s [] ρ=.ok (.nx ρ):=(rfl)
theorem forD_cons (b:FB)(s:FS)(x:D)(xs:List D)(ρ:Env):forD b s (x::xs) ρ=(b x ρ).calm.bind fun ρ1=>(s ρ1).bind fun fl=>match fl with | .nx ρ2=>forD b s xs ρ2 | .cnt ρ2=>forD b s xs ρ2 | .brk ρ2=>.ok (.nx ρ2) | .ret d=>.ok (.ret d):=rfl
@[simp] theorem add_ii (i j:Int):gAdd (.int i) (.int j)=some (.int (i+j)):=rfl
@[simp] theorem addI_ii (i j:Int):gAddI (.int i) (.int j)=some (.int (i+j)):=rfl
@[simp] theorem sub_ii (i j:Int):gSub (.int i) (.int j)=some (.int (i - j)):=rfl
@[simp] theorem lt_ii (i j:Int):gLt (.int i) (.int j)=some (.bl (decide (i<j))):=rfl
@[simp] theorem le_ii (i j:Int):gLe (.int i) (.int j)=some (.bl (decide (i≤j))):=rfl
@[simp] theorem gt_ii (i j:Int):gGt (.int i) (.int j)=some (.bl (decide (j<i))):=rfl
@[simp] theorem ge_ii (i j:Int):gGe (.int i) (.int j)=some (.bl (decide (j≤i))):=rfl
@[simp] theorem neg_i (i:Int):gNeg (.int i)=some (.int (-i)):=rfl
@[simp] theorem not_b (b:Bool):gNot (.bl b)=some (.bl (!b)):=rfl
@[simp] theorem eq_ii (i j:Int):gEq (.int i) (.int j)=some (.bl (decide (i=j))):=show some (D.bl (i==j))=_ from congrArg (fun b=>some (D.bl b)) (by by_cases h:i=j<;>simp [h])
@[simp] theorem eq_bb (i j:Bool):gEq (.bl i) (.bl j)=some (.bl (i==j)):=rfl
@[simp] theorem ne_bb (i j:Bool):gNe (.bl i) (.bl j)=some (.bl (!(i==j))):=rfl
@[simp] theorem eq_ss (i j:Str):gEq (.str i) (.str j)=some (.bl (decide (i=j))):=show some (D.bl (i==j))=_ from congrArg (fun b=>some (D.bl b)) (by by_cases h:i=j<;>simp [h])
@[simp] theorem is_n (x:D):gIs x .non=some (.bl (isNon x)):=rfl
@[simp] theorem isNot_n (x:D):gIsNot x .non=some (.bl (!isNon x)):=rfl
@[simp] theorem is_b (b c:Bool):gIs (.bl b) (.bl c)=some (.bl (b==c)):=rfl
@[simp] theorem isNot_b (b c:Bool):gIsNot (.bl b) (.bl c)=some (.bl (!(b==c))):=rfl
@[simp] theorem isNon_non:isNon .non=true:=rfl
@[simp] theorem isNon_i (i:Int):isNon (.int i)=false:=rfl
@[simp] theorem isNon_b (i:Bool):isNon (.bl i)=false:=rfl
@[simp] theorem isNon_l (i:List D):isNon (.lst i)=false:=rfl
@[simp] theorem isNon_t (i:List D):isNon (.tup i)=false:=rfl
theorem mul_ii {i j:Int}(h:(-(2 ^ 64)<i∧i<2 ^ 64)∨(-(2 ^ 64)<j∧j<2 ^ 64)):gMul (.int i) (.int j)=some (.int (i*j)):=by
 have:(short i||short j)=true:=by simp [short];exact h
 simp [gMul,this]
theorem mod_ii {i j:Int}(h:0<j):gMod (.int i) (.int j)=some (.int (i % j)):=by simp [gMod,h]
theorem div_ii {i j:Int}(h:0<j)(h2:j<2 ^ 200):gDiv (.int i) (.int j)=some (.int (i / j)):=by simp only [gDiv];rw [if_pos ⟨h,h2⟩]
theorem pow_ii {i j:Int}(h:0≤j)(h2:j≤1000000)(h3:i.natAbs<2 ^ 64):gPow (.int i) (.int j)=some (.int (i ^ j.toNat)):=by simp only [gPow];rw [if_pos ⟨h,h2,h3⟩]
@[simp] theorem pow10_6:gPow (.int 10) (.int 6)=some (.int 1000000):=by
 rw [pow_ii (by omega) (by omega) (by decide)]
 rfl
@[simp] theorem pow10_15:gPow (.int 10) (.int 15)=some (.int 1000000000000000):=by
 rw [pow_ii (by omega) (by omega) (by decide)]
 rfl
@[simp] theorem pow10_17:gPow (.int 10) (.int 17)=some (.int 100000000000000000):=by
 rw [pow_ii (by omega) (by omega) (by decide)]
 rfl
@[simp] theorem pow10_18:gPow (.int 10) (.int 18)=some (.int 1000000000000000000):=by
 rw [pow_ii (by omega) (by omega) (by decide)]
 rfl
@[simp] theorem flat_i (i:Int):flat (.int i)=true:=rfl
@[simp] theorem flat_b (i:Bool):flat (.bl i)=true:=rfl
@[simp] theorem flat_s (i:Str):flat (.str i)=true:=rfl
@[simp] theorem flat_n:flat .non=true:=rfl
@[simp] theorem flat_t (xs:List D):flat (.tup xs)=flatA xs:=rfl
@[simp] theorem flatA_n:flatA []=true:=rfl
@[simp] theorem flatA_c (x:D)(xs:List D):flatA (x::xs)=(flat x&&flatA xs):=rfl
theorem flatA_map {α:Type}{f:α→D}(h:∀a,flat (f a)=true):∀xs:List α,flatA (xs.map f)=true
 | []=>rfl
 | x::xs=>by simp [h x,flatA_map h xs]
@[simp] theorem flatA_ints (ns:List Int):flatA (ns.map D.int)=true:=flatA_map (fun _=>rfl) ns
@[simp] theorem gFlat_i (i:Int):gFlat (.int i)=some (.int i):=rfl
@[simp] theorem gFlat_b (i:Bool):gFlat (.bl i)=some (.bl i):=rfl
@[simp] theorem gFlat_s (i:Str):gFlat (.str i)=some (.str i):=rfl
@[simp] theorem gFlat_n:gFlat .non=some .non:=rfl
@[simp] theorem ints_map (ns:List Int):intsOf (ns.map D.int)=some ns:=by
 induction ns with
 | nil=>rfl
 | cons n ns ih=>simp [intsOf,ih]
@[simp] theorem len_l (xs:List D):gLen [.lst xs]=some (.int xs.length):=(rfl)
@[simp] theorem len_t (xs:List D):gLen [.tup xs]=some (.int xs.length):=(rfl)
@[simp] theorem len_scr (xs:List Int):gLen [.scr xs]=some (.int xs.length):=(rfl)
@[simp] theorem sum_ints (ns:List Int):gSum [.lst (ns.map D.int)]=some (.int ns.sum):=by simp [gSum]
@[simp] theorem min_ii (i j:Int):gMin [.int i,.int j]=some (.int (min i j)):=by
 simp only [gMin]
 congr 2
 by_cases h:j<i
 ·rw [if_pos h];omega
 ·rw [if_neg h];omega
@[simp] theorem isI_i (c:String)(i:Int):gIsI c (.int i)=some (.bl (c=="int")):=rfl
@[simp] theorem isI_b (c:String)(i:Bool):gIsI c (.bl i)=some (.bl (c=="bool"||c=="int")):=rfl
@[simp] theorem isI_l (c:String)(i:List D):gIsI c (.lst i)=some (.bl (c=="list")):=rfl
@[simp] theorem isI_t (c:String)(i:List D):gIsI c (.tup i)=some (.bl (c=="tuple")):=rfl
@[simp] theorem isI_s (c:String)(i:Str):gIsI c (.str i)=some (.bl (c=="str")):=rfl
@[simp] theorem isI_n (c:String):gIsI c .non=some (.bl false):=rfl
theorem atD_nat {α:Type}{xs:List α}{i:Int}{k:Nat}{x:α}(e:i=(k:Int))(h:xs[k]?=some x):atD xs i=some x:=by
 subst e
 have hk:=(List.getElem?_eq_some_iff.mp h).1
 unfold atD ixD
 rw [if_pos (by omega),if_pos (by omega)]
 simpa using h
theorem ix_l {xs:List D}{i:Int}{k:Nat}{x:D}(e:i=(k:Int))(h:xs[k]?=some x):gIx (.lst xs) (.int i)=some x:=atD_nat e h
theorem ix_t {xs:List D}{i:Int}{k:Nat}{x:D}(e:i=(k:Int))(h:xs[k]?=some x):gIx (.tup xs) (.int i)=some x:=atD_nat e h
@[simp] theorem ixL_l (xs:List D)(y:D):gIxL (.lst xs) y=gIx (.lst xs) y:=(rfl)
@[simp] theorem listV_l (xs:List D):gListV [.lst xs]=some (.lst xs):=(rfl)
theorem ix_ints {ns:List Int}{i:Int}{k:Nat}(e:i=(k:Int))(h:k<ns.length):gIx (.lst (ns.map D.int)) (.int i)=some (.int (ns.getD k 0)):=ix_l e (by simp [h,List.getD])
theorem cut_map {α β:Type}(f:α→β)(xs:List α)(lo hi:Option Int):cut (xs.map f) lo hi=(cut xs lo hi).map f:=by
 unfold cut
 rw [length_map,map_take,map_drop]
theorem cut_ab {α:Type}{xs:List α}{a b:Int}(h0:0≤a)(h1:a≤b)(h2:b≤xs.length):cut xs (some a) (some b)=(xs.drop a.toNat).take (b.toNat - a.toNat):=by
 unfold cut sixD
 simp only []
 rw [if_neg (by omega),if_neg (by omega),Nat.min_eq_left (by omega),Nat.min_eq_left (by omega)]
theorem cut_to {α:Type}{xs:List α}{b:Int}(h0:0≤b):cut xs none (some b)=xs.take b.toNat:=by
 unfold cut sixD
 simp only []
 rw [if_neg (by omega),List.drop_zero,Nat.sub_zero]
 by_cases h:b.toNat≤xs.length
 ·rw [Nat.min_eq_left h]
 ·rw [Nat.min_eq_right (by omega),take_of_length_le (le_refl _),take_of_length_le (by omega)]
@[simp] theorem sl_ints (ns:List Int)(lo hi:Option Int):gSl (.lst (ns.map D.int)) lo hi=some (.lst ((cut ns lo hi).map D.int)):=by
 simp [gSl,cut_map]
@[simp] theorem sl_scr (ns:List Int)(lo hi:Option Int):gSl (.scr ns) lo hi=some (.lst ((cut ns lo hi).map D.int)):=(rfl)
@[simp] theorem lst_lim (xs:List D)(h:xs.length≤lim):gLst xs=some (.lst xs):=by unfold gLst;rw [if_pos h]
@[simp] theorem gLst_0:gLst []=some (.lst []):=rfl
@[simp] theorem gLst_1 (a:D):gLst [a]=some (.lst [a]):=rfl
@[simp] theorem gLst_2 (a b:D):gLst [a,b]=some (.lst [a,b]):=rfl
@[simp] theorem gLst_3 (a b c:D):gLst [a,b,c]=some (.lst [a,b,c]):=rfl
@[simp] theorem gLst_4 (a0 a1 a2 a3:D):gLst [a0,a1,a2,a3]=some (.lst [a0,a1,a2,a3]):=rfl
@[simp] theorem gLst_5 (a0 a1 a2 a3 a4:D):gLst [a0,a1,a2,a3,a4]=some (.lst [a0,a1,a2,a3,a4]):=rfl
@[simp] theorem gLst_6 (a0 a1 a2 a3 a4 a5:D):gLst [a0,a1,a2,a3,a4,a5]=some (.lst [a0,a1,a2,a3,a4,a5]):=rfl
@[simp] theorem gLst_10 (a0 a1 a2 a3 a4 a5 a6 a7 a8 a9:D):gLst [a0,a1,a2,a3,a4,a5,a6,a7,a8,a9]=some (.lst [a0,a1,a2,a3,a4,a5,a6,a7,a8,a9]):=rfl
@[simp] theorem gLst_11 (a0 a1 a2 a3 a4 a5 a6 a7 a8 a9 a10:D):gLst [a0,a1,a2,a3,a4,a5,a6,a7,a8,a9,a10]=some (.lst [a0,a1,a2,a3,a4,a5,a6,a7,a8,a9,a10]):=rfl
@[simp] theorem gTup_2 (a b:D):gTup [a,b]=some (.tup [a,b]):=rfl
@[simp] theorem gTup_3 (a b c:D):gTup [a,b,c]=some (.tup [a,b,c]):=rfl
@[simp] theorem gTup_4 (a b c d:D):gTup [a,b,c,d]=some (.tup [a,b,c,d]):=rfl
@[simp] theorem calm_bind_ok {α β:Type}(a:α)(f:α→R β):((R.ok a).calm).bind f=f a:=(rfl)
theorem forD_inv {b:FB}{s:FS}{xs:List D}{P:Nat→Env→Prop}{Rr:R Fl→Prop}{ρ:Env}(h0:P 0 ρ)
  (hs:∀i x ρ,xs[i]?=some x→P i ρ→∃ρ1,b x ρ=.ok ρ1∧((∃ρ2,(s ρ1=.ok (.nx ρ2)∨s ρ1=.ok (.cnt ρ2))∧P (i+1) ρ2)∨(∃d,s ρ1=.ok (.ret d)∧Rr (.ok (.ret d)))∨∃ρ2,s ρ1=.ok (.brk ρ2)∧Rr (.ok (.nx ρ2))))
  (hd:∀ρ,P xs.length ρ→Rr (.ok (.nx ρ))):Rr (forD b s xs ρ):=by
 have key:∀n i ρ,n+i=xs.length→P i ρ→Rr (forD b s (xs.drop i) ρ):=by
  intro n
  induction n with
  | zero =>
   intro i ρ hn p
   rw [List.drop_of_length_le (by omega)]
   have e:i=xs.length:=by omega
   subst e
   exact hd ρ p
  | succ n ih =>
   intro i ρ hn p
   have hi:i<xs.length:=by omega
   rw [drop_eq_getElem_cons hi,forD_cons]
   obtain ⟨ρ1,e1,h⟩:=hs i xs[i] ρ (getElem?_eq_getElem hi) p
   rw [e1,calm_bind_ok]
   rcases h with ⟨ρ2,e2 | e2,p2⟩ | ⟨d,e2,p2⟩ | ⟨ρ2,e2,p2⟩
   ·rw [e2];exact ih (i+1) ρ2 (by omega) p2
   ·rw [e2];exact ih (i+1) ρ2 (by omega) p2
   ·rw [e2];exact p2
   ·rw [e2];exact p2
 have:=key xs.length 0 ρ (by omega) h0
 simpa using this
theorem rngL_get {lo:Int}{n i:Nat}(h:i<n):(rngL lo n)[i]?=some (.int (lo+i)):=by simp [rngL,h]
theorem rngL_at {lo:Int}{n i:Nat}{x:D}(h:(rngL lo n)[i]?=some x):i<n∧x=.int (lo+i):=by
 have hi:=(List.getElem?_eq_some_iff.mp h).1
 have hn:i<n:=by simpa [rngL] using hi
 rw [rngL_get hn] at h
 exact ⟨hn,(Option.some.inj h).symm⟩
@[simp] theorem rngL_length (lo:Int)(n:Nat):(rngL lo n).length=n:=by simp [rngL]
theorem comp_eq {k:Nat}{b:FB}{c:FT}{e:FE}{ρ:Env}{α:Type}{enc:α→D}{ρ1:α→Env}{p:α→Bool}{v:α→D}{xs:List α}(h:∀x∈xs,b (enc x) (ρ++List.replicate k none)=.ok (ρ1 x)∧c (ρ1 x)=.ok (p x)∧(p x=true→e (ρ1 x)=.ok (v x))):compN k b c e ρ (xs.map enc)=.ok ((xs.filter p).map v):=by
 induction xs with
 | nil=>rfl
 | cons x xs ih =>
  obtain ⟨h0,h1,h2⟩:=h x (.head _)
  have ih:=ih fun y hy=>h y (.tail _ hy)
  rw [map_cons]
  unfold compN
  rw [h0,calm_bind_ok,h1]
  cases hp:p x with
  | false=>simp [ih,hp]
  | true=>simp [ih,hp,h2 hp]
theorem comp1 {n:Nat}{c:FT}{e:FE}{ρ:Env}{α:Type}{enc:α→D}{p:α→Bool}{v:α→D}{xs:List α}(hn:ρ.length=n)(h:∀x∈xs,c (ρ++[some (enc x)])=.ok (p x)∧(p x=true→e (ρ++[some (enc x)])=.ok (v x))):compN 1 (bName n) c e ρ (xs.map enc)=.ok ((xs.filter p).map v):=
  comp_eq (ρ1:=fun x=>ρ++[some (enc x)]) fun x hx=>⟨by
    show R.ok ((ρ++[none]).set n (some (enc x)))=_
    rw [← hn,set_append_right _ _ (le_refl _),sub_self]
    rfl,h x hx⟩
theorem comp1' {n:Nat}{e:FE}{ρ:Env}{α:Type}{enc:α→D}{v:α→D}{xs:List α}(hn:ρ.length=n)(h:∀x∈xs,e (ρ++[some (enc x)])=.ok (v x)):compN 1 (bName n) cYes e ρ (xs.map enc)=.ok (xs.map v):=by
 have:=comp1 (p:=fun _=>true) (c:=cYes) hn (xs:=xs) (enc:=enc) (e:=e) (v:=v) fun x hx=>⟨rfl,fun _=>h x hx⟩
 rw [this,List.filter_eq_self.mpr fun _ _=>rfl]
theorem comp2 {n:Nat}{c:FT}{e:FE}{ρ:Env}{α:Type}{f g:α→D}{p:α→Bool}{v:α→D}{xs:List α}(hn:ρ.length=n)(h:∀x∈xs,c (ρ++[some (f x),some (g x)])=.ok (p x)∧(p x=true→e (ρ++[some (f x),some (g x)])=.ok (v x))) :
    compN 2 (bTup (bCons (bName n) (bCons (bName (n+1)) bNil))) c e ρ (xs.map fun x=>.tup [f x,g x])=.ok ((xs.filter p).map v):=
  comp_eq (enc:=fun x=>D.tup [f x,g x]) (ρ1:=fun x=>ρ++[some (f x),some (g x)]) fun x hx=>⟨by
    show R.ok (((ρ++[none,none]).set n (some (f x))).set (n+1) (some (g x)))=_
    rw [← hn,set_append_right _ _ (le_refl _),sub_self,set_append_right _ _ (by omega)]
    simp,h x hx⟩
theorem comp2' {n:Nat}{e:FE}{ρ:Env}{α:Type}{f g:α→D}{v:α→D}{xs:List α}(hn:ρ.length=n)(h:∀x∈xs,e (ρ++[some (f x),some (g x)])=.ok (v x)) :
  compN 2 (bTup (bCons (bName n) (bCons (bName (n+1)) bNil))) cYes e ρ (xs.map fun x=>.tup [f x,g x])=.ok (xs.map v):=by
 have:=comp2 (p:=fun _=>true) (c:=cYes) hn (xs:=xs) (f:=f) (g:=g) (e:=e) (v:=v) fun x hx=>⟨rfl,fun _=>h x hx⟩
 rw [this,List.filter_eq_self.mpr fun _ _=>rfl]
theorem r_set {i:Nat}{e:FE}{ρ:Env}{d:D}(h:e ρ=.ok d):sSet i e ρ=.ok (.nx (ρ.set i (some d))):=by rw [ev_sSet,h];rfl
theorem r_seq {a b:FS}{ρ ρ':Env}{r:R Fl}(h:a ρ=.ok (.nx ρ'))(h2:b ρ'=r):sSeq a b ρ=r:=by rw [ev_sSeq,h];exact h2
theorem r_f1 {g:D→Option D}{a:FE}{ρ:Env}{x z:D}(ha:a ρ=.ok x)(h:g x=some z):f1 g a ρ=.ok z:=by rw [ev_f1,ha];show oR (g x)=_;rw [h];rfl
theorem r_f2 {g:D→D→Option D}{a b:FE}{ρ:Env}{x y z:D}(ha:a ρ=.ok x)(hb:b ρ=.ok y)(h:g x y=some z):f2 g a b ρ=.ok z:=by rw [ev_f2,ha,hb];show oR (g x y)=_;rw [h];rfl
theorem r_fA {g:List D→Option D}{a:FA}{ρ:Env}{xs:List D}{z:D}(ha:a ρ=.ok xs)(h:g xs=some z):fA g a ρ=.ok z:=by rw [ev_fA,ha];show oR (g xs)=_;rw [h];rfl
theorem r_cons {a:FE}{r:FA}{ρ:Env}{x:D}{xs:List D}(ha:a ρ=.ok x)(hr:r ρ=.ok xs):aCons a r ρ=.ok (x::xs):=by rw [ev_aCons,ha,hr];rfl
theorem r_call {F:List D→R D}{a:FA}{ρ:Env}{xs:List D}{d:D}(ha:a ρ=.ok xs)(h:F xs=.ok d):fCall F a ρ=.ok d:=by rw [ev_fCall,ha];exact h
theorem r_cE {a:FE}{ρ:Env}{b:Bool}(h:a ρ=.ok (.bl b)):cE a ρ=.ok b:=by rw [ev_cE,h];rfl
theorem r_ifT {c:FT}{a b:FS}{ρ:Env}{r:R Fl}(hc:c ρ=.ok true)(h:a ρ=r):sIf c a b ρ=r:=by rw [ev_sIf,hc];exact h
theorem r_ifF {c:FT}{a b:FS}{ρ:Env}{r:R Fl}(hc:c ρ=.ok false)(h:b ρ=r):sIf c a b ρ=r:=by rw [ev_sIf,hc];exact h
theorem r_app {i:Nat}{e:FE}{ρ:Env}{xs:List D}{d:D}(hv:fV i ρ=.ok (.lst xs))(h:e ρ=.ok d)(hl:xs.length<lim):sApp i e ρ=.ok (.nx (ρ.set i (some (.lst (xs++[d]))))):=by rw [ev_sApp,hv,h];exact if_pos hl
theorem r_ret {e:FE}{ρ:Env}{d:D}(h:e ρ=.ok d):sRet e ρ=.ok (.ret d):=by rw [ev_sRet,h];rfl
theorem r_rng {a:FA}{ρ:Env}{j:Int}(h:a ρ=.ok [.int j])(h1:-1000000000≤j∧j≤1000000):jRng1 a ρ=.ok (rngL 0 j.toNat):=by rw [ev_jRng1,h];exact if_pos h1
theorem r_for {it:FI}{b:FB}{s:FS}{ρ:Env}{xs:List D}{r:R Fl}(h:it ρ=.ok xs)(h2:forD b s xs ρ=r):sFor it b s ρ=r:=by rw [ev_sFor,h];exact h2
theorem r_run {N:Nat}{q:FS}{ds:List D}{d:D}(h:q (ds.map some++List.replicate (N - ds.length) none)=.ok (.ret d)):(run N q ds).calm=.ok d:=by unfold run;rw [h];rfl
theorem mulS {a b:Int}(h0:0≤a)(h1:a≤1000000):gMul (.int a) (.int b)=some (.int (a*b)):=mul_ii (.inl ⟨by omega,by omega⟩)
theorem r_seqR {a b:FS}{ρ:Env}{d:D}(h:a ρ=.ok (.ret d)):sSeq a b ρ=.ok (.ret d):=by rw [ev_sSeq,h];rfl
theorem mulR {a b:Int}(h0:0≤b)(h1:b≤1000000):gMul (.int a) (.int b)=some (.int (a*b)):=mul_ii (.inr ⟨by omega,by omega⟩)
theorem r_jList {a:FE}{ρ:Env}{xs:List D}(h:a ρ=.ok (.lst xs))(hl:xs.length≤lim):jList a ρ=.ok xs:=by rw [ev_jList,h];exact if_pos hl
theorem r_cAndT {a b:FT}{ρ:Env}{r:R Bool}(h:a ρ=.ok true)(h2:b ρ=r):cAnd a b ρ=r:=by rw [ev_cAnd,h];exact h2
theorem r_cAndF {a b:FT}{ρ:Env}(h:a ρ=.ok false):cAnd a b ρ=.ok false:=by rw [ev_cAnd,h];rfl
theorem bl_t {p:Prop}[Decidable p](h:p):some (D.bl (decide p))=some (D.bl true):=congrArg (fun b=>some (D.bl b)) (decide_eq_true h)
theorem bl_f {p:Prop}[Decidable p](h:¬p):some (D.bl (decide p))=some (D.bl false):=congrArg (fun b=>some (D.bl b)) (decide_eq_false h)
theorem r_cNot {a:FT}{ρ:Env}{b:Bool}(h:a ρ=.ok b):cNot a ρ=.ok (!b):=by rw [ev_cNot,h];rfl
theorem r_cOrF {a b:FT}{ρ:Env}{r:R Bool}(h:a ρ=.ok false)(h2:b ρ=r):cOr a b ρ=r:=by rw [ev_cOr,h];exact h2
theorem r_chain {g g':D→D→Option D}{a b c:FE}{ρ:Env}{x y w z:D}(ha:a ρ=.ok x)(hb:b ρ=.ok y)(h1:g x y=some (.bl true))(hc:c ρ=.ok w)(h2:g' y w=some z):fChain g g' a b c ρ=.ok z:=by
 rw [ev_fChain,ha]
 show (b ρ).bind _=_
 rw [hb]
 show (oR (g x y)).bind _=_
 rw [h1]
 show (c ρ).bind _=_
 rw [hc]
 show oR (g' y w)=_
 rw [h2]
 rfl
theorem r_asg {e:FE}{b:FB}{ρ ρ':Env}{d:D}(h:e ρ=.ok d)(hb:b d ρ=.ok ρ'):sAsg e b ρ=.ok (.nx ρ'):=by
 unfold sAsg
 rw [h]
 show (b d ρ).calm.bind _=_
 rw [hb]
 rfl
theorem r_sl {g:D→Option Int→Option Int→Option D}{a:FE}{l h:FO}{ρ:Env}{x z:D}{lo hi:Option Int}(ha:a ρ=.ok x)(hl:l ρ=.ok lo)(hh:h ρ=.ok hi)(hg:g x lo hi=some z):fSl g a l h ρ=.ok z:=by
 rw [ev_fSl,ha]
 show (l ρ).bind _=_
 rw [hl]
 show (h ρ).bind _=_
 rw [hh]
 show oR (g x lo hi)=_
 rw [hg]
 rfl
theorem r_comp {n k:Nat}{it:FI}{b:FB}{c:FT}{e:FE}{ρ:Env}{xs ys:List D}(hn:ρ.length=n)(h:it ρ=.ok xs)(h1:compN k b c e ρ xs=.ok ys):fComp n k it b c e ρ=.ok (.lst ys):=by
 rw [ev_fComp,if_pos hn,h]
 show (compN k b c e ρ xs).calm.bind _=_
 rw [h1]
 rfl
theorem r_cOrT {a b:FT}{ρ:Env}(h:a ρ=.ok true):cOr a b ρ=.ok true:=by rw [ev_cOr,h];rfl
theorem r_oSome {a:FE}{ρ:Env}{i:Int}(h:a ρ=.ok (.int i)):oSome a ρ=.ok (some i):=by rw [ev_oSome,h];rfl
set_option genInjectivity true in
structure Kd where
 name:Str
 w:Int
 wo:Int
 al:Int
noncomputable def kD (k:Kd):D:=.tup [.str k.name,.int k.w,.int k.wo,.int k.al]
noncomputable def iD (ns:List Int):D:=.lst (ns.map D.int)
noncomputable def tD (ks:List Kd):D:=.lst (ks.map kD)
noncomputable def pD (p:Int×Str):D:=.tup [.int p.1,.str p.2]
noncomputable def psD (ps:List (Int×Str)):D:=.lst (ps.map pD)
@[simp] theorem flat_kD (k:Kd):flat (kD k)=true:=rfl
@[simp] theorem flat_pD (k:Int×Str):flat (pD k)=true:=rfl
@[simp] theorem gFlat_kD (k:Kd):gFlat (kD k)=some (kD k):=rfl
@[simp] theorem gFlat_pD (k:Int×Str):gFlat (pD k)=some (pD k):=rfl
@[simp] theorem kD_0 (k:Kd):gIx (kD k) (.int 0)=some (.str k.name):=ix_t (k:=0) rfl rfl
@[simp] theorem kD_1 (k:Kd):gIx (kD k) (.int 1)=some (.int k.w):=ix_t (k:=1) rfl rfl
@[simp] theorem kD_3 (k:Kd):gIx (kD k) (.int 3)=some (.int k.al):=ix_t (k:=3) rfl rfl
@[simp] theorem pD_0 (k:Int×Str):gIx (pD k) (.int 0)=some (.int k.1):=ix_t (k:=0) rfl rfl
@[simp] theorem pD_1 (k:Int×Str):gIx (pD k) (.int 1)=some (.str k.2):=ix_t (k:=1) rfl rfl
noncomputable def pre (ns:List Int)(i:Nat):Int:=(ns.take i).sum
theorem pre_cut (ns:List Int)(a b:Nat)(h:a≤b):((ns.drop a).take (b - a)).sum=pre ns b - pre ns a:=by
 unfold pre
 have e:ns.take b=ns.take a++(ns.drop a).take (b - a):=by
  have:=List.take_add (l:=ns) (i:=a) (j:=b - a)
  rw [show a+(b - a)=b by omega] at this
  exact this
 rw [e,sum_append]
 omega
noncomputable def good (ns:List Int)(k:Kd)(p:Int):Bool:=decide (0≤p∧p+k.w≤ns.length∧pre ns (p+k.w).toNat - pre ns p.toNat≤k.al)
theorem spoilt_ok {ns:List Int}{b e:Int}(h0:0≤b)(h1:b≤e)(h2:e≤ns.length):F_spoilt [iD ns,.int b,.int e]=.ok (.int (pre ns e.toNat - pre ns b.toNat)):=by
 have a1:¬b<0:=by omega
 have a2:¬(ns.length:Int)<e:=by omega
 have a3:¬e<b:=by omega
 simp [-map_take,-map_drop,F_spoilt,q_spoilt,iD,a1,a2,a3,cut_ab h0 h1 h2,pre_cut _ _ _ (show b.toNat≤e.toNat by omega)]
theorem fits_ok (ns:List Int)(k:Kd)(p:Int)(hw:1≤k.w):F_fits [iD ns,kD k,.int p]=.ok (.bl (good ns k p)):=by
 have l1:gLen [iD ns]=some (.int ns.length):=by simp [iD]
 by_cases h0:p<0
 ·have e:good ns k p=false:=decide_eq_false (by omega)
  rw [e]
  exact r_run (r_seq (r_set (r_f2 rfl (r_f2 rfl rfl (kD_1 k)) rfl)) (r_seqR (r_ifT (r_cOrT (r_cE (r_f2 rfl rfl (bl_t h0)))) (r_ret rfl))))
 ·by_cases h1:(ns.length:Int)<p+k.w
  ·have e:good ns k p=false:=decide_eq_false (by omega)
   rw [e]
   exact r_run (r_seq (r_set (r_f2 rfl (r_f2 rfl rfl (kD_1 k)) rfl)) (r_seqR (r_ifT (r_cOrF (r_cE (r_f2 rfl rfl (bl_f h0))) (r_cE (r_f2 rfl (r_fA (r_cons rfl rfl) l1) (bl_t h1)))) (r_ret rfl))))
  ·have hs:=spoilt_ok (ns:=ns) (b:=p) (e:=p+k.w) (by omega) (by omega) (by omega)
   have e:good ns k p=decide (pre ns (p+k.w).toNat - pre ns p.toNat≤k.al):=by
    unfold good
    apply decide_eq_decide.mpr
    constructor
    ·exact fun z=>z.2.2
    ·exact fun z=>⟨by omega,by omega,z⟩
   rw [e]
   exact r_run (r_seq (r_set (r_f2 rfl (r_f2 rfl rfl (kD_1 k)) rfl)) (r_seq (r_ifF (r_cOrF (r_cE (r_f2 rfl rfl (bl_f h0))) (r_cE (r_f2 rfl (r_fA (r_cons rfl rfl) l1) (bl_f h1)))) rfl) (r_ret (r_f2 (r_call (r_cons rfl (r_cons rfl (r_cons rfl rfl))) hs) (r_f2 rfl rfl (kD_3 k)) rfl))))
theorem whole_ok (i:Int):F__law_is_whole [.int i]=.ok (.bl true):=by simp [F__law_is_whole,q__law_is_whole]
theorem cell_ok (ns:List Int)(hn:ns.length≤63){i:Int}(h0:0≤i)(h1:i<1000000):∃n:Int,F__law_cell [.scr ns,.int i]=.ok (.int n):=by
 have c:(cE (f2 gLt (fV 1) (fA gLen (aCons (fV 0) aNil)))) [some (.scr ns),some (.int i),none,none]=.ok (decide (i<ns.length)):=r_cE (r_f2 rfl (r_fA (r_cons rfl rfl) rfl) rfl)
 by_cases h:i<ns.length
 ·have hi:i.toNat<ns.length:=(toNat_lt h0).mpr h
  have e:gIx (.scr ns) (.int i)=some (.int (ns.getD i.toNat 0)):=congrArg (Option.map D.int) (atD_nat (k:=i.toNat) (toNat_of_nonneg h0).symm (by simp [List.getD,hi]))
  exact ⟨_,r_run (r_seqR (r_ifT (c.trans (congrArg Dl.R.ok (decide_eq_true h))) (r_ret (r_f1 (r_f2 rfl rfl e) rfl))))⟩
 ·have key:∃seed:Int,∃o,forD (bName 3) l__law_cell_4 ((ns.take 63).map D.int) [some (.scr ns),some (.int i),some (.int 5),none]=.ok (.nx [some (.scr ns),some (.int i),some (.int seed),o]):=by
   refine forD_inv (P:=fun _ ρ=>∃seed:Int,∃o,ρ=[some (.scr ns),some (.int i),some (.int seed),o]) (Rr:=fun r=>∃seed:Int,∃o,r=.ok (.nx [some (.scr ns),some (.int i),some (.int seed),o])) ⟨5,none,rfl⟩ ?_ ?_
   ·rintro j x ρ hx ⟨seed,o,rfl⟩
    rw [getElem?_map] at hx
    obtain ⟨y,hy,rfl⟩:=Option.map_eq_some_iff.mp hx
    exact ⟨_,rfl,.inl ⟨_,.inl (r_set (r_f2 (r_f2 (r_f2 (r_f2 rfl rfl (mulR (by decide) (by decide))) (r_f2 rfl rfl (mod_ii (by decide))) rfl) rfl rfl) rfl (mod_ii (by decide)))),_,_,rfl⟩⟩
   ·rintro ρ ⟨seed,o,rfl⟩
    exact ⟨seed,o,rfl⟩
  obtain ⟨seed,o,e⟩:=key
  have hc:cut ns none (some 63)=ns.take 63:=cut_to (by decide)
  have hl:(jList (fSl gSl (fV 0) oNone (oSome (fC (.int 63))))) [some (.scr ns),some (.int i),some (.int 5),none]=.ok ((ns.take 63).map D.int):=by
   have hm:min 63 ns.length≤lim:=by show _≤1000000;omega
   simp [-map_take,hc,hm]
  exact ⟨_,r_run (r_seq (r_ifF (c.trans (congrArg Dl.R.ok (decide_eq_false h))) rfl) (r_seq (r_set rfl) (r_seq (r_for hl e) (r_ret (r_f2 (r_f2 rfl (r_f2 rfl rfl (mulS (by decide) (by decide))) rfl) rfl (mod_ii (by decide)))))))⟩
theorem mix_ok (c:Int){k:Int}(h0:0≤k)(h1:k<1000000):∃n:Int,F__law_mix [.int c,.int k]=.ok (.int n):=by
 have n0:0≤c % 2147483629+1013*k+7919:=Int.add_nonneg (Int.add_nonneg (emod_nonneg _ (by decide)) (mul_nonneg (by decide) h0)) (by decide)
 have n1:c % 2147483629+1013*k+7919<2147483629+1013*1000000+7919:=Int.add_lt_add_right (Int.add_lt_add_of_lt_of_le (emod_lt_of_pos _ (by decide)) (Int.mul_le_mul_of_nonneg_left (Int.le_of_lt h1) (by decide))) _
 have b:(c % 2147483629+1013*k+7919).natAbs<2 ^ 64:=Int.ofNat_lt.mp (by rw [Int.natAbs_of_nonneg n0];exact Int.lt_trans n1 (by decide))
 have e1:=pow_ii (i:=c % 2147483629+1013*k+7919) (j:=3) (by decide) (by decide) b
 exact ⟨_,r_run (r_seq (r_set (r_f2 (r_f2 (r_f2 (r_f2 (r_f2 rfl rfl (mod_ii (by decide))) (r_f2 rfl rfl (mulS (by decide) (by decide))) rfl) rfl rfl) rfl e1) rfl (mod_ii (by decide)))) (r_seq (r_set (r_f2 (r_f2 (r_f2 (r_f2 rfl rfl (mulR (by decide) (by decide))) (r_f2 (r_f2 rfl rfl (mulS (by decide) (by decide))) rfl (mulR h0 (Int.le_of_lt h1))) rfl) rfl rfl) rfl (mod_ii (by decide)))) (r_ret (r_f2 rfl rfl (div_ii (by decide) (by decide))))))⟩
structure Row (ms os:List Int):Prop where
 len:os.length=ms.length
 at_:∀k,k<ms.length→0≤os.getD k 0∧os.getD k 0<ms.getD k 0
theorem Row.nil (ms:List Int):Row (ms.take 0) []:=⟨by simp,fun k hk=>by simp at hk⟩
theorem Row.all {ms os:List Int}(h:Row (ms.take ms.length) os):Row ms os:=by
 rw [List.take_length] at h
 exact h
theorem Row.push {ms os:List Int}{k:Nat}{v:Int}(h:Row (ms.take k) os)(hk:k<ms.length)(h0:0≤v)(h1:v<ms.getD k 0):Row (ms.take (k+1)) (os++[v]):=by
 have hl:=h.len
 rw [length_take] at hl
 have hm:min k ms.length=k:=by omega
 have hm':min (k+1) ms.length=k+1:=by omega
 refine ⟨by rw [length_append,length_take,hm',List.length_singleton];omega,fun j hj=>?_⟩
 rw [length_take,hm'] at hj
 by_cases e:j=k
 ·subst e
  have e1:(os++[v]).getD j 0=v:=by
   have:os.length=j:=by omega
   simp [List.getD,← this]
  have e2:(ms.take (j+1)).getD j 0=ms.getD j 0:=by simp [List.getD,getElem?_take]
  rw [e1,e2]
  exact ⟨h0,h1⟩
 ·have hj':j<k:=by omega
  have q:=h.at_ j (by rw [length_take];omega)
  have e1:(os++[v]).getD j 0=os.getD j 0:=by
   have:j<os.length:=by omega
   simp [List.getD,getElem?_append_left this]
  have e2:(ms.take (k+1)).getD j 0=(ms.take k).getD j 0:=by
   have h1:j<k+1:=by omega
   simp [List.getD,getElem?_take,hj',h1]
  rw [e1,e2]
  exact q
theorem getD_all {P:Int→Prop}{ws:List Int}{i:Nat}(h:∀w∈ws,P w)(hi:i<ws.length):P (ws.getD i 0):=by
 have e:ws.getD i 0=ws[i]:=by simp [List.getD,hi]
 rw [e]
 exact h _ (getElem_mem hi)
theorem row_okL (ns:List Int)(hn:ns.length≤63){i:Int}(h0:0≤i)(h1:i<1000)(ms:List Int)(hm:ms.length≤2000)(hms:∀m∈ms,0<m∧m<2 ^ 200):∃os,F__law_row [.scr ns,.int i,iD ms]=.ok (iD os)∧Row ms os:=by
 obtain ⟨c,hc⟩:=cell_ok ns hn h0 (show i<1000000 by omega)
 have key:=forD_inv (b:=bName 6) (s:=l__law_row_4) (xs:=rngL 0 ms.length) (ρ:=[some (.scr ns),some (.int i),some (iD ms),some (.int c),some (.int c),some (.lst []),none,none])
  (P:=fun k ρ=>∃(l:Int) (os:List Int) (o6 o7:Option D),Row (ms.take k) os∧ρ=[some (.scr ns),some (.int i),some (iD ms),some (.int c),some (.int l),some (iD os),o6,o7])
  (Rr:=fun r=>∃(l:Int) (os:List Int) (o6 o7:Option D),Row ms os∧r=.ok (.nx [some (.scr ns),some (.int i),some (iD ms),some (.int c),some (.int l),some (iD os),o6,o7]))
  ⟨c,[],none,none,Row.nil ms,rfl⟩ ?_ ?_
 ·obtain ⟨l,os,o6,o7,hr,e⟩:=key
  refine ⟨os,?_,hr⟩
  have b1:-1000000000≤(ms.length:Int)∧(ms.length:Int)≤1000000:=by omega
  have gl:gLen [iD ms]=some (.int ms.length):=by simp [iD]
  exact r_run (r_seq (r_set (r_call (r_cons rfl (r_cons rfl rfl)) hc)) (r_seq (r_set (r_f1 rfl rfl)) (r_seq (r_set rfl) (r_seq (r_for (r_rng (r_cons (r_fA (r_cons rfl rfl) gl) rfl) b1) e) (r_ret rfl)))))
 ·rintro k x ρ hx ⟨l,os,o6,o7,hr,rfl⟩
  obtain ⟨hk,rfl⟩:=rngL_at hx
  rw [Int.zero_add]
  have hol:os.length=k:=by have:=hr.len;rw [length_take] at this;omega
  have hlim:(os.map D.int).length<lim:=by rw [length_map];show _<1000000;omega
  have c1:∀o5:Option D,(cE (f2 gLt (fV 3) (f2 gPow (fC (.int 10)) (fC (.int 18))))) [some (.scr ns),some (.int i),some (iD ms),some (.int c),some (.int l),o5,some (.int k),o7]=.ok (decide (c<1000000000000000000)):=fun _=>r_cE (r_f2 rfl (r_f2 rfl rfl pow10_18) rfl)
  have ap:∀v:Int,iD (os++[v])=.lst (os.map D.int++[.int v]):=fun v=>congrArg D.lst map_append
  have hmk:=getD_all hms hk
  have ix:=ix_ints (ns:=ms) (i:=(k:Int)) (k:=k) rfl hk
  have md:∀z:Int,gMod (.int z) (.int (ms.getD k 0))=some (.int (z % ms.getD k 0)):=fun z=>mod_ii hmk.1
  have nn:∀z:Int,0≤z % ms.getD k 0∧z % ms.getD k 0<ms.getD k 0:=fun z=>⟨emod_nonneg _ (Int.ne_of_gt hmk.1),emod_lt_of_pos _ hmk.1⟩
  have k0:0≤(k:Int)∧(k:Int)<1000000:=by omega
  obtain ⟨x1,hx1⟩:=mix_ok c k0.1 k0.2
  obtain ⟨c2,hc2⟩:=cell_ok ns hn (i:=(i+1+k) % 63) (emod_nonneg _ (by decide)) (Int.lt_trans (emod_lt_of_pos _ (by decide)) (by decide))
  obtain ⟨x2,hx2⟩:=mix_ok c2 k0.1 k0.2
  refine ⟨_,rfl,.inl ?_⟩
  by_cases a1:c<1000000000000000000
  ·refine ⟨[some (.scr ns),some (.int i),some (iD ms),some (.int c),some (.int l),some (iD (os++[x1 % ms.getD k 0])),some (.int k),o7],.inl ?_,l,_,_,o7,hr.push hk (nn x1).1 (nn x1).2,rfl⟩
   rw [ap]
   exact r_ifT ((c1 _).trans (congrArg Dl.R.ok (decide_eq_true a1))) (r_app rfl (r_f2 (r_call (r_cons rfl (r_cons rfl rfl)) hx1) (r_f2 rfl rfl ix) (md x1)) hlim)
  ·by_cases a2:0<l
   ·refine ⟨[some (.scr ns),some (.int i),some (iD ms),some (.int c),some (.int (l / ms.getD k 0)),some (iD (os++[l % ms.getD k 0])),some (.int k),o7],.inl ?_,_,_,_,o7,hr.push hk (nn l).1 (nn l).2,rfl⟩
    rw [ap]
    exact r_ifF ((c1 _).trans (congrArg Dl.R.ok (decide_eq_false a1))) (r_ifT (r_cE (r_f2 rfl rfl (congrArg (fun b=>some (D.bl b)) (decide_eq_true a2)))) (r_seq (r_app rfl (r_f2 rfl (r_f2 rfl rfl ix) (md l)) hlim) (r_set (r_f2 rfl (r_f2 rfl rfl ix) (div_ii hmk.1 hmk.2)))))
   ·refine ⟨[some (.scr ns),some (.int i),some (iD ms),some (.int c),some (.int l),some (iD (os++[x2 % ms.getD k 0])),some (.int k),some (.int c2)],.inl ?_,l,_,_,_,hr.push hk (nn x2).1 (nn x2).2,rfl⟩
    rw [ap]
    exact r_ifF ((c1 _).trans (congrArg Dl.R.ok (decide_eq_false a1))) (r_ifF (r_cE (r_f2 rfl rfl (congrArg (fun b=>some (D.bl b)) (decide_eq_false a2)))) (r_seq (r_set (r_call (r_cons rfl (r_cons (r_f2 (r_f2 (r_f2 rfl rfl rfl) rfl rfl) rfl (mod_ii (by decide))) rfl)) hc2)) (r_app rfl (r_f2 (r_call (r_cons rfl (r_cons rfl rfl)) hx2) (r_f2 rfl rfl ix) (md x2)) hlim)))
 ·rintro ρ ⟨l,os,o6,o7,hr,rfl⟩
  rw [rngL_length] at hr
  exact ⟨l,os,o6,o7,hr.all,rfl⟩
theorem row_ok (ns:List Int)(hn:ns.length≤63){i:Int}(h0:0≤i)(h1:i<1000)(ms:List Int)(hm:ms.length≤1000)(hms:∀m∈ms,0<m∧m<2 ^ 200):∃os,F__law_row [.scr ns,.int i,iD ms]=.ok (iD os)∧Row ms os:=row_okL ns hn h0 h1 ms (le_trans hm (by decide)) hms
theorem ix_lit (ws:List Int){i:Int}(h0:0≤i)(h1:i<ws.length):gIx (.lst (ws.map D.int)) (.int i)=some (.int (ws.getD i.toNat 0)):=ix_ints (by omega) (by omega)
theorem rep_len (l:List Int):∀n:Nat,(List.replicate n l).flatten.length=n*l.length
 | 0=>by simp
 | n+1=>by rw [replicate_succ,flatten_cons,length_append,rep_len l n,Nat.succ_mul,Nat.add_comm]
theorem rep_map (l:List Int)(n:Nat):(List.replicate n (l.map D.int)).flatten=(List.replicate n l).flatten.map D.int:=by
 rw [List.map_flatten,List.map_replicate]
theorem mul_rep {ws:List Int}{m:Int}(h0:0≤m)(h1:m≤200)(hl:ws.length≤1000):gMul (.lst (ws.map D.int)) (.int m)=some (iD (List.replicate m.toNat ws).flatten):=by
  simp only [gMul]
  rw [if_pos ⟨by omega,by
    rw [length_map]
    show ws.length*m.toNat≤1000000
    have:ws.length*m.toNat≤1000*200:=mul_le_mul hl (by omega)
    omega,by omega,flatA_ints ws⟩,rep_map]
  rfl
theorem add_ints {xs ys:List Int}(h:xs.length+ys.length≤1000000):gAdd (iD xs) (iD ys)=some (iD (xs++ys)):=by
 show (if (xs.map D.int).length+(ys.map D.int).length≤lim∧flatA (xs.map D.int)∧flatA (ys.map D.int) then some (D.lst (xs.map D.int++ys.map D.int)) else none)=_
 rw [if_pos ⟨by rw [length_map,length_map];exact h,flatA_ints _,flatA_ints _⟩,← map_append]
 rfl
theorem rep2_get (x y:Int):∀(n k:Nat),k<n→(List.replicate n [x,y]).flatten.getD (2*k) 0=x∧(List.replicate n [x,y]).flatten.getD (2*k+1) 0=y
 | 0,k,h=>by omega
 | n+1,0,_=>by simp [replicate_succ,flatten_cons,List.getD]
 | n+1,k+1,h=>by
  have q:=rep2_get x y n k (by omega)
  have e1:2*(k+1)=2*k+2:=by omega
  rw [replicate_succ,flatten_cons,e1]
  exact q
theorem rep3_get (x y z:Int):∀(n k:Nat),k<n→(List.replicate n [x,y,z]).flatten.getD (3*k) 0=x∧(List.replicate n [x,y,z]).flatten.getD (3*k+1) 0=y∧(List.replicate n [x,y,z]).flatten.getD (3*k+2) 0=z
 | 0,k,h=>by omega
 | n+1,0,_=>by simp [replicate_succ,flatten_cons,List.getD]
 | n+1,k+1,h=>by
  have q:=rep3_get x y z n k (by omega)
  have e1:3*(k+1)=3*k+3:=by omega
  rw [replicate_succ,flatten_cons,e1]
  exact q
theorem mem_rep {l:List Int}{n:Nat}{z:Int}(h:z∈(List.replicate n l).flatten):z∈l:=by
 obtain ⟨l',hl,hz⟩:=List.mem_flatten.mp h
 rwa [(List.mem_replicate.mp hl).2] at hz
noncomputable def poolL:List Str:=["a","ab","abc","b","ba","z","zzzzzzzz","roll","cut","by","aab","zz","kind","qsvw","fghjmp","x"]
theorem pool_inj:∀j:Nat,j<16→∀k:Nat,k<16→poolL.getD j ""=poolL.getD k ""→j=k:=by decide +kernel
noncomputable def nameAt (s4 s5:Int)(k:Nat):Str:=poolL.getD ((s4+(2*s5+1)*(k:Int)) % 16).toNat ""
theorem step_inj:∀t:Nat,t<4→∀j:Nat,j<8→∀k:Nat,k<8→((2*(t:Int)+1)*j - (2*(t:Int)+1)*k) % 16=0→j=k:=by decide +kernel
theorem nameAt_inj {s4 s5:Int}(h0:0≤s5)(h1:s5<4){j k:Nat}(hj:j<8)(hk:k<8)(e:nameAt s4 s5 j=nameAt s4 s5 k):j=k:=by
 have lt:∀x:Int,(x % 16).toNat<16:=fun x=>(toNat_lt (emod_nonneg x (by decide))).mpr (emod_lt_of_pos x (by decide))
 have q:=congrArg Int.ofNat (pool_inj _ (lt _) _ (lt _) e)
 have q1:(s4+(2*s5+1)*(j:Int)) % 16=(s4+(2*s5+1)*(k:Int)) % 16:=(toNat_of_nonneg (emod_nonneg _ (by decide))).symm.trans (q.trans (toNat_of_nonneg (emod_nonneg _ (by decide))))
 have q2:=Int.emod_eq_emod_iff_emod_sub_eq_zero.mp q1
 rw [Int.add_sub_add_left] at q2
 obtain ⟨t,rfl⟩:=Int.eq_ofNat_of_zero_le h0
 exact step_inj t (Int.ofNat_lt.mp h1) j hj k hk q2
theorem nameAt_mem (s4 s5:Int)(k:Nat):nameAt s4 s5 k∈poolL:=by
 unfold nameAt
 have h:((s4+(2*s5+1)*(k:Int)) % 16).toNat<poolL.length:=by show _<16;omega
 have e:poolL.getD ((s4+(2*s5+1)*(k:Int)) % 16).toNat ""=poolL[((s4+(2*s5+1)*(k:Int)) % 16).toNat]:=by simp [List.getD,h]
 rw [e]
 exact getElem_mem h
structure KindOk (k:Kd):Prop where
 nm:k.name∈poolL
 w1:1≤k.w
 w2:k.w≤200
 o1:1≤k.wo
 o2:k.wo≤1000000000000000000
 a1:0≤k.al
 a2:k.al<1000000000000000000
structure TabOk (ks:List Kd):Prop where
 ok:∀k∈ks,KindOk k
 nd:(ks.map (·.name)).Nodup
theorem pool_ix {i:Int}(h0:0≤i)(h1:i<16):gIx (.lst (poolL.map D.str)) (.int i)=some (.str (poolL.getD i.toNat "")):=ix_l (k:=i.toNat) (by omega) (by
  have h:i.toNat<poolL.length:=by show _<16;omega
  simp [List.getD,h])
theorem max_lit {ms:List Int}(h:∀m∈ms,0<m∧m≤1000000):∀m∈ms,0<m∧m<2 ^ 200:=fun m hm=>⟨(h m hm).1,Int.lt_of_le_of_lt (h m hm).2 (by decide)⟩
theorem four {x:Int}(h:0≤x∧x<4):x=0∨x=1∨x=2∨x=3:=by
 obtain ⟨n,rfl⟩:=Int.eq_ofNat_of_zero_le h.1
 match n,Int.ofNat_lt.mp h.2 with
 | 0,_=>exact .inl rfl
 | 1,_=>exact .inr (.inl rfl)
 | 2,_=>exact .inr (.inr (.inl rfl))
 | 3,_=>exact .inr (.inr (.inr rfl))
theorem mod_bd {x m:Int}(hm:0<m):0≤x % m∧x % m<m:=⟨emod_nonneg _ (Int.ne_of_gt hm),emod_lt_of_pos _ hm⟩
theorem tab_turn {d0 d1 d2 o9 o10 o11 o12 o13:Option D}{O:D}{T:List D}{fl gn bw wd am x3 x4 x5 x6 x7 x8:Int}{k:Nat}{nm:Str}
    (j0:gIx O (.int (3*(k:Int)+6))=some (.int x6)) (j1:gIx O (.int (3*(k:Int)+6+1))=some (.int x7)) (j2:gIx O (.int (3*(k:Int)+6+2))=some (.int x8))
    (j3:gIx O (.int 3)=some (.int x3)) (j4:gIx O (.int 4)=some (.int x4)) (j5:gIx O (.int 5)=some (.int x5))
    (ib:gIx (.lst [.int 150,.int 200]) (.int ((k:Int) % 2))=some (.int bw))
    (iw:gIx (.lst [.int 1,.int 2,.int 3,.int 4,.int 5,.int 6,.int 2,.int 3,.int 11,.int 40,.int bw]) (.int x6)=some (.int wd))
    (ia:gIx (.lst [.int 0,.int 0,.int 1,.int 2,.int 3,.int 12]) (.int x8)=some (.int am))
    (iN:gIx (.lst (poolL.map D.str)) (.int ((x4+(2*x5+1)*(k:Int)) % 16))=some (.str nm))
    (w1:1≤wd∧wd≤200) (c7:0≤x7∧x7<40) (c3:0≤x3∧x3<4) (c5:0≤x5∧x5<4) (m1:0≤am∧am≤12) (sl:T.length<lim) :
    ∃wo:Int,(1≤wo∧wo≤1000)∧l__law_table_7 [d0,d1,d2,some (.lst (poolL.map D.str)),some O,some (.int fl),some (.int gn),some (.lst T),some (.int k),o9,o10,o11,o12,o13] =
      .ok (.nx [d0,d1,d2,some (.lst (poolL.map D.str)),some O,some (.int fl),some (.int gn),some (.lst (T++[.tup [.str nm,.int wd,.int (min (wo*gn) 1000000000000000000),.int (min (am*fl) 999999999999999999)]])),some (.int k),some (.int (3*(k:Int)+6)),some (.int wd),some (.int wo),some (.int (min (am*fl) 999999999999999999)),some (.str nm)]):=by
  obtain ⟨wo,hb,mid⟩:∃wo:Int,(1≤wo∧wo≤1000)∧∀Q:FS,(sSeq (sIf (cE (f2 gEq (f2 gIx (fV 4) (fC (.int 3))) (fC (.int 1)))) (sSet 11 (f2 gAdd (f2 gMul (fC (.int 3)) (fV 10)) (f2 gMod (f2 gIx (fV 4) (f2 gAdd (fV 9) (fC (.int 1)))) (fC (.int 4))))) sNx)
    (sSeq (sIf (cE (f2 gEq (f2 gIx (fV 4) (fC (.int 3))) (fC (.int 2)))) (sSet 11 (f2 gAdd (fC (.int 1)) (f2 gMod (f2 gIx (fV 4) (f2 gAdd (fV 9) (fC (.int 1)))) (fC (.int 3))))) sNx)
    (sSeq (sIf (cE (f2 gEq (f2 gIx (fV 4) (fC (.int 3))) (fC (.int 3)))) (sSet 11 (f1 gFlat (fV 10))) sNx) Q))) [d0,d1,d2,some (.lst (poolL.map D.str)),some O,some (.int fl),some (.int gn),some (.lst T),some (.int k),some (.int (3*(k:Int)+6)),some (.int wd),some (.int (1+x7)),o12,o13] =
      Q [d0,d1,d2,some (.lst (poolL.map D.str)),some O,some (.int fl),some (.int gn),some (.lst T),some (.int k),some (.int (3*(k:Int)+6)),some (.int wd),some (.int wo),o12,o13]:=by
    rcases four c3 with rfl | rfl | rfl | rfl
    · exact ⟨1+x7,⟨Int.le_add_of_nonneg_right c7.1,Int.le_trans (Int.add_le_add_left (Int.le_of_lt c7.2) 1) (by decide)⟩,fun Q=>r_seq (r_ifF (r_cE (r_f2 (r_f2 rfl rfl j3) rfl rfl)) rfl) (r_seq (r_ifF (r_cE (r_f2 (r_f2 rfl rfl j3) rfl rfl)) rfl) (r_seq (r_ifF (r_cE (r_f2 (r_f2 rfl rfl j3) rfl rfl)) rfl) rfl))⟩
    · exact ⟨3*wd+x7 % 4,⟨Int.le_trans (show (1:Int)≤3*1+0 by decide) (Int.add_le_add (Int.mul_le_mul_of_nonneg_left w1.1 (by decide)) (mod_bd (by decide)).1),Int.le_trans (Int.add_le_add (Int.mul_le_mul_of_nonneg_left w1.2 (by decide)) (Int.le_of_lt (mod_bd (by decide)).2)) (by decide)⟩,fun Q=>r_seq (r_ifT (r_cE (r_f2 (r_f2 rfl rfl j3) rfl rfl)) (r_set (r_f2 (r_f2 rfl rfl (mulS (by decide) (by decide))) (r_f2 (r_f2 rfl (r_f2 rfl rfl rfl) j1) rfl (mod_ii (by decide))) rfl))) (r_seq (r_ifF (r_cE (r_f2 (r_f2 rfl rfl j3) rfl rfl)) rfl) (r_seq (r_ifF (r_cE (r_f2 (r_f2 rfl rfl j3) rfl rfl)) rfl) rfl))⟩
    · exact ⟨1+x7 % 3,⟨Int.le_add_of_nonneg_right (mod_bd (by decide)).1,Int.le_trans (Int.add_le_add_left (Int.le_of_lt (mod_bd (by decide)).2) 1) (by decide)⟩,fun Q=>r_seq (r_ifF (r_cE (r_f2 (r_f2 rfl rfl j3) rfl rfl)) rfl) (r_seq (r_ifT (r_cE (r_f2 (r_f2 rfl rfl j3) rfl rfl)) (r_set (r_f2 rfl (r_f2 (r_f2 rfl (r_f2 rfl rfl rfl) j1) rfl (mod_ii (by decide))) rfl))) (r_seq (r_ifF (r_cE (r_f2 (r_f2 rfl rfl j3) rfl rfl)) rfl) rfl))⟩
    · exact ⟨wd,⟨w1.1,Int.le_trans w1.2 (by decide)⟩,fun Q=>r_seq (r_ifF (r_cE (r_f2 (r_f2 rfl rfl j3) rfl rfl)) rfl) (r_seq (r_ifF (r_cE (r_f2 (r_f2 rfl rfl j3) rfl rfl)) rfl) (r_seq (r_ifT (r_cE (r_f2 (r_f2 rfl rfl j3) rfl rfl)) (r_set (r_f1 rfl rfl))) rfl))⟩
  exact ⟨wo,hb,r_seq (r_set (r_f2 (r_f2 rfl rfl (mulS (by decide) (by decide))) rfl rfl)) (r_seq (r_set (r_f1 (r_f2 (r_fA (r_cons rfl (r_cons rfl (r_cons rfl (r_cons rfl (r_cons rfl (r_cons rfl (r_cons rfl (r_cons rfl (r_cons rfl (r_cons rfl (r_cons (r_f2 rfl (r_f2 rfl rfl (mod_ii (by decide))) ib) rfl))))))))))) rfl) (r_f2 rfl rfl j0) iw) rfl)) (r_seq (r_set (r_f2 rfl (r_f2 rfl (r_f2 rfl rfl rfl) j1) rfl)) ((mid _).trans
    (r_seq (r_set (r_fA (r_cons (r_f2 (r_f2 rfl (r_f2 rfl (r_f2 rfl rfl rfl) j2) ia) rfl (mulS m1.1 (Int.le_trans m1.2 (by decide)))) (r_cons (r_f2 (r_f2 rfl rfl pow10_18) rfl (show gSub (.int 1000000000000000000) (.int 1)=some (.int 999999999999999999) from rfl)) rfl)) (min_ii _ _)))
    (r_seq (r_set (r_f1 (r_f2 rfl (r_f2 (r_f2 (r_f2 rfl rfl j4) (r_f2 (r_f2 (r_f2 rfl (r_f2 rfl rfl j5) (mulS (by decide) (by decide))) rfl rfl) rfl (mulS (Int.add_nonneg (mul_nonneg (by decide) c5.1) (by decide)) (Int.le_trans (Int.add_le_add_right (Int.mul_le_mul_of_nonneg_left (Int.le_of_lt c5.2) (by decide)) 1) (by decide)))) rfl) rfl (mod_ii (by decide))) iN) rfl))
    (r_app rfl (r_fA (r_cons (r_f1 rfl rfl) (r_cons (r_f1 rfl rfl) (r_cons (r_fA (r_cons (r_f2 rfl rfl (mulS (Int.le_trans (by decide) hb.1) (Int.le_trans hb.2 (by decide)))) (r_cons (r_f2 rfl rfl pow10_18) rfl)) (min_ii _ _)) (r_cons (r_f1 rfl rfl) rfl)))) rfl) sl))))))⟩
theorem under {x m:Int}{k:Nat}(h:k<x.toNat)(hx:x<m+1):k<m.toNat:=by omega
theorem lits_and {P:Int→Prop}{l:List Int}{b:Int}(h:∀z∈l,P z)(hb:P b):∀z∈l++[b],P z:=List.forall_mem_append.mpr ⟨h,fun _ hz=>List.mem_singleton.mp hz▸hb⟩
theorem tri_lt {k j m:Nat}(h:k<m)(hj:j<3):3*k+(j+6)<6+m*3:=by omega
theorem table_ok (ns:List Int)(hn:ns.length≤63){i m:Int}(h0:0≤i)(h1:i<1000)(m0:0≤m)(m1:m≤8):∃ks,F__law_table [.scr ns,.int i,.int m]=.ok (tD ks)∧(ks.length:Int)≤m∧TabOk ks:=by
  have m8:m.toNat≤8:=Int.toNat_le.mpr m1
  have m24:6+m.toNat*3≤30:=Nat.add_le_add_left (Nat.mul_le_mul_right 3 m8) 6
  have ms_eq:gAdd (iD [m+1,4,4,4,16,4]) (iD (List.replicate m.toNat [11,40,6]).flatten)=some (iD ([m+1,4,4,4,16,4]++(List.replicate m.toNat [11,40,6]).flatten)):=add_ints (by
    rw [rep_len]
    exact le_trans m24 (by decide))
  have mr:=mul_rep (ws:=[11,40,6]) m0 (Int.le_trans m1 (by decide)) (by decide)
  have hml:([m+1,4,4,4,16,4]++(List.replicate m.toNat [(11:Int),40,6]).flatten).length=6+m.toNat*3:=by rw [length_append,rep_len];rfl
  obtain ⟨os,hos,R⟩:=row_ok ns hn h0 h1 ([m+1,4,4,4,16,4]++(List.replicate m.toNat [11,40,6]).flatten) (by rw [hml];exact le_trans m24 (by decide)) (max_lit (List.forall_mem_append.mpr ⟨List.forall_mem_cons.mpr ⟨⟨Int.lt_add_one_of_le m0,Int.le_trans (Int.add_le_add_right m1 1) (by decide)⟩,by decide⟩,fun z hz=>(by decide:∀z∈[(11:Int),40,6],0<z∧z≤1000000) z (mem_rep hz)⟩))
  have hol:os.length=6+m.toNat*3:=by rw [R.len,hml]
  have hlt:∀{j:Nat},j<6→j<([m+1,4,4,4,16,4]++(List.replicate m.toNat [(11:Int),40,6]).flatten).length:=fun h=>by rw [hml];exact lt_of_lt_of_le h (le_add_right _ _)
  have hlo:∀{j:Nat},j<6→j<os.length:=fun h=>by rw [hol];exact lt_of_lt_of_le h (le_add_right _ _)
  have tri:∀k j:Nat,k<m.toNat→j<3→3*k+(j+6)<6+m.toNat*3:=fun _ _ h hj=>tri_lt h hj
  have a0:0≤os.getD 0 0∧os.getD 0 0<m+1:=R.at_ 0 (hlt (by decide))
  have a1:0≤os.getD 1 0∧os.getD 1 0<4:=R.at_ 1 (hlt (by decide))
  have a2:0≤os.getD 2 0∧os.getD 2 0<4:=R.at_ 2 (hlt (by decide))
  have a3:0≤os.getD 3 0∧os.getD 3 0<4:=R.at_ 3 (hlt (by decide))
  have a4:0≤os.getD 4 0∧os.getD 4 0<16:=R.at_ 4 (hlt (by decide))
  have a5:0≤os.getD 5 0∧os.getD 5 0<4:=R.at_ 5 (hlt (by decide))
  have b3:∀k:Nat,k<m.toNat→(0≤os.getD (3*k+6) 0∧os.getD (3*k+6) 0<11)∧(0≤os.getD (3*k+7) 0∧os.getD (3*k+7) 0<40)∧(0≤os.getD (3*k+8) 0∧os.getD (3*k+8) 0<6):=fun k hk=>by
    obtain ⟨g1,g2,g3⟩:=rep3_get 11 40 6 m.toNat k hk
    have e:∀j:Nat,([m+1,4,4,4,16,4]++(List.replicate m.toNat [(11:Int),40,6]).flatten).getD (j+6) 0=(List.replicate m.toNat [(11:Int),40,6]).flatten.getD j 0:=fun j=>rfl
    have r1:=R.at_ (3*k+6) (by rw [hml];exact tri k 0 hk (by decide))
    have r2:=R.at_ (3*k+7) (by rw [hml];exact tri k 1 hk (by decide))
    have r3:=R.at_ (3*k+8) (by rw [hml];exact tri k 2 hk (by decide))
    rw [e (3*k),g1] at r1
    rw [show 3*k+7=(3*k+1)+6 from rfl,e (3*k+1),g2] at r2
    rw [show 3*k+8=(3*k+2)+6 from rfl,e (3*k+2),g3] at r3
    exact ⟨r1,r2,r3⟩
  have ix:∀k:Nat,k<os.length→∀j:Int,j=(k:Int)→gIx (.lst (os.map D.int)) (.int j)=some (.int (os.getD k 0)):=fun k hk j e=>ix_ints e hk
  obtain ⟨fl,hfl⟩:∃fl,fl=([1,1,7,100000000000000000]:List Int).getD (os.getD 1 0).toNat 0:=⟨_,rfl⟩
  obtain ⟨gn,hgn⟩:∃gn,gn=([1,1,1000000,25000000000000000]:List Int).getD (os.getD 2 0).toNat 0:=⟨_,rfl⟩
  have fl1:1≤fl∧fl≤100000000000000000:=by
    rw [hfl]
    exact getD_all (P:=fun z=>1≤z∧z≤100000000000000000) (by decide) (show _<4 from (toNat_lt a1.1).mpr a1.2)
  have gn1:1≤gn∧gn≤25000000000000000:=by
    rw [hgn]
    exact getD_all (P:=fun z=>1≤z∧z≤25000000000000000) (by decide) (show _<4 from (toNat_lt a2.1).mpr a2.2)
  have i1:gIx (.lst [.int 1,.int 1,.int 7,.int 100000000000000000]) (.int (os.getD 1 0))=some (.int fl):=by rw [hfl];exact ix_lit [1,1,7,100000000000000000] a1.1 a1.2
  have i2:gIx (.lst [.int 1,.int 1,.int 1000000,.int 25000000000000000]) (.int (os.getD 2 0))=some (.int gn):=by rw [hgn];exact ix_lit [1,1,1000000,25000000000000000] a2.1 a2.2
  have key:=forD_inv (b:=bName 8) (s:=l__law_table_7) (xs:=rngL 0 (os.getD 0 0).toNat) (ρ:=[some (.scr ns),some (.int i),some (.int m),some (.lst (poolL.map D.str)),some (iD os),some (.int fl),some (.int gn),some (.lst []),none,none,none,none,none,none])
    (P:=fun k ρ=>∃(ks:List Kd) (o8 o9 o10 o11 o12 o13:Option D),ks.length=k∧(∀x∈ks,KindOk x)∧ks.map (·.name)=(List.range k).map (nameAt (os.getD 4 0) (os.getD 5 0))∧ρ=[some (.scr ns),some (.int i),some (.int m),some (.lst (poolL.map D.str)),some (iD os),some (.int fl),some (.int gn),some (tD ks),o8,o9,o10,o11,o12,o13])
    (Rr:=fun r=>∃(ks:List Kd) (o8 o9 o10 o11 o12 o13:Option D),ks.length=(os.getD 0 0).toNat∧(∀x∈ks,KindOk x)∧ks.map (·.name)=(List.range ks.length).map (nameAt (os.getD 4 0) (os.getD 5 0))∧r=.ok (.nx [some (.scr ns),some (.int i),some (.int m),some (.lst (poolL.map D.str)),some (iD os),some (.int fl),some (.int gn),some (tD ks),o8,o9,o10,o11,o12,o13]))
    ⟨[],none,none,none,none,none,none,rfl,(fun _ h=>nomatch h),rfl,rfl⟩ ?_ ?_
  · obtain ⟨ks,o8,o9,o10,o11,o12,o13,kl,kok,knm,e⟩:=key
    have k8:ks.length≤8:=by rw [kl];exact Int.toNat_le.mpr (Int.le_trans (Int.lt_add_one_iff.mp a0.2) m1)
    refine ⟨ks,?_,by rw [kl,toNat_of_nonneg a0.1];exact Int.lt_add_one_iff.mp a0.2,kok,?_⟩
    · have b1:-1000000000≤os.getD 0 0∧os.getD 0 0≤1000000:=⟨Int.le_trans (by decide) a0.1,Int.le_trans (Int.lt_add_one_iff.mp a0.2) (Int.le_trans m1 (by decide))⟩
      have hp:gAdd (.lst [.str ("a":Str),.str ("ab":Str),.str ("abc":Str),.str ("b":Str),.str ("ba":Str),.str ("z":Str),.str ("zzzzzzzz":Str),.str ("roll":Str),.str ("cut":Str),.str ("by":Str)]) (.lst [.str ("aab":Str),.str ("zz":Str),.str ("kind":Str),.str ("qsvw":Str),.str ("fghjmp":Str),.str ("x":Str)])=some (.lst (poolL.map D.str)):=rfl
      have mr':gMul (.lst [.int 11,.int 40,.int 6]) (.int m)=_:=mr
      have ms':gAdd (.lst [.int (m+1),.int 4,.int 4,.int 4,.int 16,.int 4]) (iD (List.replicate m.toNat [11,40,6]).flatten)=_:=ms_eq
      generalize iD ([m+1,4,4,4,16,4]++(List.replicate m.toNat [11,40,6]).flatten)=Mv at hos ms'
      generalize iD (List.replicate m.toNat [11,40,6]).flatten=Mw at mr' ms'
      exact r_run (r_seq (r_set rfl) (r_seq (r_set (r_f2 rfl rfl hp)) (r_seq (r_set (r_call (r_cons rfl (r_cons rfl (r_cons (r_f2 (r_fA (r_cons (r_f2 rfl rfl rfl) rfl) rfl) (r_f2 rfl rfl mr') ms') rfl))) hos))
        (r_seq (r_set (r_f1 (r_f2 (r_fA (r_cons rfl (r_cons rfl (r_cons rfl (r_cons (r_f2 rfl rfl pow10_17) rfl)))) rfl) (r_f2 rfl rfl (ix 1 (hlo (by decide)) 1 rfl)) i1) rfl))
        (r_seq (r_set (r_f1 (r_f2 (r_fA (r_cons rfl (r_cons rfl (r_cons (r_f2 rfl rfl (show gPow (.int 10) (.int 6)=some (.int 1000000) by simp)) (r_cons (r_f2 rfl (r_f2 rfl rfl pow10_15) (show gMul (.int 25) (.int 1000000000000000)=some (.int 25000000000000000) from mulS (by decide) (by decide))) rfl)))) rfl) (r_f2 rfl rfl (ix 2 (hlo (by decide)) 2 rfl)) i2) rfl))
        (r_seq (r_set rfl) (r_seq (r_for (r_rng (r_cons (r_f2 rfl rfl (ix 0 (hlo (by decide)) 0 rfl)) rfl) b1) e) (r_ret rfl))))))))
    · rw [knm,List.nodup_iff_pairwise_ne,List.pairwise_map]
      refine List.Pairwise.imp_of_mem ?_ (List.nodup_iff_pairwise_ne.mp List.nodup_range)
      intro i j hi hj hij e
      have hi:=List.mem_range.mp hi
      have hj:=List.mem_range.mp hj
      exact hij (nameAt_inj a5.1 a5.2 (lt_of_lt_of_le hi (le_trans k8 (by decide))) (lt_of_lt_of_le hj (le_trans k8 (by decide))) e)
  · rintro k x ρ hx ⟨ks,o8,o9,o10,o11,o12,o13,kl,kok,knm,rfl⟩
    obtain ⟨hk,rfl⟩:=rngL_at hx
    rw [Int.zero_add]
    have hkm:k<m.toNat:=under hk a0.2
    obtain ⟨c1,c2,c3⟩:=b3 k hkm
    have j0:=ix (3*k+6) (by rw [hol];exact tri k 0 hkm (by decide)) (3*k+6) rfl
    have j1:=ix (3*k+7) (by rw [hol];exact tri k 1 hkm (by decide)) (3*k+6+1) (Int.add_assoc _ 6 1)
    have j2:=ix (3*k+8) (by rw [hol];exact tri k 2 hkm (by decide)) (3*k+6+2) (Int.add_assoc _ 6 2)
    have j3:=ix 3 (hlo (by decide)) 3 rfl
    have j4:=ix 4 (hlo (by decide)) 4 rfl
    have j5:=ix 5 (hlo (by decide)) 5 rfl
    obtain ⟨bw,hbw⟩:∃bw,bw=([150,200]:List Int).getD ((k:Int) % 2).toNat 0:=⟨_,rfl⟩
    have k2:0≤(k:Int) % 2∧(k:Int) % 2<2:=⟨emod_nonneg _ (by decide),emod_lt_of_pos _ (by decide)⟩
    have bw1:1≤bw∧bw≤200:=by
      rw [hbw]
      exact getD_all (P:=fun z=>1≤z∧z≤200) (by decide) (show _<2 from (toNat_lt k2.1).mpr k2.2)
    have ib:gIx (.lst [.int 150,.int 200]) (.int ((k:Int) % 2))=some (.int bw):=by rw [hbw];exact ix_lit [150,200] k2.1 k2.2
    obtain ⟨wd,hwd⟩:∃wd,wd=([1,2,3,4,5,6,2,3,11,40,bw]:List Int).getD (os.getD (3*k+6) 0).toNat 0:=⟨_,rfl⟩
    have wd1:1≤wd∧wd≤200:=by
      rw [hwd]
      exact getD_all (P:=fun z=>1≤z∧z≤200) (lits_and (l:=[1,2,3,4,5,6,2,3,11,40]) (by decide) bw1) (show _<11 from (toNat_lt c1.1).mpr c1.2)
    have iw:gIx (.lst [.int 1,.int 2,.int 3,.int 4,.int 5,.int 6,.int 2,.int 3,.int 11,.int 40,.int bw]) (.int (os.getD (3*k+6) 0))=some (.int wd):=by rw [hwd];exact ix_lit [1,2,3,4,5,6,2,3,11,40,bw] c1.1 c1.2
    obtain ⟨am,ham⟩:∃am,am=([0,0,1,2,3,12]:List Int).getD (os.getD (3*k+8) 0).toNat 0:=⟨_,rfl⟩
    have am1:0≤am∧am≤12:=by
      rw [ham]
      exact getD_all (P:=fun z=>0≤z∧z≤12) (by decide) (show _<6 from (toNat_lt c3.1).mpr c3.2)
    have ia:gIx (.lst [.int 0,.int 0,.int 1,.int 2,.int 3,.int 12]) (.int (os.getD (3*k+8) 0))=some (.int am):=by rw [ham];exact ix_lit [0,0,1,2,3,12] c3.1 c3.2
    have iN:=pool_ix (i:=(os.getD 4 0+(2*os.getD 5 0+1)*(k:Int)) % 16) (emod_nonneg _ (by decide)) (emod_lt_of_pos _ (by decide))
    have sl:(ks.map kD).length<lim:=by rw [length_map,kl];exact lt_of_lt_of_le hkm (le_trans m8 (by decide))
    obtain ⟨wo,wo1,turn⟩:=tab_turn (d0:=some (.scr ns)) (d1:=some (.int i)) (d2:=some (.int m)) (o9:=o9) (o10:=o10) (o11:=o11) (o12:=o12) (o13:=o13) (fl:=fl) (gn:=gn) j0 j1 j2 j3 j4 j5 ib iw ia iN wd1 c2 a3 a5 am1 sl
    have pr:0≤am*fl:=mul_nonneg am1.1 (Int.le_trans (by decide) fl1.1)
    have wg:1≤wo*gn:=Int.mul_le_mul wo1.1 gn1.1 (by decide) (Int.le_trans (by decide) wo1.1)
    have kd:KindOk ⟨nameAt (os.getD 4 0) (os.getD 5 0) k,wd,min (wo*gn) 1000000000000000000,min (am*fl) 999999999999999999⟩:=⟨nameAt_mem _ _ _,wd1.1,wd1.2,Int.le_min.mpr ⟨wg,by decide⟩,Int.min_le_right _ _,Int.le_min.mpr ⟨pr,by decide⟩,Int.lt_of_le_of_lt (Int.min_le_right _ _) (by decide)⟩
    refine ⟨_,rfl,.inl ⟨[some (.scr ns),some (.int i),some (.int m),some (.lst (poolL.map D.str)),some (iD os),some (.int fl),some (.int gn),some (tD (ks++[⟨nameAt (os.getD 4 0) (os.getD 5 0) k,wd,min (wo*gn) 1000000000000000000,min (am*fl) 999999999999999999⟩])),some (.int k),some (.int (3*k+6)),some (.int wd),some (.int wo),some (.int (min (am*fl) 999999999999999999)),some (.str (nameAt (os.getD 4 0) (os.getD 5 0) k))],.inl ?_,_,_,_,_,_,_,_,?_,?_,?_,rfl⟩⟩
    · rw [show tD (ks++[⟨nameAt (os.getD 4 0) (os.getD 5 0) k,wd,min (wo*gn) 1000000000000000000,min (am*fl) 999999999999999999⟩])=.lst (ks.map kD++[.tup [.str (nameAt (os.getD 4 0) (os.getD 5 0) k),.int wd,.int (min (wo*gn) 1000000000000000000),.int (min (am*fl) 999999999999999999)]]) from congrArg D.lst map_append]
      exact turn
    · rw [length_append,kl];rfl
    · intro x hx
      rcases List.mem_append.mp hx with h | h
      · exact kok x h
      · rw [List.mem_singleton.mp h];exact kd
    · rw [map_append,knm,List.range_succ,map_append]
      rfl
  · rintro ρ ⟨ks,o8,o9,o10,o11,o12,o13,kl,kok,knm,rfl⟩
    rw [rngL_length] at kl
    exact ⟨ks,o8,o9,o10,o11,o12,o13,kl,kok,by rw [kl];rw [rngL_length] at knm;exact knm,rfl⟩
theorem flaw_ok (ns:List Int)(hn:ns.length≤63){i m:Int}(h0:0≤i)(h1:i<1000)(m0:0≤m)(m1:m≤1000):∃fl:Int,F__law_flaw [.scr ns,.int i,.int m]=.ok (.int fl)∧1≤fl∧fl≤100000000000000000:=by
 obtain ⟨os,hos,R⟩:=row_ok ns hn h0 h1 [m+1,4] (by decide:2≤1000) (max_lit (List.forall_mem_cons.mpr ⟨⟨by omega,by omega⟩,by decide⟩))
 have hol:os.length=2:=R.len
 have a1:0≤os.getD 1 0∧os.getD 1 0<4:=R.at_ 1 (by decide:1<2)
 obtain ⟨fl,hfl⟩:∃fl,fl=([1,1,7,100000000000000000]:List Int).getD (os.getD 1 0).toNat 0:=⟨_,rfl⟩
 have fl1:1≤fl∧fl≤100000000000000000:=by
  rw [hfl]
  exact getD_all (P:=fun z=>1≤z∧z≤100000000000000000) (by decide) (show _<4 from (toNat_lt a1.1).mpr a1.2)
 have i1:gIx (.lst [.int 1,.int 1,.int 7,.int 100000000000000000]) (.int (os.getD 1 0))=some (.int fl):=by rw [hfl];exact ix_lit [1,1,7,100000000000000000] a1.1 a1.2
 have i0:=ix_ints (ns:=os) (i:=1) (k:=1) rfl (by rw [hol];decide)
 exact ⟨fl,r_run (r_ret (r_f1 (r_f2 (r_fA (r_cons rfl (r_cons rfl (r_cons rfl (r_cons (r_f2 rfl rfl pow10_17) rfl)))) rfl) (r_f2 (r_call (r_cons rfl (r_cons rfl (r_cons (r_fA (r_cons (r_f2 rfl rfl rfl) rfl) rfl) rfl))) hos) rfl i0) i1) rfl)),fl1⟩
theorem roll_ok (ns:List Int)(hn:ns.length≤63){i m fl:Int}(h0:0≤i)(h1:i<1000)(m0:0≤m)(m1:m≤200)(f0:1≤fl)(f1:fl≤100000000000000000):∃ws,F__law_roll [.scr ns,.int i,.int m,.int fl]=.ok (iD ws)∧(ws.length:Int)≤m∧∀w∈ws,0≤w∧w≤1000000000000000000:=by
  have ms_eq:gAdd (iD [m+1,4,3]) (iD (List.replicate m.toNat [8,5]).flatten)=some (iD ([m+1,4,3]++(List.replicate m.toNat [8,5]).flatten)):=add_ints (by
    rw [rep_len]
    show 3+m.toNat*2≤1000000
    omega)
  have mr:=mul_rep (ws:=[8,5]) m0 (show m≤200 by omega) (by decide)
  have hml:([m+1,4,3]++(List.replicate m.toNat [(8:Int),5]).flatten).length=3+m.toNat*2:=by rw [length_append,rep_len];rfl
  obtain ⟨os,hos,R⟩:=row_ok ns hn h0 h1 ([m+1,4,3]++(List.replicate m.toNat [8,5]).flatten) (by omega) (max_lit (List.forall_mem_append.mpr ⟨List.forall_mem_cons.mpr ⟨⟨by omega,by omega⟩,by decide⟩,fun z hz=>(by decide:∀z∈[(8:Int),5],0<z∧z≤1000000) z (mem_rep hz)⟩))
  have hol:os.length=3+m.toNat*2:=by rw [R.len,hml]
  have hlt:∀{j:Nat},j<3→j<([m+1,4,3]++(List.replicate m.toNat [(8:Int),5]).flatten).length:=fun h=>by rw [hml];exact lt_of_lt_of_le h (le_add_right _ _)
  have hlo:∀{j:Nat},j<3→j<os.length:=fun h=>by rw [hol];exact lt_of_lt_of_le h (le_add_right _ _)
  have tri:∀k j:Nat,k<m.toNat→j<2→2*k+(j+3)<3+m.toNat*2:=fun k j h hj=>by omega
  have a0:0≤os.getD 0 0∧os.getD 0 0<m+1:=R.at_ 0 (hlt (by decide))
  have a1:0≤os.getD 1 0∧os.getD 1 0<4:=R.at_ 1 (hlt (by decide))
  have a2:0≤os.getD 2 0∧os.getD 2 0<3:=R.at_ 2 (hlt (by decide))
  have b2:∀k:Nat,k<m.toNat→(0≤os.getD (2*k+3) 0∧os.getD (2*k+3) 0<8)∧(0≤os.getD (2*k+4) 0∧os.getD (2*k+4) 0<5):=fun k hk=>by
    obtain ⟨g1,g2⟩:=rep2_get 8 5 m.toNat k hk
    have e:∀j:Nat,([m+1,4,3]++(List.replicate m.toNat [(8:Int),5]).flatten).getD (j+3) 0=(List.replicate m.toNat [(8:Int),5]).flatten.getD j 0:=fun j=>rfl
    have r1:=R.at_ (2*k+3) (by rw [hml];exact tri k 0 hk (by decide))
    have r2:=R.at_ (2*k+4) (by rw [hml];exact tri k 1 hk (by decide))
    rw [e (2*k),g1] at r1
    rw [show 2*k+4=(2*k+1)+3 from rfl,e (2*k+1),g2] at r2
    exact ⟨r1,r2⟩
  have ix:∀k:Nat,k<os.length→∀j:Int,j=(k:Int)→gIx (.lst (os.map D.int)) (.int j)=some (.int (os.getD k 0)):=fun k hk j e=>ix_ints e hk
  obtain ⟨gr,hgr,gr1⟩:∃gr:Int,gr=(if os.getD 2 0=0 then 1000000000000000000 else 9*fl)∧0≤gr∧gr≤1000000000000000000:=by
    refine ⟨_,rfl,?_⟩
    split
    · exact ⟨by decide,by decide⟩
    · exact ⟨mul_nonneg (by decide) (Int.le_trans (by decide) f0),Int.le_trans (Int.mul_le_mul_of_nonneg_left f1 (by decide)) (by decide)⟩
  obtain ⟨th,hth⟩:∃th,th=([0,1,3,6]:List Int).getD (os.getD 1 0).toNat 0:=⟨_,rfl⟩
  have ith:gIx (.lst [.int 0,.int 1,.int 3,.int 6]) (.int (os.getD 1 0))=some (.int th):=by rw [hth];exact ix_lit [0,1,3,6] a1.1 a1.2
  have key:=forD_inv (b:=bName 7) (s:=l__law_roll_6) (xs:=rngL 0 (os.getD 0 0).toNat) (ρ:=[some (.scr ns),some (.int i),some (.int m),some (.int fl),some (iD os),some (.int gr),some (.lst []),none,none,none])
    (P:=fun k ρ=>∃(ws:List Int) (o7 o8 o9:Option D),ws.length=k∧(∀x∈ws,0≤x∧x≤1000000000000000000)∧ρ=[some (.scr ns),some (.int i),some (.int m),some (.int fl),some (iD os),some (.int gr),some (iD ws),o7,o8,o9])
    (Rr:=fun r=>∃(ws:List Int) (o7 o8 o9:Option D),ws.length=(os.getD 0 0).toNat∧(∀x∈ws,0≤x∧x≤1000000000000000000)∧r=.ok (.nx [some (.scr ns),some (.int i),some (.int m),some (.int fl),some (iD os),some (.int gr),some (iD ws),o7,o8,o9]))
    ⟨[],none,none,none,rfl,(fun _ h=>nomatch h),rfl⟩ ?_ ?_
  · obtain ⟨ws,o7,o8,o9,wl,wok,e⟩:=key
    refine ⟨ws,?_,by omega,wok⟩
    have b1:-1000000000≤os.getD 0 0∧os.getD 0 0≤1000000:=by omega
    have mr':gMul (.lst [.int 8,.int 5]) (.int m)=_:=mr
    have ms':gAdd (.lst [.int (m+1),.int 4,.int 3]) (iD (List.replicate m.toNat [8,5]).flatten)=_:=ms_eq
    generalize iD ([m+1,4,3]++(List.replicate m.toNat [8,5]).flatten)=Mv at hos ms'
    generalize iD (List.replicate m.toNat [8,5]).flatten=Mw at mr' ms'
    have t1:gMul (.int 9) (.int fl)=some (.int (9*fl)):=mulS (by decide) (by decide)
    have body:∀Q r,Q [some (.scr ns),some (.int i),some (.int m),some (.int fl),some (iD os),some (.int gr),none,none,none,none]=r→(sSeq (sSet 5 (f2 gMul (fC (.int 9)) (fV 3))) (sSeq (sIf (cE (f2 gEq (f2 gIx (fV 4) (fC (.int 2))) (fC (.int 0)))) (sSet 5 (f2 gPow (fC (.int 10)) (fC (.int 18)))) sNx) Q)) [some (.scr ns),some (.int i),some (.int m),some (.int fl),some (iD os),none,none,none,none,none]=r:=fun Q r h=>by
      have c:∀z:Option D,(cE (f2 gEq (f2 gIx (fV 4) (fC (.int 2))) (fC (.int 0)))) [some (.scr ns),some (.int i),some (.int m),some (.int fl),some (iD os),z,none,none,none,none]=.ok (os.getD 2 0==0):=fun z=>r_cE (r_f2 (r_f2 rfl rfl (ix 2 (hlo (by decide)) 2 rfl)) rfl rfl)
      by_cases d:os.getD 2 0=0
      · rw [if_pos d] at hgr
        exact r_seq (r_set (r_f2 rfl rfl t1)) (r_seq (r_ifT ((c _).trans (by rw [d];rfl)) (r_set (r_f2 rfl rfl pow10_18))) (by rw [hgr] at h;exact h))
      · rw [if_neg d] at hgr
        exact r_seq (r_set (r_f2 rfl rfl t1)) (r_seq (r_ifF ((c _).trans (congrArg Dl.R.ok (beq_false_of_ne d))) rfl) (by rw [hgr] at h;exact h))
    exact r_run (r_seq (r_set (r_call (r_cons rfl (r_cons rfl (r_cons (r_f2 (r_fA (r_cons (r_f2 rfl rfl rfl) rfl) rfl) (r_f2 rfl rfl mr') ms') rfl))) hos)) (body _ _ (r_seq (r_set rfl) (r_seq (r_for (r_rng (r_cons (r_f2 rfl rfl (ix 0 (hlo (by decide)) 0 rfl)) rfl) b1) e) (r_ret rfl)))))
  · rintro k x ρ hx ⟨ws,o7,o8,o9,wl,wok,rfl⟩
    obtain ⟨hk,rfl⟩:=rngL_at hx
    rw [Int.zero_add]
    have hkm:k<m.toNat:=under hk a0.2
    obtain ⟨c1,c2⟩:=b2 k hkm
    have j0:=ix (2*k+3) (by rw [hol];exact tri k 0 hkm (by decide)) (2*k+3) rfl
    have j1:=ix (2*k+4) (by rw [hol];exact tri k 1 hkm (by decide)) (2*k+3+1) (Int.add_assoc _ 3 1)
    have jj:=ix 1 (hlo (by decide)) 1 rfl
    have sl:ws.length<lim:=by show _<1000000;omega
    obtain ⟨wt,hwt⟩:∃wt,wt=([fl,fl,2*fl,3*fl,gr]:List Int).getD (os.getD (2*k+4) 0).toNat 0:=⟨_,rfl⟩
    have wt1:0≤wt∧wt≤1000000000000000000:=by
      rw [hwt]
      have g:∀n:Int,1≤n→n≤3→0≤n*fl∧n*fl≤1000000000000000000:=fun n n0 n1=>⟨mul_nonneg (Int.le_trans (by decide) n0) (Int.le_trans (by decide) f0),Int.le_trans (Int.mul_le_mul n1 f1 (Int.le_trans (by decide) f0) (by decide)) (by decide)⟩
      have g1:0≤fl∧fl≤1000000000000000000:=⟨Int.le_trans (by decide) f0,Int.le_trans f1 (by decide)⟩
      exact getD_all (P:=fun z=>0≤z∧z≤1000000000000000000) (List.forall_mem_cons.mpr ⟨g1,List.forall_mem_cons.mpr ⟨g1,List.forall_mem_cons.mpr ⟨g 2 (by decide) (by decide),List.forall_mem_cons.mpr ⟨g 3 (by decide) (by decide),List.forall_mem_cons.mpr ⟨gr1,fun _ h=>nomatch h⟩⟩⟩⟩⟩) (show _<5 from (toNat_lt c2.1).mpr c2.2)
    have iw:gIx (.lst [.int fl,.int fl,.int (2*fl),.int (3*fl),.int gr]) (.int (os.getD (2*k+4) 0))=some (.int wt):=by rw [hwt];exact ix_lit [fl,fl,2*fl,3*fl,gr] c2.1 c2.2
    have t1:gMul (.int 2) (.int fl)=some (.int (2*fl)):=mulS (by decide) (by decide)
    have t2:gMul (.int 3) (.int fl)=some (.int (3*fl)):=mulS (by decide) (by decide)
    have t3:gMul (.int 2) (.int (k:Int))=some (.int (2*k)):=mulS (by decide) (by decide)
    have c:(cE (f2 gLt (f2 gIx (fV 4) (fV 8)) (f2 gIx (fA gLst (aCons (fC (.int 0)) (aCons (fC (.int 1)) (aCons (fC (.int 3)) (aCons (fC (.int 6)) aNil))))) (f2 gIx (fV 4) (fC (.int 1)))))) [some (.scr ns),some (.int i),some (.int m),some (.int fl),some (iD os),some (.int gr),some (iD ws),some (.int k),some (.int (2*k+3)),some (.int 0)]=.ok (decide (os.getD (2*k+3) 0<th)):=r_cE (r_f2 (r_f2 rfl rfl j0) (r_f2 rfl (r_f2 rfl rfl jj) ith) (by simp))
    have sl':(ws.map D.int).length<lim:=by rw [length_map];exact sl
    have all:∀z:Int,0≤z∧z≤1000000000000000000→∀x∈ws++[z],0≤x∧x≤1000000000000000000:=fun z hz x hx=>by
      rcases List.mem_append.mp hx with h | h
      · exact wok x h
      · rw [List.mem_singleton.mp h];exact hz
    refine ⟨_,rfl,.inl ?_⟩
    by_cases d:os.getD (2*k+3) 0<th
    · refine ⟨[some (.scr ns),some (.int i),some (.int m),some (.int fl),some (iD os),some (.int gr),some (iD (ws++[wt])),some (.int k),some (.int (2*k+3)),some (.int wt)],.inl ?_,_,_,_,_,by rw [length_append,wl];rfl,all wt wt1,rfl⟩
      rw [show iD (ws++[wt])=.lst (ws.map D.int++[.int wt]) from congrArg D.lst map_append]
      exact r_seq (r_set (r_f2 (r_f2 rfl rfl t3) rfl rfl)) (r_seq (r_set rfl) (r_seq (r_ifT (c.trans (congrArg Dl.R.ok (decide_eq_true d))) (r_set (r_f1 (r_f2 (r_fA (r_cons rfl (r_cons rfl (r_cons (r_f2 rfl rfl t1) (r_cons (r_f2 rfl rfl t2) rfl)))) rfl) (r_f2 rfl (r_f2 rfl rfl rfl) j1) iw) rfl))) (r_app rfl (r_f1 rfl rfl) sl')))
    · refine ⟨[some (.scr ns),some (.int i),some (.int m),some (.int fl),some (iD os),some (.int gr),some (iD (ws++[0])),some (.int k),some (.int (2*k+3)),some (.int 0)],.inl ?_,_,_,_,_,by rw [length_append,wl];rfl,all 0 ⟨by decide,by decide⟩,rfl⟩
      rw [show iD (ws++[0])=.lst (ws.map D.int++[.int 0]) from congrArg D.lst map_append]
      exact r_seq (r_set (r_f2 (r_f2 rfl rfl t3) rfl rfl)) (r_seq (r_set rfl) (r_seq (r_ifF (c.trans (congrArg Dl.R.ok (decide_eq_false d))) rfl) (r_app rfl (r_f1 rfl rfl) sl')))
  · rintro ρ ⟨ws,o7,o8,o9,wl,wok,rfl⟩
    rw [rngL_length] at wl
    exact ⟨ws,o7,o8,o9,wl,wok,rfl⟩
theorem drawn_ok (ns:List Int)(hn:ns.length≤63){i m c:Int}(h0:0≤i)(h1:i<900)(m0:0≤m)(m1:m≤200)(c0:0≤c)(c1:c≤8):∃ws ks,F__law_drawn [.scr ns,.int i,.int m,.int c]=.ok (.tup [iD ws,tD ks])∧(ws.length:Int)≤m∧(∀w∈ws,0≤w∧w≤1000000000000000000)∧(ks.length:Int)≤c∧TabOk ks:=by
 obtain ⟨fl,e1,f0,f1⟩:=flaw_ok ns hn h0 (show i<1000 by omega) c0 (show c≤1000 by omega)
 obtain ⟨ws,e2,w1,w2⟩:=roll_ok ns hn (i:=i+1) (by omega) (by omega) m0 m1 f0 f1
 obtain ⟨ks,e3,k1,k2⟩:=table_ok ns hn h0 (show i<1000 by omega) c0 c1
 exact ⟨ws,ks,r_run (r_seq (r_set (r_call (r_cons rfl (r_cons rfl (r_cons rfl rfl))) e1)) (r_ret (r_fA (r_cons (r_call (r_cons rfl (r_cons (r_f2 rfl rfl rfl) (r_cons rfl (r_cons rfl rfl)))) e2) (r_cons (r_call (r_cons rfl (r_cons rfl (r_cons rfl rfl))) e3) rfl)) rfl))),w1,w2,k1,k2⟩
end Dl
namespace Dl
noncomputable def S:Nat→(Nat→Int)→Int
 | 0,_=>0
 | n+1,f=>S n f+f n
noncomputable def pth (e:Nat→Nat→Int)(a:Nat):Nat→List Int
 | 0=>[1]
 | d+1=>pth e a d++[S (d+1) fun i=>e (a+i) (a+d+1)*(pth e a d).getD i 0]
noncomputable def W (e:Nat→Nat→Int)(a d:Nat):Int:=(pth e a d).getD d 0
end Dl
namespace Dl
open PySem
noncomputable def cntStep (ns:List Int)(ks:List Kd)(cs:List Int):Int:=cs.getD (cs.length - 1) 0+((ks.filter fun k=>good ns k ((cs.length:Int) - k.w)).map fun k=>cs.getD ((cs.length:Int) - k.w).toNat 0).sum
noncomputable def cnts (ns:List Int)(ks:List Kd):Nat→List Int
 | 0=>[1]
 | j+1=>cnts ns ks j++[cntStep ns ks (cnts ns ks j)]
noncomputable def cnt (ns:List Int)(ks:List Kd)(j:Nat):Int:=(cnts ns ks j).getD j 0
theorem good_bd {ns:List Int}{k:Kd}{p:Int}(h:good ns k p=true):0≤p∧p+k.w≤ns.length:=by
 have:=of_decide_eq_true h
 exact ⟨this.1,this.2.1⟩
theorem pre_rev (ns:List Int){i:Nat}(h:i≤ns.length):pre ns.reverse i=pre ns ns.length - pre ns (ns.length - i):=by
 unfold pre
 rw [List.take_reverse,List.sum_reverse,List.take_length]
 have e:=take_append_drop (ns.length - i) ns
 have:ns.sum=(ns.take (ns.length - i)).sum+(ns.drop (ns.length - i)).sum:=by rw [← sum_append,e]
 omega
theorem good_rev {ns:List Int}{k:Kd}{p:Int}(hw:1≤k.w):good ns.reverse k p=good ns k (ns.length - p - k.w):=by
 unfold good
 apply decide_eq_decide.mpr
 rw [List.length_reverse]
 constructor
 ·rintro ⟨h1,h2,h3⟩
  refine ⟨by omega,by omega,?_⟩
  rw [pre_rev ns (by omega),pre_rev ns (by omega)] at h3
  rw [show ns.length - (p+k.w).toNat=((ns.length:Int) - p - k.w).toNat by omega,show ns.length - p.toNat=((ns.length:Int) - p - k.w+k.w).toNat by omega] at h3
  omega
 ·rintro ⟨h1,h2,h3⟩
  refine ⟨by omega,by omega,?_⟩
  rw [pre_rev ns (by omega),pre_rev ns (by omega)]
  rw [show ns.length - (p+k.w).toNat=((ns.length:Int) - p - k.w).toNat by omega,show ns.length - p.toNat=((ns.length:Int) - p - k.w+k.w).toNat by omega]
  omega
noncomputable abbrev Cut:=List (Int×Str)×Int
noncomputable def addK (ns:List Int)(rows:List (List Cut))(e:Nat)(k:Kd):List Cut:=if good ns k ((e:Int) - k.w)=true then (rows.getD ((e:Int) - k.w).toNat []).map fun c=>(c.1++[((e:Int) - k.w,k.name)],c.2+k.wo) else []
noncomputable def rowOf (ns:List Int)(ks:List Kd)(rows:List (List Cut)):List Cut:=rows.getD (rows.length - 1) []++(ks.map (addK ns rows rows.length)).flatten
noncomputable def rowsA (ns:List Int)(ks:List Kd):Nat→List (List Cut)
 | 0=>[[([],0)]]
 | j+1=>rowsA ns ks j++[rowOf ns ks (rowsA ns ks j)]
mutual
theorem eqv_self:∀d:D,dep d≤20→eqv d d=true
 | .non,_=>rfl
 | .bl b,_=>beq_self_eq_true b
 | .int b,_=>beq_self_eq_true b
 | .str b,_=>beq_self_eq_true b
 | .lst xs,h=>eqvA_self xs (Nat.le_of_succ_le h)
 | .tup xs,h=>eqvA_self xs (Nat.le_of_succ_le h)
 | .scr _,h=>absurd h (by decide:¬100≤20)
 | .rng _ _,h=>absurd h (by decide:¬100≤20)
 | .exc _ _,h=>absurd h (by decide:¬100≤20)
 | .obj _ _ _,h=>absurd h (by decide:¬100≤20)
 | .dct _ _,h=>absurd h (by decide:¬100≤20)
 | .dtt _ _,h=>absurd h (by decide:¬100≤20)
theorem eqvA_self:∀xs:List D,depA xs≤20→eqvA xs xs=true
 | [],_=>rfl
 | x::xs,h=>by
  have a:dep x≤20∧depA xs≤20:=Nat.max_le.mp h
  show (eqv x x&&eqvA xs xs)=true
  rw [eqv_self x a.1,eqvA_self xs a.2]
  rfl
end
theorem gEq_self {d:D}(h:dep d≤20):gEq d d=some (.bl true):=by
 unfold gEq
 rw [if_pos ⟨h,h⟩,eqv_self d h]
noncomputable def hStep (ns:List Int)(ks:List Kd)(ts:List Int):Int:=maxL (ts.getD (ts.length - 1) 0::(ks.filter fun k=>good ns k ((ts.length:Int) - k.w)).map fun k=>ts.getD ((ts.length:Int) - k.w).toNat 0+k.wo)
noncomputable def hts (ns:List Int)(ks:List Kd):Nat→List Int
 | 0=>[0]
 | j+1=>hts ns ks j++[hStep ns ks (hts ns ks j)]
noncomputable def ht (ns:List Int)(ks:List Kd)(j:Nat):Int:=(hts ns ks j).getD j 0
theorem eq_str (a b:Str):gEq (.str a) (.str b)=some (.bl (a==b)):=rfl
theorem eq_int (a b:Int):gEq (.int a) (.int b)=some (.bl (a==b)):=rfl
theorem ne_int (a b:Int):gNe (.int a) (.int b)=some (.bl (!(a==b))):=rfl
theorem kind_of_ok (ks:List Kd)(hk:ks.length≤1000)(nd:(ks.map (·.name)).Nodup){k:Kd}(hm:k∈ks):F_kind_of [tD ks,.str k.name]=.ok (kD k):=by
 have hl:ks.length≤lim:=by show _≤1000000;omega
 have key:∀(l:List Kd) (o:Option D),(l.map (·.name)).Nodup→k∈l→forD (bName 2) l_kind_of_1 (l.map kD) [some (tD ks),some (.str k.name),o]=.ok (.ret (kD k)):=by
  intro l
  induction l with
  | nil=>intro o _ h;cases h
  | cons x l ih =>
   intro o nd h
   rw [map_cons,forD_cons]
   rw [map_cons,List.nodup_cons] at nd
   by_cases e:x.name=k.name
   ·have ex:x=k:=by
     rcases List.mem_cons.mp h with q | q
     ·exact q.symm
     ·exact absurd (e▸List.mem_map.mpr ⟨k,q,rfl⟩) nd.1
    subst ex
    generalize tD ks=T
    simp [l_kind_of_1,eq_str]
   ·have hm:k∈l:=by
     rcases List.mem_cons.mp h with q | q
     ·exact absurd (by rw [q]) e
     ·exact q
    have:=ih (some (kD x)) nd.2 hm
    generalize tD ks=T at *
    have hs:l_kind_of_1 [some T,some (.str k.name),some (kD x)]=.ok (.nx [some T,some (.str k.name),some (kD x)]):=by simp [l_kind_of_1,eq_str,e]
    simp [hs,this]
 have h:=key ks none nd hm
 have ht:tD ks=.lst (ks.map kD):=rfl
 have hl':(ks.map kD).length≤lim:=by rw [length_map];exact hl
 rw [ht] at h ⊢
 generalize ks.map kD=KK at *
 simp [F_kind_of,q_kind_of,hl',h]
inductive Way (ns:List Int)(ks:List Kd):Nat→Nat→Int→Prop where
 | nil (a:Nat):Way ns ks a a 0
 | skip {a b:Nat} {w:Int}:Way ns ks a b w→b+1≤ns.length→Way ns ks a (b+1) w
 | piece {a b:Nat} {w:Int} {k:Kd}:Way ns ks a b w→k∈ks→good ns k (b:Int)=true→Way ns ks a (b+k.w.toNat) (w+k.wo)
section
variable {ns:List Int}{ks:List Kd}
end
noncomputable def V {α:Type}:R α→(α→Prop)→Prop
 | .ok a,Q=>Q a
 | .err _ _,_=>False
 | .bad,_=>False
@[simp] theorem V_ok {α:Type}(a:α)(Q:α→Prop):V (.ok a) Q=Q a:=(rfl)
theorem V_bind {α β:Type}(r:R α)(f:α→R β)(Q:β→Prop):V (r.bind f) Q=V r fun a=>V (f a) Q:=by cases r<;>rfl
theorem V.imp {α:Type}{r:R α}{Q Q':α→Prop}(h:V r Q)(g:∀a,Q a→Q' a):V r Q':=by
 cases r with
 | ok a=>exact g a h
 | err _ _=>exact h
 | bad=>exact h
theorem V.ex {α:Type}{r:R α}{Q:α→Prop}(h:V r Q):∃a,r=.ok a∧Q a:=by
 cases r with
 | ok a=>exact ⟨a,rfl,h⟩
 | err _ _=>exact h.elim
 | bad=>exact h.elim
theorem V.of {α:Type}{r:R α}{a:α}{Q:α→Prop}(e:r=.ok a)(h:Q a):V r Q:=by rw [e];exact h
noncomputable def turn (b:FB)(s:FS)(x:D)(ρ:Env):R Fl:=(b x ρ).calm.bind s
noncomputable def Tn (P:Env→Prop)(Q:Fl→Prop):Fl→Prop
 | .nx ρ=>P ρ
 | .cnt ρ=>P ρ
 | .brk ρ=>Q (.nx ρ)
 | .ret d=>Q (.ret d)
@[simp] theorem Tn_nx (P:Env→Prop)(Q:Fl→Prop)(ρ:Env):Tn P Q (.nx ρ)=P ρ:=(rfl)
@[simp] theorem Tn_cnt (P:Env→Prop)(Q:Fl→Prop)(ρ:Env):Tn P Q (.cnt ρ)=P ρ:=(rfl)
@[simp] theorem Tn_brk (P:Env→Prop)(Q:Fl→Prop)(ρ:Env):Tn P Q (.brk ρ)=Q (.nx ρ):=(rfl)
@[simp] theorem Tn_ret (P:Env→Prop)(Q:Fl→Prop)(d:D):Tn P Q (.ret d)=Q (.ret d):=(rfl)
theorem V_for {b:FB}{s:FS}{Q:Fl→Prop}{P:List D→Env→Prop}(hs:∀x r ρ,P (x::r) ρ→V (turn b s x ρ) (Tn (P r) Q))(hd:∀ρ,P [] ρ→Q (.nx ρ)):∀{xs:List D} {ρ:Env},P xs ρ→V (forD b s xs ρ) Q
 | [],ρ,h=>hd ρ h
 | x::xs,ρ,h=>by
  have t:=hs x xs ρ h
  unfold turn at t
  rw [V_bind] at t
  rw [forD_cons,V_bind]
  refine t.imp fun ρ1 q=>?_
  rw [V_bind]
  refine q.imp fun fl q=>?_
  cases fl with
  | nx ρ2=>exact V_for hs hd q
  | cnt ρ2=>exact V_for hs hd q
  | brk ρ2=>exact q
  | ret d=>exact q
theorem V_forM {α:Type}{enc:α→D}{b:FB}{s:FS}{Q:Fl→Prop}{P:List α→Env→Prop}(hs:∀x r ρ,P (x::r) ρ→V (turn b s (enc x) ρ) (Tn (P r) Q))(hd:∀ρ,P [] ρ→Q (.nx ρ)){xs:List α}{ρ:Env}(h:P xs ρ):V (forD b s (xs.map enc) ρ) Q:=by
 refine V_for (P:=fun ds ρ=>∃ys:List α,ds=ys.map enc∧P ys ρ) (fun x r ρ p=>?_) (fun ρ p=>?_) ⟨xs,rfl,h⟩
 ·obtain ⟨ys,e,p⟩:=p
  cases ys with
  | nil=>cases e
  | cons y ys =>
   rw [map_cons,List.cons.injEq] at e
   obtain ⟨rfl,rfl⟩:=e
   refine (hs y ys ρ p).imp fun fl q=>?_
   cases fl with
   | nx ρ2=>exact ⟨ys,rfl,q⟩
   | cnt ρ2=>exact ⟨ys,rfl,q⟩
   | brk ρ2=>exact q
   | ret d=>exact q
 ·obtain ⟨ys,e,p⟩:=p
  cases ys with
  | nil=>exact hd ρ p
  | cons y ys=>cases e
theorem V_forI {b:FB}{s:FS}{Q:Fl→Prop}{P:Nat→Env→Prop}{xs:List D}{ρ:Env}(h0:P 0 ρ)(hs:∀i x ρ,xs[i]?=some x→P i ρ→V (turn b s x ρ) (Tn (P (i+1)) Q))(hd:∀ρ,P xs.length ρ→Q (.nx ρ)):V (forD b s xs ρ) Q:=by
 refine V_for (P:=fun r ρ=>∃i,r=xs.drop i∧i≤xs.length∧P i ρ) (fun x r ρ p=>?_) (fun ρ p=>?_) ⟨0,rfl,zero_le _,h0⟩
 ·obtain ⟨i,e,hi,p⟩:=p
  have hl:i<xs.length:=by
   rcases Nat.lt_or_ge i xs.length with q | q
   ·exact q
   ·rw [List.drop_of_length_le q] at e;cases e
  rw [drop_eq_getElem_cons hl,List.cons.injEq] at e
  obtain ⟨rfl,rfl⟩:=e
  refine (hs i _ ρ (getElem?_eq_getElem hl) p).imp fun fl q=>?_
  cases fl with
  | nx ρ2=>exact ⟨i+1,rfl,hl,q⟩
  | cnt ρ2=>exact ⟨i+1,rfl,hl,q⟩
  | brk ρ2=>exact q
  | ret d=>exact q
 ·obtain ⟨i,e,hi,p⟩:=p
  have:i=xs.length:=by
   have:=congrArg List.length e
   rw [length_drop,List.length_nil] at this
   omega
  subst this
  exact hd ρ p
theorem V_rng {b:FB}{s:FS}{Q:Fl→Prop}{P:Nat→Env→Prop}{lo:Int}{n:Nat}{ρ:Env}(h0:P 0 ρ)(hs:∀i ρ,i<n→P i ρ→V (turn b s (.int (lo+i)) ρ) (Tn (P (i+1)) Q))(hd:∀ρ,P n ρ→Q (.nx ρ)):V (forD b s (rngL lo n) ρ) Q:=
  V_forI h0 (fun i x ρ hx p=>by
    obtain ⟨hi,rfl⟩:=rngL_at hx
    exact hs i ρ hi p) (fun ρ p=>hd ρ (by rw [rngL_length] at p;exact p))
theorem V_rng0 {b:FB}{s:FS}{Q:Fl→Prop}{P:Nat→Env→Prop}{n:Nat}{ρ:Env}(h0:P 0 ρ)(hs:∀(i:Nat) ρ,i<n→P i ρ→V (turn b s (.int (i:Int)) ρ) (Tn (P (i+1)) Q))(hd:∀ρ,P n ρ→Q (.nx ρ)):V (forD b s (rngL 0 n) ρ) Q:=
 V_rng h0 (fun i ρ hi p=>by rw [Int.zero_add];exact hs i ρ hi p) hd
@[simp] theorem turn_name (i:Nat)(s:FS)(x:D)(ρ:Env):turn (bName i) s x ρ=s (ρ.set i (some x)):=(rfl)
@[simp] theorem ev_fJoin (a b:FE)(ρ:Env):fJoin a b ρ=(a ρ).bind fun x=>match x with | .str s=>(b ρ).bind fun y=>oR (gJoin (.str s) y) | _=>.bad:=(rfl)
@[simp] theorem calm_bad {α:Type}:(R.bad:R α).calm=.bad:=(rfl)
@[simp] theorem gLst_7 (a0 a1 a2 a3 a4 a5 a6:D):gLst [a0,a1,a2,a3,a4,a5,a6]=some (.lst [a0,a1,a2,a3,a4,a5,a6]):=rfl
@[simp] theorem gLst_8 (a0 a1 a2 a3 a4 a5 a6 a7:D):gLst [a0,a1,a2,a3,a4,a5,a6,a7]=some (.lst [a0,a1,a2,a3,a4,a5,a6,a7]):=rfl
@[simp] theorem gLst_9 (a0 a1 a2 a3 a4 a5 a6 a7 a8:D):gLst [a0,a1,a2,a3,a4,a5,a6,a7,a8]=some (.lst [a0,a1,a2,a3,a4,a5,a6,a7,a8]):=rfl
theorem add_str {x y:Str}{n m:Nat}(h:plain n x=true)(g:plain m y=true)(e:n+m≤1000):gAdd (.str x) (.str y)=some (.str (x++y)):=by
 unfold gAdd
 simp only []
 unfold plain at h g
 rw [Bool.and_eq_true] at h g
 have:=of_decide_eq_true h.1
 have:=of_decide_eq_true g.1
 rw [if_pos (by show _≤1000000;omega)]
noncomputable def eL:Nat→List Int→List D
 | _,[]=>[]
 | k,w::r=>.tup [.int (k:Int),.int w]::eL (k+1) r
theorem neX {d:D}(h:dep d≤20):gNe d d=some (.bl false):=by
 have hs:=gEq_self h
 simp only [gEq] at hs
 rw [if_pos ⟨h,h⟩] at hs
 have:eqv d d=true:=by simpa using hs
 simp only [gNe]
 rw [if_pos ⟨h,h⟩,this]
 rfl
theorem len_ints {e:FE}{ρ:Env}{ws:List Int}(h:e ρ=.ok (iD ws)):fA gLen (aCons e aNil) ρ=.ok (.int ws.length):=r_fA (r_cons h rfl) (by simp [iD,gLen])
theorem list_ints (ws:List Int):gList [iD ws]=some (iD ws):=by simp [iD,gList]
section
variable {ns:List Int}{ks:List Kd}
noncomputable def tg (ns:List Int)(ks:List Kd)(b:Nat):List Kd:=ks.filter fun k=>decide (ht ns ks ((b:Int) - k.w).toNat+k.wo=ht ns ks b)
noncomputable def be (ns:List Int)(ks:List Kd)(c b:Nat):Int:=(if b=c+1∧ht ns ks b=ht ns ks c then 1 else 0)+(((tg ns ks b).filter fun k=>good ns k c&&decide ((c:Int)+k.w=b)).length:Int)
noncomputable def cb (ns:List Int)(ks:List Kd)(e:Nat):Int:=W (be ns ks) 0 e
noncomputable def rs (ns:List Int)(ks:List Kd)(e:Nat):Int:=ht ns.reverse ks (ns.length - e)
theorem turnedI (ns:List Int):F_turned [iD ns]=.ok (iD ns.reverse):=r_run (r_ret (r_f1 rfl (by simp [gLRev,iD])))
noncomputable abbrev PK:=Nat×Kd
noncomputable def nm (x:PK):Int×Str:=((x.1:Int),x.2.name)
noncomputable def enN (x:PK):Nat:=((x.1:Int)+x.2.w).toNat
noncomputable def apAt (ns:List Int)(ks:List Kd)(p:Nat):List PK:=(ks.filter fun k=>good ns k (p:Int)).map fun k=>(p,k)
noncomputable def apTo (ns:List Int)(ks:List Kd)(n:Nat):List PK:=((List.range n).map (apAt ns ks)).flatten
noncomputable def may (ns:List Int)(ks:List Kd)(x:PK):Bool:=decide (ht ns ks x.1+x.2.wo+rs ns ks (enN x)=ht ns ks ns.length)
noncomputable def must (ns:List Int)(ks:List Kd)(x:PK):Bool:=decide (cb ns ks x.1*cb ns.reverse ks (ns.length - enN x)=cb ns ks ns.length)
noncomputable def nsD (xs:List PK):D:=psD (xs.map nm)
theorem apAt_len (p:Nat):(apAt ns ks p).length≤ks.length:=by
 unfold apAt
 rw [length_map]
 exact List.length_filter_le _ _
theorem apTo_succ (n:Nat):apTo ns ks (n+1)=apTo ns ks n++apAt ns ks n:=by
 unfold apTo
 rw [List.range_succ,map_append,flatten_append]
 simp
theorem apTo_len:∀n,(apTo ns ks n).length≤n*ks.length
 | 0=>by simp [apTo]
 | n+1=>by
  have h1:=apTo_len n
  have h2:=apAt_len (ns:=ns) (ks:=ks) n
  rw [apTo_succ,length_append,Nat.succ_mul]
  omega
theorem ap_mem {n:Nat}{x:PK}(h:x∈apTo ns ks n):x.1<n∧x.2∈ks∧good ns x.2 (x.1:Int)=true:=by
 obtain ⟨l,hl,hx⟩:=List.mem_flatten.mp h
 obtain ⟨p,hp,rfl⟩:=List.mem_map.mp hl
 obtain ⟨k,hk,rfl⟩:=List.mem_map.mp hx
 obtain ⟨h1,h2⟩:=List.mem_filter.mp hk
 exact ⟨List.mem_range.mp hp,h1,h2⟩
theorem nsD_map (xs:List PK):nsD xs=.lst (xs.map fun x=>pD (nm x)):=by
 unfold nsD psD
 rw [map_map]
 rfl
theorem nsD_app (xs:List PK)(x:PK):nsD (xs++[x])=.lst ((xs.map nm).map pD++[.tup [.int x.1,.str x.2.name]]):=by
 unfold nsD psD
 rw [map_append,map_append]
 rfl
theorem ns_len (xs:List PK):((xs.map nm).map pD).length=xs.length:=by rw [length_map,length_map]
theorem filt_snoc {α β:Type}(L:List β)(f:α→β)(p:α→Bool)(dn:List α)(k:α):L++((dn++[k]).filter p).map f=if p k=true then (L++(dn.filter p).map f)++[f k] else L++(dn.filter p).map f:=by
 rw [List.filter_append,List.filter_cons]
 split
 ·rw [List.filter_nil,map_append,append_assoc]
  rfl
 ·rw [List.filter_nil,append_nil]
theorem pieces_ok (hn:ns.length≤900)(hk:ks.length≤100)(hw:∀k∈ks,1≤k.w):F_all_pieces [iD ns,tD ks]=.ok (nsD (apTo ns ks ns.length)):=by
 have inner:∀(p:Nat),p<ns.length→∀(o:Option D),V (forD (bName 4) l_all_pieces_3 (ks.map kD) [some (iD ns),some (tD ks),some (nsD (apTo ns ks p)),some (.int p),o]) (fun fl=>∃o',fl=.nx [some (iD ns),some (tD ks),some (nsD (apTo ns ks (p+1))),some (.int p),o']):=fun p hp o=>by
  refine V_forM (P:=fun r ρ=>∃dn o,dn++r=ks∧ρ=[some (iD ns),some (tD ks),some (nsD (apTo ns ks p++(dn.filter fun k=>good ns k (p:Int)).map fun k=>(p,k))),some (.int p),o]) (fun k r ρ h=>?_) (fun ρ h=>?_) ⟨[],o,rfl,by rw [List.filter_nil,map_nil,append_nil]⟩
  ·obtain ⟨dn,o,e,rfl⟩:=h
   have hkm:k∈ks:=by rw [← e];exact mem_append_right _ (.head _)
   have hf:=fits_ok ns k (p:Int) (hw k hkm)
   have e2:(dn++[k])++r=ks:=by rw [append_assoc];exact e
   have hdl:dn.length≤ks.length:=by rw [← e,length_append];omega
   have hs:=filt_snoc (apTo ns ks p) (fun k=>(p,k)) (fun k=>good ns k (p:Int)) dn k
   rw [turn_name]
   have hl1:=apTo_len (ns:=ns) (ks:=ks) p
   have hl2:p*ks.length≤900*100:=mul_le_mul (by omega) hk
   have hl3:=List.length_filter_le (fun k=>good ns k (p:Int)) dn
   have hl4:(apTo ns ks p++(dn.filter fun k=>good ns k (p:Int)).map fun k=>(p,k)).length<1000000:=by
    rw [length_append,length_map]
    omega
   generalize apTo ns ks p++(dn.filter fun k=>good ns k (p:Int)).map (fun k=>(p,k))=L at *
   cases g:good ns k (p:Int) with
   | false =>
    rw [g] at hf hs
    rw [if_neg Bool.false_ne_true] at hs
    refine V.of (a:=.nx [some (iD ns),some (tD ks),some (nsD L),some (.int p),some (kD k)]) (r_ifF (r_cE (r_call (r_cons rfl (r_cons rfl (r_cons rfl rfl))) hf)) rfl) ?_
    exact ⟨dn++[k],_,e2,by rw [hs]⟩
   | true =>
    rw [g] at hf hs
    rw [if_pos rfl] at hs
    refine V.of (a:=.nx [some (iD ns),some (tD ks),some (nsD (L++[(p,k)])),some (.int p),some (kD k)]) ?_ (by exact ⟨dn++[k],_,e2,by rw [hs]⟩)
    rw [nsD_app]
    exact r_ifT (r_cE (r_call (r_cons rfl (r_cons rfl (r_cons rfl rfl))) hf)) (r_app (xs:=(L.map nm).map pD) rfl (r_fA (r_cons (r_f1 rfl rfl) (r_cons (r_f1 (r_f2 rfl rfl (kD_0 k)) rfl) rfl)) rfl) (by rw [ns_len];exact hl4))
  ·obtain ⟨dn,o,e,rfl⟩:=h
   rw [append_nil] at e
   subst e
   exact ⟨o,by rw [apTo_succ];rfl⟩
 have outer:V (forD (bName 3) l_all_pieces_2 (rngL 0 ns.length) [some (iD ns),some (tD ks),some (nsD (apTo ns ks 0)),none,none]) (fun fl=>∃a b,fl=.nx [some (iD ns),some (tD ks),some (nsD (apTo ns ks ns.length)),a,b]):=by
  refine V_rng0 (P:=fun p ρ=>∃a b,ρ=[some (iD ns),some (tD ks),some (nsD (apTo ns ks p)),a,b]) ⟨none,none,rfl⟩ (fun p ρ hp h=>?_) (fun ρ h=>?_)
  ·obtain ⟨a,b,rfl⟩:=h
   rw [turn_name]
   obtain ⟨fl,h1,o',rfl⟩:=(inner p hp b).ex
   exact V.of (r_for (r_jList (xs:=ks.map kD) rfl (by rw [length_map];show _≤1000000;omega)) h1) ⟨_,_,rfl⟩
  ·obtain ⟨a,b,rfl⟩:=h
   exact ⟨a,b,rfl⟩
 obtain ⟨fl,h1,a,b,rfl⟩:=outer.ex
 exact r_run (r_seq (r_set rfl) (r_seq (r_for (r_rng (r_cons (len_ints rfl) rfl) (by omega)) h1) (r_ret rfl)))
theorem end_ok (hk:ks.length≤1000)(nd:(ks.map (·.name)).Nodup){x:PK}(hx:x.2∈ks):F_end_of [tD ks,pD (nm x)]=.ok (.int ((x.1:Int)+x.2.w)):=
 r_run (r_ret (r_f2 (r_f2 rfl rfl (pD_0 _)) (r_f2 (r_call (r_cons rfl (r_cons (r_f2 rfl rfl (pD_1 _)) rfl)) (kind_of_ok ks hk nd hx)) rfl (kD_1 _)) rfl))
theorem en_bd {x:PK}(h:good ns x.2 (x.1:Int)=true)(h1:1≤x.2.w):enN x≤ns.length∧((x.1:Int)+x.2.w)=((enN x:Nat):Int):=by
 have:=good_bd h
 unfold enN
 omega
end
theorem is_cutting_ok (ps:List (Int×Str))(hl:ps.length≤100000):F__law_is_cutting [psD ps]=.ok (.bl true):=by
 have key:V (forD (bName 1) l__law_is_cutting_3 (ps.map pD) [some (psD ps),none]) (fun fl=>∃o,fl=.nx [some (psD ps),o]):=by
  refine V_forM (P:=fun r ρ=>∃o,ρ=[some (psD ps),o]) (fun p r ρ q=>?_) (fun ρ q=>?_) ⟨none,rfl⟩
  ·obtain ⟨o,rfl⟩:=q
   refine V.of (a:=.nx [some (psD ps),some (pD p)]) ?_ (by exact ⟨_,rfl⟩)
   rw [turn_name]
   exact r_seq (r_ifF (r_cOrF (r_cNot (b:=true) (r_cE (r_f1 rfl rfl))) (r_cE (r_f2 (r_fA (r_cons rfl rfl) rfl) rfl rfl))) rfl) (r_ifF (r_cOrF (r_cNot (b:=true) (r_cE (r_call (r_cons (r_f2 rfl rfl (pD_0 p)) rfl) (whole_ok p.1)))) (r_cNot (b:=true) (r_cE (r_f1 (r_f2 rfl rfl (pD_1 p)) rfl)))) rfl)
  ·obtain ⟨o,rfl⟩:=q
   exact ⟨o,rfl⟩
 obtain ⟨fl,h1,o,rfl⟩:=key.ex
 exact r_run (r_seq (r_ifF (r_cNot (b:=true) (r_cE (r_f1 rfl rfl))) rfl) (r_seq (r_for (r_jList (xs:=ps.map pD) rfl (by rw [length_map];show _≤1000000;omega)) h1) (r_ret rfl)))
noncomputable def m__law_from_behind_2:FS:=
 (sApp 3 (fA gTup (aCons (f2 gSub (fV 2) (fCall F_end_of (aCons (fV 1) (aCons (fA gTup (aCons (fV 4) (aCons (fV 5) aNil))) aNil)))) (aCons (f1 gFlat (fV 5)) aNil))))
noncomputable def p__law_from_behind:FS:=
  (sSeq (sSet 3 (fA gLst aNil))
    (sSeq (sFor (jList (fV 0)) (bTup (bCons (bName 4) (bCons (bName 5) bNil))) m__law_from_behind_2)
    (sSeq (sSet 6 (fA gSortP (aCons (fComp 7 1 (jList (fV 3)) (bName 7) cYes (fCall F__law_spot (aCons (fV 7) (aCons (fV 1) aNil)))) aNil)))
    (sRet (fComp 7 2 (jList (fV 6)) (bTup (bCons (bName 7) (bCons (bName 8) bNil))) cYes (fA gTup (aCons (f1 gFlat (fV 7)) (aCons (f1 gFlat (f2 gIx (f2 gIx (fV 1) (fV 8)) (fC (.int 0)))) aNil))))))))
noncomputable def G__law_from_behind (ds:List D):R D:=(run 7 p__law_from_behind ds).calm
noncomputable def l__law_over_2:FS:=
 (sTPut 5 (fV 6) (fC (.bl true)))
noncomputable def l__law_over_5:FS:=
 (sTPut 7 (fA gTup (aCons (f2 gAdd (fV 8) (fV 4)) (aCons (fV 9) aNil))) (fC (.bl true)))
noncomputable def l__law_over_7:FS:=
 (sTPut 7 (fV 6) (fC (.bl true)))
noncomputable def l__law_over_12:FS:=
 (sIf (cAnd (cE (f2 gTNotIn (fV 6) (fV 7))) (cNot (cE (fChain gLt gLt (f2 gIx (fV 6) (fC (.int 0))) (fV 4) (fCall F_end_of (aCons (fV 3) (aCons (fV 6) aNil))))))) (sRet (fC (.bl false))) sNx)
noncomputable def q__law_over:FS:=
  (sSeq (sSet 5 (fC (.dtt [] [])))
    (sSeq (sFor (jList (fV 0)) (bName 6) l__law_over_2)
    (sSeq (sSet 7 (fC (.dtt [] [])))
    (sSeq (sFor (jList (fV 2)) (bTup (bCons (bName 8) (bCons (bName 9) bNil))) l__law_over_5)
    (sSeq (sFor (jList (fV 1)) (bName 6) l__law_over_7)
    (sSeq (sForT 7 6 (cE (f2 gTNotIn (fV 6) (fV 5))) false)
    (sSeq (sFor (jList (fV 0)) (bName 6) l__law_over_12)
    (sRet (fC (.bl true))))))))))
noncomputable def F__law_over (ds:List D):R D:=(run 10 q__law_over ds).calm
noncomputable def l__law_each_good_1:FS:=
  (sSeq (sSet 4 (fCall F_kind_of (aCons (fV 1) (aCons (f2 gIx (fV 3) (fC (.int 1))) aNil))))
    (sSeq (sIf (cE (f2 gGt (fA gSum (aCons (fSl gSl (fV 0) (oSome (f2 gIx (fV 3) (fC (.int 0)))) (oSome (f2 gAdd (f2 gIx (fV 3) (fC (.int 0))) (f2 gIx (fV 4) (fC (.int 1)))))) aNil)) (f2 gIx (fV 4) (fC (.int 3))))) (sRet (fC (.bl false))) sNx)
    (sIf (cE (f2 gGt (fCall F_spoilt (aCons (fV 0) (aCons (f2 gIx (fV 3) (fC (.int 0))) (aCons (fCall F_end_of (aCons (fV 1) (aCons (fV 3) aNil))) aNil)))) (f2 gIx (fV 4) (fC (.int 3))))) (sRet (fC (.bl false))) sNx)))
noncomputable def q__law_each_good:FS:=
  (sSeq (sFor (jList (fV 2)) (bName 3) l__law_each_good_1)
    (sRet (fC (.bl true))))
noncomputable def F__law_each_good (ds:List D):R D:=(run 5 q__law_each_good ds).calm
noncomputable def l__law_heavier_2:FS:=
 (sTPut 5 (fV 6) (fC (.bl false)))
noncomputable def l__law_heavier_4:FS:=
  (sSeq (sIf (cE (f2 gTNotIn (fV 6) (fV 5))) (sRet (fC (.bl false))) sNx)
    (sTPut 5 (fV 6) (fC (.bl true))))
noncomputable def l__law_heavier_8:FS:=
 (sIf (cAnd (cNot (cE (f2 gTAt (fV 5) (fV 6)))) (cNot (cE (fChain gLe gLt (f2 gIx (fV 6) (fC (.int 0))) (fV 3) (fCall F_end_of (aCons (fV 1) (aCons (fV 6) aNil))))))) (sRet (fC (.bl false))) sNx)
noncomputable def q__law_heavier:FS:=
  (sSeq (sSet 5 (fC (.dtt [] [])))
    (sSeq (sFor (jList (fV 2)) (bName 6) l__law_heavier_2)
    (sSeq (sFor (jList (fCall F_all_pieces (aCons (fCall F_changed (aCons (fV 0) (aCons (fV 3) (aCons (fV 4) aNil)))) (aCons (fV 1) aNil)))) (bName 6) l__law_heavier_4)
    (sSeq (sFor (jList (fV 2)) (bName 6) l__law_heavier_8)
    (sRet (fC (.bl true)))))))
noncomputable def F__law_heavier (ds:List D):R D:=(run 7 q__law_heavier ds).calm
noncomputable def q_law:FS:=
  (sSeq (sAsg (fCall F__law_drawn (aCons (fV 0) (aCons (fC (.int 0)) (aCons (fC (.int 30)) (aCons (fC (.int 8)) aNil))))) (bTup (bCons (bName 1) (bCons (bName 2) bNil))))
    (sSeq (sSet 3 (fCall F__law_roll (aCons (fV 0) (aCons (fC (.int 2)) (aCons (fC (.int 30)) (aCons (fCall F__law_flaw (aCons (fV 0) (aCons (fC (.int 0)) (aCons (fC (.int 8)) aNil)))) aNil))))))
    (sSeq (sSet 4 (fCall F__law_row (aCons (fV 0) (aCons (fC (.int 3)) (aCons (fA gLst (aCons (fC (.int 8)) (aCons (fC (.int 120)) (aCons (f2 gPow (fC (.int 10)) (fC (.int 18))) aNil)))) aNil)))))
    (sSeq (sIf (cE (f2 gEq (f2 gIx (fV 4) (fC (.int 0))) (fC (.int 0)))) (sSet 1 (fSl gSl (f2 gAdd (f2 gMul (fV 1) (fC (.int 4))) (f2 gMul (fA gLst (aCons (fC (.int 0)) aNil)) (fC (.int 120)))) oNone (oSome (fC (.int 120))))) sNx)
    (sSeq (sSet 5 (fCall F_all_pieces (aCons (fV 1) (aCons (fV 2) aNil))))
    (sSeq (sSet 6 (fCall F_all_pieces (aCons (fV 3) (aCons (fV 2) aNil))))
    (sSeq (sIf (cOr (cNot (cE (fCall F__law_is_cutting (aCons (fV 5) aNil)))) (cNot (cE (fCall F__law_each_good (aCons (fV 1) (aCons (fV 2) (aCons (fV 5) aNil))))))) (sRet (fC (.bl false))) sNx)
    (sSeq (sIf (cE (f2 gNe (fCall F_all_pieces (aCons (fCall F_turned (aCons (fV 1) aNil)) (aCons (fV 2) aNil))) (fCall G__law_from_behind (aCons (fV 5) (aCons (fV 2) (aCons (fA gLen (aCons (fV 1) aNil)) aNil)))))) (sRet (fC (.bl false))) sNx)
    (sSeq (sSet 7 (fCall F_joined (aCons (fA gLst (aCons (fV 1) (aCons (fV 3) aNil))) aNil)))
    (sSeq (sSet 8 (fCall F_all_pieces (aCons (fV 7) (aCons (fV 2) aNil))))
    (sSeq (sIf (cNot (cE (fCall F__law_each_good (aCons (fV 7) (aCons (fV 2) (aCons (fV 8) aNil)))))) (sRet (fC (.bl false))) sNx)
    (sSeq (sIf (cNot (cE (fCall F__law_over (aCons (fV 8) (aCons (fV 5) (aCons (fV 6) (aCons (fV 2) (aCons (fA gLen (aCons (fV 1) aNil)) aNil)))))))) (sRet (fC (.bl false))) sNx)
    (sSeq (sIf (cE (f2 gEq (fA gLen (aCons (fV 1) aNil)) (fC (.int 0)))) (sRet (fC (.bl true))) sNx)
    (sSeq (sSet 9 (f2 gMod (f2 gIx (fV 4) (fC (.int 1))) (fA gLen (aCons (fV 1) aNil))))
    (sSeq (sSet 10 (fA gMin (aCons (f2 gPow (fC (.int 10)) (fC (.int 18))) (aCons (f2 gAdd (f2 gAdd (f2 gIx (fV 1) (fV 9)) (fC (.int 1))) (f2 gIx (fV 4) (fC (.int 2)))) aNil))))
    (sRet (fCall F__law_heavier (aCons (fV 1) (aCons (fV 2) (aCons (fV 5) (aCons (fV 9) (aCons (fV 10) aNil))))))))))))))))))))))
noncomputable def F_law (ds:List D):R D:=(run 11 q_law ds).calm
noncomputable def ixK (ks:List Kd)(k:Kd):Nat:=ks.findIdx fun j=>decide (j.name=k.name)
theorem ixK_lt {ks:List Kd}{k:Kd}(h:k∈ks):ixK ks k<ks.length:=List.findIdx_lt_length_of_exists ⟨k,h,decide_eq_true rfl⟩
theorem ixK_name {ks:List Kd}{k:Kd}(h:k∈ks):(ks[ixK ks k]'(ixK_lt h)).name=k.name:=by
 have:=List.findIdx_getElem (w:=ixK_lt h)
 exact of_decide_eq_true this
theorem ixK_not {ks:List Kd}{k:Kd}{i:Nat}(hi:i<ixK ks k)(hl:i<ks.length):ks[i].name≠k.name:=by
 have:=List.not_of_lt_findIdx hi
 simpa using this
theorem spot_ok (ks:List Kd)(hk:ks.length≤1000){k:Kd}(h:k∈ks)(i:Int):F__law_spot [.tup [.int i,.str k.name],tD ks]=.ok (.tup [.int i,.int (ixK ks k:Int)]):=by
 have lt:gLen [tD ks]=some (.int ks.length):=by simp [tD]
 have hb:(-1000000000:Int)≤(ks.length:Int)∧(ks.length:Int)≤1000000:=by omega
 have ixt:∀p,(hp:p<ks.length)→gIx (tD ks) (.int (p:Int))=some (kD ks[p]):=fun p hp=>ix_l (k:=p) rfl (by rw [getElem?_map,getElem?_eq_getElem hp];rfl)
 have k0:∀k:Kd,gIx (kD k) (.int 0)=some (.str k.name):=fun k=>ix_t (k:=0) rfl rfl
 have p1:gIx (.tup [.int i,.str k.name]) (.int 1)=some (.str k.name):=rfl
 have p0:gIx (.tup [.int i,.str k.name]) (.int 0)=some (.int i):=rfl
 have loop:V (forD (bName 2) l__law_spot_1 (rngL 0 ks.length) [some (.tup [.int i,.str k.name]),some (tD ks),none]) (fun fl=>fl=.ret (.tup [.int i,.int (ixK ks k:Int)])):=by
  refine V_rng0 (P:=fun p ρ=>p≤ixK ks k∧∃o,ρ=[some (.tup [.int i,.str k.name]),some (tD ks),o]) ⟨zero_le _,none,rfl⟩ (fun p ρ hp q=>?_) (fun ρ q=>?_)
  ·obtain ⟨q1,o,rfl⟩:=q
   rw [turn_name]
   by_cases e:p=ixK ks k
   ·have hn:ks[p].name=k.name:=by subst e;exact ixK_name h
    refine V.of (a:=.ret (.tup [.int i,.int (ixK ks k:Int)])) ?_ (by exact rfl)
    rw [← e]
    have he:gEq (.str ks[p].name) (.str k.name)=some (.bl true):=by rw [hn];exact gEq_self (zero_le _)
    exact r_ifT (r_cE (r_f2 (r_f2 (r_f2 rfl rfl (ixt p hp)) rfl (k0 _)) (r_f2 rfl rfl p1) he)) (r_ret (r_fA (r_cons (r_f1 (r_f2 rfl rfl p0) rfl) (r_cons (r_f1 rfl rfl) rfl)) rfl))
   ·have hn:=ixK_not (ks:=ks) (k:=k) (i:=p) (by omega) hp
    refine V.of (a:=.nx [some (.tup [.int i,.str k.name]),some (tD ks),some (.int (p:Int))]) ?_ (by exact ⟨by omega,_,rfl⟩)
    have he:gEq (.str ks[p].name) (.str k.name)=some (.bl false):=by simp [hn]
    exact r_ifF (r_cE (r_f2 (r_f2 (r_f2 rfl rfl (ixt p hp)) rfl (k0 _)) (r_f2 rfl rfl p1) he)) rfl
  ·have:=ixK_lt h
   obtain ⟨q1,_⟩:=q
   omega
 obtain ⟨fl,h1,rfl⟩:=loop.ex
 exact r_run (r_seqR (r_for (r_rng (r_cons (r_fA (r_cons rfl rfl) lt) rfl) hb |>.trans (by rw [toNat_natCast])) h1))
def lxI (p q:Int×Int):Prop:=p.1<q.1∨(p.1=q.1∧p.2<q.2)
noncomputable def prI2 (p:Int×Int):Pr:=(p.1,.inl p.2)
theorem prLt_ii (p q:Int×Int):prLt (prI2 p) (prI2 q)=true↔lxI p q:=by
 unfold prLt lxI prI2
 by_cases e:p.1=q.1
 ·rw [if_pos e]
  show decide (p.2<q.2)=true↔_
  rw [decide_eq_true_iff]
  constructor
  ·exact fun h=>.inr ⟨e,h⟩
  ·rintro (h | h)
   ·omega
   ·exact h.2
 ·rw [if_neg e,decide_eq_true_iff]
  constructor
  ·exact fun h=>.inl h
  ·rintro (h | h)
   ·exact h
   ·exact absurd h.1 e
theorem dInsUp (c:Int×Int):∀l:List (Int×Int),l.Pairwise (fun x y=>¬lxI y x)→∃m:List (Int×Int),insP (prI2 c) (l.map prI2)=m.map prI2∧m.Pairwise (fun x y=>¬lxI y x)∧m.Perm (c::l)
 | [],_=>⟨[c],rfl,pairwise_singleton _ _,.refl _⟩
 | d::l,h=>by
  obtain ⟨h1,h2⟩:=List.pairwise_cons.mp h
  rw [map_cons,insP]
  by_cases q:prLt (prI2 c) (prI2 d)=true
  ·rw [if_pos q]
   have q:=(prLt_ii c d).mp q
   refine ⟨c::d::l,rfl,List.pairwise_cons.mpr ⟨fun y hy=>?_,h⟩,.refl _⟩
   rcases List.mem_cons.mp hy with e | e
   ·subst e
    unfold lxI at *
    omega
   ·have:=h1 y e
    unfold lxI at *
    omega
  ·rw [if_neg q]
   have q:¬lxI c d:=fun z=>q ((prLt_ii c d).mpr z)
   obtain ⟨m,e1,e2,e3⟩:=dInsUp c l h2
   refine ⟨d::m,by rw [e1];rfl,List.pairwise_cons.mpr ⟨fun y hy=>?_,e2⟩,(e3.cons d).trans (.swap c d l)⟩
   rcases List.mem_cons.mp (e3.mem_iff.mp hy) with e | e
   ·subst e;exact q
   ·exact h1 y e
theorem dSortUp:∀l:List (Int×Int),∃m:List (Int×Int),sortP (l.map prI2)=m.map prI2∧m.Pairwise (fun x y=>¬lxI y x)∧m.Perm l
 | []=>⟨[],rfl,.nil,.refl _⟩
 | c::l=>by
  obtain ⟨m,e1,e2,e3⟩:=dSortUp l
  obtain ⟨m',f1,f2,f3⟩:=dInsUp c m e2
  refine ⟨m',?_,f2,f3.trans (e3.cons c)⟩
  show insP (prI2 c) (sortP (l.map prI2))=_
  rw [e1]
  exact f1
theorem dSortEq {l m:List (Int×Int)}(hp:m.Perm l)(hu:m.Pairwise (fun x y=>¬lxI y x)):sortP (l.map prI2)=m.map prI2:=by
  obtain ⟨m',e1,e2,e3⟩:=dSortUp l
  have:m'=m:=List.Perm.eq_of_pairwise (le:=fun x y=>¬lxI y x) (fun x y _ _ h1 h2=>by
    unfold lxI at h1 h2
    exact Prod.ext (by omega) (by omega)) e2 hu (e3.trans hp.symm)
  rw [e1,this]
section
variable {ns:List Int}{ks:List Kd}
theorem ap_in {n:Nat}{p:Nat}{k:Kd}(hp:p<n)(hk:k∈ks)(hg:good ns k (p:Int)=true):(p,k)∈apTo ns ks n:=
 List.mem_flatten.mpr ⟨apAt ns ks p,List.mem_map.mpr ⟨p,List.mem_range.mpr hp,rfl⟩,List.mem_map.mpr ⟨k,List.mem_filter.mpr ⟨hk,hg⟩,rfl⟩⟩
theorem ixK_get (nd:(ks.map (·.name)).Nodup){i:Nat}(hi:i<ks.length):ixK ks ks[i]=i:=by
 have h:=ixK_lt (getElem_mem hi)
 have e:=ixK_name (getElem_mem hi)
 have z:(ks.map (·.name))[ixK ks ks[i]]'(by rw [length_map];exact h)=(ks.map (·.name))[i]'(by rw [length_map];exact hi):=by rw [List.getElem_map,List.getElem_map];exact e
 rcases Nat.lt_trichotomy (ixK ks ks[i]) i with q | q | q
 ·exact absurd z (List.pairwise_iff_getElem.mp nd _ _ _ _ q)
 ·exact q
 ·exact absurd z.symm (List.pairwise_iff_getElem.mp nd _ _ _ _ q)
theorem ixK_inj (nd:(ks.map (·.name)).Nodup){a b:Kd}(ha:a∈ks)(hb:b∈ks)(e:ixK ks a=ixK ks b):a=b:=by
 obtain ⟨i,hi,rfl⟩:=List.getElem_of_mem ha
 obtain ⟨j,hj,rfl⟩:=List.getElem_of_mem hb
 rw [ixK_get nd hi,ixK_get nd hj] at e
 subst e
 rfl
noncomputable def spI (ks:List Kd)(x:PK):Int×Int:=((x.1:Int),(ixK ks x.2:Int))
theorem ap_up (nd:(ks.map (·.name)).Nodup)(n:Nat):(apTo ns ks n).Pairwise (fun x y=>lxI (spI ks x) (spI ks y)):=by
 have hks:ks.Pairwise (fun a b=>ixK ks a<ixK ks b):=List.pairwise_iff_getElem.mpr fun i j hi hj hij=>by rw [ixK_get nd hi,ixK_get nd hj];exact hij
 refine List.pairwise_flatten.mpr ⟨fun l hl=>?_,?_⟩
 ·obtain ⟨p,_,rfl⟩:=List.mem_map.mp hl
  refine List.pairwise_map.mpr ((hks.filter _).imp fun h=>.inr ⟨rfl,?_⟩)
  exact Int.ofNat_lt.mpr h
 ·refine List.pairwise_map.mpr (List.pairwise_lt_range.imp fun h x hx y hy=>.inl ?_)
  obtain ⟨k,_,rfl⟩:=List.mem_map.mp hx
  obtain ⟨k',_,rfl⟩:=List.mem_map.mp hy
  exact Int.ofNat_lt.mpr h
theorem ap_nodup (nd:(ks.map (·.name)).Nodup)(n:Nat):(apTo ns ks n).Nodup:=(ap_up (ns:=ns) nd n).imp fun h e=>by
 subst e
 unfold lxI at h
 omega
noncomputable def bkI (ks:List Kd)(n:Nat)(x:PK):Int×Int:=((n:Int) - ((x.1:Int)+x.2.w),(ixK ks x.2:Int))
theorem turned_perm (nd:(ks.map (·.name)).Nodup)(hw:∀k∈ks,1≤k.w):((apTo ns.reverse ks ns.length).map (spI ks)).Perm ((apTo ns ks ns.length).map (bkI ks ns.length)):=by
 have hne:∀{α:Type} {l:List PK} {f:PK→α},l.Nodup→(∀x∈l,∀y∈l,f x=f y→x=y)→(l.map f).Nodup:=fun {α l f} h hi=>List.pairwise_map.mpr (List.Pairwise.imp_of_mem (fun hx hy hn he=>hn (hi _ hx _ hy he)) h)
 refine (List.perm_ext_iff_of_nodup (hne (ap_nodup nd _) fun x hx y hy e=>?_) (hne (ap_nodup nd _) fun x hx y hy e=>?_)).mpr fun z=>⟨fun hz=>?_,fun hz=>?_⟩
 ·have e1:(x.1:Int)=y.1:=congrArg Prod.fst e
  have e2:(ixK ks x.2:Int)=ixK ks y.2:=congrArg Prod.snd e
  exact Prod.ext (by omega) (ixK_inj nd (ap_mem hx).2.1 (ap_mem hy).2.1 (by omega))
 ·have e2:(ixK ks x.2:Int)=ixK ks y.2:=congrArg Prod.snd e
  have ek:=ixK_inj nd (ap_mem hx).2.1 (ap_mem hy).2.1 (by omega)
  have e1:(ns.length:Int) - ((x.1:Int)+x.2.w)=ns.length - ((y.1:Int)+y.2.w):=congrArg Prod.fst e
  rw [ek] at e1
  exact Prod.ext (by omega) ek
 ·obtain ⟨x,hx,rfl⟩:=List.mem_map.mp hz
  obtain ⟨h1,h2,h3⟩:=ap_mem hx
  have w1:=hw _ h2
  rw [good_rev w1] at h3
  have h4:=h3
  simp only [good,decide_eq_true_eq] at h4
  refine List.mem_map.mpr ⟨(((ns.length:Int) - x.1 - x.2.w).toNat,x.2),ap_in (by omega) h2 (by rw [toNat_of_nonneg h4.1];exact h3),?_⟩
  refine Prod.ext ?_ rfl
  show (ns.length:Int) - ((((ns.length:Int) - x.1 - x.2.w).toNat:Int)+x.2.w)=x.1
  omega
 ·obtain ⟨x,hx,rfl⟩:=List.mem_map.mp hz
  obtain ⟨h1,h2,h3⟩:=ap_mem hx
  have w1:=hw _ h2
  have h4:=h3
  simp only [good,decide_eq_true_eq] at h4
  refine List.mem_map.mpr ⟨(((ns.length:Int) - x.1 - x.2.w).toNat,x.2),ap_in (by omega) h2 ?_,?_⟩
  ·rw [good_rev w1,toNat_of_nonneg (by omega),show (ns.length:Int) - ((ns.length:Int) - x.1 - x.2.w) - x.2.w=x.1 by omega]
   exact h3
  ·refine Prod.ext ?_ rfl
   show ((((ns.length:Int) - x.1 - x.2.w).toNat:Nat):Int)=_ - _
   omega
end
theorem prs_ii:∀l:List (Int×Int),prsOf (l.map fun z=>D.tup [.int z.1,.int z.2])=some (l.map prI2)
 | []=>rfl
 | z::l=>by
  show ((prOfD (D.tup [.int z.1,.int z.2])).bind fun c=>(prsOf (l.map fun z=>D.tup [.int z.1,.int z.2])).bind fun cs=>some (c::cs))=_
  rw [prs_ii l]
  rfl
theorem sort_ii {l m:List (Int×Int)}(hl:l.length≤100000)(hp:m.Perm l)(hu:m.Pairwise (fun x y=>¬lxI y x)):gSortP [.lst (l.map fun z=>D.tup [.int z.1,.int z.2])]=some (.lst (m.map fun z=>D.tup [.int z.1,.int z.2])):=by
  show ((prsOf (l.map fun z=>D.tup [.int z.1,.int z.2])).bind fun cs=>if cs.length≤100000∧((cs.all fun p=>p.2.isLeft)=true∨(cs.all fun p=>p.2.isRight)=true) then some (D.lst ((sortP cs).map prD)) else none)=_
  rw [prs_ii,Option.bind_some,if_pos ⟨by rw [length_map];exact hl,.inl (List.all_eq_true.mpr fun x hx=>by
    obtain ⟨y,_,rfl⟩:=List.mem_map.mp hx
    rfl)⟩,dSortEq hp hu,map_map]
  rfl
section
variable (ns:List Int)(ks:List Kd)(hn:ns.length≤200)(hk:ks.length≤8)(hw:∀k∈ks,1≤k.w)(nd:(ks.map (·.name)).Nodup)
include hn hk hw nd
theorem behind18:G__law_from_behind [nsD (apTo ns ks ns.length),tD ks,.int (ns.length:Int)]=.ok (nsD (apTo ns.reverse ks ns.length)):=by
 obtain ⟨n,hnn⟩:∃n,n=ns.length:=⟨_,rfl⟩
 have hl:∀ms:List Int,(apTo ms ks n).length≤1600:=fun ms=>by
  have h1:=apTo_len (ns:=ms) (ks:=ks) n
  have h2:n*ks.length≤200*8:=mul_le_mul (by omega) hk
  omega
 rw [← hnn]
 have loop:V (forD (bTup (bCons (bName 4) (bCons (bName 5) bNil))) m__law_from_behind_2 ((apTo ns ks n).map fun x=>pD (nm x)) [some (nsD (apTo ns ks n)),some (tD ks),some (.int (n:Int)),some (.lst []),none,none,none])
   (fun fl=>∃o4 o5,fl=.nx [some (nsD (apTo ns ks n)),some (tD ks),some (.int (n:Int)),some (.lst ((apTo ns ks n).map fun x=>D.tup [.int ((n:Int) - ((x.1:Int)+x.2.w)),.str x.2.name])),o4,o5,none]):=by
  refine V_forM (P:=fun r ρ=>∃(l:List PK) (o4 o5:Option D),l++r=apTo ns ks n∧ρ=[some (nsD (apTo ns ks n)),some (tD ks),some (.int (n:Int)),some (.lst (l.map fun x=>D.tup [.int ((n:Int) - ((x.1:Int)+x.2.w)),.str x.2.name])),o4,o5,none]) (fun x r ρ q=>?_) (fun ρ q=>?_) ⟨[],none,none,rfl,rfl⟩
  ·obtain ⟨l,o4,o5,e,rfl⟩:=q
   have hx:x∈apTo ns ks n:=by rw [← e];simp
   have hl2:l.length≤1600:=by
    have h1:=congrArg List.length e
    rw [length_append] at h1
    have:=hl ns
    omega
   have en:=end_ok (x:=x) (by omega) nd (ap_mem hx).2.1
   refine V.of (a:=.nx [some (nsD (apTo ns ks n)),some (tD ks),some (.int (n:Int)),some (.lst ((l++[x]).map fun x=>D.tup [.int ((n:Int) - ((x.1:Int)+x.2.w)),.str x.2.name])),some (.int (x.1:Int)),some (.str x.2.name),none]) ?_ (by exact ⟨l++[x],_,_,by rw [← e,append_assoc];rfl,rfl⟩)
   show m__law_from_behind_2 [some (nsD (apTo ns ks n)),some (tD ks),some (.int (n:Int)),some (.lst (l.map fun x=>D.tup [.int ((n:Int) - ((x.1:Int)+x.2.w)),.str x.2.name])),some (.int (x.1:Int)),some (.str x.2.name),none]=_
   rw [map_append]
   have ev:fA gTup (aCons (f2 gSub (fV 2) (fCall F_end_of (aCons (fV 1) (aCons (fA gTup (aCons (fV 4) (aCons (fV 5) aNil))) aNil)))) (aCons (f1 gFlat (fV 5)) aNil)) [some (nsD (apTo ns ks n)),some (tD ks),some (.int (n:Int)),some (.lst (l.map fun x=>D.tup [.int ((n:Int) - ((x.1:Int)+x.2.w)),.str x.2.name])),some (.int (x.1:Int)),some (.str x.2.name),none]=.ok (D.tup [.int ((n:Int) - ((x.1:Int)+x.2.w)),.str x.2.name]):=r_fA (r_cons (r_f2 rfl (r_call (r_cons rfl (r_cons (r_fA (r_cons rfl (r_cons rfl rfl)) rfl) rfl)) en) rfl) (r_cons (r_f1 rfl rfl) rfl)) rfl
   exact r_app (i:=3) (xs:=l.map fun x=>D.tup [.int ((n:Int) - ((x.1:Int)+x.2.w)),.str x.2.name]) rfl ev (by rw [length_map];show _<1000000;omega)
  ·obtain ⟨l,o4,o5,e,rfl⟩:=q
   rw [append_nil] at e
   subst e
   exact ⟨o4,o5,rfl⟩
 obtain ⟨fl,h1,o4,o5,rfl⟩:=loop.ex
 have c1:compN 1 (bName 7) cYes (fCall F__law_spot (aCons (fV 7) (aCons (fV 1) aNil))) [some (nsD (apTo ns ks n)),some (tD ks),some (.int (n:Int)),some (.lst ((apTo ns ks n).map fun x=>D.tup [.int ((n:Int) - ((x.1:Int)+x.2.w)),.str x.2.name])),o4,o5,none] ((apTo ns ks n).map fun x=>D.tup [.int ((n:Int) - ((x.1:Int)+x.2.w)),.str x.2.name])=.ok (((apTo ns ks n).map (bkI ks n)).map fun z=>D.tup [.int z.1,.int z.2]):=by
  rw [map_map]
  exact comp1' rfl fun x hx=>r_call (r_cons rfl (r_cons rfl rfl)) (spot_ok ks (by omega) (ap_mem hx).2.1 _)
 have hp:=turned_perm (ns:=ns) (ks:=ks) nd hw
 rw [← hnn] at hp
 have so:=sort_ii (by rw [length_map];have:=hl ns;omega) hp (List.pairwise_map.mpr ((ap_up (ns:=ns.reverse) nd n).imp fun h=>by unfold lxI at *;omega))
 have ixt:∀p,(hp:p<ks.length)→gIx (tD ks) (.int (p:Int))=some (kD ks[p]):=fun p hp=>ix_l (k:=p) rfl (by rw [getElem?_map,getElem?_eq_getElem hp];rfl)
 have k0:∀k:Kd,gIx (kD k) (.int 0)=some (.str k.name):=fun k=>ix_t (k:=0) rfl rfl
 have c2:∀o6,compN 2 (bTup (bCons (bName 7) (bCons (bName 8) bNil))) cYes (fA gTup (aCons (f1 gFlat (fV 7)) (aCons (f1 gFlat (f2 gIx (f2 gIx (fV 1) (fV 8)) (fC (.int 0)))) aNil))) [some (nsD (apTo ns ks n)),some (tD ks),some (.int (n:Int)),some (.lst ((apTo ns ks n).map fun x=>D.tup [.int ((n:Int) - ((x.1:Int)+x.2.w)),.str x.2.name])),o4,o5,o6] ((apTo ns.reverse ks n).map fun x=>D.tup [.int (x.1:Int),.int (ixK ks x.2:Int)])=.ok ((apTo ns.reverse ks n).map fun x=>pD (nm x)):=fun o6 =>
  comp2' rfl fun x hx=>by
   have hm:=(ap_mem hx).2.1
   exact r_fA (r_cons (r_f1 rfl rfl) (r_cons (r_f1 (r_f2 (r_f2 rfl rfl (ixt _ (ixK_lt hm))) rfl ((k0 _).trans (by rw [ixK_name hm]))) rfl) rfl)) rfl
 rw [nsD_map (apTo ns.reverse ks n)]
 have hl1:=hl ns
 have hl2:=hl ns.reverse
 refine r_run (r_seq (r_set (r_fA rfl rfl)) (r_seq (r_for (r_jList (xs:=(apTo ns ks n).map fun x=>pD (nm x)) (congrArg R.ok (nsD_map _)) (by rw [length_map];show _≤1000000;omega)) h1) (r_seq (r_set (r_fA (r_cons (r_comp rfl (r_jList (xs:=(apTo ns ks n).map fun x=>D.tup [.int ((n:Int) - ((x.1:Int)+x.2.w)),.str x.2.name]) rfl (by rw [length_map];show _≤1000000;omega)) c1) rfl) so)) (r_ret (r_comp rfl (r_jList (xs:=(apTo ns.reverse ks n).map fun x:PK=>D.tup [.int (x.1:Int),.int (ixK ks x.2:Int)]) (congrArg (fun z=>R.ok (D.lst z)) (by rw [map_map];rfl)) (by rw [length_map];show _≤1000000;omega)) (c2 _))))))
end
section
variable {ns:List Int}{ks:List Kd}
theorem preCut18 {p e:Nat}(h1:p≤e):((ns.drop p).take (e - p)).sum=pre ns e - pre ns p:=by
 have:ns.take e=ns.take p++(ns.drop p).take (e - p):=by
  have h:=List.take_add (l:=ns) (i:=p) (j:=e - p)
  rwa [Nat.add_sub_cancel' h1] at h
 unfold pre
 rw [this,sum_append]
 omega
theorem each18 (hn:ns.length≤900)(hk:ks.length≤100)(hw:∀k∈ks,1≤k.w)(nd:(ks.map (·.name)).Nodup)(xs:List PK)(hl:xs.length≤100000)(hx:∀x∈xs,x.2∈ks∧good ns x.2 (x.1:Int)=true):F__law_each_good [iD ns,tD ks,nsD xs]=.ok (.bl true):=by
 have loop:V (forD (bName 3) l__law_each_good_1 (xs.map fun x=>pD (nm x)) [some (iD ns),some (tD ks),some (nsD xs),none,none]) (fun fl=>∃o3 o4,fl=.nx [some (iD ns),some (tD ks),some (nsD xs),o3,o4]):=by
  refine V_forM (P:=fun r ρ=>(∀x∈r,x∈xs)∧∃o3 o4,ρ=[some (iD ns),some (tD ks),some (nsD xs),o3,o4]) (fun x r ρ q=>?_) (fun ρ q=>q.2.elim fun o3 z=>z.elim fun o4 e=>⟨o3,o4,by rw [e]⟩) ⟨fun x h=>h,none,none,rfl⟩
  obtain ⟨q1,o3,o4,rfl⟩:=q
  rw [turn_name]
  obtain ⟨hm,hg⟩:=hx x (q1 x (.head _))
  have w1:=hw _ hm
  have hg':=hg
  simp only [good,decide_eq_true_eq] at hg'
  obtain ⟨e1,e2⟩:=en_bd hg w1
  have hko:=kind_of_ok ks (by omega) nd hm
  have en:=end_ok (x:=x) (by omega) nd hm
  have hle:x.1≤enN x:=by unfold enN;omega
  have sl:gSl (iD ns) (some (x.1:Int)) (some ((x.1:Int)+x.2.w))=some (iD ((ns.drop x.1).take (enN x - x.1))):=by
   rw [e2]
   have:=sl_ints ns (some (x.1:Int)) (some (enN x:Int))
   rw [cut_ab (by omega) (by omega) (by omega),toNat_natCast,toNat_natCast] at this
   exact this
  have sm:gSum [iD ((ns.drop x.1).take (enN x - x.1))]=some (.int (pre ns (enN x) - pre ns x.1)):=by
   rw [← preCut18 hle]
   exact sum_ints _
  have sp:=spoilt_ok (ns:=ns) (b:=(x.1:Int)) (e:=(x.1:Int)+x.2.w) (by omega) (by omega) hg'.2.1
  have hle2:¬(x.2.al<pre ns ((x.1:Int)+x.2.w).toNat - pre ns (x.1:Int).toNat):=by have:=hg'.2.2;omega
  have hle3:¬(x.2.al<pre ns (enN x) - pre ns x.1):=hle2
  have p0:gIx (pD (nm x)) (.int 0)=some (.int (x.1:Int)):=rfl
  have p1:gIx (pD (nm x)) (.int 1)=some (.str x.2.name):=rfl
  have k1:gIx (kD x.2) (.int 1)=some (.int x.2.w):=kD_1 _
  have k3:gIx (kD x.2) (.int 3)=some (.int x.2.al):=ix_t (k:=3) rfl rfl
  refine V.of (a:=.nx [some (iD ns),some (tD ks),some (nsD xs),some (pD (nm x)),some (kD x.2)]) ?_ (by exact ⟨fun y hy=>q1 y (.tail _ hy),_,_,rfl⟩)
  exact r_seq (r_set (r_call (r_cons rfl (r_cons (r_f2 rfl rfl p1) rfl)) hko)) (r_seq (r_ifF (r_cE (r_f2 (r_fA (r_cons (r_sl rfl (r_oSome (r_f2 rfl rfl p0)) (r_oSome (r_f2 (r_f2 rfl rfl p0) (r_f2 rfl rfl k1) rfl)) sl) rfl) sm) (r_f2 rfl rfl k3) (bl_f hle3))) rfl) (r_ifF (r_cE (r_f2 (r_call (r_cons rfl (r_cons (r_f2 rfl rfl p0) (r_cons (r_call (r_cons rfl (r_cons rfl rfl)) en) rfl))) sp) (r_f2 rfl rfl k3) (bl_f hle2))) rfl))
 obtain ⟨fl,h1,o3,o4,rfl⟩:=loop.ex
 exact r_run (r_seq (r_for (r_jList (xs:=xs.map fun x=>pD (nm x)) (congrArg R.ok (nsD_map _)) (by rw [length_map];show _≤1000000;omega)) h1) (r_ret rfl))
end
noncomputable abbrev Ky:=List (Int ⊕ Str)
def TSk18 (l:List Ky)(d:D):Prop:=∃ks vs,d=.dtt ks vs∧flatA vs=true∧(∀k,tHas ks k=true↔k∈l)∧ks.length≤l.length∧∀k∈ks,k∈l
theorem TSk18.sNil18:TSk18 [] (.dtt [] []):=⟨[],[],rfl,rfl,fun k=>⟨(fun z=>nomatch z),(fun z=>nomatch z)⟩,le_refl _,fun _ z=>nomatch z⟩
theorem has_iff {ks:List Ky}{k:Ky}:tHas ks k=true↔k∈ks:=by
 unfold tHas
 rw [List.any_eq_true]
 constructor
 ·rintro ⟨j,h1,h2⟩
  rw [← of_decide_eq_true h2]
  exact h1
 ·exact fun h=>⟨k,h,decide_eq_true rfl⟩
theorem flat_zipW {k:Ky}{d:D}(hd:flat d=true):∀(ks:List Ky) (xs:List D),flatA xs=true→flatA (List.zipWith (fun j x=>if j=k then d else x) ks xs)=true
 | [],_,_=>rfl
 | _::_,[],_=>rfl
 | j::ks,x::xs,h=>by
  simp only [flatA,Bool.and_eq_true] at h
  rw [List.zipWith_cons_cons]
  simp only [flatA,Bool.and_eq_true]
  refine ⟨?_,flat_zipW hd ks xs h.2⟩
  split
  ·exact hd
  ·exact h.1
theorem flatA_snoc {d:D}(hd:flat d=true):∀(xs:List D),flatA xs=true→flatA (xs++[d])=true
 | [],_=>by simp [flatA,hd]
 | x::xs,h=>by
  simp only [flatA,Bool.and_eq_true,cons_append] at h ⊢
  exact ⟨h.1,flatA_snoc hd xs h.2⟩
theorem TSk18.sPut18 {l:List Ky}{d v:D}{k:Ky}{i:Nat}{kf ef:FE}{ρ:Env}{z:D}(h:TSk18 l d)(hi:ρ[i]?=some (some d))(hk:kf ρ=.ok z)(hz:keyT z=some k)(he:ef ρ=.ok v)(hv:flat v=true)(hl:l.length<900000):∃d',TSk18 (l++[k]) d'∧sTPut i kf ef ρ=.ok (.nx (ρ.set i (some d'))):=by
 obtain ⟨ks,vs,rfl,h1,h2,h3,h4⟩:=h
 refine ⟨tPut ks vs k v,?_,?_⟩
 ·unfold tPut
  split
  ·rename_i q
   have hm:=(h2 k).mp q
   refine ⟨ks,_,rfl,flat_zipW hv ks vs h1,fun j=>⟨fun z=>mem_append_left _ ((h2 j).mp z),fun z=>?_⟩,by rw [length_append];omega,fun j hj=>mem_append_left _ (h4 j hj)⟩
   rcases List.mem_append.mp z with y | y
   ·exact (h2 j).mpr y
   ·rw [List.mem_singleton.mp y];exact q
  ·refine ⟨ks++[k],vs++[v],rfl,flatA_snoc hv vs h1,fun j=>?_,by rw [length_append,length_append];exact Nat.add_le_add_right h3 _,fun j hj=>?_⟩
   ·rw [has_iff,mem_append,mem_append,← has_iff,h2 j]
   ·rcases List.mem_append.mp hj with y | y
    ·exact mem_append_left _ (h4 j y)
    ·exact mem_append_right _ y
 ·unfold sTPut
  rw [he,bind_ok,hi]
  show (kf ρ).bind _=_
  rw [hk,bind_ok,hz]
  exact if_pos ⟨hv,h1,by show _<1000000;omega⟩
theorem TSk18.sNo18 {l:List Ky}{d z:D}{k:Ky}(h:TSk18 l d)(hz:keyT z=some k):gTNotIn z d=some (.bl (!tHas l k)):=by
 obtain ⟨ks,vs,rfl,h1,h2,h3,h4⟩:=h
 show (keyT z).map (fun k=>D.bl (!tHas ks k))=_
 rw [hz]
 refine congrArg (fun b=>some (D.bl (!b))) ?_
 exact Bool.eq_iff_iff.mpr ((h2 k).trans has_iff.symm)
noncomputable def tkP (x:Int×Str):Ky:=[.inl x.1,.inr x.2]
theorem keyT_pD (x:Int×Str):keyT (pD x)=some (tkP x):=rfl
theorem put_loop {α:Type}{enc:α→D}{key:α→Ky}{b:FB}{s:FS}{mkρ:D→Option D→Option D→Env}(xs:List α){l0:List Ky}{d0:D}(h0:TSk18 l0 d0)(hl:l0.length+xs.length<900000)
    (step:∀x∈xs,∀l d o p,TSk18 l d→l.length<900000→∃d' o' p',TSk18 (l++[key x]) d'∧turn b s (enc x) (mkρ d o p)=.ok (.nx (mkρ d' o' p'))) (o0 p0:Option D) :
    V (forD b s (xs.map enc) (mkρ d0 o0 p0)) (fun fl=>∃d o p,TSk18 (l0++xs.map key) d∧fl=.nx (mkρ d o p)):=by
  refine V_forM (P:=fun r ρ=>∃(l:List α) (d:D) (o p:Option D),l++r=xs∧TSk18 (l0++l.map key) d∧ρ=mkρ d o p) (fun x r ρ q=>?_) (fun ρ q=>?_) ⟨[],d0,o0,p0,rfl,by rw [map_nil,append_nil];exact h0,rfl⟩
  · obtain ⟨l,d,o,p,e,ht,rfl⟩:=q
    have hx:x∈xs:=by rw [← e];simp
    have hll:l.length<xs.length:=by rw [← e,length_append,length_cons];omega
    obtain ⟨d',o',p',t1,t2⟩:=step x hx _ d o p ht (by rw [length_append,length_map];omega)
    refine V.of t2 (by
      refine ⟨l++[x],d',o',p',by rw [← e,append_assoc];rfl,?_,rfl⟩
      rw [map_append,← append_assoc]
      exact t1)
  · obtain ⟨l,d,o,p,e,ht,rfl⟩:=q
    rw [append_nil] at e
    subst e
    exact ⟨d,o,p,ht,rfl⟩
section
variable {ns os:List Int}{ks:List Kd}{k:Kd}
theorem pre_left {j:Nat}(h:j≤ns.length):pre (ns++os) j=pre ns j:=by
 unfold pre
 rw [List.take_append_of_le_length h]
theorem pre_right (j:Nat):pre (ns++os) (ns.length+j)=ns.sum+pre os j:=by
 unfold pre
 rw [List.take_append,take_of_length_le (by omega),sum_append,Nat.add_sub_cancel_left]
theorem good_left (h1:1≤k.w){p:Nat}(h:(p:Int)+k.w≤ns.length):good (ns++os) k (p:Int)=good ns k (p:Int):=by
 unfold good
 refine decide_eq_decide.mpr ?_
 rw [pre_left (by omega),pre_left (by omega),length_append]
 constructor
 ·rintro ⟨a,b,c⟩
  exact ⟨a,h,c⟩
 ·rintro ⟨a,b,c⟩
  exact ⟨a,by omega,c⟩
theorem good_right (h1:1≤k.w)(p:Nat):good (ns++os) k ((p:Int)+ns.length)=good os k (p:Int):=by
 unfold good
 refine decide_eq_decide.mpr ?_
 have e1:((p:Int)+ns.length+k.w).toNat=ns.length+((p:Int)+k.w).toNat:=by omega
 have e2:((p:Int)+ns.length).toNat=ns.length+(p:Int).toNat:=by omega
 rw [e1,e2,pre_right,pre_right,length_append]
 constructor
 ·rintro ⟨a,b,c⟩
  exact ⟨by omega,by omega,by omega⟩
 ·rintro ⟨a,b,c⟩
  exact ⟨by omega,by omega,by omega⟩
noncomputable def kOf (x:PK):Ky:=tkP (nm x)
noncomputable def kOn (n:Nat)(x:PK):Ky:=tkP ((x.1:Int)+n,x.2.name)
theorem both_first (hw:∀k∈ks,1≤k.w):∀x∈apTo ns ks ns.length,x∈apTo (ns++os) ks (ns++os).length:=fun x hx=>by
 obtain ⟨h1,h2,h3⟩:=ap_mem hx
 have w1:=hw _ h2
 have h4:=h3
 simp only [good,decide_eq_true_eq] at h4
 exact ap_in (by rw [length_append];omega) h2 (by rw [good_left w1 h4.2.1];exact h3)
theorem both_second (hw:∀k∈ks,1≤k.w):∀x∈apTo os ks os.length,(x.1+ns.length,x.2)∈apTo (ns++os) ks (ns++os).length:=fun x hx=>by
 obtain ⟨h1,h2,h3⟩:=ap_mem hx
 have w1:=hw _ h2
 refine ap_in (by rw [length_append];omega) h2 ?_
 rw [show ((x.1+ns.length:Nat):Int)=(x.1:Int)+ns.length by omega,good_right w1]
 exact h3
theorem both_split (hw:∀k∈ks,1≤k.w):∀x∈apTo (ns++os) ks (ns++os).length,x∈apTo ns ks ns.length∨(∃y∈apTo os ks os.length,x=(y.1+ns.length,y.2))∨((x.1:Int)<ns.length∧(ns.length:Int)<x.1+x.2.w):=fun x hx=>by
 obtain ⟨h1,h2,h3⟩:=ap_mem hx
 have w1:=hw _ h2
 have h4:=h3
 simp only [good,decide_eq_true_eq] at h4
 rw [length_append] at h4
 by_cases a:(x.1:Int)+x.2.w≤ns.length
 ·refine .inl (ap_in (p:=x.1) (k:=x.2) (by omega) h2 ?_)
  rw [good_left w1 a] at h3
  exact h3
 ·by_cases b:ns.length≤x.1
  ·refine .inr (.inl ⟨(x.1 - ns.length,x.2),ap_in (by omega) h2 ?_,Prod.ext (by show x.1=x.1 - ns.length+ns.length;omega) rfl⟩)
   rw [← good_right (ns:=ns) w1,show ((x.1 - ns.length:Nat):Int)+ns.length=x.1 by omega]
   exact h3
  ·exact .inr (.inr ⟨by omega,by omega⟩)
end
theorem keysD_kd:∀k:Ky,keysD (k.map kdD)=some k
 | []=>rfl
 | x::k=>by
  show ((keyD (kdD x)).bind fun j=>(keysD (k.map kdD)).bind fun ks=>some (j::ks))=_
  rw [keysD_kd k]
  cases x<;>rfl
theorem keyT_kd (k:Ky):keyT (.tup (k.map kdD))=some k:=keysD_kd k
theorem forT_all {i j:Nat}{fc:FT}{b:Bool}{ρ:Env}:∀(ks:List Ky),(∀k∈ks,fc ((ρ.set i none).set j (some (.tup (k.map kdD))))=.ok false)→forT i j fc b ρ ks=.ok (.nx (ρ.set j none))
 | [],_=>rfl
 | k::ks,h=>by
  rw [forT,h k (.head _)]
  exact forT_all ks fun j hj=>h j (.tail _ hj)
theorem r_walkT {i j:Nat}{fc:FT}{b:Bool}{ρ:Env}{l:List Ky}{d:D}(h:TSk18 l d)(hi:ρ[i]?=some (some d))(hj:j<ρ.length)(hij:i≠j)(hk:∀k∈l,k.all kOk=true)(hc:∀k∈l,fc ((ρ.set i none).set j (some (.tup (k.map kdD))))=.ok false):sForT i j fc b ρ=.ok (.nx (ρ.set j none)):=by
 obtain ⟨ks,vs,rfl,h1,h2,h3,h4⟩:=h
 unfold sForT
 rw [hi]
 show (if _ then forT i j fc b ρ ks else R.bad)=_
 rw [if_pos ⟨List.all_eq_true.mpr fun k hk'=>hk k (h4 k hk'),hj,hij⟩]
 exact forT_all ks fun k hk'=>hc k (h4 k hk')
section
variable {ns os:List Int}{ks:List Kd}
theorem over18 (hn:ns.length≤200)(ho:os.length≤200)(hk:ks.length≤100)(hw:∀k∈ks,1≤k.w)(nd:(ks.map (·.name)).Nodup)(hc:∀k∈ks,kOk (.inr k.name)=true)
    (la:(apTo ns ks ns.length).length≤100000) (lb:(apTo os ks os.length).length≤100000) (lc:(apTo (ns++os) ks (ns++os).length).length≤100000) :
    F__law_over [nsD (apTo (ns++os) ks (ns++os).length),nsD (apTo ns ks ns.length),nsD (apTo os ks os.length),tD ks,.int ns.length]=.ok (.bl true):=by
  generalize hA:apTo ns ks ns.length=A at *
  generalize hB:apTo os ks os.length=B at *
  generalize hC:apTo (ns++os) ks (ns++os).length=C at *
  have l1:=put_loop (enc:=fun x=>pD (nm x)) (key:=kOf) (b:=bName 6) (s:=l__law_over_2) (mkρ:=fun d o _=>[some (nsD C),some (nsD A),some (nsD B),some (tD ks),some (.int ns.length),some d,o,none,none,none]) C TSk18.sNil18 (by show 0+_<_;omega) (fun x _ l d o p ht hl=>by
    obtain ⟨d',t1,t2⟩:=ht.sPut18 (i:=5) (kf:=fV 6) (ef:=fC (.bl true)) (ρ:=[some (nsD C),some (nsD A),some (nsD B),some (tD ks),some (.int ns.length),some d,some (pD (nm x)),none,none,none]) (k:=kOf x) rfl rfl rfl rfl rfl hl
    exact ⟨d',_,none,t1,by rw [turn_name];exact t2⟩) none none
  obtain ⟨_,e1,d5,o6,_,t5,rfl⟩:=l1.ex
  have l2:=put_loop (enc:=fun x=>pD (nm x)) (key:=kOn ns.length) (b:=bTup (bCons (bName 8) (bCons (bName 9) bNil))) (s:=l__law_over_5) (mkρ:=fun d o p=>[some (nsD C),some (nsD A),some (nsD B),some (tD ks),some (.int ns.length),some d5,o6,some d,o,p]) B TSk18.sNil18 (by show 0+_<_;omega) (fun x _ l d o p ht hl=>by
    obtain ⟨d',t1,t2⟩:=ht.sPut18 (i:=7) (kf:=fA gTup (aCons (f2 gAdd (fV 8) (fV 4)) (aCons (fV 9) aNil))) (ef:=fC (.bl true)) (ρ:=[some (nsD C),some (nsD A),some (nsD B),some (tD ks),some (.int ns.length),some d5,o6,some d,some (.int x.1),some (.str x.2.name)]) (k:=kOn ns.length x) (z:=.tup [.int ((x.1:Int)+ns.length),.str x.2.name]) rfl rfl rfl rfl rfl hl
    exact ⟨d',_,_,t1,t2⟩) none none
  obtain ⟨_,e2,d7,o8,o9,t7,rfl⟩:=l2.ex
  have l3:=put_loop (enc:=fun x=>pD (nm x)) (key:=kOf) (b:=bName 6) (s:=l__law_over_7) (mkρ:=fun d o _=>[some (nsD C),some (nsD A),some (nsD B),some (tD ks),some (.int ns.length),some d5,o,some d,o8,o9]) A t7 (by rw [length_append,length_map];show 0+_+_<_;omega) (fun x _ l d o p ht hl=>by
    obtain ⟨d',t1,t2⟩:=ht.sPut18 (i:=7) (kf:=fV 6) (ef:=fC (.bl true)) (ρ:=[some (nsD C),some (nsD A),some (nsD B),some (tD ks),some (.int ns.length),some d5,some (pD (nm x)),some d,o8,o9]) (k:=kOf x) rfl rfl rfl rfl rfl hl
    exact ⟨d',_,none,t1,by rw [turn_name];exact t2⟩) o6 none
  obtain ⟨_,e3,d7',o6',_,t7',rfl⟩:=l3.ex
  rw [nil_append] at t5
  rw [nil_append] at t7'
  have inC:∀k∈B.map (kOn ns.length)++A.map kOf,∃x∈C,k=kOf x:=fun k h=>by
    rcases List.mem_append.mp h with h | h
    · obtain ⟨x,hx,rfl⟩:=List.mem_map.mp h
      refine ⟨(x.1+ns.length,x.2),?_,?_⟩
      · rw [← hC];exact both_second hw x (by rw [hB];exact hx)
      · show tkP _=tkP (((x.1+ns.length:Nat):Int),_)
        rw [show ((x.1+ns.length:Nat):Int)=(x.1:Int)+ns.length by omega]
    · obtain ⟨x,hx,rfl⟩:=List.mem_map.mp h
      exact ⟨x,by rw [← hC];exact both_first hw x (by rw [hA];exact hx),rfl⟩
  have w:=r_walkT (i:=7) (j:=6) (fc:=cE (f2 gTNotIn (fV 6) (fV 5))) (b:=false) (ρ:=[some (nsD C),some (nsD A),some (nsD B),some (tD ks),some (.int ns.length),some d5,o6',some d7',o8,o9]) t7' rfl (by show 6<10;omega) (by omega) (fun k h=>by
    obtain ⟨x,hx,rfl⟩:=inC k h
    have:=(ap_mem (by rw [hC];exact hx)).2.1
    show (true&&(kOk (.inr x.2.name)&&true))=true
    rw [hc _ this];rfl) (fun k h=>by
    obtain ⟨x,hx,rfl⟩:=inC k h
    refine r_cE (r_f2 rfl rfl ?_)
    rw [t5.sNo18 (keyT_kd _),has_iff.mpr (List.mem_map.mpr ⟨x,hx,rfl⟩)]
    rfl)
  have l4:V (forD (bName 6) l__law_over_12 (C.map fun x=>pD (nm x)) [some (nsD C),some (nsD A),some (nsD B),some (tD ks),some (.int ns.length),some d5,none,some d7',o8,o9]) (fun fl=>∃ρ,fl=.nx ρ):=by
    refine V_forM (P:=fun r ρ=>(∀x∈r,x∈C)∧∃o,ρ=[some (nsD C),some (nsD A),some (nsD B),some (tD ks),some (.int ns.length),some d5,o,some d7',o8,o9]) (fun x r ρ q=>?_) (fun ρ q=>⟨ρ,rfl⟩) ⟨fun x h=>h,none,rfl⟩
    obtain ⟨q1,o,rfl⟩:=q
    rw [turn_name]
    have hx:=q1 x (.head _)
    have hm:=(ap_mem (by rw [hC];exact hx)).2.1
    have en:=end_ok (x:=x) (by omega) nd hm
    refine V.of (a:=.nx [some (nsD C),some (nsD A),some (nsD B),some (tD ks),some (.int ns.length),some d5,some (pD (nm x)),some d7',o8,o9]) ?_ (by exact ⟨fun y hy=>q1 y (.tail _ hy),_,rfl⟩)
    have no:=t7'.sNo18 (keyT_pD (nm x))
    by_cases hh:kOf x∈B.map (kOn ns.length)++A.map kOf
    · have h0:tHas (B.map (kOn ns.length)++A.map kOf) (tkP (nm x))=true:=has_iff.mpr hh
      rw [h0] at no
      exact r_ifF (r_cAndF (r_cE (r_f2 rfl rfl no))) rfl
    · have h0:tHas (B.map (kOn ns.length)++A.map kOf) (tkP (nm x))=false:=by
        refine Bool.eq_false_iff.mpr fun z=>hh (has_iff.mp z)
      rw [h0] at no
      rcases both_split hw x (by rw [hC];exact hx) with a | ⟨y,hy,e⟩ | ⟨a,b⟩
      · rw [hA] at a
        exact absurd (mem_append_right _ (List.mem_map.mpr ⟨x,a,rfl⟩)) hh
      · rw [hB] at hy
        refine absurd (mem_append_left _ (List.mem_map.mpr ⟨y,hy,?_⟩)) hh
        rw [e]
        show tkP _=tkP (((y.1+ns.length:Nat):Int),_)
        rw [show ((y.1+ns.length:Nat):Int)=(y.1:Int)+ns.length by omega]
      · exact r_ifF (r_cAndT (r_cE (r_f2 rfl rfl no)) (r_cNot (b:=true) (r_cE (r_chain (x:=.int x.1) (y:=.int ns.length) (w:=.int ((x.1:Int)+x.2.w)) (r_f2 rfl rfl rfl) rfl (bl_t a) (r_call (r_cons rfl (r_cons rfl rfl)) en) (bl_t b))))) rfl
  obtain ⟨_,e4,ρ,rfl⟩:=l4.ex
  have jl:∀{i:Nat} {ρ:Env} (X:List PK),X.length≤100000→fV i ρ=.ok (nsD X)→jList (fV i) ρ=.ok (X.map fun x=>pD (nm x)):=fun X h e=>r_jList (by rw [e];exact congrArg R.ok (nsD_map _)) (by rw [length_map];show _≤1000000;omega)
  exact r_run (r_seq (r_set rfl) (r_seq (r_for (jl C lc rfl) e1) (r_seq (r_set rfl) (r_seq (r_for (jl B lb rfl) e2) (r_seq (r_for (jl A la rfl) e3) (r_seq w (r_seq (r_for (jl C lc rfl) e4) (r_ret rfl))))))))
end
def TW (N:Nat)(f:Ky→Option Bool)(d:D):Prop:=∃ks vs,d=.dtt ks vs∧flatA vs=true∧ks.length=vs.length∧ks.length≤N∧∀k,tAt ks vs k=(f k).map D.bl
theorem TW.wNil18:TW 0 (fun _=>none) (.dtt [] []):=⟨[],[],rfl,rfl,rfl,le_refl _,fun _=>rfl⟩
theorem TW.wCongr18 {N M:Nat}{f g:Ky→Option Bool}{d:D}(h:TW N f d)(hN:N≤M)(e:∀k,f k=g k):TW M g d:=by
 obtain ⟨ks,vs,h1,h2,h3,h4,h5⟩:=h
 exact ⟨ks,vs,h1,h2,h3,le_trans h4 hN,fun k=>by rw [h5 k,e k]⟩
theorem tHas_cons {j k:Ky}{ks:List Ky}:tHas (j::ks) k=(decide (j=k)||tHas ks k):=rfl
theorem tHas_at {k:Ky}:∀(ks:List Ky) (vs:List D),ks.length=vs.length→tHas ks k=(tAt ks vs k).isSome
 | [],[],_=>rfl
 | j::ks,v::vs,h=>by
  rw [tHas_cons,tAt,tHas_at ks vs (Nat.succ.inj h)]
  by_cases e:j=k<;>simp [e]
 | [],_::_,h=>nomatch h
 | _::_,[],h=>nomatch h
theorem tAt_zip {k:Ky}{v:D}(j:Ky):∀(ks:List Ky) (vs:List D),ks.length=vs.length→tAt ks (List.zipWith (fun j x=>if j=k then v else x) ks vs) j=if j=k∧tHas ks k=true then some v else tAt ks vs j
 | [],[],_=>by simp [tAt,tHas]
 | i::ks,x::vs,h=>by
  rw [List.zipWith_cons_cons,tAt,tAt,tHas_cons,tAt_zip j ks vs (Nat.succ.inj h)]
  by_cases e:i=j
  ·subst e
   by_cases e':i=k<;>simp [e']
  ·rw [if_neg e,if_neg e]
   by_cases e':j=k
   ·subst e'
    simp [e]
   ·simp [e']
 | [],_::_,h=>nomatch h
 | _::_,[],h=>nomatch h
theorem tAt_snoc {k:Ky}{v:D}(j:Ky):∀(ks:List Ky) (vs:List D),ks.length=vs.length→tHas ks k=false→tAt (ks++[k]) (vs++[v]) j=if j=k then some v else tAt ks vs j
 | [],[],_,_=>by
  show (if k=j then some v else none)=if j=k then some v else none
  by_cases e:j=k
  ·subst e;rfl
  ·rw [if_neg e,if_neg fun z=>e z.symm]
 | i::ks,x::vs,h,hn=>by
  rw [tHas_cons,Bool.or_eq_false_iff] at hn
  have ik:i≠k:=of_decide_eq_false hn.1
  rw [cons_append,cons_append,tAt,tAt,tAt_snoc j ks vs (Nat.succ.inj h) hn.2]
  by_cases e:i=j
  ·subst e
   simp [ik]
  ·rw [if_neg e,if_neg e]
 | [],_::_,h,_=>nomatch h
 | _::_,[],h,_=>nomatch h
theorem TW.wPut18 {N:Nat}{f:Ky→Option Bool}{d:D}{b:Bool}{k:Ky}{i:Nat}{kf ef:FE}{ρ:Env}{z:D}(h:TW N f d)(hi:ρ[i]?=some (some d))(hk:kf ρ=.ok z)(hz:keyT z=some k)(he:ef ρ=.ok (.bl b))(hl:N<900000):∃d',TW (N+1) (fun j=>if j=k then some b else f j) d'∧sTPut i kf ef ρ=.ok (.nx (ρ.set i (some d'))):=by
 obtain ⟨ks,vs,rfl,h1,h2,h3,h4⟩:=h
 refine ⟨tPut ks vs k (.bl b),?_,?_⟩
 ·unfold tPut
  split
  ·rename_i q
   refine ⟨ks,_,rfl,flat_zipW rfl ks vs h1,by rw [List.length_zipWith];omega,by omega,fun j=>?_⟩
   rw [tAt_zip j ks vs h2,h4 j]
   show _=Option.map D.bl (if j=k then some b else f j)
   by_cases e:j=k
   ·rw [if_pos ⟨e,q⟩,if_pos e];rfl
   ·rw [if_neg fun z=>e z.1,if_neg e]
  ·rename_i q
   refine ⟨ks++[k],vs++[.bl b],rfl,flatA_snoc rfl vs h1,by rw [length_append,length_append,h2];rfl,by rw [length_append];exact Nat.add_le_add_right h3 _,fun j=>?_⟩
   rw [tAt_snoc j ks vs h2 (Bool.eq_false_iff.mpr q),h4 j]
   show _=Option.map D.bl (if j=k then some b else f j)
   by_cases e:j=k
   ·rw [if_pos e,if_pos e];rfl
   ·rw [if_neg e,if_neg e]
 ·unfold sTPut
  rw [he,bind_ok,hi]
  show (kf ρ).bind _=_
  rw [hk,bind_ok,hz]
  exact if_pos ⟨rfl,h1,by show _<1000000;omega⟩
theorem TW.wNo18 {N:Nat}{f:Ky→Option Bool}{d z:D}{k:Ky}{b:Bool}(h:TW N f d)(hz:keyT z=some k)(hf:f k=some b):gTNotIn z d=some (.bl false):=by
 obtain ⟨ks,vs,rfl,h1,h2,h3,h4⟩:=h
 show (keyT z).map (fun k=>D.bl (!tHas ks k))=_
 rw [hz]
 show some (D.bl (!tHas ks k))=_
 rw [tHas_at ks vs h2,h4 k,hf]
 rfl
theorem TW.wAt18 {N:Nat}{f:Ky→Option Bool}{d z:D}{k:Ky}{b:Bool}(h:TW N f d)(hz:keyT z=some k)(hf:f k=some b):gTAt d z=some (.bl b):=by
 obtain ⟨ks,vs,rfl,h1,h2,h3,h4⟩:=h
 show (if flatA vs then (keyT z).bind fun k=>tAt ks vs k else none)=_
 rw [if_pos h1,hz]
 show tAt ks vs k=_
 rw [h4 k,hf]
 rfl
theorem loop18 {α:Type}{enc:α→D}{b:FB}{s:FS}{mkρ:D→Option D→Env}{P:List α→D→Prop}(xs:List α){d0:D}(h0:P [] d0)
  (step:∀x∈xs,∀l d o,l.length<xs.length→P l d→∃d' o',P (l++[x]) d'∧turn b s (enc x) (mkρ d o)=.ok (.nx (mkρ d' o'))) (o0:Option D) :
  V (forD b s (xs.map enc) (mkρ d0 o0)) (fun fl=>∃d o,P xs d∧fl=.nx (mkρ d o)):=by
 refine V_forM (P:=fun r ρ=>∃(l:List α) (d:D) (o:Option D),l++r=xs∧P l d∧ρ=mkρ d o) (fun x r ρ q=>?_) (fun ρ q=>?_) ⟨[],d0,o0,rfl,h0,rfl⟩
 ·obtain ⟨l,d,o,e,ht,rfl⟩:=q
  have hx:x∈xs:=by rw [← e];simp
  have hll:l.length<xs.length:=by rw [← e,length_append,length_cons];omega
  obtain ⟨d',o',t1,t2⟩:=step x hx l d o hll ht
  refine V.of t2 (by exact ⟨l++[x],d',o',by rw [← e,append_assoc];rfl,t1,rfl⟩)
 ·obtain ⟨l,d,o,e,ht,rfl⟩:=q
  rw [append_nil] at e
  subst e
  exact ⟨d,o,ht,rfl⟩
theorem set_sum {w:Int}:∀(ns:List Int) (a j:Nat),a<ns.length→((ns.set a w).take j).sum=(ns.take j).sum+if a<j then w - ns.getD a 0 else 0
 | [],_,_,h=>nomatch h
 | _::_,_,0,_=>by simp
 | n::ns,0,j+1,_=>by
  simp
  omega
 | n::ns,a+1,j+1,h=>by
  rw [List.set_cons_succ,List.take_succ_cons,List.take_succ_cons,List.sum_cons,List.sum_cons,set_sum ns a j (Nat.lt_of_succ_lt_succ h),List.getD_cons_succ]
  by_cases e:a<j
  ·rw [if_pos e,if_pos (by omega)];omega
  ·rw [if_neg e,if_neg (by omega)];omega
theorem joined18 (a b:List Int)(h:a.length+b.length≤200):F_joined [.lst [iD a,iD b]]=.ok (iD (a++b)):=by
 have f1':flatA (a.map D.int)=true:=flatA_map (fun _=>rfl) _
 have f2':flatA (b.map D.int)=true:=flatA_map (fun _=>rfl) _
 have x1:l_joined_2 [some (.lst [iD a,iD b]),some (.lst []),some (iD a)]=.ok (.nx [some (.lst [iD a,iD b]),some (iD a),some (iD a)]):=by
  unfold l_joined_2 sExtF
  show (if ([]:List D).length+(a.map D.int).length≤lim∧flatA (a.map D.int)=true then R.ok (Fl.nx _) else .bad)=_
  rw [if_pos ⟨by rw [length_map];show 0+a.length≤1000000;omega,f1'⟩]
  rfl
 have x2:l_joined_2 [some (.lst [iD a,iD b]),some (iD a),some (iD b)]=.ok (.nx [some (.lst [iD a,iD b]),some (iD (a++b)),some (iD b)]):=by
  unfold l_joined_2 sExtF
  show (if (a.map D.int).length+(b.map D.int).length≤lim∧flatA (b.map D.int)=true then R.ok (Fl.nx _) else .bad)=_
  rw [if_pos ⟨by rw [length_map,length_map];show a.length+b.length≤1000000;omega,f2'⟩]
  unfold iD
  rw [map_append]
  rfl
 have lp:forD (bName 2) l_joined_2 [iD a,iD b] [some (.lst [iD a,iD b]),some (.lst []),none]=.ok (.nx [some (.lst [iD a,iD b]),some (iD (a++b)),some (iD b)]):=by
  rw [forD_cons]
  show ((l_joined_2 [some (.lst [iD a,iD b]),some (.lst []),some (iD a)]).bind _)=_
  rw [x1]
  show forD (bName 2) l_joined_2 [iD b] [some (.lst [iD a,iD b]),some (iD a),some (iD a)]=_
  rw [forD_cons]
  show ((l_joined_2 [some (.lst [iD a,iD b]),some (iD a),some (iD b)]).bind _)=_
  rw [x2]
  rfl
 have gl:gLen [iD (a++b)]=some (.int ((a++b).length:Nat)):=by simp [iD]
 have hn:¬(200:Int)<((a++b).length:Nat):=by rw [length_append];omega
 have g2:gLst []=some (.lst []):=rfl
 generalize iD (a++b)=AB at *
 generalize iD a=A at *
 generalize iD b=B at *
 generalize (((a++b).length:Nat):Int)=N at *
 simp only [F_joined,q_joined]
 have h2:(2:Nat)≤lim:=by show 2≤1000000;omega
 simp [g2,lp,gl,hn,h2]
theorem put18 {i:Nat}{k e:FE}{ρ:Env}{d:D}{xs:List D}{n:Int}{j:Nat}(he:e ρ=.ok d)(hi:ρ[i]?=some (some (.lst xs)))(hk:k ρ=.ok (.int n))(hf:flat d=true)(hx:flatA xs=true)(hj:ixD xs.length n=some j):sPut i k e ρ=.ok (.nx (ρ.set i (some (.lst (xs.set j d))))):=by
 unfold sPut
 rw [he]
 show (match ρ[i]? with | some (some (.lst xs))=>_ | _=>_)=_
 rw [hi]
 show (k ρ).bind _=_
 rw [hk]
 show (if flat d=true∧flatA xs=true then _ else _)=_
 rw [if_pos ⟨hf,hx⟩,hj]
theorem changed18 {ns:List Int}{a:Nat}{w:Int}(h:a<ns.length):F_changed [iD ns,.int a,.int w]=.ok (iD (ns.set a w)):=by
 refine r_run (r_seq (r_ifF (r_cNot (b:=true) (r_cE (r_chain (x:=.int 0) (y:=.int a) (w:=.int ns.length) rfl rfl (bl_t (by omega)) (len_ints rfl) (bl_t (by omega))))) rfl) (r_seq (r_set (r_fA (r_cons rfl rfl) (list_ints ns))) (r_seq (put18 (xs:=ns.map D.int) (n:=(a:Int)) (j:=a) (d:=.int w) rfl rfl rfl rfl (flatA_map (fun _=>rfl) _) (by unfold ixD;rw [length_map,if_pos (by omega),if_pos (by omega),toNat_natCast])) (r_ret ?_))))
 show R.ok (D.lst ((ns.map D.int).set a (.int w)))=_
 unfold iD
 rw [List.map_set]
section
variable {ns:List Int}{ks:List Kd}{k:Kd}{a:Nat}{w:Int}
theorem set_pre (h:a<ns.length)(j:Nat):pre (ns.set a w) j=pre ns j+if a<j then w - ns.getD a 0 else 0:=set_sum ns a j h
theorem good_set (h:a<ns.length)(hw:ns.getD a 0≤w)(h1:1≤k.w){p:Nat}(g:good (ns.set a w) k (p:Int)=true):good ns k (p:Int)=true:=by
 simp only [good,decide_eq_true_eq] at g ⊢
 rw [length_set,set_pre h,set_pre h] at g
 refine ⟨g.1,g.2.1,?_⟩
 have:=g.2.2
 split at this<;>split at this<;>omega
theorem good_stay (h:a<ns.length)(h1:1≤k.w){p:Nat}(g:good ns k (p:Int)=true)(ho:¬((p:Int)≤a∧(a:Int)<p+k.w)):good (ns.set a w) k (p:Int)=true:=by
 simp only [good,decide_eq_true_eq] at g ⊢
 rw [length_set,set_pre h,set_pre h]
 refine ⟨g.1,g.2.1,?_⟩
 have:=g.2.2
 split<;>split<;>omega
theorem set_sub (h:a<ns.length)(hw:ns.getD a 0≤w)(hk:∀k∈ks,1≤k.w):∀x∈apTo (ns.set a w) ks (ns.set a w).length,x∈apTo ns ks ns.length:=fun x hx=>by
 obtain ⟨h1,h2,h3⟩:=ap_mem hx
 rw [length_set] at h1
 exact ap_in h1 h2 (good_set h hw (hk _ h2) h3)
theorem set_stay (h:a<ns.length)(hk:∀k∈ks,1≤k.w):∀x∈apTo ns ks ns.length,¬((x.1:Int)≤a∧(a:Int)<x.1+x.2.w)→x∈apTo (ns.set a w) ks (ns.set a w).length:=fun x hx ho=>by
 obtain ⟨h1,h2,h3⟩:=ap_mem hx
 exact ap_in (by rw [length_set];exact h1) h2 (good_stay h (hk _ h2) h3 ho)
noncomputable def fA1 (l:List PK)(k:Ky):Option Bool:=if tHas (l.map kOf) k=true then some false else none
noncomputable def fA2 (A l:List PK)(k:Ky):Option Bool:=if tHas (l.map kOf) k=true then some true else fA1 A k
theorem fA1_snoc (l:List PK)(x:PK)(j:Ky):(if j=kOf x then some false else fA1 l j)=fA1 (l++[x]) j:=by
 unfold fA1
 by_cases e:j=kOf x
 ·rw [if_pos e,if_pos (has_iff.mpr (by rw [e];exact List.mem_map.mpr ⟨x,by simp,rfl⟩))]
 ·rw [if_neg e]
  have:tHas ((l++[x]).map kOf) j=tHas (l.map kOf) j:=Bool.eq_iff_iff.mpr (by rw [has_iff,has_iff,map_append,mem_append,List.map_singleton,List.mem_singleton];exact ⟨fun z=>z.resolve_right e,.inl⟩)
  rw [this]
theorem fA2_snoc (A l:List PK)(x:PK)(j:Ky):(if j=kOf x then some true else fA2 A l j)=fA2 A (l++[x]) j:=by
 unfold fA2
 by_cases e:j=kOf x
 ·rw [if_pos e,if_pos (has_iff.mpr (by rw [e];exact List.mem_map.mpr ⟨x,by simp,rfl⟩))]
 ·rw [if_neg e]
  have:tHas ((l++[x]).map kOf) j=tHas (l.map kOf) j:=Bool.eq_iff_iff.mpr (by rw [has_iff,has_iff,map_append,mem_append,List.map_singleton,List.mem_singleton];exact ⟨fun z=>z.resolve_right e,.inl⟩)
  rw [this]
theorem heavier18 (hn:ns.length≤200)(hk:ks.length≤100)(hw:∀k∈ks,1≤k.w)(nd:(ks.map (·.name)).Nodup)(ha:a<ns.length)(hh:ns.getD a 0≤w) :
    F__law_heavier [iD ns,tD ks,nsD (apTo ns ks ns.length),.int a,.int w]=.ok (.bl true):=by
  have la:(apTo ns ks ns.length).length≤20000:=le_trans (apTo_len _) (mul_le_mul (n₂:=200) (m₂:=100) hn hk)
  have lb:(apTo (ns.set a w) ks (ns.set a w).length).length≤20000:=le_trans (apTo_len _) (mul_le_mul (n₂:=200) (m₂:=100) (by rw [length_set];exact hn) hk)
  have pk:=pieces_ok (ns:=ns.set a w) (ks:=ks) (by rw [length_set];omega) hk hw
  have sub:=set_sub (ks:=ks) ha hh hw
  have stay:=set_stay (ks:=ks) (w:=w) ha hw
  have mA:∀x∈apTo ns ks ns.length,x.2∈ks:=fun x hx=>(ap_mem hx).2.1
  generalize apTo ns ks ns.length=A at *
  generalize apTo (ns.set a w) ks (ns.set a w).length=B at *
  have l1:=loop18 (enc:=fun x=>pD (nm x)) (b:=bName 6) (s:=l__law_heavier_2) (mkρ:=fun d o=>[some (iD ns),some (tD ks),some (nsD A),some (.int a),some (.int w),some d,o]) (P:=fun l d=>TW l.length (fA1 l) d) A (TW.wNil18.wCongr18 (le_refl _) fun _=>rfl) (fun x _ l d o hl ht=>by
    obtain ⟨d',t1,t2⟩:=ht.wPut18 (i:=5) (kf:=fV 6) (ef:=fC (.bl false)) (ρ:=[some (iD ns),some (tD ks),some (nsD A),some (.int a),some (.int w),some d,some (pD (nm x))]) (k:=kOf x) rfl rfl rfl rfl (by omega)
    exact ⟨d',_,t1.wCongr18 (by rw [length_append];exact le_refl _) (fA1_snoc l x),by rw [turn_name];exact t2⟩) none
  obtain ⟨_,e1,d1,o1,t1,rfl⟩:=l1.ex
  have l2:=loop18 (enc:=fun x=>pD (nm x)) (b:=bName 6) (s:=l__law_heavier_4) (mkρ:=fun d o=>[some (iD ns),some (tD ks),some (nsD A),some (.int a),some (.int w),some d,o]) (P:=fun l d=>TW (A.length+l.length) (fA2 A l) d) B (t1.wCongr18 (le_refl _) fun _=>rfl) (fun x hx l d o hl ht=>by
    obtain ⟨d',t1,t2⟩:=ht.wPut18 (i:=5) (kf:=fV 6) (ef:=fC (.bl true)) (ρ:=[some (iD ns),some (tD ks),some (nsD A),some (.int a),some (.int w),some d,some (pD (nm x))]) (k:=kOf x) rfl rfl rfl rfl (by omega)
    have hm:kOf x∈A.map kOf:=List.mem_map.mpr ⟨x,sub x hx,rfl⟩
    have:∃b,fA2 A l (kOf x)=some b:=by
      unfold fA2 fA1
      rw [if_pos (has_iff.mpr hm)]
      split
      · exact ⟨_,rfl⟩
      · exact ⟨_,rfl⟩
    obtain ⟨b,hb⟩:=this
    exact ⟨d',_,t1.wCongr18 (by rw [length_append];exact le_refl _) (fA2_snoc A l x),by rw [turn_name];exact r_seq (r_ifF (r_cE (r_f2 rfl rfl (ht.wNo18 (keyT_pD (nm x)) hb))) rfl) t2⟩) o1
  obtain ⟨_,e2,d2,o2,t2,rfl⟩:=l2.ex
  have l3:V (forD (bName 6) l__law_heavier_8 (A.map fun x=>pD (nm x)) [some (iD ns),some (tD ks),some (nsD A),some (.int a),some (.int w),some d2,o2]) (fun fl=>∃ρ,fl=.nx ρ):=by
    refine V_forM (P:=fun r ρ=>(∀x∈r,x∈A)∧∃o,ρ=[some (iD ns),some (tD ks),some (nsD A),some (.int a),some (.int w),some d2,o]) (fun x r ρ q=>?_) (fun ρ q=>⟨ρ,rfl⟩) ⟨fun x h=>h,o2,rfl⟩
    obtain ⟨q1,o,rfl⟩:=q
    rw [turn_name]
    have hx:=q1 x (.head _)
    have en:=end_ok (x:=x) (by omega) nd (mA x hx)
    have hm:kOf x∈A.map kOf:=List.mem_map.mpr ⟨x,hx,rfl⟩
    refine V.of (a:=.nx [some (iD ns),some (tD ks),some (nsD A),some (.int a),some (.int w),some d2,some (pD (nm x))]) ?_ (by exact ⟨fun y hy=>q1 y (.tail _ hy),_,rfl⟩)
    by_cases hB:kOf x∈B.map kOf
    · have at2:=t2.wAt18 (keyT_pD (nm x)) (b:=true) (if_pos (has_iff.mpr hB))
      exact r_ifF (r_cAndF (r_cNot (b:=true) (r_cE (r_f2 rfl rfl at2)))) rfl
    · have at2:=t2.wAt18 (keyT_pD (nm x)) (b:=false) ((if_neg fun z=>hB (has_iff.mp z)).trans (if_pos (has_iff.mpr hm)))
      have hin:(x.1:Int)≤a∧(a:Int)<x.1+x.2.w:=Decidable.byContradiction fun z=>hB (List.mem_map.mpr ⟨x,stay x hx z,rfl⟩)
      exact r_ifF (r_cAndT (r_cNot (b:=false) (r_cE (r_f2 rfl rfl at2))) (r_cNot (b:=true) (r_cE (r_chain (x:=.int x.1) (y:=.int a) (w:=.int ((x.1:Int)+x.2.w)) (r_f2 rfl rfl rfl) rfl (bl_t hin.1) (r_call (r_cons rfl (r_cons rfl rfl)) en) (bl_t hin.2))))) rfl
  obtain ⟨_,e3,ρ,rfl⟩:=l3.ex
  have jl:∀{fe:FE} {ρ:Env} (X:List PK),X.length≤20000→fe ρ=.ok (nsD X)→jList fe ρ=.ok (X.map fun x=>pD (nm x)):=fun X h e=>r_jList (by rw [e];exact congrArg R.ok (nsD_map _)) (by rw [length_map];show _≤1000000;omega)
  exact r_run (r_seq (r_set rfl) (r_seq (r_for (jl A la rfl) e1) (r_seq (r_for (jl B lb (r_call (r_cons (r_call (r_cons rfl (r_cons rfl (r_cons rfl rfl))) (changed18 ha)) (r_cons rfl rfl)) pk)) e2) (r_seq (r_for (jl A la rfl) e3) (r_ret rfl)))))
end
theorem depA18:∀ys:List PK,depA (ys.map fun x=>pD (nm x))≤10
 | []=>by simp [depA]
 | y::ys=>by
  have h1:dep (pD (nm y))≤10:=by simp [pD,dep,depA]
  have:=depA18 ys
  simp only [map_cons,depA]
  omega
theorem dep_ns18 (xs:List PK):dep (nsD xs)≤20:=by
 rw [nsD_map]
 have:=depA18 xs
 simp only [dep]
 omega
theorem kOk_pool:∀z∈poolL,kOk (.inr z)=true:=by decide +kernel
theorem ne_ns18 (xs:List PK):gNe (nsD xs) (nsD xs)=some (.bl false):=neX (dep_ns18 xs)
theorem law18_true (scr:List Int)(h:scr.length≤63):F_law [.scr scr]=.ok (.bl true):=by
 obtain ⟨ws,ks,hdr,hwl,hwb,hkl,hto⟩:=drawn_ok scr h (i:=0) (m:=30) (c:=8) (by decide) (by decide) (by decide) (by decide) (by decide) (by decide)
 obtain ⟨fl,hfl,fl0,fl1⟩:=flaw_ok scr h (i:=0) (m:=8) (by decide) (by decide) (by decide) (by decide)
 obtain ⟨os,hro,hol,_⟩:=roll_ok scr h (i:=2) (m:=30) (by decide) (by decide) (by decide) (by decide) fl0 fl1
 obtain ⟨qs,hrow,R⟩:=row_ok scr h (i:=3) (by decide) (by decide) [8,120,1000000000000000000] (by decide) (by decide)
 have hql:qs.length=3:=R.len
 have b1:0≤qs.getD 1 0∧qs.getD 1 0<120:=R.at_ 1 (by decide)
 have b2:0≤qs.getD 2 0∧qs.getD 2 0<1000000000000000000:=R.at_ 2 (by decide)
 have x0:gIx (iD qs) (.int 0)=some (.int (qs.getD 0 0)):=ix_ints rfl (by omega)
 have x1:gIx (iD qs) (.int 1)=some (.int (qs.getD 1 0)):=ix_ints rfl (by omega)
 have x2:gIx (iD qs) (.int 2)=some (.int (qs.getD 2 0)):=ix_ints rfl (by omega)
 have hk8:ks.length≤8:=Int.ofNat_le.mp hkl
 have hw:∀k∈ks,1≤k.w:=fun k hk=>(hto.ok k hk).w1
 have nd:=hto.nd
 have hc:∀k∈ks,kOk (.inr k.name)=true:=fun k hk=>kOk_pool _ (hto.ok k hk).nm
 obtain ⟨ns,hnl,hnb,step⟩:∃ns:List Int,ns.length≤120∧(∀n∈ns,0≤n∧n≤1000000000000000000)∧∀r:FS,(sSeq (sIf (cE (f2 gEq (f2 gIx (fV 4) (fC (.int 0))) (fC (.int 0)))) (sSet 1 (fSl gSl (f2 gAdd (f2 gMul (fV 1) (fC (.int 4))) (f2 gMul (fA gLst (aCons (fC (.int 0)) aNil)) (fC (.int 120)))) oNone (oSome (fC (.int 120))))) sNx) r) [some (.scr scr),some (iD ws),some (tD ks),some (iD os),some (iD qs),none,none,none,none,none,none]=r [some (.scr scr),some (iD ns),some (tD ks),some (iD os),some (iD qs),none,none,none,none,none,none]:=by
  by_cases q:qs.getD 0 0=0
  ·have m1:=mul_rep (ws:=ws) (m:=4) (by decide) (by decide) (by omega)
   have m2:=mul_rep (ws:=[0]) (m:=120) (by decide) (by decide) (by decide)
   have ad:=add_ints (xs:=(List.replicate (4:Int).toNat ws).flatten) (ys:=(List.replicate (120:Int).toNat [0]).flatten) (by rw [rep_len,rep_len];show 4*_+120*1≤_;omega)
   have sl:=sl_ints ((List.replicate (4:Int).toNat ws).flatten++(List.replicate (120:Int).toNat [0]).flatten) none (some 120)
   rw [cut_to (by decide)] at sl
   refine ⟨((List.replicate (4:Int).toNat ws).flatten++(List.replicate (120:Int).toNat [0]).flatten).take (120:Int).toNat,by rw [length_take];exact Nat.min_le_left _ _,fun n hn=>?_,fun r=>r_seq (r_ifT (r_cE (r_f2 (r_f2 rfl rfl x0) rfl ((eq_ii _ _).trans (bl_t q)))) (r_set (r_sl (r_f2 (r_f2 rfl rfl m1) (r_f2 (r_fA (r_cons rfl rfl) rfl) rfl m2) ad) rfl (r_oSome rfl) sl))) rfl⟩
   rcases List.mem_append.mp (mem_of_mem_take hn) with z | z
   ·exact hwb n (mem_rep z)
   ·have:=mem_rep z
    rw [List.mem_singleton.mp this]
    decide
  ·exact ⟨ws,by omega,hwb,fun r=>r_seq (r_ifF (r_cE (r_f2 (r_f2 rfl rfl x0) rfl ((eq_ii _ _).trans (bl_f q)))) rfl) rfl⟩
 have hk:ks.length≤100:=by omega
 have lj:(ns++os).length≤200:=by rw [length_append];omega
 have lp:∀ms:List Int,ms.length≤200→(apTo ms ks ms.length).length≤20000:=fun ms hm=>le_trans (apTo_len _) (mul_le_mul (n₂:=200) (m₂:=100) hm hk)
 have pa:=pieces_ok (ns:=ns) (by omega) hk hw
 have pb:=pieces_ok (ns:=os) (by omega) hk hw
 have pc:=pieces_ok (ns:=ns++os) (by omega) hk hw
 have pr:=pieces_ok (ns:=ns.reverse) (by rw [List.length_reverse];omega) hk hw
 rw [List.length_reverse] at pr
 have ic:=is_cutting_ok ((apTo ns ks ns.length).map nm) (by rw [length_map];have:=lp ns (by omega);omega)
 have ga:=each18 (ns:=ns) (by omega) hk hw nd (apTo ns ks ns.length) (by have:=lp ns (by omega);omega) (fun x hx=>(ap_mem hx).2)
 have gc:=each18 (ns:=ns++os) (by omega) hk hw nd (apTo (ns++os) ks (ns++os).length) (by have:=lp _ lj;omega) (fun x hx=>(ap_mem hx).2)
 have bh:=behind18 (ns:=ns) (ks:=ks) (by omega) hk8 hw nd
 have ov:=over18 (ns:=ns) (os:=os) (ks:=ks) (by omega) (by omega) hk hw nd hc (by have:=lp ns (by omega);omega) (by have:=lp os (by omega);omega) (by have:=lp _ lj;omega)
 have jn:=joined18 ns os (by omega)
 have ln:∀{ρ:Env},ρ[1]?=some (some (iD ns))→fA gLen (aCons (fV 1) aNil) ρ=.ok (.int ns.length):=fun e=>len_ints (by unfold fV;rw [e])
 refine r_run (r_seq (r_asg (r_call (r_cons rfl (r_cons rfl (r_cons rfl (r_cons rfl rfl)))) hdr) rfl) (r_seq (r_set (r_call (r_cons rfl (r_cons rfl (r_cons rfl (r_cons (r_call (r_cons rfl (r_cons rfl (r_cons rfl rfl))) hfl) rfl)))) hro)) (r_seq (r_set (r_call (r_cons rfl (r_cons rfl (r_cons (r_fA (r_cons rfl (r_cons rfl (r_cons (r_f2 rfl rfl pow10_18) rfl))) rfl) rfl))) hrow)) ?_)))
 refine (step _).trans ?_
 refine r_seq (r_set (r_call (r_cons rfl (r_cons rfl rfl)) pa)) (r_seq (r_set (r_call (r_cons rfl (r_cons rfl rfl)) pb)) ?_)
 refine r_seq (r_ifF (r_cOrF (r_cNot (b:=true) (r_cE (r_call (r_cons rfl rfl) ic))) (r_cNot (b:=true) (r_cE (r_call (r_cons rfl (r_cons rfl (r_cons rfl rfl))) ga)))) rfl) ?_
 refine r_seq (r_ifF (r_cE (r_f2 (r_call (r_cons (r_call (r_cons rfl rfl) (turnedI ns)) (r_cons rfl rfl)) pr) (r_call (r_cons rfl (r_cons rfl (r_cons (ln rfl) rfl))) bh) (ne_ns18 _))) rfl) ?_
 refine r_seq (r_set (r_call (r_cons (r_fA (r_cons rfl (r_cons rfl rfl)) rfl) rfl) jn)) (r_seq (r_set (r_call (r_cons rfl (r_cons rfl rfl)) pc)) ?_)
 refine r_seq (r_ifF (r_cNot (b:=true) (r_cE (r_call (r_cons rfl (r_cons rfl (r_cons rfl rfl))) gc))) rfl) ?_
 refine r_seq (r_ifF (r_cNot (b:=true) (r_cE (r_call (r_cons rfl (r_cons rfl (r_cons rfl (r_cons rfl (r_cons (ln rfl) rfl))))) ov))) rfl) ?_
 by_cases q:ns.length=0
 ·exact r_seqR (r_ifT (r_cE (r_f2 (ln rfl) rfl ((eq_ii _ _).trans (bl_t (by omega))))) (r_ret rfl))
 ·refine r_seq (r_ifF (r_cE (r_f2 (ln rfl) rfl ((eq_ii _ _).trans (bl_f (by omega))))) rfl) ?_
  have hm:gMod (.int (qs.getD 1 0)) (.int (ns.length:Int))=some (.int (((qs.getD 1 0).toNat % ns.length:Nat):Int)):=by
   rw [mod_ii (by omega),Int.natCast_emod,toNat_of_nonneg b1.1]
  have al:(qs.getD 1 0).toNat % ns.length<ns.length:=Nat.mod_lt _ (by omega)
  generalize (qs.getD 1 0).toNat % ns.length=a at hm al
  have xa:gIx (iD ns) (.int (a:Int))=some (.int (ns.getD a 0)):=ix_ints rfl al
  have ba:ns.getD a 0≤1000000000000000000:=by
   have e:ns.getD a 0=ns[a]:=by simp [List.getD,al]
   rw [e]
   exact (hnb _ (getElem_mem al)).2
  have hv:=heavier18 (ns:=ns) (ks:=ks) (a:=a) (w:=min 1000000000000000000 (ns.getD a 0+1+qs.getD 2 0)) (by omega) hk hw nd al (by omega)
  refine r_seq (r_set (r_f2 (r_f2 rfl rfl x1) (ln rfl) hm)) (r_seq (r_set (r_fA (r_cons (r_f2 rfl rfl pow10_18) (r_cons (r_f2 (r_f2 (r_f2 rfl rfl xa) rfl rfl) (r_f2 rfl rfl x2) rfl) rfl)) (min_ii _ _))) (r_ret (r_call (r_cons rfl (r_cons rfl (r_cons rfl (r_cons rfl (r_cons rfl rfl))))) hv)))
end Dl
set_option maxHeartbeats 4000000
namespace K18
open PySem PySem.Spec PyProof.Rows L2
open Dl (D R FE FT FA FO FS FI FB Fl)
noncomputable def top (i:Nat):Stmt:=PySem.Challenge.pw_selvage_k18_whole_pieces_seen_otherwise.main.body.getD i (.Pass ⟨0,0,0,0⟩)
noncomputable abbrev sspoilt:Stmt:=top 7
noncomputable abbrev schanged:Stmt:=top 8
noncomputable abbrev sturned:Stmt:=top 9
noncomputable abbrev sjoined:Stmt:=top 10
noncomputable abbrev skind_of:Stmt:=top 12
noncomputable abbrev sfits:Stmt:=top 14
noncomputable abbrev sall_pieces:Stmt:=top 15
noncomputable abbrev send_of:Stmt:=top 16
noncomputable abbrev s_law_cell:Stmt:=top 18
noncomputable abbrev s_law_mix:Stmt:=top 19
noncomputable abbrev s_law_row:Stmt:=top 20
noncomputable abbrev s_law_table:Stmt:=top 21
noncomputable abbrev s_law_flaw:Stmt:=top 22
noncomputable abbrev s_law_roll:Stmt:=top 23
noncomputable abbrev s_law_drawn:Stmt:=top 24
noncomputable abbrev s_law_is_whole:Stmt:=top 25
noncomputable abbrev s_law_is_cutting:Stmt:=top 26
noncomputable abbrev s_law_spot:Stmt:=top 27
noncomputable abbrev s_law_from_behind:Stmt:=top 28
noncomputable abbrev s_law_over:Stmt:=top 29
noncomputable abbrev s_law_each_good:Stmt:=top 30
noncomputable abbrev s_law_heavier:Stmt:=top 31
noncomputable abbrev slaw:Stmt:=top 32
theorem scspoilt:FnScope ["roll","begin","end"] ["roll","begin","end"] (defScope sspoilt):=⟨rfl,rfl,rfl,by decide +kernel,rfl,by decide +kernel,by decide +kernel⟩
theorem scchanged:FnScope ["roll","place","weight","cells"] ["roll","place","weight"] (defScope schanged):=⟨rfl,rfl,rfl,by decide +kernel,rfl,by decide +kernel,by decide +kernel⟩
theorem scturned:FnScope ["roll"] ["roll"] (defScope sturned):=⟨rfl,rfl,rfl,by decide +kernel,rfl,by decide +kernel,by decide +kernel⟩
theorem scjoined:FnScope ["rolls","cells","roll"] ["rolls"] (defScope sjoined):=⟨rfl,rfl,rfl,by decide +kernel,rfl,by decide +kernel,by decide +kernel⟩
theorem sckind_of:FnScope ["table","name","kind"] ["table","name"] (defScope skind_of):=⟨rfl,rfl,rfl,by decide +kernel,rfl,by decide +kernel,by decide +kernel⟩
theorem scfits:FnScope ["roll","kind","place","end"] ["roll","kind","place"] (defScope sfits):=⟨rfl,rfl,rfl,by decide +kernel,rfl,by decide +kernel,by decide +kernel⟩
theorem scall_pieces:FnScope ["roll","table","pieces","place","kind"] ["roll","table"] (defScope sall_pieces):=⟨rfl,rfl,rfl,by decide +kernel,rfl,by decide +kernel,by decide +kernel⟩
theorem scend_of:FnScope ["table","piece"] ["table","piece"] (defScope send_of):=⟨rfl,rfl,rfl,by decide +kernel,rfl,by decide +kernel,by decide +kernel⟩
theorem sc_law_cell:FnScope ["_law_script","_law_place","_law_seed","_law_cell_here"] ["_law_script","_law_place"] (defScope s_law_cell):=⟨rfl,rfl,rfl,by decide +kernel,rfl,by decide +kernel,by decide +kernel⟩
theorem sc_law_mix:FnScope ["_law_cell_here","_law_k","_law_one","_law_two"] ["_law_cell_here","_law_k"] (defScope s_law_mix):=⟨rfl,rfl,rfl,by decide +kernel,rfl,by decide +kernel,by decide +kernel⟩
theorem sc_law_row:FnScope ["_law_script","_law_place","_law_sizes","_law_cell_here","_law_left","_law_some","_law_k","_law_other"] ["_law_script","_law_place","_law_sizes"] (defScope s_law_row):=⟨rfl,rfl,rfl,by decide +kernel,rfl,by decide +kernel,by decide +kernel⟩
theorem sc_law_table:FnScope ["_law_script","_law_place","_law_most","_law_pool","_law_some","_law_flaw_here","_law_gain","_law_table_here","_law_k","_law_at","_law_width","_law_worth","_law_allowed","_law_name"] ["_law_script","_law_place","_law_most"] (defScope s_law_table):=⟨rfl,rfl,rfl,by decide +kernel,rfl,by decide +kernel,by decide +kernel⟩
theorem sc_law_flaw:FnScope ["_law_script","_law_place","_law_most"] ["_law_script","_law_place","_law_most"] (defScope s_law_flaw):=⟨rfl,rfl,rfl,by decide +kernel,rfl,by decide +kernel,by decide +kernel⟩
theorem sc_law_roll:FnScope ["_law_script","_law_place","_law_most","_law_flaw_here","_law_some","_law_great","_law_roll_here","_law_k","_law_at","_law_weight"] ["_law_script","_law_place","_law_most","_law_flaw_here"] (defScope s_law_roll):=⟨rfl,rfl,rfl,by decide +kernel,rfl,by decide +kernel,by decide +kernel⟩
theorem sc_law_drawn:FnScope ["_law_script","_law_place","_law_most","_law_kinds","_law_flaw_here"] ["_law_script","_law_place","_law_most","_law_kinds"] (defScope s_law_drawn):=⟨rfl,rfl,rfl,by decide +kernel,rfl,by decide +kernel,by decide +kernel⟩
theorem sc_law_is_whole:FnScope ["_law_one"] ["_law_one"] (defScope s_law_is_whole):=⟨rfl,rfl,rfl,by decide +kernel,rfl,by decide +kernel,by decide +kernel⟩
theorem sc_law_is_cutting:FnScope ["_law_found","_law_one"] ["_law_found"] (defScope s_law_is_cutting):=⟨rfl,rfl,rfl,by decide +kernel,rfl,by decide +kernel,by decide +kernel⟩
theorem sc_law_spot:FnScope ["_law_piece","_law_table_here","_law_k"] ["_law_piece","_law_table_here"] (defScope s_law_spot):=⟨rfl,rfl,rfl,by decide +kernel,rfl,by decide +kernel,by decide +kernel⟩
theorem sc_law_from_behind:FnScope ["_law_pieces","_law_table_here","_law_count","_law_found","_law_place","_law_name","_law_spots"] ["_law_pieces","_law_table_here","_law_count"] (defScope s_law_from_behind):=⟨rfl,rfl,rfl,by decide +kernel,rfl,by decide +kernel,by decide +kernel⟩
theorem sc_law_over:FnScope ["_law_both","_law_first","_law_second","_law_table_here","_law_count","_law_there","_law_piece","_law_known","_law_place","_law_name"] ["_law_both","_law_first","_law_second","_law_table_here","_law_count"] (defScope s_law_over):=⟨rfl,rfl,rfl,by decide +kernel,rfl,by decide +kernel,by decide +kernel⟩
theorem sc_law_each_good:FnScope ["_law_roll_here","_law_table_here","_law_pieces","_law_piece","_law_kind"] ["_law_roll_here","_law_table_here","_law_pieces"] (defScope s_law_each_good):=⟨rfl,rfl,rfl,by decide +kernel,rfl,by decide +kernel,by decide +kernel⟩
theorem sc_law_heavier:FnScope ["_law_roll_here","_law_table_here","_law_before","_law_at","_law_weight","_law_there","_law_piece"] ["_law_roll_here","_law_table_here","_law_before","_law_at","_law_weight"] (defScope s_law_heavier):=⟨rfl,rfl,rfl,by decide +kernel,rfl,by decide +kernel,by decide +kernel⟩
theorem sclaw:FnScope ["_law_script","_law_roll_here","_law_table_here","_law_other","_law_some","_law_before","_law_second","_law_together","_law_both","_law_at","_law_weight"] ["_law_script"] (defScope slaw):=⟨rfl,rfl,rfl,by decide +kernel,rfl,by decide +kernel,by decide +kernel⟩
structure Txt (mg:Str→Option Value):Prop where
 sum:mg "sum"=none
 len:mg "len"=none
 list:mg "list"=none
 reversed:mg "reversed"=none
 range:mg "range"=none
 min:mg "min"=none
 isinstance:mg "isinstance"=none
 int:mg "int"=none
 bool:mg "bool"=none
 tuple:mg "tuple"=none
 str:mg "str"=none
 sorted:mg "sorted"=none
 MOST_CELLS:∃t,mg "MOST_CELLS"=Option.some (.int 200 t)
section
variable {P:Program}{w:World}{K:Frag}{C:String→Addr}{mg:Str→Option Value}{base:Heap}{f:Addr}{fd:FuncData}
theorem okspoilt (F:Fun K "spoilt" "spoilt" sspoilt f fd)(T:Txt mg):FnOk P w K mg base CX0 7 f fd ["roll","begin","end"] (spD K C 3 2 Dl.F_spoilt):=by
  refine F.okC scspoilt (Γ':=[]) (Δ':=[]) rfl fun cdv A outer s H E hr=>?_
  have sc:=scspoilt
  have hu:_+64<cLine:=hr.units
  exact ⟨_,(css_cons [] [] (cs_if (ct_w (cw_or (ct_cmp op_lt gok_lt (ce_v 1) ce_int (nomark _)) (cw_or (ct_cmp op_gt gok_gt (ce_v 2) (ce_callB (r:=rLenA K) call_lenA gak_len rfl T.len PySem.boot_len (ca_cons (ce_v 0) ca_nil star_name) (he:=star_name)) (nomark _)) (cw_or1 (ct_cmp op_gt gok_gt (ce_v 1) (ce_v 2) (nomark _)))))) (css_one cs_never) css_nil)
      (css_one (cs_ret (ce_callB (r:=rSum K) (call_sum rfl) gak_sum rfl T.sum PyProof.Rows.boot_sum (ca_cons (ce_sl K (ce_v 0) (co_some (ce_v 1)) (co_some (ce_v 2))) ca_nil star_sub) (he:=star_sub)))))⟩
theorem okchanged (F:Fun K "changed" "changed" schanged f fd)(T:Txt mg):FnOk P w K mg base CX0 7 f fd ["roll","place","weight"] (spD K C 3 2 Dl.F_changed):=by
  refine F.okC scchanged (Γ':=[]) (Δ':=[]) rfl fun cdv A outer s H E hr=>?_
  have sc:=scchanged
  have hu:_+64<cLine:=hr.units
  exact ⟨_,(css_cons [] [] (cs_if (ct_not (ct_chain op_le op_lt gok_le gok_lt bl_le ce_int (ce_v 1) (ce_callB (r:=rLenA K) call_lenA gak_len rfl T.len PySem.boot_len (ca_cons (ce_v 0) ca_nil star_name) (he:=star_name)))) (css_one cs_never) css_nil)
      (css_cons [3] [3] (cs_set (i:=3) sc.nd rfl (Or.inl rfl) (ce_callTy (r:=rList K) (call_listA rfl) gak_list rfl T.list PyProof.Rows.boot_list (ca_cons (ce_v 0) ca_nil star_name) (he:=star_name)))
      (css_cons [3] [3] (cs_put (i:=3) (he:=(ce_v 2)) (hk:=(ce_v 1)))
      (css_one (cs_ret (ce_vd 3))))))⟩
theorem okturned (F:Fun K "turned" "turned" sturned f fd)(T:Txt mg):FnOk P w K mg base CX0 7 f fd ["roll"] (spD K C 1 2 Dl.F_turned):=by
 refine F.okC scturned (Γ':=[]) (Δ':=[]) rfl fun cdv A outer s H E hr=>?_
 have sc:=scturned
 have hu:_+64<cLine:=hr.units
 exact ⟨_,(css_one (cs_ret (ce_lrev K rfl T.list rfl T.reversed (ce_v 0) star_name)))⟩
theorem okjoined (F:Fun K "joined" "joined" sjoined f fd)(T:Txt mg):FnOk P w K mg base CX0 7 f fd ["rolls"] (spD K C 1 2 Dl.F_joined):=by
  refine F.okC scjoined (Γ':=[]) (Δ':=[]) rfl fun cdv A outer s H E hr=>?_
  have sc:=scjoined
  have hu:_+64<cLine:=hr.units
  exact ⟨_,(css_cons [1] [1] (cs_set (i:=1) sc.nd rfl (Or.inl rfl) (ce_lst ca_nil))
      (css_cons [1] [1] (cs_for [1] [1] PassesOwn.never rfl (ci_list (ce_v 0)) (cg_name (i:=2) (hN:=sc.nd) (hi:=rfl) (hx:=Or.inl rfl)) (css_one (cs_extF (i:=1) (he:=(ce_v 2)) (hse:=star_name))))
      (css_cons [1] [1] (cs_if (ct_cmp op_gt gok_gt (ce_callB (r:=rLenA K) call_lenA gak_len rfl T.len PySem.boot_len (ca_cons (ce_v 1) ca_nil star_name) (he:=star_name)) (ce_glob rfl T.MOST_CELLS.choose_spec ⟨_,rfl⟩) (nomark _)) (css_one cs_never) css_nil)
      (css_one (cs_ret (ce_vd 1))))))⟩
theorem okkind_of (F:Fun K "kind_of" "kind_of" skind_of f fd)(T:Txt mg):FnOk P w K mg base CX0 7 f fd ["table","name"] (spD K C 2 2 Dl.F_kind_of):=by
  refine F.okC sckind_of (Γ':=[]) (Δ':=[]) rfl fun cdv A outer s H E hr=>?_
  have sc:=sckind_of
  have hu:_+64<cLine:=hr.units
  exact ⟨_,(css_cons [] [] (cs_for [] [] PassesOwn.never rfl (ci_list (ce_v 0)) (cg_name (i:=2) (hN:=sc.nd) (hi:=rfl) (hx:=Or.inl rfl)) (css_one (cs_if (ct_cmp (r:=rEqA K) (op_eqA hu) gok_eq (ce_ix K (ce_v 2) ce_int plain_const) (ce_v 1) (nomark _)) (css_one (cs_ret (ce_flat (ce_v 2)))) css_nil)))
      (css_one cs_never))⟩
theorem ok_law_cell (F:Fun K "_law_cell" "_law_cell" s_law_cell f fd)(T:Txt mg):FnOk P w K mg base CX0 7 f fd ["_law_script","_law_place"] (spD K C 2 2 Dl.F__law_cell):=by
  refine F.okC sc_law_cell (Γ':=[]) (Δ':=[]) rfl fun cdv A outer s H E hr=>?_
  have sc:=sc_law_cell
  have hu:_+64<cLine:=hr.units
  exact ⟨_,(css_cons [] [] (cs_if (ct_cmp op_lt gok_lt (ce_v 1) (ce_callB (r:=rLenA K) call_lenA gak_len rfl T.len PySem.boot_len (ca_cons (ce_v 0) ca_nil star_name) (he:=star_name)) (nomark _)) (css_one (cs_ret (ce_flat (ce_ix K (ce_v 0) (ce_v 1) plain_name)))) css_nil)
      (css_cons [2] [2] (cs_set (i:=2) sc.nd rfl (Or.inl rfl) ce_int)
      (css_cons [2] [2] (cs_for [2] [2] PassesOwn.never rfl (ci_list (ce_sl K (ce_v 0) co_none (co_some ce_int))) (cg_name (i:=3) (hN:=sc.nd) (hi:=rfl) (hx:=Or.inl rfl)) (css_one (cs_set (i:=2) sc.nd rfl (Or.inl rfl) (ce_op op_mod gok_mod (ce_op op_addA gok_add (ce_op op_addA gok_add (ce_op op_mulA gok_mul (ce_v 2) ce_int) (ce_op op_mod gok_mod (ce_v 3) ce_int)) ce_int) ce_int))))
      (css_one (cs_ret (ce_op op_mod gok_mod (ce_op op_addA gok_add (ce_v 2) (ce_op op_mulA gok_mul ce_int (ce_v 1))) ce_int))))))⟩
theorem ok_law_mix (F:Fun K "_law_mix" "_law_mix" s_law_mix f fd)(T:Txt mg):FnOk P w K mg base CX0 7 f fd ["_law_cell_here","_law_k"] (spD K C 2 2 Dl.F__law_mix):=by
  refine F.okC sc_law_mix (Γ':=[]) (Δ':=[]) rfl fun cdv A outer s H E hr=>?_
  have sc:=sc_law_mix
  have hu:_+64<cLine:=hr.units
  exact ⟨_,(css_cons [2] [2] (cs_set (i:=2) sc.nd rfl (Or.inl rfl) (ce_op op_mod gok_mod (ce_op op_pow gok_pow (ce_op op_addA gok_add (ce_op op_addA gok_add (ce_op op_mod gok_mod (ce_v 0) ce_int) (ce_op op_mulA gok_mul ce_int (ce_v 1))) ce_int) ce_int) ce_int))
      (css_cons [2,3] [2,3] (cs_set (i:=3) sc.nd rfl (Or.inl rfl) (ce_op op_mod gok_mod (ce_op op_addA gok_add (ce_op op_addA gok_add (ce_op op_mulA gok_mul (ce_v 2) ce_int) (ce_op op_mulA gok_mul (ce_op op_mulA gok_mul ce_int (ce_v 1)) (ce_v 1))) ce_int) ce_int))
      (css_one (cs_ret (ce_op op_fdivL gok_div (ce_v 3) ce_int)))))⟩
theorem ok_law_is_whole (F:Fun K "_law_is_whole" "_law_is_whole" s_law_is_whole f fd)(T:Txt mg):FnOk P w K mg base CX0 7 f fd ["_law_one"] (spD K C 1 2 Dl.F__law_is_whole):=by
 refine F.okC sc_law_is_whole (Γ':=[]) (Δ':=[]) rfl fun cdv A outer s H E hr=>?_
 have sc:=sc_law_is_whole
 have hu:_+64<cLine:=hr.units
 exact ⟨_,(css_one (cs_ret (ce_and (ce_isI K (ty:="int") kit_int rfl T.isinstance rfl T.int PyProof.Rows.boot_int (ce_v 0) star_name) (ce_one (ce_not (ce_isI K (ty:="bool") kit_bool rfl T.isinstance rfl T.bool PyProof.Rows.boot_bool (ce_v 0) star_name))))))⟩
theorem ok_law_spot (F:Fun K "_law_spot" "_law_spot" s_law_spot f fd)(T:Txt mg):FnOk P w K mg base CX0 7 f fd ["_law_piece","_law_table_here"] (spD K C 2 2 Dl.F__law_spot):=by
  refine F.okC sc_law_spot (Γ':=[]) (Δ':=[]) rfl fun cdv A outer s H E hr=>?_
  have sc:=sc_law_spot
  have hu:_+64<cLine:=hr.units
  exact ⟨_,(css_cons [] [] (cs_for [] [] PassesOwn.never rfl (ci_rng1 rfl T.range (ca_cons (ce_callB (r:=rLenA K) call_lenA gak_len rfl T.len PySem.boot_len (ca_cons (ce_v 1) ca_nil star_name) (he:=star_name)) ca_nil star_call)) (cg_name (i:=2) (hN:=sc.nd) (hi:=rfl) (hx:=Or.inl rfl)) (css_one (cs_if (ct_cmp (r:=rEqA K) (op_eqA hu) gok_eq (ce_ix K (ce_ix K (ce_v 1) (ce_v 2) plain_name) ce_int plain_const) (ce_ix K (ce_v 0) ce_int plain_const) (nomark _)) (css_one (cs_ret (ce_tup (ca_cons2 (ce_flat (ce_ix K (ce_v 0) ce_int plain_const)) (ca_cons2 (ce_flat (ce_v 2)) ca_nil star_name) star_sub)))) css_nil)))
      (css_one (cs_ret (ce_tup (ca_cons2 (ce_flat (ce_ix K (ce_v 0) ce_int plain_const)) (ca_cons2 (ce_callB (r:=rLenA K) call_lenA gak_len rfl T.len PySem.boot_len (ca_cons (ce_v 1) ca_nil star_name) (he:=star_name)) ca_nil star_call) star_sub)))))⟩
theorem okfits (F:Fun K "fits" "fits" sfits f fd)(T:Txt mg)(Dspoilt:Def P w K mg base CX0 7 "spoilt" ["roll","begin","end"] (spD K C 3 2 Dl.F_spoilt)):FnOk P w K mg base CX0 8 f fd ["roll","kind","place"] (spD K C 3 2 Dl.F_fits):=by
  refine F.okC scfits (Γ':=[]) (Δ':=[]) rfl fun cdv A outer s H E hr=>?_
  have sc:=scfits
  have hu:_+64<cLine:=hr.units
  exact ⟨_,(css_cons [3] [3] (cs_set (i:=3) sc.nd rfl (Or.inl rfl) (ce_op op_addA gok_add (ce_v 2) (ce_ix K (ce_v 1) ce_int plain_const)))
      (css_cons [3] [3] (cs_if (ct_w (cw_or (ct_cmp op_lt gok_lt (ce_v 2) ce_int (nomark _)) (cw_or1 (ct_cmp op_gt gok_gt (ce_v 3) (ce_callB (r:=rLenA K) call_lenA gak_len rfl T.len PySem.boot_len (ca_cons (ce_v 0) ca_nil star_name) (he:=star_name)) (nomark _))))) (css_one (cs_ret ce_bl)) css_nil)
      (css_one (cs_ret (ce_cmp op_le gok_le (ce_call Dspoilt (hr.mono (by decide)) rfl pass0 (ca_cons (ce_v 0) (ca_cons (ce_v 2) (ca_cons (ce_v 3) ca_nil star_name) star_name) star_name) (he:=star_name)) (ce_ix K (ce_v 1) ce_int plain_const) (nomark _))))))⟩
theorem okend_of (F:Fun K "end_of" "end_of" send_of f fd)(T:Txt mg)(Dkind_of:Def P w K mg base CX0 7 "kind_of" ["table","name"] (spD K C 2 2 Dl.F_kind_of)):FnOk P w K mg base CX0 8 f fd ["table","piece"] (spD K C 2 2 Dl.F_end_of):=by
 refine F.okC scend_of (Γ':=[]) (Δ':=[]) rfl fun cdv A outer s H E hr=>?_
 have sc:=scend_of
 have hu:_+64<cLine:=hr.units
 exact ⟨_,(css_one (cs_ret (ce_op op_addA gok_add (ce_ix K (ce_v 1) ce_int plain_const) (ce_ix K (ce_call Dkind_of (hr.mono (by decide)) rfl pass0 (ca_cons (ce_v 0) (ca_cons (ce_ix K (ce_v 1) ce_int plain_const) ca_nil star_sub) star_name) (he:=star_name)) ce_int plain_const))))⟩
theorem ok_law_row (F:Fun K "_law_row" "_law_row" s_law_row f fd)(T:Txt mg)(D_law_cell:Def P w K mg base CX0 7 "_law_cell" ["_law_script","_law_place"] (spD K C 2 2 Dl.F__law_cell))(D_law_mix:Def P w K mg base CX0 7 "_law_mix" ["_law_cell_here","_law_k"] (spD K C 2 2 Dl.F__law_mix)):FnOk P w K mg base CX0 8 f fd ["_law_script","_law_place","_law_sizes"] (spD K C 3 2 Dl.F__law_row):=by
  refine F.okC sc_law_row (Γ':=[]) (Δ':=[]) rfl fun cdv A outer s H E hr=>?_
  have sc:=sc_law_row
  have hu:_+64<cLine:=hr.units
  exact ⟨_,(css_cons [3] [3] (cs_set (i:=3) sc.nd rfl (Or.inl rfl) (ce_call D_law_cell (hr.mono (by decide)) rfl pass0 (ca_cons (ce_v 0) (ca_cons (ce_v 1) ca_nil star_name) star_name) (he:=star_name)))
      (css_cons [3,4] [3,4] (cs_set (i:=4) sc.nd rfl (Or.inl rfl) (ce_flat (ce_v 3)))
      (css_cons [3,4,5] [3,4,5] (cs_set (i:=5) sc.nd rfl (Or.inl rfl) (ce_lst ca_nil))
      (css_cons [3,4,5] [3,4,5] (cs_for [3,4,5] [3,4,5] PassesOwn.never rfl (ci_rng1 rfl T.range (ca_cons (ce_callB (r:=rLenA K) call_lenA gak_len rfl T.len PySem.boot_len (ca_cons (ce_v 2) ca_nil star_name) (he:=star_name)) ca_nil star_call)) (cg_name (i:=6) (hN:=sc.nd) (hi:=rfl) (hx:=Or.inl rfl)) (css_one (cs_if (ct_cmp op_lt gok_lt (ce_v 3) (ce_op op_pow gok_pow ce_int ce_int) (nomark _)) (css_one (cs_app (i:=5) (he:=(ce_op op_mod gok_mod (ce_call D_law_mix (hr.mono (by decide)) rfl pass0 (ca_cons (ce_v 3) (ca_cons (ce_v 6) ca_nil star_name) star_name) (he:=star_name)) (ce_ix K (ce_v 2) (ce_v 6) plain_name))) (hse:=star_bin))) (css_one (cs_if (ct_cmp op_gt gok_gt (ce_v 4) ce_int (nomark _)) (css_cons [3,4,5] [3,4,5] (cs_app (i:=5) (he:=(ce_op op_mod gok_mod (ce_v 4) (ce_ix K (ce_v 2) (ce_v 6) plain_name))) (hse:=star_bin))
      (css_one (cs_set (i:=4) sc.nd rfl (Or.inl rfl) (ce_op op_fdivL gok_div (ce_v 4) (ce_ix K (ce_v 2) (ce_v 6) plain_name))))) (css_weak [3,4,5,7] [3,4,5,7] (css_cons [3,4,5,7] [3,4,5,7] (cs_set (i:=7) sc.nd rfl (Or.inl rfl) (ce_call D_law_cell (hr.mono (by decide)) rfl pass0 (ca_cons (ce_v 0) (ca_cons (ce_op op_mod gok_mod (ce_op op_addA gok_add (ce_op op_addA gok_add (ce_v 1) ce_int) (ce_v 6)) ce_int) ca_nil star_bin) star_name) (he:=star_name)))
      (css_one (cs_app (i:=5) (he:=(ce_op op_mod gok_mod (ce_call D_law_mix (hr.mono (by decide)) rfl pass0 (ca_cons (ce_v 7) (ca_cons (ce_v 6) ca_nil star_name) star_name) (he:=star_name)) (ce_ix K (ce_v 2) (ce_v 6) plain_name))) (hse:=star_bin))))))))))
      (css_one (cs_ret (ce_vd 5)))))))⟩
theorem ok_law_is_cutting (F:Fun K "_law_is_cutting" "_law_is_cutting" s_law_is_cutting f fd)(T:Txt mg)(D_law_is_whole:Def P w K mg base CX0 7 "_law_is_whole" ["_law_one"] (spD K C 1 2 Dl.F__law_is_whole)):FnOk P w K mg base CX0 8 f fd ["_law_found"] (spD K C 1 2 Dl.F__law_is_cutting):=by
  refine F.okC sc_law_is_cutting (Γ':=[]) (Δ':=[]) rfl fun cdv A outer s H E hr=>?_
  have sc:=sc_law_is_cutting
  have hu:_+64<cLine:=hr.units
  exact ⟨_,(css_cons [] [] (cs_if (ct_not (ct_val (ce_isI K (ty:="list") kit_list rfl T.isinstance rfl T.list PyProof.Rows.boot_list (ce_v 0) star_name))) (css_one (cs_ret ce_bl)) css_nil)
      (css_cons [] [] (cs_for [] [] PassesOwn.never rfl (ci_list (ce_v 0)) (cg_name (i:=1) (hN:=sc.nd) (hi:=rfl) (hx:=Or.inl rfl)) (css_cons [] [] (cs_if (ct_w (cw_or (ct_not (ct_val (ce_isI K (ty:="tuple") kit_tuple rfl T.isinstance rfl T.tuple PyProof.Rows.boot_tuple (ce_v 1) star_name))) (cw_or1 (ct_cmp (r:=rNeA K) (op_neA hu) gok_ne (ce_callB (r:=rLenA K) call_lenA gak_len rfl T.len PySem.boot_len (ca_cons (ce_v 1) ca_nil star_name) (he:=star_name)) ce_int (nomark _))))) (css_one (cs_ret ce_bl)) css_nil)
      (css_one (cs_if (ct_w (cw_or (ct_not (ct_val (ce_call D_law_is_whole (hr.mono (by decide)) rfl pass0 (ca_cons (ce_ix K (ce_v 1) ce_int plain_const) ca_nil star_sub) (he:=star_sub)))) (cw_or1 (ct_not (ct_val (ce_isI K (ty:="str") kit_str rfl T.isinstance rfl T.str PyProof.Rows.boot_str (ce_ix K (ce_v 1) ce_int plain_const) star_sub)))))) (css_one (cs_ret ce_bl)) css_nil))))
      (css_one (cs_ret ce_bl))))⟩
theorem okall_pieces (F:Fun K "all_pieces" "all_pieces" sall_pieces f fd)(T:Txt mg)(Dfits:Def P w K mg base CX0 8 "fits" ["roll","kind","place"] (spD K C 3 2 Dl.F_fits)):FnOk P w K mg base CX0 9 f fd ["roll","table"] (spD K C 2 2 Dl.F_all_pieces):=by
  refine F.okC scall_pieces (Γ':=[]) (Δ':=[]) rfl fun cdv A outer s H E hr=>?_
  have sc:=scall_pieces
  have hu:_+64<cLine:=hr.units
  exact ⟨_,(css_cons [2] [2] (cs_set (i:=2) sc.nd rfl (Or.inl rfl) (ce_lst ca_nil))
      (css_cons [2] [2] (cs_for [2] [2] PassesOwn.never rfl (ci_rng1 rfl T.range (ca_cons (ce_callB (r:=rLenA K) call_lenA gak_len rfl T.len PySem.boot_len (ca_cons (ce_v 0) ca_nil star_name) (he:=star_name)) ca_nil star_call)) (cg_name (i:=3) (hN:=sc.nd) (hi:=rfl) (hx:=Or.inl rfl)) (css_one (cs_for [2] [2] PassesOwn.never rfl (ci_list (ce_v 1)) (cg_name (i:=4) (hN:=sc.nd) (hi:=rfl) (hx:=Or.inl rfl)) (css_one (cs_if (ct_val (ce_call Dfits (hr.mono (by decide)) rfl pass0 (ca_cons (ce_v 0) (ca_cons (ce_v 4) (ca_cons (ce_v 3) ca_nil star_name) star_name) star_name) (he:=star_name))) (css_one (cs_app (i:=2) (he:=(ce_tup (ca_cons2 (ce_flat (ce_v 3)) (ca_cons2 (ce_flat (ce_ix K (ce_v 4) ce_int plain_const)) ca_nil star_sub) star_name))) (hse:=star_tup))) css_nil)))))
      (css_one (cs_ret (ce_vd 2)))))⟩
theorem ok_law_table (F:Fun K "_law_table" "_law_table" s_law_table f fd)(T:Txt mg)(D_law_row:Def P w K mg base CX0 8 "_law_row" ["_law_script","_law_place","_law_sizes"] (spD K C 3 2 Dl.F__law_row)):FnOk P w K mg base CX0 9 f fd ["_law_script","_law_place","_law_most"] (spD K C 3 2 Dl.F__law_table):=by
  refine F.okC sc_law_table (Γ':=[]) (Δ':=[]) rfl fun cdv A outer s H E hr=>?_
  have sc:=sc_law_table
  have hu:_+64<cLine:=hr.units
  exact ⟨_,(css_cons [3] [3] (cs_set (i:=3) sc.nd rfl (Or.inl rfl) (ce_lst (ca_cons2 ce_str (ca_cons2 ce_str (ca_cons2 ce_str (ca_cons2 ce_str (ca_cons2 ce_str (ca_cons2 ce_str (ca_cons2 ce_str (ca_cons2 ce_str (ca_cons2 ce_str (ca_cons2 ce_str ca_nil star_const) star_const) star_const) star_const) star_const) star_const) star_const) star_const) star_const) star_const)))
      (css_cons [3] [3] (cs_set (i:=3) sc.nd rfl (Or.inl rfl) (ce_op op_addA gok_add (ce_v 3) (ce_lst (ca_cons2 ce_str (ca_cons2 ce_str (ca_cons2 ce_str (ca_cons2 ce_str (ca_cons2 ce_str (ca_cons2 ce_str ca_nil star_const) star_const) star_const) star_const) star_const) star_const))))
      (css_cons [3,4] [3,4] (cs_set (i:=4) sc.nd rfl (Or.inl rfl) (ce_call D_law_row (hr.mono (by decide)) rfl pass0 (ca_cons (ce_v 0) (ca_cons (ce_v 1) (ca_cons (ce_op op_addA gok_add (ce_lst (ca_cons2 (ce_op op_addA gok_add (ce_v 2) ce_int) (ca_cons2 ce_int (ca_cons2 ce_int (ca_cons2 ce_int (ca_cons2 ce_int (ca_cons2 ce_int ca_nil star_const) star_const) star_const) star_const) star_const) star_bin)) (ce_op op_mulA gok_mul (ce_lst (ca_cons2 ce_int (ca_cons2 ce_int (ca_cons2 ce_int ca_nil star_const) star_const) star_const)) (ce_v 2))) ca_nil star_bin) star_name) star_name) (he:=star_name)))
      (css_cons [3,4,5] [3,4,5] (cs_set (i:=5) sc.nd rfl (Or.inl rfl) (ce_flat (ce_ix K (ce_lst (ca_cons2 ce_int (ca_cons2 ce_int (ca_cons2 ce_int (ca_cons2 (ce_op op_pow gok_pow ce_int ce_int) ca_nil star_bin) star_const) star_const) star_const)) (ce_ix K (ce_v 4) ce_int plain_const) plain_sub)))
      (css_cons [3,4,5,6] [3,4,5,6] (cs_set (i:=6) sc.nd rfl (Or.inl rfl) (ce_flat (ce_ix K (ce_lst (ca_cons2 ce_int (ca_cons2 ce_int (ca_cons2 (ce_op op_pow gok_pow ce_int ce_int) (ca_cons2 (ce_op op_mulA gok_mul ce_int (ce_op op_pow gok_pow ce_int ce_int)) ca_nil star_bin) star_bin) star_const) star_const)) (ce_ix K (ce_v 4) ce_int plain_const) plain_sub)))
      (css_cons [3,4,5,6,7] [3,4,5,6,7] (cs_set (i:=7) sc.nd rfl (Or.inl rfl) (ce_lst ca_nil))
      (css_cons [3,4,5,6,7] [3,4,5,6,7] (cs_for [3,4,5,6,7] [3,4,5,6,7] PassesOwn.never rfl (ci_rng1 rfl T.range (ca_cons (ce_ix K (ce_v 4) ce_int plain_const) ca_nil star_sub)) (cg_name (i:=8) (hN:=sc.nd) (hi:=rfl) (hx:=Or.inl rfl)) (css_weak [3,4,5,6,7,9,10,11,12,13] [3,4,5,6,7,9,10,11,12,13] (css_cons [3,4,5,6,7,9] [3,4,5,6,7,9] (cs_set (i:=9) sc.nd rfl (Or.inl rfl) (ce_op op_addA gok_add (ce_op op_mulA gok_mul ce_int (ce_v 8)) ce_int))
      (css_cons [3,4,5,6,7,9,10] [3,4,5,6,7,9,10] (cs_set (i:=10) sc.nd rfl (Or.inl rfl) (ce_flat (ce_ix K (ce_lst1 (ca_cons ce_int (ca_cons ce_int (ca_cons ce_int (ca_cons ce_int (ca_cons ce_int (ca_cons ce_int (ca_cons ce_int (ca_cons ce_int (ca_cons ce_int (ca_cons ce_int (ca_cons (ce_ix K (ce_lst (ca_cons2 ce_int (ca_cons2 ce_int ca_nil star_const) star_const)) (ce_op op_mod gok_mod (ce_v 8) ce_int) plain_bin) ca_nil star_sub) star_const) star_const) star_const) star_const) star_const) star_const) star_const) star_const) star_const) star_const)) (ce_ix K (ce_v 4) (ce_v 9) plain_name) plain_sub)))
      (css_cons [3,4,5,6,7,9,10,11] [3,4,5,6,7,9,10,11] (cs_set (i:=11) sc.nd rfl (Or.inl rfl) (ce_op op_addA gok_add ce_int (ce_ix K (ce_v 4) (ce_op op_addA gok_add (ce_v 9) ce_int) plain_bin)))
      (css_cons [3,4,5,6,7,9,10,11] [3,4,5,6,7,9,10,11] (cs_if (ct_cmp (r:=rEqA K) (op_eqA hu) gok_eq (ce_ix K (ce_v 4) ce_int plain_const) ce_int (nomark _)) (css_one (cs_set (i:=11) sc.nd rfl (Or.inl rfl) (ce_op op_addA gok_add (ce_op op_mulA gok_mul ce_int (ce_v 10)) (ce_op op_mod gok_mod (ce_ix K (ce_v 4) (ce_op op_addA gok_add (ce_v 9) ce_int) plain_bin) ce_int)))) css_nil)
      (css_cons [3,4,5,6,7,9,10,11] [3,4,5,6,7,9,10,11] (cs_if (ct_cmp (r:=rEqA K) (op_eqA hu) gok_eq (ce_ix K (ce_v 4) ce_int plain_const) ce_int (nomark _)) (css_one (cs_set (i:=11) sc.nd rfl (Or.inl rfl) (ce_op op_addA gok_add ce_int (ce_op op_mod gok_mod (ce_ix K (ce_v 4) (ce_op op_addA gok_add (ce_v 9) ce_int) plain_bin) ce_int)))) css_nil)
      (css_cons [3,4,5,6,7,9,10,11] [3,4,5,6,7,9,10,11] (cs_if (ct_cmp (r:=rEqA K) (op_eqA hu) gok_eq (ce_ix K (ce_v 4) ce_int plain_const) ce_int (nomark _)) (css_one (cs_set (i:=11) sc.nd rfl (Or.inl rfl) (ce_flat (ce_v 10)))) css_nil)
      (css_cons [3,4,5,6,7,9,10,11,12] [3,4,5,6,7,9,10,11,12] (cs_set (i:=12) sc.nd rfl (Or.inl rfl) (ce_callB (r:=rMin2) (call_minR rfl) gak_min rfl T.min PyProof.Rows.boot_min (ca_cons (ce_op op_mulA gok_mul (ce_ix K (ce_lst (ca_cons2 ce_int (ca_cons2 ce_int (ca_cons2 ce_int (ca_cons2 ce_int (ca_cons2 ce_int (ca_cons2 ce_int ca_nil star_const) star_const) star_const) star_const) star_const) star_const)) (ce_ix K (ce_v 4) (ce_op op_addA gok_add (ce_v 9) ce_int) plain_bin) plain_sub) (ce_v 5)) (ca_cons (ce_op op_sub gok_sub (ce_op op_pow gok_pow ce_int ce_int) ce_int) ca_nil star_bin) star_bin) (he:=star_bin)))
      (css_cons [3,4,5,6,7,9,10,11,12,13] [3,4,5,6,7,9,10,11,12,13] (cs_set (i:=13) sc.nd rfl (Or.inl rfl) (ce_flat (ce_ix K (ce_v 3) (ce_op op_mod gok_mod (ce_op op_addA gok_add (ce_ix K (ce_v 4) ce_int plain_const) (ce_op op_mulA gok_mul (ce_op op_addA gok_add (ce_op op_mulA gok_mul ce_int (ce_ix K (ce_v 4) ce_int plain_const)) ce_int) (ce_v 8))) ce_int) plain_bin)))
      (css_one (cs_app (i:=7) (he:=(ce_tup (ca_cons2 (ce_flat (ce_v 13)) (ca_cons2 (ce_flat (ce_v 10)) (ca_cons2 (ce_callB (r:=rMin2) (call_minR rfl) gak_min rfl T.min PyProof.Rows.boot_min (ca_cons (ce_op op_mulA gok_mul (ce_v 11) (ce_v 6)) (ca_cons (ce_op op_pow gok_pow ce_int ce_int) ca_nil star_bin) star_bin) (he:=star_bin)) (ca_cons2 (ce_flat (ce_v 12)) ca_nil star_name) star_call) star_name) star_name))) (hse:=star_tup)))))))))))))
      (css_one (cs_ret (ce_vd 7))))))))))⟩
theorem ok_law_flaw (F:Fun K "_law_flaw" "_law_flaw" s_law_flaw f fd)(T:Txt mg)(D_law_row:Def P w K mg base CX0 8 "_law_row" ["_law_script","_law_place","_law_sizes"] (spD K C 3 2 Dl.F__law_row)):FnOk P w K mg base CX0 9 f fd ["_law_script","_law_place","_law_most"] (spD K C 3 2 Dl.F__law_flaw):=by
 refine F.okC sc_law_flaw (Γ':=[]) (Δ':=[]) rfl fun cdv A outer s H E hr=>?_
 have sc:=sc_law_flaw
 have hu:_+64<cLine:=hr.units
 exact ⟨_,(css_one (cs_ret (ce_flat (ce_ix K (ce_lst (ca_cons2 ce_int (ca_cons2 ce_int (ca_cons2 ce_int (ca_cons2 (ce_op op_pow gok_pow ce_int ce_int) ca_nil star_bin) star_const) star_const) star_const)) (ce_ix K (ce_call D_law_row (hr.mono (by decide)) rfl pass0 (ca_cons (ce_v 0) (ca_cons (ce_v 1) (ca_cons (ce_lst (ca_cons2 (ce_op op_addA gok_add (ce_v 2) ce_int) (ca_cons2 ce_int ca_nil star_const) star_bin)) ca_nil star_list) star_name) star_name) (he:=star_name)) ce_int plain_const) plain_sub))))⟩
theorem ok_law_roll (F:Fun K "_law_roll" "_law_roll" s_law_roll f fd)(T:Txt mg)(D_law_row:Def P w K mg base CX0 8 "_law_row" ["_law_script","_law_place","_law_sizes"] (spD K C 3 2 Dl.F__law_row)):FnOk P w K mg base CX0 9 f fd ["_law_script","_law_place","_law_most","_law_flaw_here"] (spD K C 4 2 Dl.F__law_roll):=by
  refine F.okC sc_law_roll (Γ':=[]) (Δ':=[]) rfl fun cdv A outer s H E hr=>?_
  have sc:=sc_law_roll
  have hu:_+64<cLine:=hr.units
  exact ⟨_,(css_cons [4] [4] (cs_set (i:=4) sc.nd rfl (Or.inl rfl) (ce_call D_law_row (hr.mono (by decide)) rfl pass0 (ca_cons (ce_v 0) (ca_cons (ce_v 1) (ca_cons (ce_op op_addA gok_add (ce_lst (ca_cons2 (ce_op op_addA gok_add (ce_v 2) ce_int) (ca_cons2 ce_int (ca_cons2 ce_int ca_nil star_const) star_const) star_bin)) (ce_op op_mulA gok_mul (ce_lst (ca_cons2 ce_int (ca_cons2 ce_int ca_nil star_const) star_const)) (ce_v 2))) ca_nil star_bin) star_name) star_name) (he:=star_name)))
      (css_cons [4,5] [4,5] (cs_set (i:=5) sc.nd rfl (Or.inl rfl) (ce_op op_mulA gok_mul ce_int (ce_v 3)))
      (css_cons [4,5] [4,5] (cs_if (ct_cmp (r:=rEqA K) (op_eqA hu) gok_eq (ce_ix K (ce_v 4) ce_int plain_const) ce_int (nomark _)) (css_one (cs_set (i:=5) sc.nd rfl (Or.inl rfl) (ce_op op_pow gok_pow ce_int ce_int))) css_nil)
      (css_cons [4,5,6] [4,5,6] (cs_set (i:=6) sc.nd rfl (Or.inl rfl) (ce_lst ca_nil))
      (css_cons [4,5,6] [4,5,6] (cs_for [4,5,6] [4,5,6] PassesOwn.never rfl (ci_rng1 rfl T.range (ca_cons (ce_ix K (ce_v 4) ce_int plain_const) ca_nil star_sub)) (cg_name (i:=7) (hN:=sc.nd) (hi:=rfl) (hx:=Or.inl rfl)) (css_weak [4,5,6,8,9] [4,5,6,8,9] (css_cons [4,5,6,8] [4,5,6,8] (cs_set (i:=8) sc.nd rfl (Or.inl rfl) (ce_op op_addA gok_add (ce_op op_mulA gok_mul ce_int (ce_v 7)) ce_int))
      (css_cons [4,5,6,8,9] [4,5,6,8,9] (cs_set (i:=9) sc.nd rfl (Or.inl rfl) ce_int)
      (css_cons [4,5,6,8,9] [4,5,6,8,9] (cs_if (ct_cmp op_lt gok_lt (ce_ix K (ce_v 4) (ce_v 8) plain_name) (ce_ix K (ce_lst (ca_cons2 ce_int (ca_cons2 ce_int (ca_cons2 ce_int (ca_cons2 ce_int ca_nil star_const) star_const) star_const) star_const)) (ce_ix K (ce_v 4) ce_int plain_const) plain_sub) (nomark _)) (css_one (cs_set (i:=9) sc.nd rfl (Or.inl rfl) (ce_flat (ce_ix K (ce_lst1 (ca_cons (ce_v 3) (ca_cons (ce_v 3) (ca_cons (ce_op op_mulA gok_mul ce_int (ce_v 3)) (ca_cons (ce_op op_mulA gok_mul ce_int (ce_v 3)) (ca_cons (ce_v 5) ca_nil star_name) star_bin) star_bin) star_name) star_name)) (ce_ix K (ce_v 4) (ce_op op_addA gok_add (ce_v 8) ce_int) plain_bin) plain_sub)))) css_nil)
      (css_one (cs_app (i:=6) (he:=(ce_flat (ce_v 9))) (hse:=star_name))))))))
      (css_one (cs_ret (ce_vd 6))))))))⟩
theorem ok_law_from_behind (F:Fun K "_law_from_behind" "_law_from_behind" s_law_from_behind f fd)(T:Txt mg)(D_law_spot:Def P w K mg base CX0 7 "_law_spot" ["_law_piece","_law_table_here"] (spD K C 2 2 Dl.F__law_spot))(Dend_of:Def P w K mg base CX0 8 "end_of" ["table","piece"] (spD K C 2 2 Dl.F_end_of)):FnOk P w K mg base CX0 9 f fd ["_law_pieces","_law_table_here","_law_count"] (spD K C 3 2 Dl.G__law_from_behind):=by
  refine F.okC sc_law_from_behind (Γ':=[]) (Δ':=[]) rfl fun cdv A outer s H E hr=>?_
  have sc:=sc_law_from_behind
  have hu:_+64<cLine:=hr.units
  exact ⟨_,(css_cons [3] [3] (cs_set (i:=3) sc.nd rfl (Or.inl rfl) (ce_lst ca_nil))
      (css_cons [3] [3] (cs_for [3] [3] PassesOwn.never rfl (ci_list (ce_v 0)) (cg_tup rfl (cgs_cons (cg_name (i:=4) (hN:=sc.nd) (hi:=rfl) (hx:=Or.inl rfl)) (cgs_cons (cg_name (i:=5) (hN:=sc.nd) (hi:=rfl) (hx:=Or.inl rfl)) cgs_nil))) (css_one (cs_app (i:=3) (he:=(ce_tup (ca_cons2 (ce_op op_sub gok_sub (ce_v 2) (ce_call Dend_of (hr.mono (by decide)) rfl pass0 (ca_cons (ce_v 1) (ca_cons (ce_tup0 (ca_cons (ce_v 4) (ca_cons (ce_v 5) ca_nil star_name) star_name)) ca_nil star_tup) star_name) (he:=star_name))) (ca_cons2 (ce_flat (ce_v 5)) ca_nil star_name) star_bin))) (hse:=star_tup))))
      (css_cons [3,6] [3,6] (cs_set (i:=6) sc.nd rfl (Or.inl rfl) (ce_callB (r:=rSortP K) (call_sortedP hu) gak_sortP rfl T.sorted PyProof.Rows.boot_sorted (ca_cons (ce_comp (n:=7) (defScope s_law_from_behind) ["_law_pieces","_law_table_here","_law_count","_law_found","_law_place","_law_name","_law_spots"] ["_law_pieces","_law_table_here","_law_count","_law_found","_law_place","_law_name","_law_spots"] ["_law_piece"] ⟨rfl,by decide +kernel,by decide +kernel,by decide +kernel,by decide +kernel,by decide +kernel,rfl,by decide +kernel⟩ (ci_list (ce_v 3)) (fun _ _ _ _ _=>(cb_name 7 (hN:=(by decide +kernel:List.Nodup (["_law_pieces","_law_table_here","_law_count","_law_found","_law_place","_law_name","_law_spots","_law_piece"]:List Str))))) (fun _ _ _ _ _=>cif_nil) (fun _ _ _ _ _=>(ce_call D_law_spot (hr.mono (by decide)) rfl pass0 (ca_cons (ce_v 7 (hv:=Or.inl rfl)) (ca_cons (ce_v 1 (hv:=Or.inr (Or.inl rfl))) ca_nil star_name) star_name) (he:=star_name)))) ca_nil star_comp) (he:=star_comp)))
      (css_one (cs_ret (ce_comp (n:=7) (defScope s_law_from_behind) ["_law_pieces","_law_table_here","_law_count","_law_found","_law_place","_law_name","_law_spots"] ["_law_pieces","_law_table_here","_law_count","_law_found","","_law_name","_law_spots"] ["_law_place","_law_k"] ⟨rfl,by decide +kernel,by decide +kernel,by decide +kernel,by decide +kernel,by decide +kernel,rfl,by decide +kernel⟩ (ci_list (ce_v 6)) (fun _ _ _ _ _=>(cb_tup K (cbs_cons (cb_name 7 (hN:=(by decide +kernel:List.Nodup (["_law_pieces","_law_table_here","_law_count","_law_found","","_law_name","_law_spots","_law_place","_law_k"]:List Str)))) (cbs_cons (cb_name 8 (hN:=(by decide +kernel:List.Nodup (["_law_pieces","_law_table_here","_law_count","_law_found","","_law_name","_law_spots","_law_place","_law_k"]:List Str)))) cbs_nil)))) (fun _ _ _ _ _=>cif_nil) (fun _ _ _ _ _=>(ce_tup (ca_cons2 (ce_flat (ce_v 7 (hv:=Or.inl rfl))) (ca_cons2 (ce_flat (ce_ix K (ce_ix K (ce_v 1 (hv:=Or.inr (Or.inl rfl))) (ce_v 8 (hv:=Or.inl rfl)) plain_name) ce_int plain_const)) ca_nil star_sub) star_name)))))))))⟩
theorem ok_law_over (F:Fun K "_law_over" "_law_over" s_law_over f fd)(T:Txt mg)(Dend_of:Def P w K mg base CX0 8 "end_of" ["table","piece"] (spD K C 2 2 Dl.F_end_of)):FnOk P w K mg base CX0 9 f fd ["_law_both","_law_first","_law_second","_law_table_here","_law_count"] (spD K C 5 2 Dl.F__law_over):=by
  refine F.okC sc_law_over (Γ':=[]) (Δ':=[]) rfl fun cdv A outer s H E hr=>?_
  have sc:=sc_law_over
  have hu:_+64<cLine:=hr.units
  exact ⟨_,(css_cons [5] [5] (cs_set (i:=5) sc.nd rfl (Or.inl rfl) ce_tnew)
      (css_cons [5] [5] (cs_for [5] [5] PassesOwn.never rfl (ci_list (ce_v 0)) (cg_name (i:=6) (hN:=sc.nd) (hi:=rfl) (hx:=Or.inl rfl)) (css_one (cs_tput (i:=5) (he:=ce_bl) (hk:=(ce_v 6)) (hu:=hu))))
      (css_cons [5,7] [5,7] (cs_set (i:=7) sc.nd rfl (Or.inl rfl) ce_tnew)
      (css_cons [5,7] [5,7] (cs_for [5,7] [5,7] PassesOwn.never rfl (ci_list (ce_v 2)) (cg_tup rfl (cgs_cons (cg_name (i:=8) (hN:=sc.nd) (hi:=rfl) (hx:=Or.inl rfl)) (cgs_cons (cg_name (i:=9) (hN:=sc.nd) (hi:=rfl) (hx:=Or.inl rfl)) cgs_nil))) (css_one (cs_tput (i:=7) (he:=ce_bl) (hk:=(ce_tup0 (ca_cons (ce_op op_addA gok_add (ce_v 8) (ce_v 4)) (ca_cons (ce_v 9) ca_nil star_name) star_bin))) (hu:=hu))))
      (css_cons [5,7] [5,7] (cs_for [5,7] [5,7] PassesOwn.never rfl (ci_list (ce_v 1)) (cg_name (i:=6) (hN:=sc.nd) (hi:=rfl) (hx:=Or.inl rfl)) (css_one (cs_tput (i:=7) (he:=ce_bl) (hk:=(ce_v 6)) (hu:=hu))))
      (css_cons [5,7] [5,7] (cs_walkT (i:=7) (j:=6) PassesOwn.never rfl (ct_cmp (op_dnot hu) gok_tnot (ce_v 6) (ce_v 5) rfl) (JE.q (E:=E0) (Γ:=[]) (Δ:=[]) (C:=C) ce_bl) sc.nd rfl rfl (Or.inl rfl))
      (css_cons [5,7] [5,7] (cs_for [5,7] [5,7] PassesOwn.never rfl (ci_list (ce_v 0)) (cg_name (i:=6) (hN:=sc.nd) (hi:=rfl) (hx:=Or.inl rfl)) (css_one (cs_if (ct_w (cw_and (ct_cmp (op_dnot hu) gok_tnot (ce_v 6) (ce_v 7) rfl) (cw_and1 (ct_not (ct_chain op_lt op_lt gok_lt gok_lt bl_lt (ce_ix K (ce_v 6) ce_int plain_const) (ce_v 4) (ce_call Dend_of (hr.mono (by decide)) rfl pass0 (ca_cons (ce_v 3) (ca_cons (ce_v 6) ca_nil star_name) star_name) (he:=star_name))))))) (css_one (cs_ret ce_bl)) css_nil)))
      (css_one (cs_ret ce_bl)))))))))⟩
theorem ok_law_each_good (F:Fun K "_law_each_good" "_law_each_good" s_law_each_good f fd)(T:Txt mg)(Dkind_of:Def P w K mg base CX0 7 "kind_of" ["table","name"] (spD K C 2 2 Dl.F_kind_of))(Dspoilt:Def P w K mg base CX0 7 "spoilt" ["roll","begin","end"] (spD K C 3 2 Dl.F_spoilt))(Dend_of:Def P w K mg base CX0 8 "end_of" ["table","piece"] (spD K C 2 2 Dl.F_end_of)):FnOk P w K mg base CX0 9 f fd ["_law_roll_here","_law_table_here","_law_pieces"] (spD K C 3 2 Dl.F__law_each_good):=by
  refine F.okC sc_law_each_good (Γ':=[]) (Δ':=[]) rfl fun cdv A outer s H E hr=>?_
  have sc:=sc_law_each_good
  have hu:_+64<cLine:=hr.units
  exact ⟨_,(css_cons [] [] (cs_for [] [] PassesOwn.never rfl (ci_list (ce_v 2)) (cg_name (i:=3) (hN:=sc.nd) (hi:=rfl) (hx:=Or.inl rfl)) (css_weak [4] [4] (css_cons [4] [4] (cs_set (i:=4) sc.nd rfl (Or.inl rfl) (ce_call Dkind_of (hr.mono (by decide)) rfl pass0 (ca_cons (ce_v 1) (ca_cons (ce_ix K (ce_v 3) ce_int plain_const) ca_nil star_sub) star_name) (he:=star_name)))
      (css_cons [4] [4] (cs_if (ct_cmp op_gt gok_gt (ce_callB (r:=rSum K) (call_sum rfl) gak_sum rfl T.sum PyProof.Rows.boot_sum (ca_cons (ce_sl K (ce_v 0) (co_some (ce_ix K (ce_v 3) ce_int plain_const)) (co_some (ce_op op_addA gok_add (ce_ix K (ce_v 3) ce_int plain_const) (ce_ix K (ce_v 4) ce_int plain_const)))) ca_nil star_sub) (he:=star_sub)) (ce_ix K (ce_v 4) ce_int plain_const) (nomark _)) (css_one (cs_ret ce_bl)) css_nil)
      (css_one (cs_if (ct_cmp op_gt gok_gt (ce_call Dspoilt (hr.mono (by decide)) rfl pass0 (ca_cons (ce_v 0) (ca_cons (ce_ix K (ce_v 3) ce_int plain_const) (ca_cons (ce_call Dend_of (hr.mono (by decide)) rfl pass0 (ca_cons (ce_v 1) (ca_cons (ce_v 3) ca_nil star_name) star_name) (he:=star_name)) ca_nil star_call) star_sub) star_name) (he:=star_name)) (ce_ix K (ce_v 4) ce_int plain_const) (nomark _)) (css_one (cs_ret ce_bl)) css_nil))))))
      (css_one (cs_ret ce_bl)))⟩
theorem ok_law_drawn (F:Fun K "_law_drawn" "_law_drawn" s_law_drawn f fd)(T:Txt mg)(D_law_flaw:Def P w K mg base CX0 9 "_law_flaw" ["_law_script","_law_place","_law_most"] (spD K C 3 2 Dl.F__law_flaw))(D_law_roll:Def P w K mg base CX0 9 "_law_roll" ["_law_script","_law_place","_law_most","_law_flaw_here"] (spD K C 4 2 Dl.F__law_roll))(D_law_table:Def P w K mg base CX0 9 "_law_table" ["_law_script","_law_place","_law_most"] (spD K C 3 2 Dl.F__law_table)):FnOk P w K mg base CX0 10 f fd ["_law_script","_law_place","_law_most","_law_kinds"] (spD K C 4 2 Dl.F__law_drawn):=by
  refine F.okC sc_law_drawn (Γ':=[]) (Δ':=[]) rfl fun cdv A outer s H E hr=>?_
  have sc:=sc_law_drawn
  have hu:_+64<cLine:=hr.units
  exact ⟨_,(css_cons [4] [4] (cs_set (i:=4) sc.nd rfl (Or.inl rfl) (ce_call D_law_flaw (hr.mono (by decide)) rfl pass0 (ca_cons (ce_v 0) (ca_cons (ce_v 1) (ca_cons (ce_v 3) ca_nil star_name) star_name) star_name) (he:=star_name)))
      (css_one (cs_ret (ce_tup (ca_cons2 (ce_call D_law_roll (hr.mono (by decide)) rfl pass0 (ca_cons (ce_v 0) (ca_cons (ce_op op_addA gok_add (ce_v 1) ce_int) (ca_cons (ce_v 2) (ca_cons (ce_v 4) ca_nil star_name) star_name) star_bin) star_name) (he:=star_name)) (ca_cons2 (ce_call D_law_table (hr.mono (by decide)) rfl pass0 (ca_cons (ce_v 0) (ca_cons (ce_v 1) (ca_cons (ce_v 3) ca_nil star_name) star_name) star_name) (he:=star_name)) ca_nil star_call) star_call)))))⟩
theorem ok_law_heavier (F:Fun K "_law_heavier" "_law_heavier" s_law_heavier f fd)(T:Txt mg)(Dall_pieces:Def P w K mg base CX0 9 "all_pieces" ["roll","table"] (spD K C 2 2 Dl.F_all_pieces))(Dchanged:Def P w K mg base CX0 7 "changed" ["roll","place","weight"] (spD K C 3 2 Dl.F_changed))(Dend_of:Def P w K mg base CX0 8 "end_of" ["table","piece"] (spD K C 2 2 Dl.F_end_of)):FnOk P w K mg base CX0 10 f fd ["_law_roll_here","_law_table_here","_law_before","_law_at","_law_weight"] (spD K C 5 2 Dl.F__law_heavier):=by
  refine F.okC sc_law_heavier (Γ':=[]) (Δ':=[]) rfl fun cdv A outer s H E hr=>?_
  have sc:=sc_law_heavier
  have hu:_+64<cLine:=hr.units
  exact ⟨_,(css_cons [5] [5] (cs_set (i:=5) sc.nd rfl (Or.inl rfl) ce_tnew)
      (css_cons [5] [5] (cs_for [5] [5] PassesOwn.never rfl (ci_list (ce_v 2)) (cg_name (i:=6) (hN:=sc.nd) (hi:=rfl) (hx:=Or.inl rfl)) (css_one (cs_tput (i:=5) (he:=ce_bl) (hk:=(ce_v 6)) (hu:=hu))))
      (css_cons [5] [5] (cs_for [5] [5] PassesOwn.never rfl (ci_list (ce_call Dall_pieces (hr.mono (by decide)) rfl pass0 (ca_cons (ce_call Dchanged (hr.mono (by decide)) rfl pass0 (ca_cons (ce_v 0) (ca_cons (ce_v 3) (ca_cons (ce_v 4) ca_nil star_name) star_name) star_name) (he:=star_name)) (ca_cons (ce_v 1) ca_nil star_name) star_call) (he:=star_call))) (cg_name (i:=6) (hN:=sc.nd) (hi:=rfl) (hx:=Or.inl rfl)) (css_cons [5] [5] (cs_if (ct_cmp (op_dnot hu) gok_tnot (ce_v 6) (ce_v 5) rfl) (css_one (cs_ret ce_bl)) css_nil)
      (css_one (cs_tput (i:=5) (he:=ce_bl) (hk:=(ce_v 6)) (hu:=hu)))))
      (css_cons [5] [5] (cs_for [5] [5] PassesOwn.never rfl (ci_list (ce_v 2)) (cg_name (i:=6) (hN:=sc.nd) (hi:=rfl) (hx:=Or.inl rfl)) (css_one (cs_if (ct_w (cw_and (ct_not (ct_val (ce_tat (ce_v 5) (ce_v 6) hu))) (cw_and1 (ct_not (ct_chain op_le op_lt gok_le gok_lt bl_le (ce_ix K (ce_v 6) ce_int plain_const) (ce_v 3) (ce_call Dend_of (hr.mono (by decide)) rfl pass0 (ca_cons (ce_v 1) (ca_cons (ce_v 6) ca_nil star_name) star_name) (he:=star_name))))))) (css_one (cs_ret ce_bl)) css_nil)))
      (css_one (cs_ret ce_bl))))))⟩
theorem oklaw (F:Fun K "law" "law" slaw f fd)(T:Txt mg)(D_law_drawn:Def P w K mg base CX0 10 "_law_drawn" ["_law_script","_law_place","_law_most","_law_kinds"] (spD K C 4 2 Dl.F__law_drawn))(D_law_roll:Def P w K mg base CX0 9 "_law_roll" ["_law_script","_law_place","_law_most","_law_flaw_here"] (spD K C 4 2 Dl.F__law_roll))(D_law_row:Def P w K mg base CX0 8 "_law_row" ["_law_script","_law_place","_law_sizes"] (spD K C 3 2 Dl.F__law_row))(Dall_pieces:Def P w K mg base CX0 9 "all_pieces" ["roll","table"] (spD K C 2 2 Dl.F_all_pieces))(Djoined:Def P w K mg base CX0 7 "joined" ["rolls"] (spD K C 1 2 Dl.F_joined))(D_law_heavier:Def P w K mg base CX0 10 "_law_heavier" ["_law_roll_here","_law_table_here","_law_before","_law_at","_law_weight"] (spD K C 5 2 Dl.F__law_heavier))(D_law_flaw:Def P w K mg base CX0 9 "_law_flaw" ["_law_script","_law_place","_law_most"] (spD K C 3 2 Dl.F__law_flaw))(D_law_from_behind:Def P w K mg base CX0 9 "_law_from_behind" ["_law_pieces","_law_table_here","_law_count"] (spD K C 3 2 Dl.G__law_from_behind))(D_law_each_good:Def P w K mg base CX0 9 "_law_each_good" ["_law_roll_here","_law_table_here","_law_pieces"] (spD K C 3 2 Dl.F__law_each_good))(D_law_over:Def P w K mg base CX0 9 "_law_over" ["_law_both","_law_first","_law_second","_law_table_here","_law_count"] (spD K C 5 2 Dl.F__law_over))(D_law_is_cutting:Def P w K mg base CX0 8 "_law_is_cutting" ["_law_found"] (spD K C 1 2 Dl.F__law_is_cutting))(Dturned:Def P w K mg base CX0 7 "turned" ["roll"] (spD K C 1 2 Dl.F_turned)):FnOk P w K mg base CX0 11 f fd ["_law_script"] (spD K C 1 2 Dl.F_law):=by
  refine F.okC sclaw (Γ':=[]) (Δ':=[]) rfl fun cdv A outer s H E hr=>?_
  have sc:=sclaw
  have hu:_+64<cLine:=hr.units
  exact ⟨_,(css_cons [1,2] [1,2] (cs_unpack rfl (ce_call D_law_drawn (hr.mono (by decide)) rfl pass0 (ca_cons (ce_v 0) (ca_cons ce_int (ca_cons ce_int (ca_cons ce_int ca_nil star_const) star_const) star_const) star_name) (he:=star_name)) (cn_cons (i:=1) sc.nd rfl (Or.inl rfl) (cn_cons (i:=2) sc.nd rfl (Or.inl rfl) cn_nil)))
      (css_cons [1,2,3] [1,2,3] (cs_set (i:=3) sc.nd rfl (Or.inl rfl) (ce_call D_law_roll (hr.mono (by decide)) rfl pass0 (ca_cons (ce_v 0) (ca_cons ce_int (ca_cons ce_int (ca_cons (ce_call D_law_flaw (hr.mono (by decide)) rfl pass0 (ca_cons (ce_v 0) (ca_cons ce_int (ca_cons ce_int ca_nil star_const) star_const) star_name) (he:=star_name)) ca_nil star_call) star_const) star_const) star_name) (he:=star_name)))
      (css_cons [1,2,3,4] [1,2,3,4] (cs_set (i:=4) sc.nd rfl (Or.inl rfl) (ce_call D_law_row (hr.mono (by decide)) rfl pass0 (ca_cons (ce_v 0) (ca_cons ce_int (ca_cons (ce_lst (ca_cons2 ce_int (ca_cons2 ce_int (ca_cons2 (ce_op op_pow gok_pow ce_int ce_int) ca_nil star_bin) star_const) star_const)) ca_nil star_list) star_const) star_name) (he:=star_name)))
      (css_cons [1,2,3,4] [1,2,3,4] (cs_if (ct_cmp (r:=rEqA K) (op_eqA hu) gok_eq (ce_ix K (ce_v 4) ce_int plain_const) ce_int (nomark _)) (css_one (cs_set (i:=1) sc.nd rfl (Or.inl rfl) (ce_sl K (ce_op op_addA gok_add (ce_op op_mulA gok_mul (ce_v 1) ce_int) (ce_op op_mulA gok_mul (ce_lst (ca_cons2 ce_int ca_nil star_const)) ce_int)) co_none (co_some ce_int)))) css_nil)
      (css_cons [1,2,3,4,5] [1,2,3,4,5] (cs_set (i:=5) sc.nd rfl (Or.inl rfl) (ce_call Dall_pieces (hr.mono (by decide)) rfl pass0 (ca_cons (ce_v 1) (ca_cons (ce_v 2) ca_nil star_name) star_name) (he:=star_name)))
      (css_cons [1,2,3,4,5,6] [1,2,3,4,5,6] (cs_set (i:=6) sc.nd rfl (Or.inl rfl) (ce_call Dall_pieces (hr.mono (by decide)) rfl pass0 (ca_cons (ce_v 3) (ca_cons (ce_v 2) ca_nil star_name) star_name) (he:=star_name)))
      (css_cons [1,2,3,4,5,6] [1,2,3,4,5,6] (cs_if (ct_w (cw_or (ct_not (ct_val (ce_call D_law_is_cutting (hr.mono (by decide)) rfl pass0 (ca_cons (ce_v 5) ca_nil star_name) (he:=star_name)))) (cw_or1 (ct_not (ct_val (ce_call D_law_each_good (hr.mono (by decide)) rfl pass0 (ca_cons (ce_v 1) (ca_cons (ce_v 2) (ca_cons (ce_v 5) ca_nil star_name) star_name) star_name) (he:=star_name))))))) (css_one (cs_ret ce_bl)) css_nil)
      (css_cons [1,2,3,4,5,6] [1,2,3,4,5,6] (cs_if (ct_cmp (r:=rNeA K) (op_neA hu) gok_ne (ce_call Dall_pieces (hr.mono (by decide)) rfl pass0 (ca_cons (ce_call Dturned (hr.mono (by decide)) rfl pass0 (ca_cons (ce_v 1) ca_nil star_name) (he:=star_name)) (ca_cons (ce_v 2) ca_nil star_name) star_call) (he:=star_call)) (ce_call D_law_from_behind (hr.mono (by decide)) rfl pass0 (ca_cons (ce_v 5) (ca_cons (ce_v 2) (ca_cons (ce_callB (r:=rLenA K) call_lenA gak_len rfl T.len PySem.boot_len (ca_cons (ce_v 1) ca_nil star_name) (he:=star_name)) ca_nil star_call) star_name) star_name) (he:=star_name)) (nomark _)) (css_one (cs_ret ce_bl)) css_nil)
      (css_cons [1,2,3,4,5,6,7] [1,2,3,4,5,6,7] (cs_set (i:=7) sc.nd rfl (Or.inl rfl) (ce_call Djoined (hr.mono (by decide)) rfl pass0 (ca_cons (ce_lst1 (ca_cons (ce_v 1) (ca_cons (ce_v 3) ca_nil star_name) star_name)) ca_nil star_list) (he:=star_list)))
      (css_cons [1,2,3,4,5,6,7,8] [1,2,3,4,5,6,7,8] (cs_set (i:=8) sc.nd rfl (Or.inl rfl) (ce_call Dall_pieces (hr.mono (by decide)) rfl pass0 (ca_cons (ce_v 7) (ca_cons (ce_v 2) ca_nil star_name) star_name) (he:=star_name)))
      (css_cons [1,2,3,4,5,6,7,8] [1,2,3,4,5,6,7,8] (cs_if (ct_not (ct_val (ce_call D_law_each_good (hr.mono (by decide)) rfl pass0 (ca_cons (ce_v 7) (ca_cons (ce_v 2) (ca_cons (ce_v 8) ca_nil star_name) star_name) star_name) (he:=star_name)))) (css_one (cs_ret ce_bl)) css_nil)
      (css_cons [1,2,3,4,5,6,7,8] [1,2,3,4,5,6,7,8] (cs_if (ct_not (ct_val (ce_call D_law_over (hr.mono (by decide)) rfl pass0 (ca_cons (ce_v 8) (ca_cons (ce_v 5) (ca_cons (ce_v 6) (ca_cons (ce_v 2) (ca_cons (ce_callB (r:=rLenA K) call_lenA gak_len rfl T.len PySem.boot_len (ca_cons (ce_v 1) ca_nil star_name) (he:=star_name)) ca_nil star_call) star_name) star_name) star_name) star_name) (he:=star_name)))) (css_one (cs_ret ce_bl)) css_nil)
      (css_cons [1,2,3,4,5,6,7,8] [1,2,3,4,5,6,7,8] (cs_if (ct_cmp (r:=rEqA K) (op_eqA hu) gok_eq (ce_callB (r:=rLenA K) call_lenA gak_len rfl T.len PySem.boot_len (ca_cons (ce_v 1) ca_nil star_name) (he:=star_name)) ce_int (nomark _)) (css_one (cs_ret ce_bl)) css_nil)
      (css_cons [1,2,3,4,5,6,7,8,9] [1,2,3,4,5,6,7,8,9] (cs_set (i:=9) sc.nd rfl (Or.inl rfl) (ce_op op_mod gok_mod (ce_ix K (ce_v 4) ce_int plain_const) (ce_callB (r:=rLenA K) call_lenA gak_len rfl T.len PySem.boot_len (ca_cons (ce_v 1) ca_nil star_name) (he:=star_name))))
      (css_cons [1,2,3,4,5,6,7,8,9,10] [1,2,3,4,5,6,7,8,9,10] (cs_set (i:=10) sc.nd rfl (Or.inl rfl) (ce_callB (r:=rMin2) (call_minR rfl) gak_min rfl T.min PyProof.Rows.boot_min (ca_cons (ce_op op_pow gok_pow ce_int ce_int) (ca_cons (ce_op op_addA gok_add (ce_op op_addA gok_add (ce_ix K (ce_v 1) (ce_v 9) plain_name) ce_int) (ce_ix K (ce_v 4) ce_int plain_const)) ca_nil star_bin) star_bin) (he:=star_bin)))
      (css_one (cs_ret (ce_call D_law_heavier (hr.mono (by decide)) rfl pass0 (ca_cons (ce_v 1) (ca_cons (ce_v 2) (ca_cons (ce_v 5) (ca_cons (ce_v 9) (ca_cons (ce_v 10) ca_nil star_name) star_name) star_name) star_name) star_name) (he:=star_name)))))))))))))))))))⟩
end
noncomputable def spLaw (K:Frag):Sp:=fun vs H Q _=>∃(a:Addr) (ns:List Int),vs=[.ref a]∧FzL K H a (ns.map V.int)∧ns.length≤63∧∀H',Q (.bl true) H'
theorem fz_of {K:Frag}{H:Hp}{a:Addr}{xs:List V}(hO:Only H)(h:SqL K H a xs):FzL K H a xs:=by
 rcases h with (h | h) | h
 ·rcases hO a with z | ⟨o,ys,z⟩
  ·rw [h] at z;cases z
  ·rw [h] at z;cases z
 ·exact .inl h
 ·exact .inr h
theorem law_true (ns:List Int)(h:ns.length≤63):Dl.F_law [.scr ns]=.ok (.bl true):=Dl.law18_true ns h
theorem all_mk {l:PySem.W.OpenLaw}{w:World}{K:Frag}{h:Heap}{mg:Str→Option Value}{fa f1 f2 f3 f4 f5 f6 f7 f8 f9 f10 f11 f12 f13 f14 f15 f16 f17 f18 f19 f20 f21 f22 f23:Addr}(X:K.In h)(G:h.Ns mainGlobals mg)(hfa:mg "law"=some (.ref fa))
  {fd1 fd2 fd3 fd4 fd5 fd6 fd7 fd8 fd9 fd10 fd11 fd12 fd13 fd14 fd15 fd16 fd17 fd18 fd19 fd20 fd21 fd22 fd23:FuncData}
  (a1:nsIn K mainGlobals "spoilt"=some (some (.ref f1))) (F1:Fun K "spoilt" "spoilt" sspoilt f1 fd1)
  (a2:nsIn K mainGlobals "changed"=some (some (.ref f2))) (F2:Fun K "changed" "changed" schanged f2 fd2)
  (a3:nsIn K mainGlobals "turned"=some (some (.ref f3))) (F3:Fun K "turned" "turned" sturned f3 fd3)
  (a4:nsIn K mainGlobals "joined"=some (some (.ref f4))) (F4:Fun K "joined" "joined" sjoined f4 fd4)
  (a5:nsIn K mainGlobals "kind_of"=some (some (.ref f5))) (F5:Fun K "kind_of" "kind_of" skind_of f5 fd5)
  (a6:nsIn K mainGlobals "fits"=some (some (.ref f6))) (F6:Fun K "fits" "fits" sfits f6 fd6)
  (a7:nsIn K mainGlobals "all_pieces"=some (some (.ref f7))) (F7:Fun K "all_pieces" "all_pieces" sall_pieces f7 fd7)
  (a8:nsIn K mainGlobals "end_of"=some (some (.ref f8))) (F8:Fun K "end_of" "end_of" send_of f8 fd8)
  (a9:nsIn K mainGlobals "_law_cell"=some (some (.ref f9))) (F9:Fun K "_law_cell" "_law_cell" s_law_cell f9 fd9)
  (a10:nsIn K mainGlobals "_law_mix"=some (some (.ref f10))) (F10:Fun K "_law_mix" "_law_mix" s_law_mix f10 fd10)
  (a11:nsIn K mainGlobals "_law_row"=some (some (.ref f11))) (F11:Fun K "_law_row" "_law_row" s_law_row f11 fd11)
  (a12:nsIn K mainGlobals "_law_table"=some (some (.ref f12))) (F12:Fun K "_law_table" "_law_table" s_law_table f12 fd12)
  (a13:nsIn K mainGlobals "_law_flaw"=some (some (.ref f13))) (F13:Fun K "_law_flaw" "_law_flaw" s_law_flaw f13 fd13)
  (a14:nsIn K mainGlobals "_law_roll"=some (some (.ref f14))) (F14:Fun K "_law_roll" "_law_roll" s_law_roll f14 fd14)
  (a15:nsIn K mainGlobals "_law_drawn"=some (some (.ref f15))) (F15:Fun K "_law_drawn" "_law_drawn" s_law_drawn f15 fd15)
  (a16:nsIn K mainGlobals "_law_is_whole"=some (some (.ref f16))) (F16:Fun K "_law_is_whole" "_law_is_whole" s_law_is_whole f16 fd16)
  (a17:nsIn K mainGlobals "_law_is_cutting"=some (some (.ref f17))) (F17:Fun K "_law_is_cutting" "_law_is_cutting" s_law_is_cutting f17 fd17)
  (a18:nsIn K mainGlobals "_law_spot"=some (some (.ref f18))) (F18:Fun K "_law_spot" "_law_spot" s_law_spot f18 fd18)
  (a19:nsIn K mainGlobals "_law_from_behind"=some (some (.ref f19))) (F19:Fun K "_law_from_behind" "_law_from_behind" s_law_from_behind f19 fd19)
  (a20:nsIn K mainGlobals "_law_over"=some (some (.ref f20))) (F20:Fun K "_law_over" "_law_over" s_law_over f20 fd20)
  (a21:nsIn K mainGlobals "_law_each_good"=some (some (.ref f21))) (F21:Fun K "_law_each_good" "_law_each_good" s_law_each_good f21 fd21)
  (a22:nsIn K mainGlobals "_law_heavier"=some (some (.ref f22))) (F22:Fun K "_law_heavier" "_law_heavier" s_law_heavier f22 fd22)
  (a23:nsIn K mainGlobals "law"=some (some (.ref f23))) (F23:Fun K "law" "law" slaw f23 fd23)
  (z1:nsIn K mainGlobals "sum"=some none)
  (z2:nsIn K mainGlobals "len"=some none)
  (z3:nsIn K mainGlobals "list"=some none)
  (z4:nsIn K mainGlobals "reversed"=some none)
  (z5:nsIn K mainGlobals "range"=some none)
  (z6:nsIn K mainGlobals "min"=some none)
  (z7:nsIn K mainGlobals "isinstance"=some none)
  (z8:nsIn K mainGlobals "int"=some none)
  (z9:nsIn K mainGlobals "bool"=some none)
  (z10:nsIn K mainGlobals "tuple"=some none)
  (z11:nsIn K mainGlobals "str"=some none)
  (z12:nsIn K mainGlobals "sorted"=some none)
  {tv1:Tok} (v1:nsIn K mainGlobals "MOST_CELLS"=some (some (.int 200 tv1)))
  : ∃fd:FuncData,(∀(s:Shared) (v:Value),BindsTo s fd ⟨[v],[]⟩ [("_law_script",v)])∧∀base:Heap,K.In base→base.Ns mainGlobals mg→FnOk l.prog w K mg base CX0 11 fa fd ["_law_script"] (spLaw K):=by
 have e:=hfa.symm.trans (mg_of X G a23)
 cases e
 have T:Txt mg:=⟨mg_none_of X G z1,mg_none_of X G z2,mg_none_of X G z3,mg_none_of X G z4,mg_none_of X G z5,mg_none_of X G z6,mg_none_of X G z7,mg_none_of X G z8,mg_none_of X G z9,mg_none_of X G z10,mg_none_of X G z11,mg_none_of X G z12,⟨tv1,mg_of X G v1⟩⟩
 obtain ⟨oc,od,kV,doc,pm,an,cdv,ct,osl,rfl,lk,hcd⟩:=F23.ex
 refine ⟨fnOf "law" "law" (defArgs slaw) (defBody slaw) (defScope slaw) .none kV doc pm an cdv ct,fun s v=>.of_eq rfl,fun base _ _=>?_⟩
 have b1:=F1.binds (ps:=["roll","begin","end"]) fun _ _ _ _ _ _=>allN3 (fun _ _ _=>rfl)
 have Dspoilt:Def l.prog w K mg base CX0 7 "spoilt" ["roll","begin","end"] (spD K (fun _=>0) 3 2 Dl.F_spoilt):=⟨f1,_,mg_of X G a1,F1.kp,b1,okspoilt F1 T⟩
 have b2:=F2.binds (ps:=["roll","place","weight"]) fun _ _ _ _ _ _=>allN3 (fun _ _ _=>rfl)
 have Dchanged:Def l.prog w K mg base CX0 7 "changed" ["roll","place","weight"] (spD K (fun _=>0) 3 2 Dl.F_changed):=⟨f2,_,mg_of X G a2,F2.kp,b2,okchanged F2 T⟩
 have b3:=F3.binds (ps:=["roll"]) fun _ _ _ _ _ _=>allN1 (fun _=>rfl)
 have Dturned:Def l.prog w K mg base CX0 7 "turned" ["roll"] (spD K (fun _=>0) 1 2 Dl.F_turned):=⟨f3,_,mg_of X G a3,F3.kp,b3,okturned F3 T⟩
 have b4:=F4.binds (ps:=["rolls"]) fun _ _ _ _ _ _=>allN1 (fun _=>rfl)
 have Djoined:Def l.prog w K mg base CX0 7 "joined" ["rolls"] (spD K (fun _=>0) 1 2 Dl.F_joined):=⟨f4,_,mg_of X G a4,F4.kp,b4,okjoined F4 T⟩
 have b5:=F5.binds (ps:=["table","name"]) fun _ _ _ _ _ _=>allN2 (fun _ _=>rfl)
 have Dkind_of:Def l.prog w K mg base CX0 7 "kind_of" ["table","name"] (spD K (fun _=>0) 2 2 Dl.F_kind_of):=⟨f5,_,mg_of X G a5,F5.kp,b5,okkind_of F5 T⟩
 have b9:=F9.binds (ps:=["_law_script","_law_place"]) fun _ _ _ _ _ _=>allN2 (fun _ _=>rfl)
 have D_law_cell:Def l.prog w K mg base CX0 7 "_law_cell" ["_law_script","_law_place"] (spD K (fun _=>0) 2 2 Dl.F__law_cell):=⟨f9,_,mg_of X G a9,F9.kp,b9,ok_law_cell F9 T⟩
 have b10:=F10.binds (ps:=["_law_cell_here","_law_k"]) fun _ _ _ _ _ _=>allN2 (fun _ _=>rfl)
 have D_law_mix:Def l.prog w K mg base CX0 7 "_law_mix" ["_law_cell_here","_law_k"] (spD K (fun _=>0) 2 2 Dl.F__law_mix):=⟨f10,_,mg_of X G a10,F10.kp,b10,ok_law_mix F10 T⟩
 have b16:=F16.binds (ps:=["_law_one"]) fun _ _ _ _ _ _=>allN1 (fun _=>rfl)
 have D_law_is_whole:Def l.prog w K mg base CX0 7 "_law_is_whole" ["_law_one"] (spD K (fun _=>0) 1 2 Dl.F__law_is_whole):=⟨f16,_,mg_of X G a16,F16.kp,b16,ok_law_is_whole F16 T⟩
 have b18:=F18.binds (ps:=["_law_piece","_law_table_here"]) fun _ _ _ _ _ _=>allN2 (fun _ _=>rfl)
 have D_law_spot:Def l.prog w K mg base CX0 7 "_law_spot" ["_law_piece","_law_table_here"] (spD K (fun _=>0) 2 2 Dl.F__law_spot):=⟨f18,_,mg_of X G a18,F18.kp,b18,ok_law_spot F18 T⟩
 have b6:=F6.binds (ps:=["roll","kind","place"]) fun _ _ _ _ _ _=>allN3 (fun _ _ _=>rfl)
 have Dfits:Def l.prog w K mg base CX0 8 "fits" ["roll","kind","place"] (spD K (fun _=>0) 3 2 Dl.F_fits):=⟨f6,_,mg_of X G a6,F6.kp,b6,okfits F6 T Dspoilt⟩
 have b8:=F8.binds (ps:=["table","piece"]) fun _ _ _ _ _ _=>allN2 (fun _ _=>rfl)
 have Dend_of:Def l.prog w K mg base CX0 8 "end_of" ["table","piece"] (spD K (fun _=>0) 2 2 Dl.F_end_of):=⟨f8,_,mg_of X G a8,F8.kp,b8,okend_of F8 T Dkind_of⟩
 have b11:=F11.binds (ps:=["_law_script","_law_place","_law_sizes"]) fun _ _ _ _ _ _=>allN3 (fun _ _ _=>rfl)
 have D_law_row:Def l.prog w K mg base CX0 8 "_law_row" ["_law_script","_law_place","_law_sizes"] (spD K (fun _=>0) 3 2 Dl.F__law_row):=⟨f11,_,mg_of X G a11,F11.kp,b11,ok_law_row F11 T D_law_cell D_law_mix⟩
 have b17:=F17.binds (ps:=["_law_found"]) fun _ _ _ _ _ _=>allN1 (fun _=>rfl)
 have D_law_is_cutting:Def l.prog w K mg base CX0 8 "_law_is_cutting" ["_law_found"] (spD K (fun _=>0) 1 2 Dl.F__law_is_cutting):=⟨f17,_,mg_of X G a17,F17.kp,b17,ok_law_is_cutting F17 T D_law_is_whole⟩
 have b7:=F7.binds (ps:=["roll","table"]) fun _ _ _ _ _ _=>allN2 (fun _ _=>rfl)
 have Dall_pieces:Def l.prog w K mg base CX0 9 "all_pieces" ["roll","table"] (spD K (fun _=>0) 2 2 Dl.F_all_pieces):=⟨f7,_,mg_of X G a7,F7.kp,b7,okall_pieces F7 T Dfits⟩
 have b12:=F12.binds (ps:=["_law_script","_law_place","_law_most"]) fun _ _ _ _ _ _=>allN3 (fun _ _ _=>rfl)
 have D_law_table:Def l.prog w K mg base CX0 9 "_law_table" ["_law_script","_law_place","_law_most"] (spD K (fun _=>0) 3 2 Dl.F__law_table):=⟨f12,_,mg_of X G a12,F12.kp,b12,ok_law_table F12 T D_law_row⟩
 have b13:=F13.binds (ps:=["_law_script","_law_place","_law_most"]) fun _ _ _ _ _ _=>allN3 (fun _ _ _=>rfl)
 have D_law_flaw:Def l.prog w K mg base CX0 9 "_law_flaw" ["_law_script","_law_place","_law_most"] (spD K (fun _=>0) 3 2 Dl.F__law_flaw):=⟨f13,_,mg_of X G a13,F13.kp,b13,ok_law_flaw F13 T D_law_row⟩
 have b14:=F14.binds (ps:=["_law_script","_law_place","_law_most","_law_flaw_here"]) fun _ _ _ _ _ _=>allN4 (fun _ _ _ _=>rfl)
 have D_law_roll:Def l.prog w K mg base CX0 9 "_law_roll" ["_law_script","_law_place","_law_most","_law_flaw_here"] (spD K (fun _=>0) 4 2 Dl.F__law_roll):=⟨f14,_,mg_of X G a14,F14.kp,b14,ok_law_roll F14 T D_law_row⟩
 have b19:=F19.binds (ps:=["_law_pieces","_law_table_here","_law_count"]) fun _ _ _ _ _ _=>allN3 (fun _ _ _=>rfl)
 have D_law_from_behind:Def l.prog w K mg base CX0 9 "_law_from_behind" ["_law_pieces","_law_table_here","_law_count"] (spD K (fun _=>0) 3 2 Dl.G__law_from_behind):=⟨f19,_,mg_of X G a19,F19.kp,b19,ok_law_from_behind F19 T D_law_spot Dend_of⟩
 have b20:=F20.binds (ps:=["_law_both","_law_first","_law_second","_law_table_here","_law_count"]) fun _ _ _ _ _ _=>allN5 (fun _ _ _ _ _=>rfl)
 have D_law_over:Def l.prog w K mg base CX0 9 "_law_over" ["_law_both","_law_first","_law_second","_law_table_here","_law_count"] (spD K (fun _=>0) 5 2 Dl.F__law_over):=⟨f20,_,mg_of X G a20,F20.kp,b20,ok_law_over F20 T Dend_of⟩
 have b21:=F21.binds (ps:=["_law_roll_here","_law_table_here","_law_pieces"]) fun _ _ _ _ _ _=>allN3 (fun _ _ _=>rfl)
 have D_law_each_good:Def l.prog w K mg base CX0 9 "_law_each_good" ["_law_roll_here","_law_table_here","_law_pieces"] (spD K (fun _=>0) 3 2 Dl.F__law_each_good):=⟨f21,_,mg_of X G a21,F21.kp,b21,ok_law_each_good F21 T Dkind_of Dspoilt Dend_of⟩
 have b15:=F15.binds (ps:=["_law_script","_law_place","_law_most","_law_kinds"]) fun _ _ _ _ _ _=>allN4 (fun _ _ _ _=>rfl)
 have D_law_drawn:Def l.prog w K mg base CX0 10 "_law_drawn" ["_law_script","_law_place","_law_most","_law_kinds"] (spD K (fun _=>0) 4 2 Dl.F__law_drawn):=⟨f15,_,mg_of X G a15,F15.kp,b15,ok_law_drawn F15 T D_law_flaw D_law_roll D_law_table⟩
 have b22:=F22.binds (ps:=["_law_roll_here","_law_table_here","_law_before","_law_at","_law_weight"]) fun _ _ _ _ _ _=>allN5 (fun _ _ _ _ _=>rfl)
 have D_law_heavier:Def l.prog w K mg base CX0 10 "_law_heavier" ["_law_roll_here","_law_table_here","_law_before","_law_at","_law_weight"] (spD K (fun _=>0) 5 2 Dl.F__law_heavier):=⟨f22,_,mg_of X G a22,F22.kp,b22,ok_law_heavier F22 T Dall_pieces Dchanged Dend_of⟩
 exact (oklaw (C:=fun _=>0) F23 T D_law_drawn D_law_roll D_law_row Dall_pieces Djoined D_law_heavier D_law_flaw D_law_from_behind D_law_each_good D_law_over D_law_is_cutting Dturned).imp fun vs H Q E h=>by
  obtain ⟨a,ns,rfl,hz,hl,q⟩:=h
  refine ⟨[.scr ns],[],rfl,⟨.ref a,[],[],[],rfl,⟨a,rfl,hz,rfl⟩,⟨rfl,rfl⟩,rfl⟩,?_⟩
  rw [law_true ns hl]
  rintro v H' _ ⟨B,r,_⟩
  obtain ⟨rfl,_⟩:=r
  exact q H'
theorem walk {l:PySem.W.OpenLaw}{q:Program}{loose:List Str}{XP:(Str→Option Value)→Heap→Prop}{YP:World→Heap→Prop}{d:DefRec}{K:Params→Frag}(hn:l.most=some 63)(hdf:d.params.defaults=[])
    (hY:∀(w:World) (h:Heap),YP w h→(K w.params).In h)
    (F:∀(w:World) (mg:Str→Option Value) (fa:Addr) (h:Heap),(K w.params).In h→h.Ns mainGlobals mg→mg d.name=some (.ref fa)→
      ∃fd:FuncData,(∀(s:Shared) (u:Value),BindsTo s fd ⟨[u],[]⟩ [("_law_script",u)])∧∀base:Heap,(K w.params).In base→base.Ns mainGlobals mg→FnOk l.prog w (K w.params) mg base CX0 11 fa fd ["_law_script"] (spLaw (K w.params))) :
    PySem.W.WalkO q loose XP YP l.row.toRowW d [] (fun f vs=>PySem.call f vs):=
  L2.walk_of (n:=63) (k:=11) (x:="_law_script") (CX:=fun _=>CX0) (sp:=fun w=>spLaw (K w.params)) hn (by decide) hdf ⟨rfl,by decide,by decide,rfl⟩ hY F (fun _ H a ns hl hO hS=>⟨a,ns,rfl,fz_of hO hS,hl,fun _=>rfl⟩) fun _ _ _ _ _ z=>z
end K18
open PySem PySem.W PyProof.Rows
set_option maxRecDepth 100000 in
set_option maxHeartbeats 0 in
theorem PySem.Challenge.cw_selvage_k18_whole_pieces_seen_otherwise_holds : PySem.Challenge.rw_selvage_k18_whole_pieces_seen_otherwise.Holds := by
 w_on;o_law;z_head;(case hw=>w_witness2)
 k_fill
 refine L2.walkX_of (fun _=>by kernel_rfl) (K18.walk (l:=PySem.Challenge.rw_selvage_k18_whole_pieces_seen_otherwise) rfl rfl (fun w h Y=>Y) ?F)
 case F =>
  intro w mg fa h KX G hmg
  refine' K18.all_mk KX G hmg ?a1 (L2.fun_mk ?l1 ?c1 ?k1) ?a2 (L2.fun_mk ?l2 ?c2 ?k2) ?a3 (L2.fun_mk ?l3 ?c3 ?k3) ?a4 (L2.fun_mk ?l4 ?c4 ?k4) ?a5 (L2.fun_mk ?l5 ?c5 ?k5) ?a6 (L2.fun_mk ?l6 ?c6 ?k6) ?a7 (L2.fun_mk ?l7 ?c7 ?k7) ?a8 (L2.fun_mk ?l8 ?c8 ?k8) ?a9 (L2.fun_mk ?l9 ?c9 ?k9) ?a10 (L2.fun_mk ?l10 ?c10 ?k10) ?a11 (L2.fun_mk ?l11 ?c11 ?k11) ?a12 (L2.fun_mk ?l12 ?c12 ?k12) ?a13 (L2.fun_mk ?l13 ?c13 ?k13) ?a14 (L2.fun_mk ?l14 ?c14 ?k14) ?a15 (L2.fun_mk ?l15 ?c15 ?k15) ?a16 (L2.fun_mk ?l16 ?c16 ?k16) ?a17 (L2.fun_mk ?l17 ?c17 ?k17) ?a18 (L2.fun_mk ?l18 ?c18 ?k18) ?a19 (L2.fun_mk ?l19 ?c19 ?k19) ?a20 (L2.fun_mk ?l20 ?c20 ?k20) ?a21 (L2.fun_mk ?l21 ?c21 ?k21) ?a22 (L2.fun_mk ?l22 ?c22 ?k22) ?a23 (L2.fun_mk ?l23 ?c23 ?k23) ?z1 ?z2 ?z3 ?z4 ?z5 ?z6 ?z7 ?z8 ?z9 ?z10 ?z11 ?z12 ?v1
  case a1|l1|c1|k1|a2|l2|c2|k2|a3|l3|c3|k3|a4|l4|c4|k4|a5|l5|c5|k5|a6|l6|c6|k6|a7|l7|c7|k7|a8|l8|c8|k8|a9|l9|c9|k9|a10|l10|c10|k10|a11|l11|c11|k11|a12|l12|c12|k12|a13|l13|c13|k13|a14|l14|c14|k14|a15|l15|c15|k15|a16|l16|c16|k16|a17|l17|c17|k17|a18|l18|c18|k18|a19|l19|c19|k19|a20|l20|c20|k20|a21|l21|c21|k21|a22|l22|c22|k22|a23|l23|c23|k23|z1|z2|z3|z4|z5|z6|z7|z8|z9|z10|z11|z12|v1=>k_is
