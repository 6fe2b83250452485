import PyProof.Rows.All
import Wide.All
import OpenK.AllK
import Wide.FinOn
import Lean
import PyProof.EqAt
import PyProof.EqKinds
import PyProof.TupleCall
import PySem.Challenge.RW_selvage_k36_second_worth
set_option Elab.async false
set_option linter.all false
set_option maxRecDepth 100000
set_option genSizeOfSpec false
set_option genInjectivity false
open PySem.W (Frag clsIn codeHdIn codeIn exmOne findIn fnOf hideAll instObj isFn keepIn kia_one kitOne lookIn methodObj mg_none_of mg_of nsIn specialIn subIn typeIn)
open List (append_assoc append_nil filterMap_cons flatten_cons foldl_cons getD_eq_getElem?_getD getElem?_append_left getElem?_append_right getElem?_eq_getElem getElem?_map getElem?_set_ne getElem?_set_self getElem_mem length_append length_cons length_map length_range length_reverse length_set length_singleton length_take lookup_cons map_append map_cons map_drop map_map map_take mem_append_left mem_append_right mem_cons_of_mem mem_cons_self mem_of_getElem? nodup_nil replicate_succ reverse_cons size_toArray take_of_length_le)
open Nat (le_of_lt le_refl le_trans lt_irrefl lt_of_lt_of_le lt_trans ne_of_gt ne_of_lt sub_self zero_le)
open Int (add_assoc emod_lt_of_pos emod_nonneg mul_nonneg toNat_lt zero_add)
open Array (getElem?_toList length_toList)
open PySem.Heap (get?_push_of_some get?_push_size get?_update_other lt_size size_push)
def PySem.W.Fast.tw11178233587762726663:=0
def PySem.W.Fast.tw16165550338870291288:=0
def PySem.W.Fast.tw12647227709804621015:=0
def PySem.W.Fast.tw2017714048811990716:=0
def PySem.W.Fast.tw4038155961895955642:=0
def PySem.W.Fast.tw9211385636054992814:=0
def PySem.W.Fast.tw17915920055962372550:=0
def PySem.W.Fast.tw12513128877300902646:=0
def PySem.W.Fast.tw6006472437245300603:=0
def PySem.W.Fast.tw5063269357466081437:=0
theorem aT0 (h:True:=by first | exact .inl rfl | exact .inr rfl | assumption):True:=True.intro
theorem aT3 (h:True:=by first | exact Or.inl rfl | exact Or.inr (Or.inl rfl) | exact Or.inr (Or.inr rfl)):True:=True.intro
namespace L2
open PySem PySem.Spec PyProof.Rows
noncomputable abbrev Key:=Sum Int Str
noncomputable def keyIs:Key→Value→Bool
 | .inl k,v=>Value.isInt k v
 | .inr x,v=>Value.isStrOf x v
noncomputable def keyH (w:World):Key→Int
 | .inl k=>hashInt k
 | .inr x=>hashStr w x
theorem keyIs_shape:∀{k:Key} {v:Value},keyIs k v=true→(∃i t,k=Sum.inl i∧v=Value.int i t)∨(∃x t,k=Sum.inr x∧v=Value.str x t)
 | .inl i,v,h=>by
  obtain ⟨t,e⟩:=Value.isInt_shape (k:=i) (v:=v) h
  exact .inl ⟨i,t,rfl,e⟩
 | .inr x,v,h=>by
  obtain ⟨t,e⟩:=Value.isStrOf_shape (x:=x) (v:=v) h
  exact .inr ⟨x,t,rfl,e⟩
theorem key_ll (a b:Int):decide ((Sum.inl a:Key)=Sum.inl b)=(a==b):=by
 by_cases e:a=b
 ·subst e;simp
 ·have h:¬(Sum.inl a:Key)=Sum.inl b:=fun q=>e (Sum.inl.inj q)
  rw [decide_eq_false h]
  exact (beq_eq_false_iff_ne.mpr e).symm
theorem key_rr (a b:Str):decide ((Sum.inr a:Key)=Sum.inr b)=decide (a=b):=by
 by_cases e:a=b
 ·subst e;simp
 ·have h:¬(Sum.inr a:Key)=Sum.inr b:=fun q=>e (Sum.inr.inj q)
  rw [decide_eq_false h,decide_eq_false e]
theorem key_lr (a:Int)(b:Str):decide ((Sum.inl a:Key)=Sum.inr b)=false:=decide_eq_false (fun q=>nomatch q)
theorem key_rl (a:Str)(b:Int):decide ((Sum.inr a:Key)=Sum.inl b)=false:=decide_eq_false (fun q=>nomatch q)
noncomputable def mixKind (prog:Program)(w:World):PySem.KeyKind prog w Key where
 is:=keyIs
 hash:=keyH w
 inj:=fun v a b ha hb=>by
  rcases keyIs_shape ha with ⟨i,t,rfl,rfl⟩ | ⟨x,t,rfl,rfl⟩
  ·rcases keyIs_shape hb with ⟨j,u,rfl,e⟩ | ⟨y,u,rfl,e⟩
   ·injection e with e1 _;rw [e1]
   ·exact nomatch e
  ·rcases keyIs_shape hb with ⟨j,u,rfl,e⟩ | ⟨y,u,rfl,e⟩
   ·exact nomatch e
   ·injection e with e1 _;rw [e1]
 byValue:=fun k v h=>by
  rcases keyIs_shape h with ⟨i,t,rfl,rfl⟩ | ⟨x,t,rfl,rfl⟩<;>rfl
 pyHash:=fun hv h=>by
  rcases keyIs_shape hv with ⟨i,t,rfl,rfl⟩ | ⟨x,t,rfl,rfl⟩
  ·exact wpAny_pyHash_int h
  ·exact wpAny_pyHash_str h
 eqBool:=fun hu hv h=>by
  rcases keyIs_shape hu with ⟨i,t,rfl,rfl⟩ | ⟨x,t,rfl,rfl⟩
  ·rcases keyIs_shape hv with ⟨j,u,rfl,rfl⟩ | ⟨y,u,rfl,rfl⟩
   ·rw [key_ll] at h;exact wpAny_eqBool_int h
   ·rw [key_lr] at h;exact SeqAt.EqAt.int_str i t y u _ _ _ _ h
  ·rcases keyIs_shape hv with ⟨j,u,rfl,rfl⟩ | ⟨y,u,rfl,rfl⟩
   ·rw [key_rl] at h;exact SeqAt.EqAt.str_int x t j u _ _ _ _ h
   ·rw [key_rr] at h;exact wpAny_eqBool_str h
 «strs»:=fun k x t v h=>by
  rcases keyIs_shape h with ⟨i,u,rfl,e⟩ | ⟨y,u,rfl,e⟩
  ·exact nomatch e
  ·injection e with e1 _
   subst e1
   cases v<;>rfl
set_option genInjectivity true in
inductive V where
 | non | bl (b:Bool) | int (i:Int) | str (x:Str) | byt (b:Array UInt8) | flt (b:UInt64) | ref (a:Addr) | ty (n:String)
 deriving DecidableEq
noncomputable def RelV:V→Value→Prop
 | .non,u=>u=Value.none
 | .bl b,u=>u=Value.bool b
 | .int i,u=>∃t,u=Value.int i t
 | .str x,u=>∃t,u=Value.str x t
 | .byt b,u=>∃t,u=Value.bytes b t
 | .flt b,u=>∃t,u=Value.float b t
 | .ref a,u=>u=Value.ref a
 | .ty n,u=>u=Value.type n
noncomputable abbrev Vals:List V→List Value→Prop:=Paired RelV
theorem Vals.length {xs:List V}{us:List Value}(r:Vals xs us):xs.length=us.length:=Paired.length r
theorem Vals.get:∀{xs:List V} {us:List Value} {i:Nat} {x:V},Vals xs us→xs[i]?=some x→∃u,us[i]?=some u∧RelV x u
 | _,_,_,_,.nil,e=>by simp at e
 | _,_,0,_,.cons r _,e=>by simp at e;subst e;exact ⟨_,rfl,r⟩
 | _,_,i+1,x,.cons _ t,e=>by
  obtain ⟨u,h1,h2⟩:=Vals.get (i:=i) (x:=x) t (by simpa using e)
  exact ⟨u,by simpa using h1,h2⟩
theorem Vals.append:∀{xs ys:List V} {us ws:List Value},Vals xs us→Vals ys ws→Vals (xs++ys) (us++ws)
 | _,_,_,_,.nil,s=>s
 | _,_,_,_,.cons r t,s=>.cons r (Vals.append t s)
theorem Vals.take:∀{xs:List V} {us:List Value} (n:Nat),Vals xs us→Vals (xs.take n) (us.take n)
 | _,_,0,_=>.nil
 | _,_,_+1,.nil=>.nil
 | _,_,n+1,.cons r t=>.cons r (Vals.take n t)
theorem Vals.drop:∀{xs:List V} {us:List Value} (n:Nat),Vals xs us→Vals (xs.drop n) (us.drop n)
 | _,_,0,r=>r
 | _,_,_+1,.nil=>.nil
 | _,_,n+1,.cons _ t=>Vals.drop n t
noncomputable def RelO:Option V→Option Value→Prop
 | some v,some u=>RelV v u
 | none,none=>True
 | _,_=>False
def KV {κ:Type}:List (κ×V)→List (κ×Value)→Prop:=Paired fun (p:κ×V) (q:κ×Value)=>p.1=q.1∧RelV p.2 q.2
noncomputable def kV:Key→V
 | .inl i=>.int i
 | .inr x=>.str x
inductive HO where
 | lst (xs:List V)
 | tup (xs:List V)
 | dK (kvs:List (Key×V)) | dT (kvs:List (List Key×V))
 | set (S:Int→Bool) (n:Nat)
 | ins (C dx:Addr) (fs:List (Str×V))
 | own (x:Addr)
 | xd (fs:List (Str×V))
 | met (f x:Addr)
 | rng (lo hi:Int)
 | frz (o:Obj) (u:HO)
 | tbl (pos:Pos) (qual:Str)
 | ext (φ:Heap→Prop)
noncomputable abbrev Hp:=Addr→Option HO
noncomputable def upd (H:Hp)(a:Addr)(o:HO):Hp:=fun b=>if b=a then some o else H b
theorem upd_same {H:Hp}{a:Addr}{o:HO}:upd H a o a=some o:=by unfold upd;rw [if_pos rfl]
theorem upd_ne {H:Hp}{a b:Addr}{o:HO}(h:b≠a):upd H a o b=H b:=by unfold upd;rw [if_neg h]
theorem ne_of_none {H:Hp}{a b:Addr}{o:HO}(h:H a=some o)(h':H b=none):a≠b:=by
 intro e;subst e;rw [h] at h';cases h'
section
variable (P:Program)(w:World)
noncomputable def ObjOk (H:Hp)(h:Heap)(a:Addr):HO→Prop
 | .lst xs=>xs.length≤sizeLine∧∃(its:List Value) (n:Nat),Vals xs its∧h.get? a=some {cls:=.type "list",data:=.seq its.toArray n}
 | .tup xs=>xs.length≤sizeLine∧∃its:List Value,Vals xs its∧IsTup h a its.toArray
 | .dK kvs=>kvs.length≤sizeLine∧(a==sysModules)=false∧∃vs,KV kvs vs∧h.DictOf (mixKind P w) a vs
 | .dT kvs=>kvs.length≤sizeLine∧(a==sysModules)=false∧∃xs:List (List Key×Addr×Value),
   Paired (fun (p:List Key×V) (q:List Key×Addr×Value)=>p.1=q.1∧H q.2.1=some (.tup (p.1.map kV))∧RelV p.2 q.2.2) kvs xs∧
   ∃o es ep,h.get? a=some o∧o.ExactDict∧o.data=.dict es ep∧es.toList=xs.map (entryOfKey (tupleKind (mixKind P w)))∧(xs.map (·.1)).Nodup
 | .set S n=>h.SetOf (intKind P w) a S n
 | .ins C dx fs=>H dx=some (.own a)∧fs.length≤1000∧dx≠a∧h.get? a=some (instObj C dx)∧
   ∃mA,h.Ns1 dx mA∧(∀f,RelO (fs.lookup f) (mA f))∧PySem.Within mA (fs.map (·.1))
 | .own _=>∃o,h.get? a=some o
 | .xd fs=>∃mA,h.Ns1 a mA∧∀f,RelO (fs.lookup f) (mA f)
 | .rng lo hi=>∃t u v,h.get? a=some {cls:=.type "range",data:=.fields #[.int lo t,.int hi u,.int 1 v]}
 | .frz o u=>h.get? a=some o∧ObjOk H h a u
 | .tbl pos qual=>∃ps,h.get? a=some {cls:=.none,data:=.fields ps}∧TriplesOk ps.toList∧∀v,codeAmong pos ps.toList=some v→∃c o vs t,v=.ref c∧H c=some (.frz o (.own 0))∧o.data=.fields vs∧vs[1]?=some (.str qual t)
 | .met f x=>h.get? a=some (methodObj (.ref f) (.ref x))
 | .ext φ=>φ h∧(∃o,h.get? a=some o)∧∀h1 h2:Heap,φ h1→(∀o,h1.get? a=some o→h2.get? a=some o)→φ h2
def HOk (H:Hp)(h:Heap):Prop:=∀a o,H a=some o→ObjOk P w H h a o
end
section
variable {P:Program}{w:World}{H H':Hp}{h h':Heap}{a:Addr}{o:HO}
theorem ObjOk.lt (x:ObjOk P w H h a o):a<h.objs.size:=by
 cases o with
 | lst xs=>obtain ⟨_,_,_,_,e⟩:=x;exact lt_size e
 | tup xs=>obtain ⟨_,_,_,p⟩:=x;exact p.lt
 | dK kvs=>obtain ⟨_,_,_,_,o,_,_,e,_⟩:=x;exact lt_size e
 | dT kvs=>obtain ⟨_,_,_,_,o,_,_,e,_⟩:=x;exact lt_size e
 | set S n=>obtain ⟨o,_,_,_,e,_⟩:=x;exact lt_size e
 | ins C dx fs=>obtain ⟨_,_,_,e,_⟩:=x;exact lt_size e
 | own y=>obtain ⟨_,e⟩:=x;exact lt_size e
 | xd fs=>obtain ⟨_,⟨_,_,_,e,_⟩,_⟩:=x;exact lt_size e
 | rng lo hi=>obtain ⟨_,_,_,e⟩:=x;exact lt_size e
 | frz ob u=>obtain ⟨e,_⟩:=x;exact lt_size e
 | tbl pos qual=>obtain ⟨_,e,_⟩:=x;exact lt_size e
 | met f y=>exact lt_size (show h.get? a=some _ from x)
 | ext φ=>obtain ⟨_,⟨_,e⟩,_⟩:=x;exact lt_size e
theorem Paired.mapP {α β:Type}{F G:α→β→Prop}:∀{l₁:List α} {l₂:List β},Paired F l₁ l₂→(∀a b,F a b→G a b)→Paired G l₁ l₂
 | _,_,.nil,_=>.nil
 | _,_,.cons r t,f=>.cons (f _ _ r) (Paired.mapP t f)
theorem ObjOk.stay (x:ObjOk P w H h a o)(k:∀b u,(b=a∨H b=some (.own a))→h.get? b=some u→h'.get? b=some u)
  (ho:∀b,H b=some (.own a)→H' b=some (.own a)) (ht:∀b xs,H b=some (.tup xs)→H' b=some (.tup xs)) (hf:∀b o u,H b=some (.frz o u)→H' b=some (.frz o u)):ObjOk P w H' h' a o:=by
 induction o with
 | lst xs=>obtain ⟨z,its,n,r,e⟩:=x;exact ⟨z,its,n,r,k _ _ (.inl rfl) e⟩
 | tup xs=>obtain ⟨z,its,r,ob,e,c⟩:=x;exact ⟨z,its,r,ob,k _ _ (.inl rfl) e,c⟩
 | dK kvs=>obtain ⟨z,y,vs,r,ob,es,ep,e,c⟩:=x;exact ⟨z,y,vs,r,ob,es,ep,k _ _ (.inl rfl) e,c⟩
 | dT kvs =>
  obtain ⟨z,y,xs,r,ob,es,ep,e,c⟩:=x
  exact ⟨z,y,xs,Paired.mapP r fun p q z=>⟨z.1,ht _ _ z.2.1,z.2.2⟩,ob,es,ep,k _ _ (.inl rfl) e,c⟩
 | set S n=>obtain ⟨ob,es,ep,t,e,c⟩:=x;exact ⟨ob,es,ep,t,k _ _ (.inl rfl) e,c⟩
 | ins C dx fs =>
  obtain ⟨d,z,ne,e,mA,⟨od,es,ep,e2,c⟩,r⟩:=x
  exact ⟨ho _ d,z,ne,k _ _ (.inl rfl) e,mA,⟨od,es,ep,k _ _ (.inr d) e2,c⟩,r⟩
 | own y=>obtain ⟨ob,e⟩:=x;exact ⟨ob,k _ _ (.inl rfl) e⟩
 | xd fs=>obtain ⟨mA,⟨od,es,ep,e,c⟩,r⟩:=x;exact ⟨mA,⟨od,es,ep,k _ _ (.inl rfl) e,c⟩,r⟩
 | rng lo hi=>obtain ⟨t,u,v,e⟩:=x;exact ⟨t,u,v,k _ _ (.inl rfl) e⟩
 | frz ob u ih=>obtain ⟨e,q⟩:=x;exact ⟨k _ _ (.inl rfl) e,ih q⟩
 | tbl pos qual =>
  obtain ⟨ps,e,tr,hc⟩:=x
  refine ⟨ps,k a _ (.inl rfl) e,tr,fun v hv=>?_⟩
  obtain ⟨c,o,vs,t,e1,e2,e3⟩:=hc v hv
  exact ⟨c,o,vs,t,e1,hf _ _ _ e2,e3⟩
 | met f y =>
  have e:h.get? a=some (methodObj (.ref f) (.ref y)):=x
  show h'.get? a=some (methodObj (.ref f) (.ref y))
  exact k a _ (.inl rfl) e
 | ext φ=>obtain ⟨p,⟨o,e⟩,st⟩:=x;exact ⟨st _ _ p fun o q=>k _ _ (.inl rfl) q,⟨o,k _ _ (.inl rfl) e⟩,st⟩
theorem HOk.lt (x:HOk P w H h)(e:H a=some o):a<h.objs.size:=(x a o e).lt
theorem HOk.fresh (x:HOk P w H h)(e:h.objs.size≤a):H a=none:=by
 cases q:H a with
 | none=>rfl
 | some u=>exact absurd (lt_of_lt_of_le (x.lt q) e) (lt_irrefl _)
theorem HOk.kept (x:HOk P w H h)(k:∀b u,h.get? b=some u→h'.get? b=some u):HOk P w H h':=fun a o e =>
 (x a o e).stay (fun b u _ q=>k b u q) (fun _ q=>q) (fun _ _ q=>q) fun _ _ _ q=>q
theorem HOk.laid (x:HOk P w H h)(k:∀b u,h.get? b=some u→h'.get? b=some u)(hp:h.objs.size≤a)(new:ObjOk P w (upd H a o) h' a o):HOk P w (upd H a o) h':=fun b u e=>by
 have hn:=x.fresh hp
 by_cases hb:b=a
 ·subst hb;rw [upd_same] at e;cases e;exact new
 ·rw [upd_ne hb] at e
  exact (x b u e).stay (fun c v _ q=>k c v q) (fun c q=>by rw [upd_ne (ne_of_none q hn)];exact q) (fun c xs q=>by rw [upd_ne (ne_of_none q hn)];exact q) fun c ob u q=>by rw [upd_ne (ne_of_none q hn)];exact q
end
def Rd (H:Hp)(a:Addr)(u:HO):Prop:=H a=some u∨∃o,H a=some (.frz o u)
theorem Rd.ok {P:Program}{w:World}{H:Hp}{h:Heap}{a:Addr}{u:HO}(r:Rd H a u)(x:HOk P w H h):ObjOk P w H h a u:=by
 rcases r with r | ⟨o,r⟩
 ·exact x a u r
 ·obtain ⟨_,q⟩:=x a _ r
  exact q
noncomputable def Mut:Option HO→Prop
 | some (.lst _)=>True
 | some (.dK _)=>True
 | some (.dT _)=>True
 | some (.set _ _)=>True
 | some (.ins _ _ _)=>True
 | some (.ext _)=>True
 | _=>False
section
variable {P:Program}{w:World}{H:Hp}{h h':Heap}{x e:Addr}{o':HO}
theorem HOk.write (ok:HOk P w H h)(mu:Mut (H x))(he:e=x∨H e=some (.own x))(k:∀b u,b≠e→h.get? b=some u→h'.get? b=some u)(heo:∃u,h'.get? e=some u)
  (new:ObjOk P w (upd H x o') h' x o'):HOk P w (upd H x o') h':=fun b u q=>by
 have nown:∀c y,H c=some (.own y)→c≠x:=fun c y r z=>by subst z;rw [r] at mu;exact mu
 have ntup:∀c xs,H c=some (.tup xs)→c≠x:=fun c xs r z=>by subst z;rw [r] at mu;exact mu
 have nfrz:∀c ob u,H c=some (.frz ob u)→c≠x:=fun c ob u r z=>by subst z;rw [r] at mu;exact mu
 by_cases hb:b=x
 ·subst hb;rw [upd_same] at q;cases q;exact new
 ·rw [upd_ne hb] at q
  by_cases hbe:b=e
  ·have q':H b=some (.own x):=by
    rcases he with z | z
    ·exact absurd (hbe.trans z) hb
    ·rw [hbe];exact z
   rw [q] at q';cases q'
   obtain ⟨v,hv⟩:=heo
   exact ⟨v,by rw [hbe];exact hv⟩
  ·refine (ok b u q).stay (fun c v hc r=>k c v ?_ r) (fun c r=>by rw [upd_ne (nown c b r)];exact r) (fun c xs r=>by rw [upd_ne (ntup c xs r)];exact r) fun c ob u r=>by rw [upd_ne (nfrz c ob u r)];exact r
   rcases hc with rfl | hc
   ·exact hbe
   ·rintro rfl
    rcases he with z | z
    ·exact nown c b hc z
    ·rw [hc] at z;cases z;exact hb rfl
end
structure Un (fs ex:List Addr)(H H':Hp)(h h':Heap):Prop where
 keep:∀b o,h.get? b=some o→H b=none→b∉fs→b∉ex→h'.get? b=some o
 slot:∀b o,h.get? b=some o→H b=none→b∈fs→b∉ex→∃sl,h'.get? b=some {o with slots:=sl}
 free:∀b o,h.get? b=some o→H b=none→b∉ex→H' b=none
 there:∀b o,h.get? b=some o→b∉ex→∃o',h'.get? b=some o'
 tups:∀b xs,H b=some (.tup xs)→H' b=some (.tup xs)
 frzs:∀b o u,H b=some (.frz o u)→H' b=some (.frz o u)
 tbls:∀b p q,H b=some (.tbl p q)→H' b=some (.tbl p q)
section
variable {fs fs' ex ex':List Addr}{H H1 H2:Hp}{h h1 h2 h':Heap}{a x e:Addr}{o:HO}
theorem Un.any (u:Un fs ex H H1 h h1){b:Addr}{ob:Obj}(q:h.get? b=some ob)(n:H b=none)(hx:b∉ex):∃sl,h1.get? b=some {ob with slots:=sl}:=by
 by_cases hb:b∈fs
 ·exact u.slot b ob q n hb hx
 ·exact ⟨ob.slots,u.keep b ob q n hb hx⟩
theorem Un.kept (k:∀b u,h.get? b=some u→h'.get? b=some u):Un fs ex H H h h':=
 ⟨fun b ob q _ _ _=>k b ob q,fun b ob q _ _ _=>⟨ob.slots,k b ob q⟩,fun _ _ _ n _=>n,fun b ob q _=>⟨ob,k b ob q⟩,fun _ _ q=>q,fun _ _ _ q=>q,fun _ _ _ q=>q⟩
theorem Un.refl:Un fs ex H H h h:=Un.kept fun _ _ q=>q
theorem Un.laid (k:∀b u,h.get? b=some u→h'.get? b=some u)(hp:h.objs.size≤a)(hn:H a=none):Un fs ex H (upd H a o) h h' where
 keep:=fun b u q _ _ _=>k b u q
 slot:=fun b u q _ _ _=>⟨u.slots,k b u q⟩
 free:=fun b u q n _=>by rw [upd_ne (ne_of_lt (lt_of_lt_of_le (lt_size q) hp))];exact n
 there:=fun b u q _=>⟨u,k b u q⟩
 tups:=fun b xs q=>by rw [upd_ne (ne_of_none q hn)];exact q
 frzs:=fun b u xs q=>by rw [upd_ne (ne_of_none q hn)];exact q
 tbls:=fun b p n q=>by rw [upd_ne (ne_of_none q hn)];exact q
theorem Un.write (mu:Mut (H x))(he:e=x∨H e=some (.own x))(k:∀b u,b≠e→h.get? b=some u→h'.get? b=some u)(heo:∃u,h'.get? e=some u):Un fs ex H (upd H x o) h h':=by
  have hx:∀b,H b=none→b≠x:=fun b n z=>by subst z;rw [n] at mu;exact mu
  have hb:∀b,H b=none→b≠e:=fun b n z=>by
    subst z
    rcases he with r | r
    · exact hx b n r
    · rw [n] at r;cases r
  have hm:∀b u,H b=some u→¬Mut (some u)→b≠x:=fun b u q nm z=>by subst z;rw [q] at mu;exact nm mu
  refine ⟨fun b u q n _ _=>k b u (hb b n) q,fun b u q n _ _=>⟨u.slots,k b u (hb b n) q⟩,fun b u q n _=>by rw [upd_ne (hx b n)];exact n,fun b u q _=>?_,
    fun b xs q=>by rw [upd_ne (hm b _ q fun z=>z)];exact q,fun b u xs q=>by rw [upd_ne (hm b _ q fun z=>z)];exact q,fun b p n q=>by rw [upd_ne (hm b _ q fun z=>z)];exact q⟩
  by_cases hbe:b=e
  · subst hbe;exact heo
  · exact ⟨u,k b u hbe q⟩
end
noncomputable def trk (h:Heap)(H:Hp):List Addr:=(List.range h.objs.size).filter fun a=>(H a).isSome
noncomputable def hidT (h:Heap)(H:Hp):Heap:=hideAll h (trk h H)
theorem hidT_size (h:Heap)(H:Hp):(hidT h H).objs.size=h.objs.size:=PySem.W.hideAll_size _ _
theorem hidT_get {h:Heap}{H:Hp}{b:Addr}{o:Obj}(e:h.get? b=some o)(n:H b=none):(hidT h H).get? b=some o:=
 PySem.W.hideAll_get _ e fun hm=>by
  have q:(H b).isSome=true:=(List.mem_filter.mp hm).2
  rw [n] at q;simp at q
theorem of_hidT {h:Heap}{H:Hp}{b:Addr}{o:Obj}(e:(hidT h H).get? b=some o):h.get? b=some o∧H b=none:=by
 have e':h.get? b=some o:=PySem.W.of_hideAll (trk h H) e
 refine ⟨e',?_⟩
 cases q:H b with
 | none=>rfl
 | some x =>
  have hm:b∈trk h H:=List.mem_filter.mpr ⟨List.mem_range.mpr (lt_size e'),by simp [q]⟩
  have z:(hidT h H).get? b=none:=PySem.W.hideAll_none (trk h H) hm
  rw [z] at e;cases e
noncomputable def allNews (g h:Heap)(L:Addr):List (Addr×Obj):=(List.range h.objs.size).filterMap fun a=>if a=L∨(g.get? a).isSome=true then none else (h.get? a).map fun o=>(a,o)
noncomputable def rest (g h:Heap)(L d:Addr):List (Addr×Obj):=(allNews g h L).filter fun p=>decide (p.1≠d)
structure Mod (K:Frag)(mg:Str→Option Value)(base:Heap):Prop where
 kin:K.In base
 glob:base.Ns mainGlobals mg
 blt:∃mb,base.Ns builtinsNs mb∧∀x:Str,x≠"__name__"→mb x=bootBuiltins x
 nolimit:base.NoLimit
structure Cx where
 prog:Program
 w:World
 K:Frag
 mg:Str→Option Value
 base:Heap
 A:Around
 N:List Str
 s₀:Shared
 H₀:Hp
 env:Env
 outer:List Env
 stack:List Env
 ex:List Addr
 fn:Str→Bool
 calm:Bool
 pn:List (Addr×Obj)
 xe:Value→Shared→Prop
noncomputable def frs (l:List Env):List Addr:=l.filterMap (·.frame)
noncomputable abbrev Cx.fs (X:Cx):List Addr:=frs X.outer
def Vis (sc:Scope)(x:Str):Prop:=sc.names.lookup x=some .local∨sc.names.lookup x=some .cell∨sc.names.lookup x=some .free
def Loc (sc:Scope)(x:Str):Prop:=sc.names.lookup x=some .local∨sc.names.lookup x=some .cell
def Look (env:Env)(h:Heap)(m:Str→Option Value)(x:Str)(u:Value):Prop:=
 (env.kindOf x=some .local∧m x=some u)∨((env.kindOf x=some .cell∨env.kindOf x=some .free)∧∃c,env.cells.lookup x=some c∧h.IsCell c (some u))
structure Cx.Ok (X:Cx):Prop where
 mod:Mod X.K X.mg X.base
 kind:X.env.scope.kind=.function
 glob:X.env.globals=mainGlobals
 blt:X.env.builtins=builtinsNs
 above:X.s₀.heap.objs.size≤X.env.locals
 inj:∀x y c,X.env.cells.lookup x=some c→X.env.cells.lookup y=some c→x=y
 has:∀x,(X.env.kindOf x=some .cell∨X.env.kindOf x=some .free)→∃c,X.env.cells.lookup x=some c
 cab:∀x c,X.fn x=true→X.env.cells.lookup x=some c→X.s₀.heap.objs.size≤c
 hd:X.calm=true→X.A.handled=none
 frames:X.A.frames=some X.stack
 stk:X.stack=X.outer∨(X.stack=X.env::X.outer∧X.env.frame=some X.env.locals)
 exf:∀b∈X.ex,b≠X.env.locals∧∀x c,X.env.cells.lookup x=some c→c≠b
 bs:∀b o,X.base.get? b=some o→X.s₀.heap.get? b=some o∧X.H₀ b=none
 bsz:X.base.objs.size≤X.s₀.heap.objs.size
 noex:∀b o,X.base.get? b=some o→b∉X.ex
 exfs:∀b∈X.ex,b∉X.fs
 funs:X.s₀.heap.FunFrames X.base X.outer
 frf:∀b∈X.fs,X.H₀ b=none
structure Inv (X:Cx)(pins:List (Addr×Obj))(σ:List (Option V))(H:Hp)(s:Shared):Prop where
 ok:X.Ok
 os:s.os=X.s₀.os
 bare:AllBare s.gens
 base:Un X.fs X.ex X.H₀ H X.s₀.heap s.heap
 loc:∃m,s.heap.Ns X.env.locals m∧∀(i:Nat) (x:Str) (v:V),X.N[i]?=some x→σ[i]?=some (some v)→Vis X.env.scope x→∃u,RelV v u∧Look X.env s.heap m x u
 cell:∀x c,X.env.cells.lookup x=some c→∃v,s.heap.IsCell c v
 free:H X.env.locals=none
 freeC:∀x c,X.env.cells.lookup x=some c→H c=none
 pin:∀p∈X.pn++pins,s.heap.get? p.1=some p.2∧H p.1=none∧p.1≠X.env.locals∧p.1∉X.fs∧∀v,p.2.data≠.cell v
 hok:HOk X.prog X.w H s.heap
 len:σ.length=X.N.length
section
variable {X:Cx}{pins:List (Addr×Obj)}{σ:List (Option V)}{H H':Hp}{s:Shared}{h':Heap}
theorem Cx.Ok.nofr (ok:X.Ok){b:Addr}{o:Obj}(e:X.base.get? b=some o):b∉X.fs:=fun hb=>by
 have:=(ok.funs.mem hb).1
 rw [e] at this;cases this
theorem Inv.bs (I:Inv X pins σ H s):∀b o,X.base.get? b=some o→s.heap.get? b=some o∧H b=none:=fun b o e =>
 ⟨I.base.keep b o (I.ok.bs b o e).1 (I.ok.bs b o e).2 (I.ok.nofr e) (I.ok.noex b o e),I.base.free b o (I.ok.bs b o e).1 (I.ok.bs b o e).2 (I.ok.noex b o e)⟩
theorem Inv.bk (I:Inv X pins σ H s):∀b o,X.base.get? b=some o→s.heap.get? b=some o:=fun b o e=>(I.bs b o e).1
theorem Inv.mod (I:Inv X pins σ H s):Mod X.K X.mg X.base:=I.ok.mod
theorem Inv.kIn (I:Inv X pins σ H s):X.K.In s.heap:=I.ok.mod.kin.keeps I.bk
theorem Inv.lt (I:Inv X pins σ H s):X.env.locals<s.heap.objs.size:=let ⟨_,hn,_⟩:=I.loc;hn.lt
theorem Inv.sz (I:Inv X pins σ H s):X.s₀.heap.objs.size≤s.heap.objs.size:=le_trans I.ok.above (le_of_lt I.lt)
theorem Inv.nofs (I:Inv X pins σ H s){a:Addr}(h:s.heap.objs.size≤a):a∉X.fs:=fun hb=>by
 obtain ⟨_,o,ho,_⟩:=I.ok.funs.mem hb
 exact absurd (lt_of_lt_of_le (lt_size ho) (le_trans I.sz h)) (lt_irrefl _)
theorem Inv.cne (I:Inv X pins σ H s):∀x c,X.env.cells.lookup x=some c→c≠X.env.locals:=fun x c e z=>by
 obtain ⟨v,o,ho,hd⟩:=I.cell x c e
 obtain ⟨m,⟨o',es,ep,ho',hd',_⟩,_⟩:=I.loc
 rw [z,ho'] at ho;cases ho;rw [hd'] at hd;cases hd
theorem Inv.funs (I:Inv X pins σ H s):s.heap.FunFrames X.base X.outer:=by
 have all:∀(l:List Env),(∀b∈frs l,b∈X.fs)→X.s₀.heap.FunFrames X.base l→s.heap.FunFrames X.base l:=by
  intro l
  induction l with
  | nil=>intro _ _;trivial
  | cons env r ih =>
   intro hs hl
   obtain ⟨hk,⟨L,o,hf,hn,ho,hd⟩,hr⟩:=hl
   have hL:L∈X.fs:=hs L (by unfold frs;rw [filterMap_cons,hf];exact mem_cons_self)
   obtain ⟨sl,e⟩:=I.base.slot L o ho (I.ok.frf L hL) hL fun z=>I.ok.exfs L z hL
   exact ⟨hk,⟨L,_,hf,hn,e,hd⟩,ih (fun b hb=>hs b (by unfold frs;rw [filterMap_cons,hf];exact mem_cons_of_mem _ hb)) hr⟩
 exact all X.outer (fun _ hb=>hb) I.ok.funs
theorem Inv.stack (I:Inv X pins σ H s):s.heap.FunFrames X.base X.stack:=by
 rcases I.ok.stk with e | ⟨e,hf⟩
 ·rw [e];exact I.funs
 ·rw [e]
  obtain ⟨m,hn,_⟩:=I.loc
  refine .cons (by rw [I.ok.kind];decide) hf hn ?_ I.funs
  exact Heap.get?_none_of_le (le_trans I.ok.bsz I.ok.above)
theorem Inv.stkSub (I:Inv X pins σ H s):∀b∈frs X.stack,b∈X.env.locals::X.fs:=fun b hb=>by
 rcases I.ok.stk with e | ⟨e,hf⟩
 ·rw [e] at hb;exact mem_cons_of_mem _ hb
 ·rw [e] at hb
  unfold frs at hb
  rw [filterMap_cons,hf] at hb
  exact hb
theorem Inv.stkFree (I:Inv X pins σ H s):∀b∈frs X.stack,H b=none:=fun b hb=>by
 rcases List.mem_cons.mp (I.stkSub b hb) with e | hb
 ·rw [e];exact I.free
 ·obtain ⟨_,o,ho,_⟩:=I.ok.funs.mem hb
  exact I.base.free b o ho (I.ok.frf b hb) fun z=>I.ok.exfs b z hb
theorem Inv.step {g':Array GenState}{t':Nat}{d':Drawn}{ch:List Addr}(I:Inv X pins σ H s)
  (hch:∀b∈ch,(b∈X.ex∨X.s₀.heap.objs.size≤b)∧b≠X.env.locals∧(∀x c,X.env.cells.lookup x=some c→c≠b)∧∀p∈X.pn++pins,p.1≠b)
  (keep:∀b o,b≠X.env.locals→b∉X.fs→b∉ch→s.heap.get? b=some o→H b=none→h'.get? b=some o)
  (slot:∀b o,b≠X.env.locals→b∈X.fs→b∉ch→s.heap.get? b=some o→H b=none→∃sl,h'.get? b=some {o with slots:=sl}) (free:∀b o,b∉ch→s.heap.get? b=some o→H b=none→H' b=none)
  (there:∀b o,b∉ch→s.heap.get? b=some o→∃o',h'.get? b=some o')
  (tups:∀b xs,H b=some (.tup xs)→H' b=some (.tup xs)) (frzs:∀b o u,H b=some (.frz o u)→H' b=some (.frz o u)) (tbls:∀b p n,H b=some (.tbl p n)→H' b=some (.tbl p n))
  (ns:∀m,s.heap.Ns X.env.locals m→h'.Ns X.env.locals m) (hok:HOk X.prog X.w H' h') (hg:AllBare g') :
  Inv X pins σ H' {s with heap:=h',gens:=g',drawn:=d',toks:=t'}:=by
 have neL:∀b o,X.s₀.heap.get? b=some o→b≠X.env.locals:=fun b o e=>ne_of_lt (lt_of_lt_of_le (lt_size e) I.ok.above)
 have neC:∀b o,X.s₀.heap.get? b=some o→b∉X.ex→b∉ch:=fun b o e hx hb=>by
  rcases (hch b hb).1 with z | z
  ·exact hx z
  ·exact absurd (lt_of_lt_of_le (lt_size e) z) (lt_irrefl _)
 have cellK:∀x c,X.env.cells.lookup x=some c→∀v,s.heap.IsCell c v→h'.IsCell c v:=fun x c e v ⟨o,ho,hd⟩=>by
  have nch:c∉ch:=fun z=>(hch c z).2.2.1 x c e rfl
  by_cases hc:c∈X.fs
  ·obtain ⟨sl,q⟩:=slot c o (I.cne x c e) hc nch ho (I.freeC x c e)
   exact ⟨_,q,hd⟩
  ·exact ⟨o,keep c o (I.cne x c e) hc nch ho (I.freeC x c e),hd⟩
 refine ⟨I.ok,I.os,hg,⟨fun b o e n hb hx=>?_,fun b o e n hb hx=>?_,fun b o e n hx=>?_,fun b o e hx=>?_,fun b xs e=>tups b xs (I.base.tups b xs e),fun b o xs e=>frzs b o xs (I.base.frzs b o xs e),fun b p n e=>tbls b p n (I.base.tbls b p n e)⟩,?_,fun x c e=>?_,?_,fun x c e=>?_,fun p hp=>?_,hok,I.len⟩
 ·exact keep b o (neL b o e) hb (neC b o e hx) (I.base.keep b o e n hb hx) (I.base.free b o e n hx)
 ·obtain ⟨sl,e1⟩:=I.base.slot b o e n hb hx
  obtain ⟨sl',e2⟩:=slot b _ (neL b o e) hb (neC b o e hx) e1 (I.base.free b o e n hx)
  exact ⟨sl',e2⟩
 ·obtain ⟨o',e1⟩:=I.base.there b o e hx
  exact free b o' (neC b o e hx) e1 (I.base.free b o e n hx)
 ·obtain ⟨o',e1⟩:=I.base.there b o e hx
  exact there b o' (neC b o e hx) e1
 ·obtain ⟨m,hn,hl⟩:=I.loc
  refine ⟨m,ns m hn,fun i x v e1 e2 e3=>?_⟩
  obtain ⟨u,r,l⟩:=hl i x v e1 e2 e3
  refine ⟨u,r,?_⟩
  rcases l with l | ⟨k,c,e,z⟩
  ·exact .inl l
  ·exact .inr ⟨k,c,e,cellK x c e _ z⟩
 ·obtain ⟨v,z⟩:=I.cell x c e
  exact ⟨v,cellK x c e v z⟩
 ·obtain ⟨m,⟨o,_,_,ho,_⟩,_⟩:=I.loc
  exact free _ o (fun z=>(hch _ z).2.1 rfl) ho I.free
 ·obtain ⟨v,o,ho,hd⟩:=I.cell x c e
  exact free c o (fun z=>(hch c z).2.2.1 x c e rfl) ho (I.freeC x c e)
 ·obtain ⟨e,n,ne,nf,d⟩:=I.pin p hp
  have nch:p.1∉ch:=fun z=>(hch p.1 z).2.2.2 p hp rfl
  exact ⟨keep p.1 p.2 ne nf nch e n,free p.1 p.2 nch e n,ne,nf,d⟩
theorem Inv.un {t':Nat}(I:Inv X pins σ H s)(u:Un X.fs [] H H' s.heap h')(hok:HOk X.prog X.w H' h'):Inv X pins σ H' {s with heap:=h',toks:=t'}:=by
  obtain ⟨m,⟨o,es,ep,ho,r⟩,_⟩:=id I.loc
  obtain ⟨sl,hL⟩:=u.any ho I.free (by simp)
  exact I.step (g':=s.gens) (d':=s.drawn) (ch:=[]) (fun _ z=>nomatch z) (fun b o _ hb _ e n=>u.keep b o e n hb (by simp)) (fun b o _ hb _ e n=>u.slot b o e n hb (by simp)) (fun b o _ e n=>u.free b o e n (by simp)) (fun b o _ e=>u.there b o e (by simp)) u.tups u.frzs u.tbls (fun m' hm=>by
    obtain ⟨o',es',ep',ho',r'⟩:=hm
    rw [ho] at ho';cases ho'
    exact ⟨_,es',ep',hL,r'⟩) hok I.bare
theorem Inv.call {g':Array GenState}{t':Nat}{d':Drawn}{ch:List Addr}(I:Inv X pins σ H s)(u:Un (frs X.stack) ch H H' s.heap h')(hok:HOk X.prog X.w H' h')(hg:AllBare g')
    (hch:∀b∈ch,(b∈X.ex∨X.s₀.heap.objs.size≤b)∧b≠X.env.locals∧(∀x c,X.env.cells.lookup x=some c→c≠b)∧∀p∈X.pn++pins,p.1≠b) :
    Inv X pins σ H' {s with heap:=h',gens:=g',drawn:=d',toks:=t'}:=by
  obtain ⟨m,⟨o,es,ep,ho,r⟩,_⟩:=id I.loc
  obtain ⟨sl,hL⟩:=u.any ho I.free fun z=>(hch _ z).2.1 rfl
  exact I.step (ch:=ch) hch (fun b o hL hb hc e n=>u.keep b o e n (fun z=>(List.mem_cons.mp (I.stkSub b z)).elim hL hb) hc) (fun b o _ _ hc e n=>u.any e n hc) (fun b o hc e n=>u.free b o e n hc) (fun b o hc e=>u.there b o e hc) u.tups u.frzs u.tbls (fun m' hm=>by
    obtain ⟨o',es',ep',ho',r'⟩:=hm
    rw [ho] at ho';cases ho'
    exact ⟨_,es',ep',hL,r'⟩) hok hg
theorem Inv.turned {t':Nat}{it:Addr}(I:Inv X pins σ H s)(k:∀b o,b≠it→s.heap.get? b=some o→h'.get? b=some o)(hn:H it=none)(hL:it≠X.env.locals)
  (h1:it∈X.ex∨X.s₀.heap.objs.size≤it) (h2:∀x c,X.env.cells.lookup x=some c→c≠it) (h3:∀p∈X.pn++pins,p.1≠it):Inv X pins σ H {s with heap:=h',toks:=t'}:=by
 have nit:∀b u,H b=some u→b≠it:=fun b u e z=>by rw [z,hn] at e;cases e
 refine I.step (g':=s.gens) (d':=s.drawn) (ch:=[it]) (fun b hb=>?_) (fun b o _ _ hc e _=>k b o (fun z=>hc (by simp [z])) e) (fun b o _ _ hc e _=>⟨o.slots,k b o (fun z=>hc (by simp [z])) e⟩) (fun _ _ _ _ n=>n)
  (fun b o hc e=>⟨o,k b o (fun z=>hc (by simp [z])) e⟩) (fun _ _ e=>e) (fun _ _ _ e=>e) (fun _ _ _ e=>e) (fun m hm=>?_) (fun b u e=>?_) I.bare
 ·have e:b=it:=by simpa using hb
  subst e
  exact ⟨h1,hL,h2,h3⟩
 ·obtain ⟨o,es,ep,ho,r⟩:=hm
  exact ⟨o,es,ep,k _ o (Ne.symm hL) ho,r⟩
 ·refine (I.hok b u e).stay (fun c v hc q=>k c v ?_ q) (fun _ q=>q) (fun _ _ q=>q) fun _ _ _ q=>q
  rcases hc with z | z
  ·rw [z];exact nit b u e
  ·exact nit c _ z
theorem Inv.tok (I:Inv X pins σ H s)(t:Nat):Inv X pins σ H {s with toks:=t}:=I.un (h':=s.heap) (t':=t) Un.refl I.hok
theorem Inv.kept {t':Nat}(I:Inv X pins σ H s)(k:∀b u,s.heap.get? b=some u→h'.get? b=some u):Inv X pins σ H {s with heap:=h',toks:=t'}:=I.un (Un.kept k) (I.hok.kept k)
theorem Inv.laid {a:Addr}{o:HO}{t':Nat}(I:Inv X pins σ H s)(k:∀b u,s.heap.get? b=some u→h'.get? b=some u)(hp:s.heap.objs.size≤a)(new:ObjOk X.prog X.w (upd H a o) h' a o) :
  Inv X pins σ (upd H a o) {s with heap:=h',toks:=t'}:=I.un (Un.laid k hp (I.hok.fresh hp)) (I.hok.laid k hp new)
theorem Inv.write {x e:Addr}{o:HO}{t':Nat}(I:Inv X pins σ H s)(mu:Mut (H x))(he:e=x∨H e=some (.own x))(k:∀b u,b≠e→s.heap.get? b=some u→h'.get? b=some u)(heo:∃u,h'.get? e=some u)
  (new:ObjOk X.prog X.w (upd H x o) h' x o):Inv X pins σ (upd H x o) {s with heap:=h',toks:=t'}:=I.un (Un.write mu he k heo) (I.hok.write mu he k heo new)
theorem Inv.pins_of {pins':List (Addr×Obj)}(I:Inv X pins σ H s)(h:∀p∈pins',s.heap.get? p.1=some p.2∧H p.1=none∧p.1≠X.env.locals∧p.1∉X.fs∧∀v,p.2.data≠.cell v):Inv X pins' σ H s:=
 ⟨I.ok,I.os,I.bare,I.base,I.loc,I.cell,I.free,I.freeC,fun p hp=>(List.mem_append.mp hp).elim (fun z=>I.pin p (mem_append_left _ z)) (h p),I.hok,I.len⟩
theorem nodup_ix {N:List Str}(hN:N.Nodup){i j:Nat}{x:Str}(a:N[i]?=some x)(b:N[j]?=some x):i=j:=by
 obtain ⟨h1,e1⟩:=List.getElem?_eq_some_iff.mp a
 obtain ⟨h2,e2⟩:=List.getElem?_eq_some_iff.mp b
 exact (List.getElem_inj hN).mp (e1.trans e2.symm)
theorem store_ok2 {M:Model}{A:Around}{E:Value→Shared→Prop}{i:Nat}{x:Str}{v:V}{u:Value}{Q:Unit→Shared→Prop}(I:Inv X pins σ H s)(hN:X.N.Nodup)(hi:X.N[i]?=some x)(hx:Loc X.env.scope x)(r:RelV v u)
  (h:∀s',Inv X pins (σ.set i (some v)) H s'→(∃a,Heap.SameBut a s.heap s'.heap∧(a=X.env.locals∨X.env.cells.lookup x=some a))→Q () s') (hf:autoParam (X.fn x=true∨X.env.scope.names.lookup x=some .local) aT0._auto_1):wpAny M A (storeName X.env x u) Q E s:=by
 obtain ⟨m,hn,hl⟩:=id I.loc
 have hcls:(X.env.scope.kind==.class||(X.env.scope.kind==.module&&X.env.locals != X.env.globals))=false:=by rw [I.ok.kind];rfl
 have hiσ:i<σ.length:=by rw [I.len];exact (List.getElem?_eq_some_iff.mp hi).1
 have cne:=I.cne
 have tracked:∀{a:Addr} {h':Heap},(∃o,s.heap.get? a=some o∧H a=none)→Heap.SameBut a s.heap h'→HOk X.prog X.w H h':=fun {a h'} ha hs b ob e=>by
  obtain ⟨_,_,hfree⟩:=ha
  refine (I.hok b ob e).stay (fun c w' hc q=>(hs.2 c ?_).trans q) (fun _ q=>q) (fun _ _ q=>q) fun _ _ _ q=>q
  rintro rfl
  rcases hc with rfl | hc
  ·rw [hfree] at e;cases e
  ·rw [hfree] at hc;cases hc
 rcases hx with hk | hk
 ·refine wpAny_storeName_local hk hn (fun h' hn' hs=>?_) hcls
  obtain ⟨oL,_,_,hoL,_⟩:=id hn
  refine h _ ⟨I.ok,I.os,I.bare,⟨fun b o e n hb hx=>?_,fun b o e n hb hx=>?_,I.base.free,fun b o e hx=>?_,I.base.tups,I.base.frzs,I.base.tbls⟩,⟨_,hn',fun j y v' e1 e2 e3=>?_⟩,fun y c e=>?_,I.free,I.freeC,fun p hp=>?_,tracked ⟨oL,hoL,I.free⟩ hs,by simpa using I.len⟩ ⟨_,hs,.inl rfl⟩
  ·exact (hs.2 b (ne_of_lt (lt_of_lt_of_le (lt_size e) I.ok.above))).trans (I.base.keep b o e n hb hx)
  ·obtain ⟨sl,e1⟩:=I.base.slot b o e n hb hx
   exact ⟨sl,(hs.2 b (ne_of_lt (lt_of_lt_of_le (lt_size e) I.ok.above))).trans e1⟩
  ·obtain ⟨o',e1⟩:=I.base.there b o e hx
   exact ⟨o',(hs.2 b (ne_of_lt (lt_of_lt_of_le (lt_size e) I.ok.above))).trans e1⟩
  ·by_cases hj:j=i
   ·subst hj
    rw [hi] at e1;cases e1
    rw [getElem?_set_self hiσ] at e2
    cases e2
    exact ⟨u,r,.inl ⟨hk,by simp⟩⟩
   ·rw [getElem?_set_ne (Ne.symm hj)] at e2
    obtain ⟨u',r',q⟩:=hl j y v' e1 e2 e3
    refine ⟨u',r',?_⟩
    rcases q with ⟨k,e⟩ | ⟨k,c,e,z⟩
    ·refine .inl ⟨k,?_⟩
     have:y≠x:=fun e=>hj (nodup_ix hN e1 (e▸hi))
     simp [this,e]
    ·exact .inr ⟨k,c,e,z.sameBut hs (cne y c e)⟩
  ·obtain ⟨w',z⟩:=I.cell y c e
   exact ⟨w',z.sameBut hs (cne y c e)⟩
  ·obtain ⟨e,n,ne,nf,d⟩:=I.pin p hp
   exact ⟨(hs.2 p.1 ne).trans e,n,ne,nf,d⟩
 ·have hfn:X.fn x=true:=by
   rcases hf with z | z
   ·exact z
   ·rw [z] at hk;cases hk
  obtain ⟨c,hc⟩:=I.ok.has x (.inl hk)
  obtain ⟨w',z⟩:=I.cell x c hc
  refine wpAny_storeName_cell I.ok.kind hk hc z (fun h' hc' hs=>?_)
  obtain ⟨oc,hoc,hocd⟩:=id z
  refine h {s with heap:=h'} ⟨I.ok,I.os,I.bare,⟨fun b o e n hb hx=>?_,fun b o e n hb hx=>?_,I.base.free,fun b o e hx=>?_,I.base.tups,I.base.frzs,I.base.tbls⟩,⟨m,hn.sameBut hs (Ne.symm (cne x c hc)),fun j y v' e1 e2 e3=>?_⟩,fun y c' e=>?_,I.free,I.freeC,fun p hp=>?_,tracked ⟨oc,hoc,I.freeC x c hc⟩ hs,by simpa using I.len⟩ ⟨c,hs,.inr hc⟩
  ·exact (hs.2 b (ne_of_lt (lt_of_lt_of_le (lt_size e) (I.ok.cab x c hfn hc)))).trans (I.base.keep b o e n hb hx)
  ·obtain ⟨sl,e1⟩:=I.base.slot b o e n hb hx
   exact ⟨sl,(hs.2 b (ne_of_lt (lt_of_lt_of_le (lt_size e) (I.ok.cab x c hfn hc)))).trans e1⟩
  ·obtain ⟨o',e1⟩:=I.base.there b o e hx
   exact ⟨o',(hs.2 b (ne_of_lt (lt_of_lt_of_le (lt_size e) (I.ok.cab x c hfn hc)))).trans e1⟩
  ·by_cases hj:j=i
   ·subst hj
    rw [hi] at e1;cases e1
    rw [getElem?_set_self hiσ] at e2
    cases e2
    exact ⟨u,r,.inr ⟨.inl hk,c,hc,hc'⟩⟩
   ·rw [getElem?_set_ne (Ne.symm hj)] at e2
    obtain ⟨u',r',q⟩:=hl j y v' e1 e2 e3
    refine ⟨u',r',?_⟩
    rcases q with q | ⟨k,c',e,z'⟩
    ·exact .inl q
    ·refine .inr ⟨k,c',e,z'.sameBut hs ?_⟩
     rintro rfl
     exact hj (nodup_ix hN e1 (I.ok.inj _ _ _ e hc▸hi))
  ·by_cases hcc:c'=c
   ·subst hcc;exact ⟨_,hc'⟩
   ·obtain ⟨w2,z2⟩:=I.cell y c' e
    exact ⟨w2,z2.sameBut hs hcc⟩
  ·obtain ⟨e,n,ne,nf,d⟩:=I.pin p hp
   refine ⟨(hs.2 p.1 ?_).trans e,n,ne,nf,d⟩
   intro q
   rw [q,hoc] at e
   have q':oc=p.2:=Option.some.inj e
   exact d w' (by rw [← q'];exact hocd)
theorem store_ok {M:Model}{A:Around}{E:Value→Shared→Prop}{i:Nat}{x:Str}{v:V}{u:Value}{Q:Unit→Shared→Prop}(I:Inv X pins σ H s)(hN:X.N.Nodup)(hi:X.N[i]?=some x)(hx:Loc X.env.scope x)(r:RelV v u)
  (h:∀s',Inv X pins (σ.set i (some v)) H s'→Q () s') (hf:autoParam (X.fn x=true∨X.env.scope.names.lookup x=some .local) aT0._auto_1):wpAny M A (storeName X.env x u) Q E s:=
 store_ok2 I hN hi hx r (fun s' I' _=>h s' I') hf
theorem Inv.call' {s':Shared}{ch:List Addr}(I:Inv X pins σ H s)(ho:s'.os=s.os)(u:Un (frs X.stack) ch H H' s.heap s'.heap)(hok:HOk X.prog X.w H' s'.heap)(hg:AllBare s'.gens)
  (hch:∀b∈ch,(b∈X.ex∨X.s₀.heap.objs.size≤b)∧b≠X.env.locals∧(∀x c,X.env.cells.lookup x=some c→c≠b)∧∀p∈X.pn++pins,p.1≠b):Inv X pins σ H' s':=by
 obtain ⟨h',g',d',t',o'⟩:=s'
 have e:o'=s.os:=ho
 subst e
 exact I.call (g':=g') (t':=t') (d':=d') u hok hg hch
end
noncomputable abbrev XK:=Value→Option Addr→Hp→Prop
noncomputable abbrev St:=List (Option V)
noncomputable abbrev VK:=V→Hp→Prop
noncomputable abbrev TE:=St→Hp→VK→Prop
noncomputable abbrev TT:=St→Hp→(Bool→Hp→Prop)→Prop
noncomputable abbrev TA:=St→Hp→(List V→Hp→Prop)→Prop
structure Ends where
 nx:St→Hp→Prop
 rt:VK
 bk:St→Hp→Prop:=fun _ _=>False
 ct:St→Hp→Prop:=fun _ _=>False
noncomputable abbrev TS:=Ends→St→Hp→Prop
def EP (X:Cx)(pins:List (Addr×Obj))(σ:St)(Q:VK)(u:Value)(s':Shared):Prop:=∃v H',Inv X pins σ H' s'∧RelV v u∧Q v H'
def TP (X:Cx)(pins:List (Addr×Obj))(σ:St)(Q:Bool→Hp→Prop)(b:Bool)(s':Shared):Prop:=∃H',Inv X pins σ H' s'∧Q b H'
def AP (X:Cx)(pins:List (Addr×Obj))(σ:St)(Q:List V→Hp→Prop)(us:List Value)(s':Shared):Prop:=∃vs H',Inv X pins σ H' s'∧Vals vs us∧Q vs H'
def SP (X:Cx)(pins:List (Addr×Obj))(D:Ends)(f:Flow)(s':Shared):Prop:=
 match f with
 | .next=>∃σ' H',Inv X pins σ' H' s'∧D.nx σ' H'
 | .brk=>∃σ' H',Inv X pins σ' H' s'∧D.bk σ' H'
 | .cont=>∃σ' H',Inv X pins σ' H' s'∧D.ct σ' H'
 | .ret u=>∃v σ' H',Inv X pins σ' H' s'∧RelV v u∧D.rt v H'
def PE (X:Cx)(e:Expr)(t:TE):Prop:=
 ∀(pins:List (Addr×Obj)) (s:Shared) (σ:St) (H:Hp) (Q:VK),Inv X pins σ H s→t σ H Q→wpAny (model X.prog X.w) X.A (eval e X.env) (EP X pins σ Q) X.xe s
def PT (X:Cx)(e:Expr)(t:TT):Prop:=
 ∀(pins:List (Addr×Obj)) (s:Shared) (σ:St) (H:Hp) (Q:Bool→Hp→Prop),Inv X pins σ H s→t σ H Q→wpAny (model X.prog X.w) X.A (isTrue e X.env (eval e X.env)) (TP X pins σ Q) X.xe s
def PW (X:Cx)(e:Expr)(t:TT):Prop:=
 ∀(whole:Sem Value) (pins:List (Addr×Obj)) (s:Shared) (σ:St) (H:Hp) (Q:Bool→Hp→Prop),Inv X pins σ H s→t σ H Q→wpAny (model X.prog X.w) X.A (isTrue e X.env whole) (TP X pins σ Q) X.xe s
theorem PW.pt {X:Cx}{e:Expr}{t:TT}(h:PW X e t):PT X e t:=h _
def PA (X:Cx)(es:List Expr)(t:TA):Prop:=
 ∀(pos:Pos) (pins:List (Addr×Obj)) (s:Shared) (σ:St) (H:Hp) (Q:List V→Hp→Prop),Inv X pins σ H s→t σ H Q→wpAny (model X.prog X.w) X.A (spliced (backTo pos (starEach es X.env))) (AP X pins σ Q) X.xe s
def PS (X:Cx)(st:Stmt)(t:TS):Prop:=
 ∀(pins:List (Addr×Obj)) (s:Shared) (σ:St) (H:Hp) (D:Ends),Inv X pins σ H s→t D σ H→wpAny (model X.prog X.w) X.A (exec st X.env) (SP X pins D) X.xe s
def PSs (X:Cx)(st:List Stmt)(t:TS):Prop:=
 ∀(pins:List (Addr×Obj)) (s:Shared) (σ:St) (H:Hp) (D:Ends),Inv X pins σ H s→t D σ H→wpAny (model X.prog X.w) X.A (execs st X.env) (SP X pins D) X.xe s
theorem thn {α:Type}{t:Sem α}{Q Q':α→Shared→Prop}{M:Model}{A:Around}{E:Value→Shared→Prop}{s:Shared}(h:wpAny M A t Q E s)(hQ:∀a s,Q a s→Q' a s):wpAny M A t Q' E s:=wpAny_mono h hQ fun _ _ x=>x
section
variable {X:Cx}
def tVar (i:Nat):TE:=fun σ H Q=>∃v,σ[i]?=some (some v)∧Q v H
def tC (v:V):TE:=fun _ H Q=>Q v H
theorem pe_var {i:Nat}{x:Str}{pos:Pos}(hN:X.N[i]?=some x)(hv:Vis X.env.scope x)(hd:(x==("__debug__":Str))=false:=by decide)(hcd:(x==("__classdict__":Str))=false:=by decide):PE X (.Name x pos) (tVar i):=by
 intro pins s σ H Q I h
 obtain ⟨v,e,h⟩:=h
 obtain ⟨m,hn,hl⟩:=I.loc
 obtain ⟨u,r,l⟩:=hl i x v hN e hv
 have fin:EP X pins σ Q u s:=⟨v,H,I,r,h⟩
 rcases l with ⟨hk,hm⟩ | ⟨hk,c,hc,hcell⟩
 ·exact wpAny_Name (wpAny_loadName_local I.ok.kind hk hn hm fin) hd
 ·rcases hk with hk | hk
  ·exact wpAny_Name (wpAny_loadName_cell I.ok.kind hk hc hcell fin) hd
  ·exact wpAny_Name (wpAny_loadName_free I.ok.kind hk hc hcell fin hcd) hd
theorem pe_int {i j pos}:PE X (.Constant (.int i) j pos) (tC (.int i)):=fun _ _ _ H _ I h=>wpAny_Constant_int ⟨.int i,H,I.tok _,⟨_,rfl⟩,h⟩
theorem pe_bl {b j pos}:PE X (.Constant (.bool b) j pos) (tC (.bl b)):=fun _ _ _ H _ I h=>Constant_bool ⟨.bl b,H,I,rfl,h⟩
theorem pe_non {j pos}:PE X (.Constant .none j pos) (tC .non):=fun _ _ _ H _ I h=>Constant_none ⟨.non,H,I,rfl,h⟩
theorem pe_str {x j pos}:PE X (.Constant (.str x) j pos) (tC (.str x)):=fun _ _ _ H _ I h=>Calls.Constant_str ⟨.str x,H,I.tok _,⟨_,rfl⟩,h⟩
def Gl (X:Cx)(x:Str):Prop:=X.env.kindOf x=some .globalImplicit
theorem ld_glob {E:Value→Shared→Prop}{pins:List (Addr×Obj)}{s:Shared}{σ:St}{H:Hp}{x:Str}{u:Value}{pos:Pos}{Q:Value→Shared→Prop}(I:Inv X pins σ H s)(hg:Gl X x)(hm:X.mg x=some u)(h:Q u s)
  (hd:(x==("__debug__":Str))=false:=by decide):wpAny (model X.prog X.w) X.A (eval (.Name x pos) X.env) Q E s:=
 Calls.Name_function_global I.ok.kind hg (Calls.loadGlobal_global (by rw [I.ok.glob];exact I.mod.glob.keeps I.bk) hm h) hd
theorem ld_blt {E:Value→Shared→Prop}{pins:List (Addr×Obj)}{s:Shared}{σ:St}{H:Hp}{x:Str}{u:Value}{pos:Pos}{Q:Value→Shared→Prop}(I:Inv X pins σ H s)(hg:Gl X x)(hm:X.mg x=none)(hv:bootBuiltins x=some u)(h:Q u s)
  (hn:x≠"__name__":=by decide) (hd:(x==("__debug__":Str))=false:=by decide):wpAny (model X.prog X.w) X.A (eval (.Name x pos) X.env) Q E s:=by
 obtain ⟨mb,h1,h2⟩:=I.mod.blt
 exact Calls.Name_function_global I.ok.kind hg (Calls.loadGlobal_builtin (by rw [I.ok.glob];exact I.mod.glob.keeps I.bk) hm (by rw [I.ok.blt];exact h1.keeps I.bk) ((h2 x hn).trans hv) h) hd
theorem pe_bltn {x:Str}{v:V}{u:Value}{pos:Pos}(hg:Gl X x)(hm:X.mg x=none)(hv:bootBuiltins x=some u)(r:RelV v u)(hn:x≠"__name__":=by decide)(hd:(x==("__debug__":Str))=false:=by decide):PE X (.Name x pos) (tC v):=
 fun _ _ _ H _ I h=>ld_blt I hg hm hv ⟨v,H,I,r,h⟩ hn hd
variable {a b:Expr}{ta tb:TE}{pos:Pos}
def tB (t:TE):TT:=fun σ H Q=>t σ H fun x H1=>∃c,x=.bl c∧Q c H1
theorem pt_val {e:Expr}{t:TE}(h:PE X e t)(he:∀whole,isTrue e X.env whole=(do let v ← whole;standAt e.pos;holding [v] (truthy v)):=by intro _;rfl):PT X e (tB t):=by
 intro pins s σ H Q I hw
 refine isTrue_plain (thn (h pins s σ H _ I hw) fun v s1 hz9=>?_) (he _)
 obtain ⟨x,H1,I1,r1,q1⟩:=hz9
 obtain ⟨d,rfl,q⟩:=q1
 cases r1
 exact wpAny_truthy_bool ⟨H1,I1,q⟩
variable {tA tB':TT}{rest:List Expr}
def tAnd (t u:TT):TT:=fun σ H Q=>t σ H fun c H1=>if c=true then u σ H1 Q else Q false H1
def tOr (t u:TT):TT:=fun σ H Q=>t σ H fun c H1=>if c=true then Q true H1 else u σ H1 Q
def tNot (t:TT):TT:=fun σ H Q=>t σ H fun c H1=>Q (!c) H1
theorem pw_and1 (ha:PT X a tA):PW X (.BoolOp .And [a] pos) tA:=by
 intro wh pins s σ H Q I h
 refine isTrue_and (thn (ha pins s σ H Q I h) fun c s1 e=>?_)
 cases c with
 | true=>exact isTrue_and_nil e
 | false=>exact e
theorem pw_or1 (ha:PT X a tA):PW X (.BoolOp .Or [a] pos) tA:=by
 intro wh pins s σ H Q I h
 refine isTrue_or (thn (ha pins s σ H Q I h) fun c s1 e=>?_)
 cases c with
 | false=>exact isTrue_or_nil e
 | true=>exact e
theorem pw_and (ha:PT X a tA)(hb:PW X (.BoolOp .And (b::rest) pos) tB'):PW X (.BoolOp .And (a::b::rest) pos) (tAnd tA tB'):=by
 intro wh pins s σ H Q I h
 refine isTrue_and (thn (ha pins s σ H _ I h) fun c s1 ⟨H1,I1,q1⟩=>?_)
 cases c with
 | true=>exact hb wh pins s1 σ H1 Q I1 q1
 | false=>exact ⟨H1,I1,q1⟩
theorem pw_or (ha:PT X a tA)(hb:PW X (.BoolOp .Or (b::rest) pos) tB'):PW X (.BoolOp .Or (a::b::rest) pos) (tOr tA tB'):=by
 intro wh pins s σ H Q I h
 refine isTrue_or (thn (ha pins s σ H _ I h) fun c s1 ⟨H1,I1,q1⟩=>?_)
 cases c with
 | true=>exact ⟨H1,I1,q1⟩
 | false=>exact hb wh pins s1 σ H1 Q I1 q1
theorem pt_not (ha:PT X a tA):PT X (.UnaryOp .Not a pos) (tNot tA):=by
 intro pins s σ H Q I h
 exact isTrue_not (ha pins s σ H (fun c H1=>Q (!c) H1) I h)
def tAndV (ta tb:TE):TE:=fun σ H Q=>ta σ H fun x H1=>∃c,x=.bl c∧if c=true then tb σ H1 Q else Q (.bl false) H1
theorem pe_one {op}{t:TE}(h:PE X a t):PE X (.BoolOp op [a] pos) t:=fun pins s σ H Q I hw=>BoolOp_one (h pins s σ H Q I hw)
theorem pe_and (ha:PE X a ta)(hb:PE X (.BoolOp .And (b::rest) pos) tb):PE X (.BoolOp .And (a::b::rest) pos) (tAndV ta tb):=by
 intro pins s σ H Q I h
 refine BoolOp_and (thn (ha pins s σ H _ I h) fun v s1 hz9=>?_)
 obtain ⟨x,H1,I1,r1,q1⟩:=hz9
 obtain ⟨c,rfl,q1⟩:=q1
 cases r1
 refine wpAny_truthy_bool ?_
 cases c with
 | true=>exact hb pins s1 σ H1 Q I1 q1
 | false=>exact ⟨.bl false,H1,I1,rfl,q1⟩
end
def SqL (K:Frag)(H:Hp)(a:Addr)(xs:List V):Prop:=
 Rd H a (.lst xs)∨
  ∃(o:Obj) (its:Array Value) (n:Nat),K.lookup a=some o∧o.cls=.type "list"∧o.dict=none∧o.data=.seq its n∧its.size≤sizeLine∧Vals xs its.toList
def SqT (K:Frag)(H:Hp)(a:Addr)(xs:List V):Prop:=
 Rd H a (.tup xs)∨
  ∃(o:Obj) (its:Array Value) (n:Nat),K.lookup a=some o∧o.cls=.type "tuple"∧o.data=.seq its n∧its.size≤sizeLine∧Vals xs its.toList
noncomputable def absV:Value→Option V
 | .none=>some .non
 | .bool b=>some (.bl b)
 | .int i _=>some (.int i)
 | .str x _=>some (.str x)
 | .bytes b _=>some (.byt b)
 | .float b _=>some (.flt b)
 | .ref a=>some (.ref a)
 | .type n=>some (.ty n)
 | _=>none
theorem RelV.abs {x:V}{u:Value}(r:RelV x u):absV u=some x:=by
 cases x with
 | non=>cases r;rfl
 | bl _=>cases r;rfl
 | int _=>obtain ⟨t,rfl⟩:=r;rfl
 | str _=>obtain ⟨t,rfl⟩:=r;rfl
 | byt _=>obtain ⟨t,rfl⟩:=r;rfl
 | flt _=>obtain ⟨t,rfl⟩:=r;rfl
 | ref _=>cases r;rfl
 | ty _=>cases r;rfl
theorem RelV.inj {x y:V}{u:Value}(r:RelV x u)(q:RelV y u):x=y:=Option.some.inj (r.abs.symm.trans q.abs)
theorem Vals.inj:∀{xs ys:List V} {us:List Value},Vals xs us→Vals ys us→xs=ys
 | _,_,_,.nil,.nil=>rfl
 | _,_,_,.cons r t,.cons r' t'=>by rw [r.inj r',Vals.inj t t']
section
variable {X:Cx}{pins:List (Addr×Obj)}{σ:St}{H:Hp}{s:Shared}{a:Addr}{xs ys:List V}
theorem SqL.of {K:Frag}(h:H a=some (.lst xs)):SqL K H a xs:=.inl (.inl h)
theorem SqT.of {K:Frag}(h:H a=some (.tup xs)):SqT K H a xs:=.inl (.inl h)
theorem Inv.list (I:Inv X pins σ H s)(h:SqL X.K H a xs):∃its:List Value,Vals xs its∧PlainL s.heap a its.toArray∧xs.length≤sizeLine:=by
 rcases h with h | ⟨o,its,n,hk,hc,hd,hs,hz,r⟩
 ·obtain ⟨z,its,n,r,e⟩:=h.ok I.hok
  exact ⟨its,r,⟨_,n,e,rfl,rfl,rfl⟩,z⟩
 ·refine ⟨its.toList,r,⟨o,n,I.kIn a o hk,hc,hd,by simpa using hs⟩,?_⟩
  have e:=r.length
  simp only [length_toList] at e
  omega
theorem Inv.tuple (I:Inv X pins σ H s)(h:SqT X.K H a xs):∃its:List Value,Vals xs its∧IsTup s.heap a its.toArray∧xs.length≤sizeLine:=by
 rcases h with h | ⟨o,its,n,hk,hc,hs,hz,r⟩
 ·obtain ⟨z,its,r,p⟩:=h.ok I.hok
  exact ⟨its,r,p,z⟩
 ·refine ⟨its.toList,r,⟨o,I.kIn a o hk,hc,n,by simpa using hs⟩,?_⟩
  have e:=r.length
  simp only [length_toList] at e
  omega
theorem Inv.list_inj (I:Inv X pins σ H s)(h:SqL X.K H a xs)(h':SqL X.K H a ys):xs=ys:=by
 obtain ⟨its,r,⟨o,n,e,_,_,d⟩,_⟩:=I.list h
 obtain ⟨its',r',⟨o',n',e',_,_,d'⟩,_⟩:=I.list h'
 rw [e] at e';cases e'
 rw [d] at d'
 injection d' with d1 _
 have:its=its':=by simpa using congrArg Array.toList d1
 subst this
 exact r.inj r'
end
noncomputable abbrev Cx.wish (X:Cx)(E:Value→Shared→Prop):Cx:={X with xe:=E}
noncomputable abbrev Cx.nox (X:Cx):Cx:=X.wish fun _ _=>False
theorem Cx.Ok.wish {X:Cx}(ok:X.Ok)(E:Value→Shared→Prop):(X.wish E).Ok:=
 ⟨ok.mod,ok.kind,ok.glob,ok.blt,ok.above,ok.inj,ok.has,ok.cab,ok.hd,ok.frames,ok.stk,ok.exf,ok.bs,ok.bsz,ok.noex,ok.exfs,ok.funs,ok.frf⟩
theorem Cx.Ok.unwish {X:Cx}{E:Value→Shared→Prop}(ok:(X.wish E).Ok):X.Ok:=
 ⟨ok.mod,ok.kind,ok.glob,ok.blt,ok.above,ok.inj,ok.has,ok.cab,ok.hd,ok.frames,ok.stk,ok.exf,ok.bs,ok.bsz,ok.noex,ok.exfs,ok.funs,ok.frf⟩
section
variable {X:Cx}{pins:List (Addr×Obj)}{σ:St}{H:Hp}{s:Shared}{E:Value→Shared→Prop}
theorem Inv.wish (I:Inv X pins σ H s)(E:Value→Shared→Prop):Inv (X.wish E) pins σ H s:=⟨I.ok.wish E,I.os,I.bare,I.base,I.loc,I.cell,I.free,I.freeC,I.pin,I.hok,I.len⟩
theorem Inv.unwish (I:Inv (X.wish E) pins σ H s):Inv X pins σ H s:=⟨I.ok.unwish,I.os,I.bare,I.base,I.loc,I.cell,I.free,I.freeC,I.pin,I.hok,I.len⟩
theorem SP.unwish {D:Ends}{f:Flow}{s':Shared}(h:SP (X.wish E) pins D f s'):SP X pins D f s':=by
 cases f with
 | next=>obtain ⟨σ',H',I,q⟩:=h;exact ⟨σ',H',I.unwish,q⟩
 | brk=>obtain ⟨σ',H',I,q⟩:=h;exact ⟨σ',H',I.unwish,q⟩
 | cont=>obtain ⟨σ',H',I,q⟩:=h;exact ⟨σ',H',I.unwish,q⟩
 | ret u=>obtain ⟨v,σ',H',I,r,q⟩:=h;exact ⟨v,σ',H',I.unwish,r,q⟩
theorem PSs.nox {st:List Stmt}{t:TS}(h:PSs X.nox st t):PSs X st t:=fun pins s σ H D I hw =>
 wpAny_mono (h pins s σ H D (I.wish _) hw) (fun _ _ q=>q.unwish) fun _ _ z=>False.elim z
end
section
variable {X:Cx}{st:Stmt}{rest:List Stmt}{t u:TS}{e:Expr}{te:TE}{pos:Pos}
def tNext:TS:=fun D σ H=>D.nx σ H
def tSeq (t u:TS):TS:=fun D σ H=>t {D with nx:=u D} σ H
theorem pss_nil:PSs X [] tNext:=fun _ _ σ H _ I h=>wpAny_execs_nil ⟨σ,H,I,h⟩
theorem pss_cons (h1:PS X st t)(h2:PSs X rest u):PSs X (st::rest) (tSeq t u):=by
 intro pins s σ H D I h
 refine wpAny_execs_cons (thn (h1 pins s σ H {D with nx:=u D} I h) fun f s1 q=>?_)
 cases f with
 | next =>
  obtain ⟨σ',H',I',q⟩:=q
  exact h2 pins s1 σ' H' D I' q
 | ret v=>exact q
 | brk=>exact q
 | cont=>exact q
theorem pss_one (h1:PS X st t):PSs X [st] t:=by
 intro pins s σ H D I h
 refine wpAny_execs_cons (thn (h1 pins s σ H D I h) fun f s1 q=>?_)
 cases f with
 | next=>exact wpAny_execs_nil q
 | ret v=>exact q
 | brk=>exact q
 | cont=>exact q
theorem Inv.quiet {pins:List (Addr×Obj)}{σ:St}{H:Hp}{s:Shared}(I:Inv X pins σ H s):interactive X.env=false:=by simp [interactive,I.ok.kind]
def tDrop (te:TE):TS:=fun D σ H=>te σ H fun _ H1=>D.nx σ H1
theorem ps_expr (he:PE X e te)(hs:swapsWith e none pos.line X.env=pure false:=by rfl):PS X (.Expr e pos) (tDrop te):=by
 intro pins s σ H D I h
 exact wpAny_Expr_any (thn (he pins s σ H _ I h) fun v s1 ⟨x,H1,I1,r1,q1⟩=>⟨σ,H1,I1,q1⟩) I.quiet hs
def tRet (te:TE):TS:=fun D σ H=>te σ H D.rt
theorem ps_ret (he:PE X e te):PS X (.Return (some e) pos) (tRet te):=by
 intro pins s σ H D I h
 exact wpAny_Return_some (thn (he pins s σ H _ I h) fun v s1 ⟨x,H1,I1,r1,q1⟩=>⟨x,σ,H1,I1,r1,q1⟩)
def tIfS (c:TT)(t u:TS):TS:=fun D σ H=>c σ H fun b H1=>if b=true then t D σ H1 else u D σ H1
theorem ps_if {c:Expr}{a b:List Stmt}{tc:TT}(hc:PT X c tc)(ha:PSs X a t)(hb:PSs X b u):PS X (.If c a b pos) (tIfS tc t u):=by
 intro pins s σ H D I h
 refine wpAny_If (thn (hc pins s σ H _ I h) fun d s1 ⟨H1,I1,q1⟩=>?_)
 cases d with
 | true=>exact ha pins s1 σ H1 D I1 q1
 | false=>exact hb pins s1 σ H1 D I1 q1
def tNever:TS:=fun _ _ _=>False
theorem ps_never:PS X st tNever:=fun _ _ _ _ _ _ h=>h.elim
end
noncomputable abbrev TG:=V→St→Hp→(St→Hp→Prop)→Prop
noncomputable abbrev TGs:=List V→St→Hp→(St→Hp→Prop)→Prop
def PG (X:Cx)(target:Expr)(t:TG):Prop:=
 ∀(pins:List (Addr×Obj)) (s:Shared) (σ:St) (H:Hp) (v:V) (u:Value) (Q:St→Hp→Prop),Inv X pins σ H s→RelV v u→t v σ H Q→
  wpAny (model X.prog X.w) X.A (assign target X.env u) (fun _ s'=>∃σ' H',Inv X pins σ' H' s'∧Q σ' H') X.xe s
def PGs (X:Cx)(ts:List Expr)(t:TGs):Prop:=
 ∀(pins:List (Addr×Obj)) (s:Shared) (σ:St) (H:Hp) (vs:List V) (us:List Value) (Q:St→Hp→Prop),Inv X pins σ H s→Vals vs us→t vs σ H Q→
  wpAny (model X.prog X.w) X.A (assignInOrder ((assignEach ts X.env).map (·.2)) us) (fun _ s'=>∃σ' H',Inv X pins σ' H' s'∧Q σ' H') X.xe s
noncomputable abbrev TSet:=V→V→V→Hp→(Hp→Prop)→Prop
section
variable {X:Cx}{pos:Pos}
noncomputable def gName (i:Nat):TG:=fun v σ H Q=>Q (σ.set i (some v)) H
theorem pg_name {i:Nat}{x:Str}(hN:X.N.Nodup)(hi:X.N[i]?=some x)(hx:Loc X.env.scope x)(hf:autoParam (X.fn x=true∨X.env.scope.names.lookup x=some .local) aT0._auto_1):PG X (.Name x pos) (gName i):=by
 intro pins s σ H v u Q I r h
 exact wpAny_assign_Name (store_ok I hN hi hx r (fun s' I'=>⟨_,H,I',h⟩) hf)
noncomputable def gNil:TGs:=fun vs σ H Q=>vs=[]∧Q σ H
noncomputable def gCons (t:TG)(u:TGs):TGs:=fun vs σ H Q=>∃v r,vs=v::r∧t v σ H fun σ' H'=>u r σ' H' Q
theorem pgs_nil:PGs X [] gNil:=by
 intro pins s σ H vs us Q I r h
 obtain ⟨e,h⟩:=h
 subst e
 cases r
 exact assignInOrder_nil ⟨σ,H,I,h⟩
theorem pgs_cons {e:Expr}{es:List Expr}{t:TG}{u:TGs}(h1:PG X e t)(h2:PGs X es u)
  (hs:(assignEach (e::es) X.env).map (·.2)=assign e X.env::(assignEach es X.env).map (·.2):=by rfl):PGs X (e::es) (gCons t u):=by
 intro pins s σ H vs us Q I r h
 obtain ⟨v,vr,e1,h⟩:=h
 subst e1
 cases r with
 | cons r rr =>
  rw [hs]
  refine assignInOrder_cons (thn (h1 pins s σ H _ _ _ I r h) fun _ s1 hz9=>?_)
  obtain ⟨σ1,H1,I1,q1⟩:=hz9
  exact h2 pins s1 σ1 H1 _ _ Q I1 rr q1
noncomputable def gTup (K:Frag)(n:Nat)(t:TGs):TG:=fun v σ H Q=>∃a xs,v=.ref a∧SqT K H a xs∧xs.length=n∧t xs σ H Q
theorem pg_tup {es:List Expr}{k:Nat}{t:TGs}{n:Nat}(hc:X.calm=true)(h:PGs X es t)
  (hn:(assignEach es X.env).length=n:=by rfl) (hst:(assignEach es X.env).findIdx? (·.1)=none:=by rfl):PG X (.Tuple es k pos) (gTup X.K n t):=by
 intro pins s σ H v u Q I r hw
 obtain ⟨a,xs,e1,hq,hl,hw⟩:=hw
 subst e1
 cases r
 obtain ⟨its,rv,ht,hz⟩:=I.tuple hq
 refine assign_Tuple_tuple (I.ok.hd hc) ht (by simp [hn,← hl,rv.length]) hst fun h' hx=>?_
 have I1:Inv X pins σ H {s with heap:=h'}:=I.kept (t':=s.toks) fun b o e=>hx b o (ne_of_lt (lt_size e)) e
 exact h pins _ σ H xs _ Q I1 (by simpa using rv) hw
noncomputable def gSub (to ti:TE)(t:TSet):TG:=fun v σ H Q=>to σ H fun o H1=>ti σ H1 fun i H2=>t o i v H2 fun H3=>Q σ H3
def tAsg (te:TE)(g:TG):TS:=fun D σ H=>te σ H fun x H1=>g x σ H1 D.nx
theorem ps_asg {tg e:Expr}{te:TE}{g:TG}(he:PE X e te)(hg:PG X tg g)(hs:swapsWithSole [tg] e pos.line X.env=pure false:=by rfl)(hw:swappedStores [tg] e X.env=pure none:=by rfl)
  (h1:(assignEach [tg] X.env).map (·.2)=[assign tg X.env]:=by rfl):PS X (.Assign [tg] e pos) (tAsg te g):=by
 intro pins s σ H D I h
 refine wpAny_Assign_stores (thn (he pins s σ H _ I h) fun v s1 hz9=>?_) hs hw
 obtain ⟨x,H1,I1,r1,q1⟩:=hz9
 rw [h1]
 exact thn (hg pins s1 σ H1 x v _ I1 r1 q1) fun _ s2 q=>q
theorem ps_set {i:Nat}{x:Str}{e:Expr}{te:TE}{pos':Pos}(hN:X.N.Nodup)(hi:X.N[i]?=some x)(hx:Loc X.env.scope x)(he:PE X e te)(hs:swapsWith e (some (.Name x pos')) pos.line X.env=pure false:=by rfl)(hf:autoParam (X.fn x=true∨X.env.scope.names.lookup x=some .local) aT0._auto_1) :
  PS X (.Assign [.Name x pos'] e pos) (tAsg te (gName i)):=by
 intro pins s σ H D I h
 refine wpAny_Assign_Name (thn (he pins s σ H _ I h) fun v s1 hz9=>?_) hs
 obtain ⟨y,H1,I1,r1,q1⟩:=hz9
 exact store_ok I1 hN hi hx r1 (fun s2 I2=>⟨_,H1,I2,q1⟩) hf
def tWhile (c:TT)(tb:TS):TS:=fun D σ H=>∃W:Nat→St→Hp→Prop,(∃m,W m σ H)∧∀m σ H,W m σ H→
 c σ H fun b H1=>if b=true then ∃N:St→Hp→Prop,(∀σ' H',N σ' H'→∃m',m'<m∧W m' σ' H')∧tb {D with nx:=N,ct:=N,bk:=D.nx} σ H1 else D.nx σ H1
theorem ps_while {c:Expr}{body:List Stmt}{tc:TT}{tb:TS}(hp:PassesOwn (model X.prog X.w) X.A X.env X.xe)(hc:PT X c tc)(hb:PSs X body tb):PS X (.While c body [] pos) (tWhile tc tb):=by
 intro pins s σ H D I h
 obtain ⟨W,⟨m0,w0⟩,turn⟩:=h
 refine wpAny_While (codeAny_whileLoop (fun n s'=>∃σ' H',Inv X pins σ' H' s'∧W n σ' H') ?_ m0 ⟨σ,H,I,w0⟩)
 rintro n s1 ⟨σ1,H1,I1,w1⟩
 refine wpAny_passesOwn hp (thn (hc pins s1 σ1 H1 _ I1 (turn n σ1 H1 w1)) fun b s2 ⟨H2,I2,q2⟩=>?_)
 cases b with
 | true =>
  obtain ⟨N,hN,q2⟩:=q2
  rw [if_pos rfl]
  refine wpAny_passesOwn hp (thn (hb pins s2 σ1 H2 _ I2 q2) fun f s3 q3=>?_)
  cases f with
  | next =>
   obtain ⟨σ3,H3,I3,n3⟩:=q3
   obtain ⟨m',hm,w3⟩:=hN σ3 H3 n3
   exact ⟨m',hm,σ3,H3,I3,w3⟩
  | cont =>
   obtain ⟨σ3,H3,I3,n3⟩:=q3
   obtain ⟨m',hm,w3⟩:=hN σ3 H3 n3
   exact ⟨m',hm,σ3,H3,I3,w3⟩
  | brk=>exact q3
  | ret v=>exact q3
 | false =>
  rw [if_neg Bool.false_ne_true]
  exact wpAny_execs_nil ⟨σ1,H2,I2,q2⟩
end
structure It where
 go:Nat→Hp→Prop
 yld:Nat→Hp→V→Hp→Prop
 stop:Nat→Hp→Prop
def FpOk (X:Cx)(pins:List (Addr×Obj))(H:Hp)(b:Addr):Prop:=
 H b=none∧b≠X.env.locals∧b∉X.fs∧(b∈X.ex∨X.s₀.heap.objs.size≤b)∧(∀x c,X.env.cells.lookup x=some c→c≠b)∧∀p∈X.pn++pins,p.1≠b
theorem Inv.fpOk {X:Cx}{pins:List (Addr×Obj)}{σ:St}{H H':Hp}{s:Shared}{b:Addr}(I:Inv X pins σ H s)(hb:s.heap.objs.size≤b)(hn:H' b=none):FpOk X pins H' b:=by
 refine ⟨hn,ne_of_gt (lt_of_lt_of_le I.lt hb),I.nofs hb,.inr (le_trans I.sz hb),fun x c e z=>?_,fun p hp z=>?_⟩
 ·obtain ⟨v,q⟩:=I.cell x c e
  exact absurd (lt_of_lt_of_le q.lt (by rw [z];exact hb)) (lt_irrefl _)
 ·exact absurd (lt_of_lt_of_le (lt_size (I.pin p hp).1) (by rw [z];exact hb)) (lt_irrefl _)
structure Turn (P:Program)(w:World)(K:Frag)(tg:Expr)(J:It)(fp:List Addr)(it:Addr)(tn:Nat→Heap→Prop):Prop where
  mem:it∈fp
  obj:∀i h,tn i h→∀b∈fp,∃o,h.get? b=some o∧∀v,o.data≠.cell v
  keep:∀i h h',tn i h→(∀b∈fp,∀o,h.get? b=some o→h'.get? b=some o)→tn i h'
  item:∀(X:Cx),X.prog=P→X.w=w→X.K=K→X.calm=true→∀(i:Nat) (pins:List (Addr×Obj)) (s:Shared) (σ:St) (H:Hp) (E:Value→Shared→Prop),Inv X pins σ H s→(∀b∈fp,FpOk X pins H b)→tn i s.heap→J.go i H→
    wpAny (model P w) X.A (pyNext (.ref it)) (fun r s1=>∃u,r=some u∧
      wpAny (model P w) X.A (letOwnedTupleGo tg (.ref it) u) (fun _ s2=>∃x H',Inv X pins σ H' s2∧RelV x u∧J.yld i H x H'∧tn (i+1) s2.heap∧∀b∈fp,H' b=none) E s1) E s
  done:∀(X:Cx),X.prog=P→X.w=w→X.K=K→X.calm=true→∀(i:Nat) (pins:List (Addr×Obj)) (s:Shared) (σ:St) (H:Hp) (E:Value→Shared→Prop),Inv X pins σ H s→(∀b∈fp,FpOk X pins H b)→tn i s.heap→J.stop i H→
    wpAny (model P w) X.A (pyNext (.ref it)) (fun r s1=>r=none∧Inv X pins σ H s1) E s
  self:∀(A:Around) (i:Nat) (s:Shared) (Q:Value→Shared→Prop) (E:Value→Shared→Prop),tn i s.heap→Q (.ref it) s→wpAny (model P w) A (pyIter (.ref it)) Q E s
noncomputable abbrev TI:=St→Hp→(It→Hp→Prop)→Prop
def PIE (X:Cx)(pins:List (Addr×Obj))(σ:St)(tg:Expr)(R:It→Hp→Prop)(itv:Value)(s2:Shared):Prop:=
 ∃(it:Addr) (fp:List Addr) (tn:Nat→Heap→Prop) (J:It) (H':Hp),itv=.ref it∧Inv X pins σ H' s2∧Turn X.prog X.w X.K tg J fp it tn∧tn 0 s2.heap∧(∀b∈fp,FpOk X pins H' b)∧R J H'
def PI (X:Cx)(tg iter:Expr)(wi:TI):Prop:=
 ∀(pins:List (Addr×Obj)) (s:Shared) (σ:St) (H:Hp) (R:It→Hp→Prop),Inv X pins σ H s→wi σ H R→
  wpAny (model X.prog X.w) X.A (eval iter X.env) (fun v s1=>wpAny (model X.prog X.w) X.A (pyIter v) (PIE X pins σ tg R) X.xe s1) X.xe s
theorem go_of {M:Model}{A:Around}{E:Value→Shared→Prop}{s:Shared}{tg:Expr}{it:Addr}{u:Value}{o:Obj}{n:String}{vs:Array Value}{Q:Unit→Shared→Prop}(ho:s.heap.get? it=some o)(hc:o.cls=.type n)(hd:o.data=.fields vs)
    (hn:["enumerate","zip","dict_itemiterator","dict_reverseitemiterator","odict_iterator","itertools.zip_longest","itertools.pairwise"].contains n=false) (hQ:Q () s):wpAny M A (letOwnedTupleGo tg (.ref it) u) Q E s:=by
  unfold letOwnedTupleGo
  cases tg<;>first
    | exact wpAny_pure hQ
    | (cases u<;>first
        | exact wpAny_pure hQ
        | (refine wpAny_bind (wpAny_load ho ?_)
           rw [hc,hd]
           show wpAny M A (if (["enumerate","zip","dict_itemiterator","dict_reverseitemiterator","odict_iterator","itertools.zip_longest","itertools.pairwise"].contains n&&vs[0]?==some (rawInt _))=true then _ else _) Q E s
           rw [if_neg (by intro h;rw [hn,Bool.false_and] at h;cases h)]
           exact wpAny_pure hQ))
noncomputable def Itl (K:Frag)(a:Addr):It:=
 ⟨fun i H=>∃xs x,SqL K H a xs∧xs[i]?=some x,fun i H x H'=>H'=H∧∀xs,SqL K H a xs→xs[i]?=some x,fun i H=>∃xs,SqL K H a xs∧xs.length≤i⟩
noncomputable def Itr (lo:Int)(n:Nat):It:=⟨fun i _=>i<n,fun i H x H'=>H'=H∧x=.int (lo+i),fun i _=>n≤i⟩
theorem turn_list {P:Program}{w:World}{K:Frag}{tg:Expr}(a it:Addr):Turn P w K tg (Itl K a) [it] it (fun i h=>h.IsListIter it a i) where
 mem:=by simp
 obj:=fun i h st b hb=>by
  have e:b=it:=by simpa using hb
  subst e
  obtain ⟨o,e,c,d⟩:=st
  exact ⟨o,e,fun v z=>by rw [d] at z;cases z⟩
 keep:=fun i h h' st k=>st.at fun o e=>k it (by simp) o e
 item:=by
  intro X hP hw hK hc i pins s σ H E I hf st hg
  subst hP hw hK
  obtain ⟨xs,x,hq,hx⟩:=hg
  obtain ⟨its,rv,p,hz⟩:=I.list hq
  obtain ⟨u,hu,ru⟩:=rv.get hx
  obtain ⟨f0,f1,f2,f3,f4,f5⟩:=hf it (by simp)
  refine wpAny_pyNext_list_item st p.isList (x:=u) (by simpa using hu) fun h' st' sb=>?_
  have I1:Inv X pins σ H {s with heap:=h'}:=I.turned (t':=s.toks) (fun b o hb e=>(sb.2 b hb).trans e) f0 f1 f3 f4 f5
  obtain ⟨o,e,c,d⟩:=id st'
  exact ⟨u,rfl,go_of (s:={s with heap:=h'}) e c d (by decide) ⟨x,H,I1,ru,⟨rfl,fun ys hy=>by rw [I.list_inj hy hq];exact hx⟩,st',fun b hb=>(hf b hb).1⟩⟩
 done:=by
  intro X hP hw hK hc i pins s σ H E I hf st hg
  subst hP hw hK
  obtain ⟨xs,hq,hx⟩:=hg
  obtain ⟨its,rv,p,hz⟩:=I.list hq
  obtain ⟨f0,f1,f2,f3,f4,f5⟩:=hf it (by simp)
  have hl:=rv.length
  exact wpAny_pyNext_list_end (I.ok.hd hc) st p.isList (by simp;omega) fun h' eb=>⟨rfl,I.turned (t':=s.toks) (fun b o hb e=>eb b o hb e) f0 f1 f3 f4 f5⟩
 self:=fun _ _ _ _ _ st h=>wpAny_pyIter_listiter st h
theorem turn_range {P:Program}{w:World}{K:Frag}{tg:Expr}(it:Addr)(lo:Int)(n:Nat):Turn P w K tg (Itr lo n) [it] it (fun i h=>IsRangeIter h it (lo+(i:Nat)*1) ((n:Int) - (i:Nat)) 1) where
  mem:=by simp
  obj:=fun i h st b hb=>by
    have e:b=it:=by simpa using hb
    subst e
    exact ⟨_,st,fun v z=>by
      have z':Data.fields _=Data.cell v:=z
      cases z'⟩
  keep:=fun i h h' st k=>k it (by simp) _ st
  item:=by
    intro X hP hw hK hc i pins s σ H E I hf st hg
    subst hP hw hK
    obtain ⟨f0,f1,f2,f3,f4,f5⟩:=hf it (by simp)
    have W:=Walks.range (prog:=X.prog) (w:=X.w) (I.ok.hd hc) it lo 1 n
    refine W.item i s _ _ hg st fun v h' tk hv st' kk=>?_
    obtain ⟨t,rfl⟩:=hv
    have I1:Inv X pins σ H {s with heap:=h',toks:=tk}:=I.turned (fun b o hb e=>kk b o (by simpa using hb) e) f0 f1 f3 f4 f5
    refine ⟨_,rfl,go_of (s:={s with heap:=h',toks:=tk}) (n:="range_iterator") st' rfl rfl (by decide) ⟨.int (lo+i),H,I1,⟨t,?_⟩,⟨rfl,rfl⟩,st',fun b hb=>(hf b hb).1⟩⟩
    rw [Int.mul_one]
  done:=by
    intro X hP hw hK hc i pins s σ H E I hf st hg
    subst hP hw hK
    obtain ⟨f0,f1,f2,f3,f4,f5⟩:=hf it (by simp)
    exact wpAny_pyNext_range_end (I.ok.hd hc) st (by have:n≤i:=hg;omega) fun h' eb=>⟨rfl,I.turned (t':=s.toks) (fun b o hb e=>eb b o hb e) f0 f1 f3 f4 f5⟩
  self:=fun _ _ _ _ _ st h=>wpAny_pyIter_rangeiter st h
section
variable {X:Cx}{tg:Expr}
noncomputable def iList (K:Frag)(tl:TE):TI:=fun σ H R=>tl σ H fun x H1=>∃a,x=.ref a∧(∃xs,SqL K H1 a xs)∧R (Itl K a) H1
theorem pi_list {l:Expr}{tl:TE}(hl:PE X l tl):PI X tg l (iList X.K tl):=by
 intro pins s σ H R I h
 refine thn (hl pins s σ H _ I h) fun v s1 hz9=>?_
 obtain ⟨x,H1,I1,r1,q1⟩:=hz9
 obtain ⟨a,e,⟨xs,hq⟩,q⟩:=q1
 subst e
 cases r1
 obtain ⟨its,rv,p,hz⟩:=I1.list hq
 refine wpAny_pyIter_list p.isList ?_
 refine ⟨s1.heap.objs.size,[s1.heap.objs.size],_,_,H1,rfl,I1.kept (t':=s1.toks) fun b o e=>get?_push_of_some _ e,turn_list a _,⟨_,get?_push_size _ rfl,rfl,rfl⟩,fun b hb=>?_,q⟩
 have e:b=s1.heap.objs.size:=by simpa using hb
 subst e
 exact I1.fpOk (le_refl _) (I1.hok.fresh (le_refl _))
theorem range_it {pins:List (Addr×Obj)}{σ:St}{H:Hp}{s:Shared}{R:It→Hp→Prop}{E:Value→Shared→Prop}{lo hi:Int}{t u v:Tok}{tk:Nat}(I:Inv X pins σ H s)(h1:-(2 ^ 62)≤lo)(h2:lo<2 ^ 62)(h3:-(2 ^ 62)≤hi)(h4:hi<2 ^ 62)
    (q:R (Itr lo (hi - lo).toNat) H):wpAny (model X.prog X.w) X.A (pyIter (.ref s.heap.objs.size)) (PIE X pins σ tg R) E {s with heap:=s.heap.push {cls:=.type "range",data:=.fields #[.int lo t,.int hi u,.int 1 v]},toks:=tk}:=by
  refine wpAny_pyIter_range (IsRange.new ..) (small_one h1 h2 h3 h4) ?_
  have I1:Inv X pins σ H {s with heap:=s.heap.push {cls:=.type "range",data:=.fields #[.int lo t,.int hi u,.int 1 v]},toks:=tk}:=I.kept fun b o e=>get?_push_of_some _ e
  refine ⟨(s.heap.push {cls:=.type "range",data:=.fields #[.int lo t,.int hi u,.int 1 v]}).objs.size,[(s.heap.push {cls:=.type "range",data:=.fields #[.int lo t,.int hi u,.int 1 v]}).objs.size],_,_,H,rfl,
    I1.kept (t':=tk) fun b o e=>get?_push_of_some _ e,turn_range _ lo (hi - lo).toNat,?_,fun b hb=>?_,q⟩
  · have e1:lo+((0:Nat):Int)*1=lo:=by simp
    have e2:(((hi - lo).toNat:Nat):Int) - ((0:Nat):Int)=Builtin.Range.rangeSize lo hi 1:=by rw [rangeSize_one];split<;>omega
    show IsRangeIter _ _ (lo+((0:Nat):Int)*1) ((((hi - lo).toNat:Nat):Int) - ((0:Nat):Int)) 1
    rw [e1,e2]
    exact get?_push_size _ rfl
  · have e:b=(s.heap.push {cls:=.type "range",data:=.fields #[.int lo t,.int hi u,.int 1 v]}).objs.size:=by simpa using hb
    subst e
    exact I1.fpOk (le_refl _) (I1.hok.fresh (le_refl _))
noncomputable def iRng1 (ta:TA):TI:=fun σ H R=>ta σ H fun vs H1=>∃j:Int,vs=[.int j]∧-(2 ^ 62)≤j∧j<2 ^ 62∧R (Itr 0 j.toNat) H1
noncomputable def iRng2 (ta:TA):TI:=fun σ H R=>ta σ H fun vs H1=>∃i j:Int,vs=[.int i,.int j]∧(-(2 ^ 62)≤i∧i<2 ^ 62∧-(2 ^ 62)≤j∧j<2 ^ 62)∧R (Itr i (j - i).toNat) H1
theorem pi_range1 {a:Expr}{ta:TA}{p pos:Pos}(hg:Gl X "range")(hm:X.mg "range"=none)(ha:PA X [a] ta)(hs:starEach [a] X.env=[(false,eval a X.env)]:=by rfl):PI X tg (.Call (.Name "range" p) [a] [] pos) (iRng1 ta):=by
 intro pins s σ H R I h
 refine Call_ (ld_blt I hg hm boot_range (PyProof.Rows.callWith_type1 (thn (ha pos pins s σ H _ I h) fun us s1 hz9=>?_) hs rfl))
 obtain ⟨vs,H1,I1,r1,q1⟩:=hz9
 obtain ⟨j,e,q1,q2,q⟩:=q1
 subst e
 cases r1 with
 | cons r rr =>
  cases rr
  obtain ⟨t,rfl⟩:=r
  exact call_range_1 (range_it I1 (by omega) (by omega) q1 q2 (by simpa using q))
theorem pi_range2 {a b:Expr}{ta:TA}{p pos:Pos}(hg:Gl X "range")(hm:X.mg "range"=none)(ha:PA X [a,b] ta)(hs:starEach [a,b] X.env=[(false,eval a X.env),(false,eval b X.env)]:=by rfl)(hs2:starEach [b] X.env=[(false,eval b X.env)]:=by rfl) :
  PI X tg (.Call (.Name "range" p) [a,b] [] pos) (iRng2 ta):=by
 intro pins s σ H R I h
 refine Call_ (ld_blt I hg hm boot_range (PyProof.Rows.callWith_type1 (thn (ha pos pins s σ H _ I h) fun us s1 hz9=>?_) (by rw [hs,hs2]) (by rw [hs2];rfl)))
 obtain ⟨vs,H1,I1,r1,q1⟩:=hz9
 obtain ⟨i,j,e,⟨q1,q2,q3,q4⟩,q⟩:=q1
 subst e
 cases r1 with
 | cons r rr =>
  cases rr with
  | cons r' rr =>
   cases rr
   obtain ⟨t,rfl⟩:=r
   obtain ⟨t',rfl⟩:=r'
   exact call_range_2 (range_it I1 q1 q2 q3 q4 q)
def tFor (wi:TI)(g:TG)(tb:TS):TS:=fun D σ H=>wi σ H fun J H1=>∃W:Nat→Nat→St→Hp→Prop,(∃m,W 0 m σ H1)∧∀i m σ H,W i m σ H→
 (J.stop i H∧D.nx σ H)∨(J.go i H∧∃N:St→Hp→Prop,(∀σ' H',N σ' H'→∃m',m'<m∧W (i+1) m' σ' H')∧∀x H',J.yld i H x H'→g x σ H' fun σ2 H2=>tb {D with nx:=N,ct:=N,bk:=D.nx} σ2 H2)
noncomputable def pinsAt (fp:List Addr)(h:Heap):List (Addr×Obj):=fp.filterMap fun b=>(h.get? b).map fun o=>(b,o)
theorem mem_pinsAt {fp:List Addr}{h:Heap}{b:Addr}{o:Obj}(hb:b∈fp)(e:h.get? b=some o):(b,o)∈pinsAt fp h:=List.mem_filterMap.mpr ⟨b,hb,by rw [e];rfl⟩
theorem of_pinsAt {fp:List Addr}{h:Heap}{p:Addr×Obj}(hp:p∈pinsAt fp h):p.1∈fp∧h.get? p.1=some p.2:=by
 obtain ⟨b,hb,e⟩:=List.mem_filterMap.mp hp
 cases q:h.get? b with
 | none=>rw [q] at e;cases e
 | some o =>
  rw [q] at e
  have e':(b,o)=p:=Option.some.inj e
  subst e'
  exact ⟨hb,q⟩
theorem Inv.pinned {pins:List (Addr×Obj)}{σ:St}{H:Hp}{s:Shared}{fp:List Addr}(I:Inv X pins σ H s)(hf:∀b∈fp,FpOk X pins H b)(ho:∀b∈fp,∃o,s.heap.get? b=some o∧∀v,o.data≠.cell v):Inv X (pins++pinsAt fp s.heap) σ H s:=
 I.pins_of fun p hp=>(List.mem_append.mp hp).elim (fun z=>I.pin p (mem_append_right _ z)) fun z=>by
  obtain ⟨hb,e⟩:=of_pinsAt z
  obtain ⟨f0,f1,f2,_⟩:=hf p.1 hb
  obtain ⟨o,e',d⟩:=ho p.1 hb
  rw [e] at e';cases e'
  exact ⟨e,f0,f1,f2,d⟩
theorem Inv.unpinned {pins pl:List (Addr×Obj)}{σ:St}{H:Hp}{s:Shared}(I:Inv X (pins++pl) σ H s):Inv X pins σ H s:=I.pins_of fun p hp=>I.pin p (mem_append_right _ (mem_append_left _ hp))
theorem ps_for {iter:Expr}{body:List Stmt}{wi:TI}{g:TG}{tb:TS}{pos:Pos}(hp:PassesOwn (model X.prog X.w) X.A X.env X.xe)(hc:X.calm=true)(hi:PI X tg iter wi)(hg:PG X tg g)(hb:PSs X body tb)
  (hs:∀x,foldedSetIterable iter X.env x=pure x:=by intro _;rfl):PS X (.For tg iter body [] pos) (tFor wi g tb):=by
 intro pins s σ H D I h
 refine wpAny_For (thn (hi pins s σ H _ I h) fun v s1 h1=>thn h1 fun itv s2 h2=>?_) hs
 obtain ⟨it,fp,tn,J,H2,e,I2,T,st2,f2,W,⟨m0,w0⟩,turn⟩:=h2
 subst e
 have stat:∀{H':Hp},(∀b∈fp,H' b=none)→∀b∈fp,FpOk X pins H' b:=fun hn b hb=>⟨hn b hb,(f2 b hb).2⟩
 refine codeAny_forLoop_any (fun n s'=>∃i σ' H',Inv X pins σ' H' s'∧tn i s'.heap∧(∀b∈fp,H' b=none)∧W i n σ' H') ?_ m0 ⟨0,σ,H2,I2,st2,fun b hb=>(f2 b hb).1,w0⟩
 rintro n s3 ⟨i,σ3,H3,I3,st3,fr3,w3⟩
 rcases turn i n σ3 H3 w3 with ⟨stop,qn⟩ | ⟨go,N,hN,step⟩
 ·refine wpAny_passesOwn hp (thn (T.done X rfl rfl rfl hc i pins s3 σ3 H3 X.xe I3 (stat fr3) st3 stop) fun r s4 ⟨hr,I4⟩=>?_)
  subst hr
  exact wpAny_execs_nil ⟨σ3,H3,I4,qn⟩
 ·refine wpAny_passesOwn hp (thn (T.item X rfl rfl rfl hc i pins s3 σ3 H3 X.xe I3 (stat fr3) st3 go) fun r s4 ⟨u,hr,h4⟩=>?_)
  subst hr
  refine wpAny_passesOwn hp (thn h4 fun _ s5 hz9=>?_)
  obtain ⟨x,H5,I5,r5,y5,st5,fr5⟩:=hz9
  have I5':=I5.pinned (stat fr5) (T.obj _ _ st5)
  refine wpAny_passesOwn hp (thn (hg _ s5 σ3 H5 x u _ I5' r5 (step x H5 y5)) fun _ s6 hz9=>?_)
  obtain ⟨σ6,H6,I6,q6⟩:=hz9
  refine wpAny_passesOwn hp (thn (hb _ s6 σ6 H6 _ I6 q6) fun f s7 q7=>?_)
  have again:∀{σ7:St} {H7:Hp},Inv X (pins++pinsAt fp s5.heap) σ7 H7 s7→N σ7 H7→∃m,m<n∧∃i σ' H',Inv X pins σ' H' s7∧tn i s7.heap∧(∀b∈fp,H' b=none)∧W i m σ' H':=fun {σ7 H7} I7 n7=>by
   obtain ⟨m',hm,w7⟩:=hN σ7 H7 n7
   refine ⟨m',hm,i+1,σ7,H7,I7.unpinned,T.keep _ _ _ st5 fun b hb o e=>(I7.pin (b,o) (mem_append_right _ (mem_append_right _ (mem_pinsAt hb e)))).1,fun b hb=>?_,w7⟩
   obtain ⟨o,e,d⟩:=T.obj _ _ st5 b hb
   exact (I7.pin (b,o) (mem_append_right _ (mem_append_right _ (mem_pinsAt hb e)))).2.1
  cases f with
  | next=>obtain ⟨σ7,H7,I7,n7⟩:=q7;exact again I7 n7
  | cont=>obtain ⟨σ7,H7,I7,n7⟩:=q7;exact again I7 n7
  | brk=>obtain ⟨σ7,H7,I7,q7⟩:=q7;exact ⟨σ7,H7,I7.unpinned,q7⟩
  | ret v=>obtain ⟨x7,σ7,H7,I7,r7,q7⟩:=q7;exact ⟨x7,σ7,H7,I7.unpinned,r7,q7⟩
end
noncomputable abbrev R2:=V→V→Hp→VK→Prop
def OpR (X:Cx)(f:Value→Value→Sem Value)(r:R2):Prop:=
 ∀(pins:List (Addr×Obj)) (s:Shared) (σ:St) (H:Hp) (x y:V) (v u:Value) (Q:VK),Inv X pins σ H s→RelV x v→RelV y u→r x y H Q→
  wpAny (model X.prog X.w) X.A (f v u) (EP X pins σ Q) X.xe s
def UnR (X:Cx)(f:Value→Sem Value)(r:V→Hp→VK→Prop):Prop:=
 ∀(pins:List (Addr×Obj)) (s:Shared) (σ:St) (H:Hp) (x:V) (v:Value) (Q:VK),Inv X pins σ H s→RelV x v→r x H Q→
  wpAny (model X.prog X.w) X.A (f v) (EP X pins σ Q) X.xe s
def CallR (X:Cx)(f:Value)(r:List V→Hp→VK→Prop):Prop:=
 ∀(pins:List (Addr×Obj)) (s:Shared) (σ:St) (H:Hp) (xs:List V) (us:List Value) (Q:VK),Inv X pins σ H s→Vals xs us→r xs H Q→
  wpAny (model X.prog X.w) X.A (call f us) (EP X pins σ Q) X.xe s
def tOp (r:R2)(ta tb:TE):TE:=fun σ H Q=>ta σ H fun x H1=>tb σ H1 fun y H2=>r x y H2 Q
def tUn (r:V→Hp→VK→Prop)(ta:TE):TE:=fun σ H Q=>ta σ H fun x H1=>r x H1 Q
noncomputable def rI (C:Int→Int→Prop)(g:Int→Int→V):R2:=fun x y H Q=>∃i j,x=.int i∧y=.int j∧C i j∧Q (g i j) H
noncomputable def rI0 (g:Int→Int→V):R2:=fun x y H Q=>∃i j,x=.int i∧y=.int j∧Q (g i j) H
def rU (g:Int→V):V→Hp→VK→Prop:=fun x H Q=>∃i,x=.int i∧Q (g i) H
section
variable {X:Cx}{a b c:Expr}{ta tb tc:TE}{pos:Pos}
theorem binT (ha:PE X a ta)(hb:PE X b tb){pins:List (Addr×Obj)}{s:Shared}{σ:St}{H:Hp}{R:V→V→Hp→Prop}(I:Inv X pins σ H s)
  (h:ta σ H fun x H1=>tb σ H1 fun y H2=>R x y H2) {Q:Value→Shared→Prop} {f:Value→Value→Sem Value}
  (hf:∀v u s2 x y H2,Inv X pins σ H2 s2→RelV x v→RelV y u→R x y H2→wpAny (model X.prog X.w) X.A (f v u) Q X.xe s2) :
  wpAny (model X.prog X.w) X.A (eval a X.env) (fun v s₁=>wpAny (model X.prog X.w) X.A (eval b X.env) (fun u s₂=>wpAny (model X.prog X.w) X.A (f v u) Q X.xe s₂) X.xe s₁) X.xe s:=by
 refine thn (ha pins s σ H _ I h) fun v s1 hz9=>?_
 obtain ⟨x,H1,I1,r1,q1⟩:=hz9
 refine thn (hb pins s1 σ H1 _ I1 q1) fun u s2 hz9=>?_
 obtain ⟨y,H2,I2,r2,q2⟩:=hz9
 exact hf v u s2 x y H2 I2 r1 r2 q2
theorem pe_op {op:Operator}{r:R2}(ho:OpR X (binaryOp op) r)(ha:PE X a ta)(hb:PE X b tb):PE X (.BinOp a op b pos) (tOp r ta tb):=by
 intro pins s σ H Q I h
 exact wpAny_BinOp (binT ha hb I h fun v u s2 x y H2 I2 rx ry q=>ho pins s2 σ H2 x y v u Q I2 rx ry q)
theorem pe_un {op:UnaryOp}{r:V→Hp→VK→Prop}(ho:UnR X (unaryOp op) r)(ha:PE X a ta):PE X (.UnaryOp op a pos) (tUn r ta):=by
 intro pins s σ H Q I h
 exact UnaryOp_ (thn (ha pins s σ H _ I h) fun v s1 ⟨x,H1,I1,r1,q1⟩=>ho pins s1 σ H1 x v Q I1 r1 q1)
theorem opI {f:Value→Value→Sem Value}{C:Int→Int→Prop}{g:Int→Int→Int}
  (rule:∀(i j:Int) (t u:Tok) (s:Shared) (Q:Value→Shared→Prop) (E:Value→Shared→Prop),C i j→Q (.int (g i j) s.toks) {s with toks:=s.toks+1}→wpAny (model X.prog X.w) X.A (f (.int i t) (.int j u)) Q E s) :
  OpR X f (rI C fun i j=>.int (g i j)):=by
 intro pins s σ H x y v u Q I rx ry h
 obtain ⟨i,j,rfl,rfl,hc,q⟩:=h
 obtain ⟨t,rfl⟩:=rx
 obtain ⟨t',rfl⟩:=ry
 exact rule i j t t' s _ _ hc ⟨.int (g i j),H,I.tok _,⟨_,rfl⟩,q⟩
theorem opI0 {f:Value→Value→Sem Value}{g:Int→Int→Int}
  (rule:∀(i j:Int) (t u:Tok) (s:Shared) (Q:Value→Shared→Prop) (E:Value→Shared→Prop),Q (.int (g i j) s.toks) {s with toks:=s.toks+1}→wpAny (model X.prog X.w) X.A (f (.int i t) (.int j u)) Q E s) :
  OpR X f (rI0 fun i j=>.int (g i j)):=by
 intro pins s σ H x y v u Q I rx ry h
 obtain ⟨i,j,rfl,rfl,q⟩:=h
 obtain ⟨t,rfl⟩:=rx
 obtain ⟨t',rfl⟩:=ry
 exact rule i j t t' s _ _ ⟨.int (g i j),H,I.tok _,⟨_,rfl⟩,q⟩
theorem opB0 {f:Value→Value→Sem Value}{g:Int→Int→Bool}
  (rule:∀(i j:Int) (t u:Tok) (s:Shared) (Q:Value→Shared→Prop) (E:Value→Shared→Prop),Q (.bool (g i j)) s→wpAny (model X.prog X.w) X.A (f (.int i t) (.int j u)) Q E s) :
  OpR X f (rI0 fun i j=>.bl (g i j)):=by
 intro pins s σ H x y v u Q I rx ry h
 obtain ⟨i,j,rfl,rfl,q⟩:=h
 obtain ⟨t,rfl⟩:=rx
 obtain ⟨t',rfl⟩:=ry
 exact rule i j t t' s _ _ ⟨.bl (g i j),H,I,rfl,q⟩
def CPow (i j:Int):Prop:=0≤j∧j≤1000000∧i.natAbs<2 ^ 64
def CMul (i j:Int):Prop:=(-(2 ^ 64)<i∧i<2 ^ 64)∨(-(2 ^ 64)<j∧j<2 ^ 64)
theorem CMul.ok {i j:Int}(h:CMul i j):IntMulOk i j:=by
 rcases h with ⟨h1,h2⟩ | ⟨h1,h2⟩
 ·exact .of_left (intBits_le_64 h1 h2)
 ·exact .of_right (intBits_le_64 h1 h2)
theorem op_add:OpR X (binaryOp .Add) (rI0 fun i j=>.int (i+j)):=opI0 fun _ _ _ _ _ _ _ q=>add_int q
theorem op_sub:OpR X (binaryOp .Sub) (rI0 fun i j=>.int (i - j)):=opI0 fun _ _ _ _ _ _ _ q=>sub_int q
theorem op_mul:OpR X (binaryOp .Mult) (rI CMul fun i j=>.int (i*j)):=opI fun _ _ _ _ _ _ _ hc q=>mul_int q hc.ok
theorem op_mod:OpR X (binaryOp .Mod) (rI (fun _ j=>0<j) fun i j=>.int (i % j)):=opI fun i j _ _ _ _ _ hc q=>by
 have h1:(0:Int)<j:=hc
 exact mod_int' (by omega) (by rw [Int.fmod_eq_emod_of_nonneg i (by omega)];exact q)
theorem op_pow:OpR X (binaryOp .Pow) (rI CPow fun i j=>.int (i ^ j.toNat)):=opI fun _ _ _ _ _ _ _ hc q=>pow_int_small hc.1 hc.2.1 hc.2.2 q
theorem unI {f:Value→Sem Value}{g:Int→Int}
  (rule:∀(i:Int) (t:Tok) (s:Shared) (Q:Value→Shared→Prop) (E:Value→Shared→Prop),Q (.int (g i) s.toks) {s with toks:=s.toks+1}→wpAny (model X.prog X.w) X.A (f (.int i t)) Q E s) :
  UnR X f (rU fun i=>.int (g i)):=by
 intro pins s σ H x v Q I rx h
 obtain ⟨i,rfl,q⟩:=h
 obtain ⟨t,rfl⟩:=rx
 exact rule i t s _ _ ⟨.int (g i),H,I.tok _,⟨_,rfl⟩,q⟩
theorem un_neg:UnR X (unaryOp .USub) (rU fun i=>.int (-i)):=unI fun _ _ _ _ _ q=>neg_int q
end
noncomputable def scal:V→V→Bool
 | .non,.non=>true | .non,.int _=>true | .int _,.non=>true | .non,.bl _=>true | .bl _,.non=>true | .non,.str _=>true | .str _,.non=>true
 | .int _,.int _=>true | .bl _,.bl _=>true | .str _,.str _=>true | .byt _,.byt _=>true
 | .int _,.str _=>true | .str _,.int _=>true | .bl _,.str _=>true | .str _,.bl _=>true
 | _,_=>false
noncomputable def rEq:R2:=fun x y H Q=>scal x y=true∧Q (.bl (decide (x=y))) H
noncomputable def rNe:R2:=fun x y H Q=>scal x y=true∧Q (.bl (!decide (x=y))) H
theorem dec_int {i j:Int}:decide (V.int i=V.int j)=(i==j):=by
 rw [Bool.eq_iff_iff]
 simp
theorem dec_bl {i j:Bool}:decide (V.bl i=V.bl j)=(i==j):=by
 rw [Bool.eq_iff_iff]
 simp
theorem dec_str {i j:Str}:decide (V.str i=V.str j)=(i==j):=by
 rw [Bool.eq_iff_iff]
 simp
theorem dec_byt {i j:Array UInt8}:decide (V.byt i=V.byt j)=(i.toList==j.toList):=by
 rw [Bool.eq_iff_iff]
 cases i
 cases j
 simp
section
variable {X:Cx}{a b c:Expr}{ta tb tc:TE}{pos:Pos}
theorem fin_bl {pins:List (Addr×Obj)}{σ:St}{H:Hp}{s:Shared}{Q:VK}{k k':Bool}(I:Inv X pins σ H s)(q:Q (.bl k) H)(e:k=k'):EP X pins σ Q (.bool k') s:=by
 subst e
 exact ⟨.bl k,H,I,rfl,q⟩
theorem op_eq:OpR X (compareOp .Eq) rEq:=by
 intro pins s σ H x y v u Q I rx ry h
 obtain ⟨hs,q⟩:=h
 cases x with
 | non =>
  cases rx
  cases y with
  | non=>cases ry;exact PySem.EqNone.eq_none_none (fin_bl I q (by simp))
  | bl j=>cases ry;exact PySem.EqNone.eq_none_bool (fin_bl I q (by simp))
  | int j=>obtain ⟨t',rfl⟩:=ry;exact PySem.EqNone.eq_none_int (fin_bl I q (by simp))
  | str j=>obtain ⟨t',rfl⟩:=ry;exact PySem.EqNone.eq_none_str (fin_bl I q (by simp))
  | _=>exact absurd (show false=true from hs) Bool.false_ne_true
 | bl i =>
  cases rx
  cases y with
  | non=>cases ry;exact PySem.EqNone.eq_bool_none (fin_bl I q (by simp))
  | bl j=>cases ry;exact eq_bool (fin_bl I q dec_bl)
  | str j=>obtain ⟨t',rfl⟩:=ry;exact PySem.EqMixed.eq_bool_str (fin_bl I q (by simp))
  | _=>exact absurd (show false=true from hs) Bool.false_ne_true
 | int i =>
  obtain ⟨t,rfl⟩:=rx
  cases y with
  | non=>cases ry;exact PySem.EqNone.eq_int_none (fin_bl I q (by simp))
  | int j=>obtain ⟨t',rfl⟩:=ry;exact eq_int (fin_bl I q dec_int)
  | str j=>obtain ⟨t',rfl⟩:=ry;exact PySem.EqMixed.eq_int_str (fin_bl I q (by simp))
  | _=>exact absurd (show false=true from hs) Bool.false_ne_true
 | str i =>
  obtain ⟨t,rfl⟩:=rx
  cases y with
  | non=>cases ry;exact PySem.EqNone.eq_str_none (fin_bl I q (by simp))
  | bl j=>cases ry;exact PySem.EqMixed.eq_str_bool (fin_bl I q (by simp))
  | int j=>obtain ⟨t',rfl⟩:=ry;exact PySem.EqMixed.eq_str_int (fin_bl I q (by simp))
  | str j=>obtain ⟨t',rfl⟩:=ry;exact eq_str (fin_bl I q dec_str)
  | _=>exact absurd (show false=true from hs) Bool.false_ne_true
 | byt i =>
  obtain ⟨t,rfl⟩:=rx
  cases y with
  | byt j=>obtain ⟨t',rfl⟩:=ry;exact PySem.W.eq_bytes (fin_bl I q dec_byt)
  | _=>exact absurd (show false=true from hs) Bool.false_ne_true
 | _=>cases y<;>exact absurd (show false=true from hs) Bool.false_ne_true
theorem op_ne:OpR X (compareOp .NotEq) rNe:=by
 intro pins s σ H x y v u Q I rx ry h
 obtain ⟨hs,q⟩:=h
 cases x with
 | non =>
  cases rx
  cases y with
  | non=>cases ry;exact PySem.EqNone.ne_none_none (fin_bl I q (by simp))
  | bl j=>cases ry;exact PySem.EqNone.ne_none_bool (fin_bl I q (by simp))
  | int j=>obtain ⟨t',rfl⟩:=ry;exact PySem.EqNone.ne_none_int (fin_bl I q (by simp))
  | str j=>obtain ⟨t',rfl⟩:=ry;exact PySem.EqNone.ne_none_str (fin_bl I q (by simp))
  | _=>exact absurd (show false=true from hs) Bool.false_ne_true
 | bl i =>
  cases rx
  cases y with
  | non=>cases ry;exact PySem.EqNone.ne_bool_none (fin_bl I q (by simp))
  | bl j=>cases ry;exact ne_bool (fin_bl I q (congrArg not dec_bl))
  | str j=>obtain ⟨t',rfl⟩:=ry;exact PySem.EqMixed.ne_bool_str (fin_bl I q (by simp))
  | _=>exact absurd (show false=true from hs) Bool.false_ne_true
 | int i =>
  obtain ⟨t,rfl⟩:=rx
  cases y with
  | non=>cases ry;exact PySem.EqNone.ne_int_none (fin_bl I q (by simp))
  | int j=>obtain ⟨t',rfl⟩:=ry;exact ne_int (fin_bl I q (congrArg not dec_int))
  | str j=>obtain ⟨t',rfl⟩:=ry;exact PySem.EqMixed.ne_int_str (fin_bl I q (by simp))
  | _=>exact absurd (show false=true from hs) Bool.false_ne_true
 | str i =>
  obtain ⟨t,rfl⟩:=rx
  cases y with
  | non=>cases ry;exact PySem.EqNone.ne_str_none (fin_bl I q (by simp))
  | bl j=>cases ry;exact PySem.EqMixed.ne_str_bool (fin_bl I q (by simp))
  | int j=>obtain ⟨t',rfl⟩:=ry;exact PySem.EqMixed.ne_str_int (fin_bl I q (by simp))
  | str j=>obtain ⟨t',rfl⟩:=ry;exact ne_str (fin_bl I q (congrArg not dec_str))
  | _=>exact absurd (show false=true from hs) Bool.false_ne_true
 | byt i =>
  obtain ⟨t,rfl⟩:=rx
  cases y with
  | byt j=>obtain ⟨t',rfl⟩:=ry;exact PySem.W.ne_bytes (fin_bl I q (congrArg not dec_byt))
  | _=>exact absurd (show false=true from hs) Bool.false_ne_true
 | _=>cases y<;>exact absurd (show false=true from hs) Bool.false_ne_true
theorem op_lt:OpR X (compareOp .Lt) (rI0 fun i j=>.bl (decide (i<j))):=opB0 fun _ _ _ _ _ _ _ q=>lt_int q
theorem op_le:OpR X (compareOp .LtE) (rI0 fun i j=>.bl (decide (i≤j))):=opB0 fun _ _ _ _ _ _ _ q=>le_int q
theorem op_gt:OpR X (compareOp .Gt) (rI0 fun i j=>.bl (decide (j<i))):=opB0 fun _ _ _ _ _ _ _ q=>gt_int q
theorem op_ge:OpR X (compareOp .GtE) (rI0 fun i j=>.bl (decide (j≤i))):=opB0 fun _ _ _ _ _ _ _ q=>ge_int q
theorem op_isN:OpR X (compareOp .Is) (fun x y H Q=>y=.non∧Q (.bl (decide (x=.non))) H):=by
 intro pins s σ H x y v u Q I rx ry h
 obtain ⟨rfl,q⟩:=h
 cases ry
 refine is_none_gen (fin_bl I q ?_)
 cases x<;>first
  | (cases rx;rfl)
  | (obtain ⟨t,rfl⟩:=rx;rfl)
theorem op_notN:OpR X (compareOp .IsNot) (fun x y H Q=>y=.non∧Q (.bl (!decide (x=.non))) H):=by
 intro pins s σ H x y v u Q I rx ry h
 obtain ⟨rfl,q⟩:=h
 cases ry
 refine isnot_none_gen (fin_bl I q ?_)
 cases x<;>first
  | (cases rx;rfl)
  | (obtain ⟨t,rfl⟩:=rx;rfl)
theorem OpR.or {f:Value→Value→Sem Value}{r r':R2}(h:OpR X f r)(h':OpR X f r'):OpR X f (fun x y H Q=>r x y H Q∨r' x y H Q):=by
 intro pins s σ H x y v u Q I rx ry q
 rcases q with q | q
 ·exact h pins s σ H x y v u Q I rx ry q
 ·exact h' pins s σ H x y v u Q I rx ry q
theorem nomark (b:Expr){op:CmpOp}(h:op≠.In:=by decide)(h2:op≠.NotIn:=by decide):behindInMarks op b=false:=by
 have e1:(op==CmpOp.In)=false:=by cases op<;>first | rfl | exact absurd rfl h
 have e2:(op==CmpOp.NotIn)=false:=by cases op<;>first | rfl | exact absurd rfl h2
 cases b<;>simp [behindInMarks,e1,e2]
theorem pe_cmpR {op:CmpOp}{r:R2}(ho:OpR X (compareOp op) r)(ha:PE X a ta)(hb:PE X b tb)(hm:behindInMarks op b=false):PE X (.Compare a [op] [b] pos) (tOp r ta tb):=by
 intro pins s σ H Q I h
 exact wpAny_Compare1 (binT ha hb I h fun v u s2 x y H2 I2 rx ry q=>ho pins s2 σ H2 x y v u Q I2 rx ry q) hm
def tTest (t:TE):TT:=fun σ H Q=>t σ H fun x H'=>∃k,x=.bl k∧Q k H'
theorem pt_cmpR {op:CmpOp}{r:R2}(ho:OpR X (compareOp op) r)(ha:PE X a ta)(hb:PE X b tb)(hm:behindInMarks op b=false):PT X (.Compare a [op] [b] pos) (tTest (tOp r ta tb)):=by
  intro pins s σ H Q I h
  refine wpAny_isTrue_Compare1 (thn (ha pins s σ H _ I h) fun v s1 ⟨x,H1,I1,r1,q1⟩=>thn (hb pins s1 σ H1 _ I1 q1) fun u s2 ⟨y,H2,I2,r2,q2⟩ =>
    thn (ho pins s2 σ H2 x y v u _ I2 r1 r2 q2) fun c s3 ⟨z,H3,I3,r3,k,e,q3⟩=>?_) hm
  subst e
  cases r3
  exact wpAny_truthy_bool ⟨H3,I3,q3⟩
theorem line63:(sizeLine:Nat)<2 ^ 63:=by rw [sizeLine_eq];decide
theorem op_add_str:OpR X (binaryOp .Add) (fun x y H Q=>∃i j,x=.str i∧y=.str j∧i.length+j.length≤sizeLine∧Q (.str (i++j)) H):=by
 intro pins s σ H x y v u Q I rx ry h
 obtain ⟨i,j,rfl,rfl,hz,q⟩:=h
 obtain ⟨t,rfl⟩:=rx
 obtain ⟨t',rfl⟩:=ry
 exact add_str (fun t' tk=>⟨.str (i++j),H,I.tok _,⟨_,rfl⟩,q⟩) hz
theorem vals1 {x:V}{us:List Value}(r:Vals [x] us):∃u,us=[u]∧RelV x u:=by
 cases r with
 | cons r1 r2=>cases r2;exact ⟨_,rfl,r1⟩
theorem vals2 {x y:V}{us:List Value}(r:Vals [x,y] us):∃u w',us=[u,w']∧RelV x u∧RelV y w':=by
 cases r with
 | cons r1 r2 =>
  cases r2 with
  | cons r3 r4=>cases r4;exact ⟨_,_,rfl,r1,r3⟩
theorem call_max2 (hc:X.calm=true):CallR X (.builtin "max") (fun xs H Q=>∃i j,xs=[.int i,.int j]∧Q (.int (if j > i then j else i)) H):=by
 intro pins s σ H xs us Q I r h
 obtain ⟨i,j,rfl,q⟩:=h
 obtain ⟨u,w',rfl,⟨t,rfl⟩,⟨t',rfl⟩⟩:=vals2 r
 refine max_two_ints (I.ok.hd hc) fun h' tk k=>⟨_,H,I.kept k,?_,q⟩
 by_cases hj:j > i
 ·rw [if_pos hj,if_pos hj];exact ⟨_,rfl⟩
 ·rw [if_neg hj,if_neg hj];exact ⟨_,rfl⟩
theorem call_min2 (hc:X.calm=true):CallR X (.builtin "min") (fun xs H Q=>∃i j,xs=[.int i,.int j]∧Q (.int (if j<i then j else i)) H):=by
 intro pins s σ H xs us Q I r h
 obtain ⟨i,j,rfl,q⟩:=h
 obtain ⟨u,w',rfl,⟨t,rfl⟩,⟨t',rfl⟩⟩:=vals2 r
 refine min_two_ints (I.ok.hd hc) fun h' tk k=>⟨_,H,I.kept k,?_,q⟩
 by_cases hj:j<i
 ·rw [if_pos hj,if_pos hj];exact ⟨_,rfl⟩
 ·rw [if_neg hj,if_neg hj];exact ⟨_,rfl⟩
end
structure ObjM (h:Heap)(x dx C:Addr)(mA:Str→Option Value):Prop where
 obj:h.get? x=some (instObj C dx)
 ns:h.Ns1 dx mA
 ne:dx≠x
theorem lookIn_ns {h:Heap}{dx:Addr}{mA:Str→Option Value}(n:h.Ns1 dx mA):∃od,h.get? dx=some od∧∀name,lookIn name od=some (mA name):=by
 obtain ⟨o,es,ep,ho,hd,hk,_,hm⟩:=n
 refine ⟨o,ho,fun name=>?_⟩
 have e:=hm name
 unfold nsFind findBy at e
 rw [← Array.find?_toList] at e
 unfold lookIn
 rw [hd]
 dsimp only
 split
 ·rename_i y q
  rw [q] at e
  exact congrArg some e
 ·rename_i q
  rw [q] at e
  have a:es.toList.any (·.refKey)=false:=by
   rw [List.any_eq_false]
   intro y hy
   obtain ⟨z,t,hkey⟩:=hk y (Array.mem_toList_iff.mp hy)
   simp [DictEntry.refKey,hkey]
  have a':¬es.toList.any (·.refKey)=true:=by rw [a];exact Bool.false_ne_true
  rw [if_neg a']
  exact congrArg some e
theorem ObjM.look {h:Heap}{x dx C:Addr}{mA:Str→Option Value}(I:ObjM h x dx C mA):∃od,PySem.W.InstAt h x (instObj C dx) C (some od)∧∀name,lookIn name od=some (mA name):=
 let ⟨od,ho,hl⟩:=lookIn_ns I.ns
 ⟨od,⟨I.obj,rfl,rfl,ho⟩,hl⟩
section
variable {prog:Program}{w:World}{A:Around}{E:Value→Shared→Prop}{s:Shared}{K:Frag}{x dx C f:Addr}{mA:Str→Option Value}{name:Str}{v:Value}
end
noncomputable def putF (f:Str)(v:V):List (Str×V)→List (Str×V)
 | []=>[(f,v)]
 | (g,x)::r=>if g=f then (g,v)::r else (g,x)::putF f v r
section
variable {P:Program}{w:World}{H H':Hp}{h h':Heap}{a C dx:Addr}{fs fs':List (Str×V)}
theorem ins_get (hok:HOk P w H h)(e:H a=some (.ins C dx fs)):∃mA,ObjM h a dx C mA∧(∀f,RelO (fs.lookup f) (mA f))∧PySem.Within mA (fs.map (·.1))∧fs.length≤1000∧H dx=some (.own a):=by
 obtain ⟨d,z,ne,ob,mA,n,r,q⟩:=(show ObjOk P w H h a (.ins C dx fs) from hok a _ e)
 exact ⟨mA,⟨ob,n,ne⟩,r,q,z,d⟩
end
structure Cls (K:Frag)(C:Addr):Prop where
 pg:PySem.W.plainGet K C Str.empty=true
 hd:PySem.W.hasDictIn K C=true
 po:PySem.W.plainOver K C=true
 sa:findIn K (.ref C) "__setattr__"=some (some (.builtin "object.__setattr__"))
theorem Cls.get {K:Frag}{C:Addr}(c:Cls K C)(f:Str):PySem.W.plainGet K C f=true:=c.pg
def NoAttr (K:Frag)(C:Addr)(f:Str):Prop:=findIn K (.ref C) f=some none
structure Con (K:Frag)(C:Addr)(f:Str)(v:V)(u:Value):Prop where
 at_:findIn K (.ref C) f=some (some u)
 rel:RelV v u
 get:specialIn K u "__get__"=some none
 cp:PySem.W.copiedNames.contains f=false
structure Meth (K:Frag)(C:Addr)(m:Str)(f:Addr):Prop where
 at_:findIn K (.ref C) m=some (some (.ref f))
 fn:isFn K (.ref f)=true
 kp:keepIn K (.ref f)=true
section
variable {X:Cx}{pins:List (Addr×Obj)}{σ:St}{H:Hp}{s:Shared}{a C dx:Addr}{fs:List (Str×V)}{f:Str}{v:V}{A:Around}{E:Value→Shared→Prop}
end
def sFld (K:Frag)(ta tv:TE)(f:Str):TS:=fun D σ H=>tv σ H fun y H1=>ta σ H1 fun x H2=>∃a C dx fs,x=.ref a∧H2 a=some (.ins C dx fs)∧Cls K C∧NoAttr K C f∧fs.length<1000∧
 D.nx σ (upd H2 a (.ins C dx (putF f y fs)))
section
variable {X:Cx}{o e value:Expr}{f:Str}{pos pos' tpos:Pos}{ta tv:TE}
end
section
variable {X:Cx}{pins:List (Addr×Obj)}{σ:St}{H:Hp}{s:Shared}{A:Around}{E:Value→Shared→Prop}{Q:Value→Shared→Prop}{c:Value}{b:Bool}
inductive TyOf (K:Frag)(H:Hp):V→Value→Prop where
 | non:TyOf K H .non (.type "NoneType")
 | bl (x:Bool):TyOf K H (.bl x) (.type "bool")
 | int (i:Int):TyOf K H (.int i) (.type "int")
 | str (x:Str):TyOf K H (.str x) (.type "str")
 | flt (x:UInt64):TyOf K H (.flt x) (.type "float")
 | lst {a:Addr} {xs:List V} (e:H a=some (.lst xs)):TyOf K H (.ref a) (.type "list")
 | frz {a:Addr} {o:Obj} {xs:List V} (e:H a=some (.frz o (.lst xs))):TyOf K H (.ref a) (.type "list")
 | tup {a:Addr} {xs:List V} (e:H a=some (.tup xs)):TyOf K H (.ref a) (.type "tuple")
 | dK {a:Addr} {kvs:List (Key×V)} (e:H a=some (.dK kvs)):TyOf K H (.ref a) (.type "dict")
 | dT {a:Addr} {kvs:List (List Key×V)} (e:H a=some (.dT kvs)):TyOf K H (.ref a) (.type "dict")
 | ins {a C dx:Addr} {fs:List (Str×V)} (e:H a=some (.ins C dx fs)) (cl:Cls K C) (ha:findIn K (.ref C) "__class__"=some (some (.builtin "object.__class__")))
   (hn:specialIn K (.builtin "object.__class__") "__get__"=some (some (.builtin "getset_descriptor.__get__"))) (htk:PySem.W.takesIn K (.builtin "object.__class__")=some true)
   (hm:PySem.W.mroIn K C (.type "object")=some true):TyOf K H (.ref a) (.ref C)
theorem isinst_ok {x:V}{u t:Value}(I:Inv X pins σ H s)(rx:RelV x u)(ty:TyOf X.K H x t)(e:kitOne X.K t c=some b)(h:∀tk,Q (.bool b) {s with toks:=tk}) :
  wpAny (model X.prog X.w) A (call (.builtin "isinstance") [u,c]) Q E s:=by
 cases ty with
 | non=>cases (show u=Value.none from rx);exact kia_one PySem.W.kitx_none I.kIn True.intro e (fun z=>nomatch z) h
 | bl y=>cases (show u=Value.bool y from rx);exact kia_one PySem.W.kitx_bool I.kIn True.intro e (fun z=>nomatch z) h
 | int i=>obtain ⟨t,q⟩:=(show ∃t,u=Value.int i t from rx);cases q;exact kia_one PySem.W.kitx_int I.kIn True.intro e (fun z=>nomatch z) h
 | str y=>obtain ⟨t,q⟩:=(show ∃t,u=Value.str y t from rx);cases q;exact kia_one PySem.W.kitx_str I.kIn True.intro e (fun z=>nomatch z) h
 | flt y=>obtain ⟨t,q⟩:=(show ∃t,u=Value.float y t from rx);cases q;exact kia_one PySem.W.kitx_float I.kIn True.intro e (fun z=>nomatch z) h
 | @lst a xs ea =>
  cases (show u=Value.ref a from rx)
  obtain ⟨_,_,n,_,h1⟩:=(show ObjOk X.prog X.w H s.heap a (.lst xs) from I.hok a _ ea)
  exact kia_one PySem.W.kitx_list I.kIn ⟨_,h1,rfl⟩ e (fun z=>nomatch z) h
 | @frz a ob xs ea =>
  cases (show u=Value.ref a from rx)
  obtain ⟨_,_,_,n,_,h1⟩:=(show ObjOk X.prog X.w H s.heap a (.frz ob (.lst xs)) from I.hok a _ ea)
  exact kia_one PySem.W.kitx_list I.kIn ⟨_,h1,rfl⟩ e (fun z=>nomatch z) h
 | @tup a xs ea =>
  cases (show u=Value.ref a from rx)
  obtain ⟨_,_,_,p⟩:=(show ObjOk X.prog X.w H s.heap a (.tup xs) from I.hok a _ ea)
  obtain ⟨o,h1,h2,_⟩:=p
  exact kia_one PySem.W.kitx_tuple I.kIn ⟨o,h1,h2⟩ e (fun z=>nomatch z) h
 | @dK a kvs ea =>
  cases (show u=Value.ref a from rx)
  obtain ⟨_,_,vs,_,p⟩:=(show ObjOk X.prog X.w H s.heap a (.dK kvs) from I.hok a _ ea)
  obtain ⟨o,es,ep,h1,h2,_⟩:=p
  exact kia_one PySem.W.kitx_dict I.kIn ⟨o,h1,h2.1⟩ e (fun z=>nomatch z) h
 | @dT a kvs ea =>
  cases (show u=Value.ref a from rx)
  obtain ⟨_,_,xs,_,o,es,ep,h1,h2,_⟩:=(show ObjOk X.prog X.w H s.heap a (.dT kvs) from I.hok a _ ea)
  exact kia_one PySem.W.kitx_dict I.kIn ⟨o,h1,h2.1⟩ e (fun z=>nomatch z) h
 | @ins a C dx fs ea cl ha hn htk hm =>
  cases (show u=Value.ref a from rx)
  obtain ⟨mA,O,_⟩:=ins_get I.hok ea
  obtain ⟨od,J,_⟩:=O.look
  exact kia_one (PySem.W.kitx_own (cl.get _) cl.hd ha hn htk hm) I.kIn J e (fun z=>nomatch z) h
end
structure Room (k:Nat)(A:Around):Prop where
 hd:A.handled=none
 dp:A.depth+3*k+5<recursionLimit
 un:A.units+16*k+200<cLine
 gd:A.guards=some []
theorem Room.mono {j k:Nat}{A:Around}(r:Room k A)(h:j≤k):Room j A:=⟨r.hd,by have:=r.dp;omega,by have:=r.un;omega,r.gd⟩
theorem Room.deeper {k:Nat}{A:Around}(r:Room (k+1) A)(env:Env):Room k (A.deeper env):=
 ⟨r.hd,by have:=r.dp;show A.depth+1+3*k+5<_;omega,by have:=r.un;show A.units+3+16*k+200<_;omega,r.gd⟩
theorem Room.depth {k:Nat}{A:Around}(r:Room k A):A.depth<recursionLimit:=by have:=r.dp;omega
theorem Room.units {k:Nat}{A:Around}(r:Room k A):A.units+64<cLine:=by have:=r.un;omega
def tNil:TA:=fun _ H Q=>Q [] H
def tCons (ta:TE)(tr:TA):TA:=fun σ H Q=>ta σ H fun x H1=>tr σ H1 fun xs H2=>Q (x::xs) H2
section
variable {X:Cx}{e:Expr}{es:List Expr}{te:TE}{t:TA}{pos:Pos}
theorem pa_nil:PA X [] tNil:=fun _ _ _ _ H Q I h=>Calls.spliced_nil ⟨[],H,I,.nil,h⟩
theorem pa_cons (ha:PE X e te)(hr:PA X es t)(hs:starEach (e::es) X.env=(false,eval e X.env)::starEach es X.env:=by rfl):PA X (e::es) (tCons te t):=by
 intro pos pins s σ H Q I h
 rw [hs]
 show wpAny _ _ (spliced ((false,eval e X.env)::backTo pos (starEach es X.env))) _ _ s
 refine Calls.spliced_cons (thn (ha pins s σ H _ I h) fun u s1 hz9=>?_)
 obtain ⟨x,H1,I1,r1,q1⟩:=hz9
 exact thn (hr pos pins s1 σ H1 _ I1 q1) fun us s2 ⟨xs,H2,I2,r2,q2⟩=>⟨x::xs,H2,I2,.cons r1 r2,q2⟩
def tTup (t:TA):TE:=fun σ H Q=>t σ H fun xs H1=>xs.length≤sizeLine∧∀p,H1 p=none→Q (.ref p) (upd H1 p (.tup xs))
def tLst (t:TA):TE:=fun σ H Q=>t σ H fun xs H1=>xs.length≤sizeLine∧∀p,H1 p=none→Q (.ref p) (upd H1 p (.lst xs))
theorem pe_tup {x1}(h:PA X es t):PE X (.Tuple es x1 pos) (tTup t):=by
 intro pins s σ H Q I hq
 refine wpAny_Tuple_spliced (thn (h pos pins s σ H _ I hq) fun us s1 ⟨xs,H1,I1,r,z,q⟩=>⟨by rw [← r.length];exact z,?_⟩)
 have hf:H1 s1.heap.objs.size=none:=I1.hok.fresh (le_refl _)
 refine ⟨.ref s1.heap.objs.size,upd H1 s1.heap.objs.size (.tup xs),I1.laid (t':=s1.toks) (fun b u e=>get?_push_of_some _ e) (le_refl _) ?_,rfl,q _ hf⟩
 exact ⟨z,us,r,⟨_,get?_push_size _ rfl,rfl,_,rfl⟩⟩
theorem pe_lst (h:PA X es t):PE X (.List es pos) (tLst t):=by
 intro pins s σ H Q I hq
 refine wpAny_List_spliced (thn (h pos pins s σ H _ I hq) fun us s1 ⟨xs,H1,I1,r,z,q⟩=>⟨by rw [← r.length];exact z,?_⟩)
 have hf:H1 s1.heap.objs.size=none:=I1.hok.fresh (le_refl _)
 refine ⟨.ref s1.heap.objs.size,upd H1 s1.heap.objs.size (.lst xs),I1.laid (t':=s1.toks) (fun b u e=>get?_push_of_some _ e) (le_refl _) ?_,rfl,q _ hf⟩
 exact ⟨z,us,0,r,get?_push_size _ rfl⟩
end
noncomputable abbrev Sp:=List V→Hp→VK→XK→Prop
noncomputable abbrev CXT:=List Env→Hp→Shared→XK→Value→Shared→Prop
structure Env0 (P:Program)(w:World)(K:Frag)(mg:Str→Option Value)(base:Heap)(A:Around)(outer:List Env)(s:Shared)(H:Hp):Prop where
 frames:A.frames=some outer
 mod:Mod K mg base
 bs:∀b o,base.get? b=some o→s.heap.get? b=some o∧H b=none
 bsz:base.objs.size≤s.heap.objs.size
 funs:s.heap.FunFrames base outer
 frf:∀b∈frs outer,H b=none
 hok:HOk P w H s.heap
 bare:AllBare s.gens
def CE (outer:List Env)(P:Program)(w:World)(H:Hp)(s:Shared)(Q:VK)(u:Value)(s':Shared):Prop:=
 ∃v H',s'.os=s.os∧AllBare s'.gens∧Un (frs outer) [] H H' s.heap s'.heap∧HOk P w H' s'.heap∧RelV v u∧Q v H'
def CR (CX:CXT)(outer:List Env)(P:Program)(w:World)(H:Hp)(s:Shared)(Q:VK)(E:XK)(r:Result)(s':Shared):Prop:=
 match r with
 | .ok (.ret u)=>CE outer P w H s Q u s'
 | .ok _=>False
 | .error e=>CX outer H s E e s'
structure FnOk (P:Program)(w:World)(K:Frag)(mg:Str→Option Value)(base:Heap)(CX:CXT)(k:Nat)(f:Addr)(fd:FuncData)(ps:List Str)(sp:Sp):Prop where
 len:∀vs H Q E,sp vs H Q E→vs.length=ps.length
 run:∀(A:Around) (outer:List Env) (s:Shared) (H:Hp) (args:Args) (us:List Value) (vs:List V) (Q:VK) (E:XK),Room k A→Env0 P w K mg base A outer s H→BindsTo s fd args (ps.zip us)→Vals vs us→sp vs H Q E→
  codeAny (model P w) A (.call (.ref f) args) (CR CX outer P w H s Q E) s
theorem FnOk.imp {P:Program}{w:World}{K:Frag}{mg:Str→Option Value}{base:Heap}{CX:CXT}{k:Nat}{f:Addr}{fd:FuncData}{ps:List Str}{sp sp':Sp}(F:FnOk P w K mg base CX k f fd ps sp)
  (h:∀vs H Q E,sp' vs H Q E→sp vs H Q E):FnOk P w K mg base CX k f fd ps sp':=
 ⟨fun vs H Q E q=>F.len vs H Q E (h _ _ _ _ q),fun A outer s H args us vs Q E hr he hb hv hs=>F.run A outer s H args us vs Q E hr he hb hv (h _ _ _ _ hs)⟩
section
variable {X:Cx}{pins:List (Addr×Obj)}{σ:St}{H:Hp}{s s':Shared}
theorem Inv.env0 (I:Inv X pins σ H s):Env0 X.prog X.w X.K X.mg X.base X.A X.stack s H:=
 ⟨I.ok.frames,I.ok.mod,I.bs,le_trans I.ok.bsz I.sz,I.stack,I.stkFree,I.hok,I.bare⟩
theorem Inv.after {Q:VK}{u:Value}(I:Inv X pins σ H s)(h:CE X.stack X.prog X.w H s Q u s'):EP X pins σ Q u s':=by
 obtain ⟨v,H',os,bare,un,hok,r,q⟩:=h
 obtain ⟨hh,g,d,t,os'⟩:=s'
 obtain rfl:os'=s.os:=os
 exact ⟨v,H',I.call (h':=hh) (g':=g) (d':=d) (t':=t) (ch:=[]) un hok bare (fun b z=>absurd z (by simp)),r,q⟩
end
def tCall (sp:Sp)(dvs:List V)(E:XK)(t:TA):TE:=fun σ H Q=>t σ H fun vs H1=>sp (vs++dvs) H1 Q E
def Binds (K:Frag)(fd:FuncData)(ps:List Str)(ds:List Value):Prop:=
 ∀(s:Shared) (us:List Value),K.In s.heap→(us++ds).length=ps.length→BindsTo s fd ⟨us,[]⟩ (ps.zip (us++ds))
theorem Binds.all {K:Frag}{fd:FuncData}{ps:List Str}(h:∀us:List Value,us.length=ps.length→bindArgs fd ⟨us,[]⟩=pure (ps.zip us)):Binds K fd ps []:=fun s us _ hl=>by
 rw [append_nil] at hl ⊢
 exact .of_eq (h us hl)
def Passes (CX:CXT)(X:Cx)(E:XK):Prop:=∀(pins:List (Addr×Obj)) (σ:St) (H:Hp) (s:Shared) (e:Value) (s':Shared),Inv X pins σ H s→CX X.stack H s E e s'→X.xe e s'
section
variable {X:Cx}{CX:CXT}{k:Nat}{f C:Addr}{fd:FuncData}{ps:List Str}{sp:Sp}{dvs:List V}{ds:List Value}{E:XK}{x m:Str}{p pos apos:Pos}{e o:Expr}{es:List Expr}{ta:TE}{t:TA}
theorem run_fn {pins:List (Addr×Obj)}{σ:St}{H:Hp}{s:Shared}{Q:VK}{us:List Value}{vs:List V}(F:FnOk X.prog X.w X.K X.mg X.base CX k f fd ps sp)(hr:Room k X.A)(hb:Binds X.K fd ps ds)(hd:Vals dvs ds)(hx:Passes CX X E)
  (I:Inv X pins σ H s) (r:Vals vs us) (h:sp (vs++dvs) H Q E):wpAny (model X.prog X.w) X.A (call (.ref f) us) (EP X pins σ Q) X.xe s:=by
 have r2:Vals (vs++dvs) (us++ds):=r.append hd
 have hl:(us++ds).length=ps.length:=by rw [← r2.length];exact F.len _ _ _ _ h
 refine wpAny_call (codeAny_mono (F.run X.A X.stack s H ⟨us,[]⟩ (us++ds) (vs++dvs) Q E hr I.env0 (hb s us I.kIn hl) r2 h) fun r s' hq=>?_)
 cases r with
 | error e=>exact hx pins σ H s e s' I hq
 | ok fl =>
  cases fl with
  | ret u=>exact I.after hq
  | next=>exact False.elim hq
  | brk=>exact False.elim hq
  | cont=>exact False.elim hq
theorem pe_call (F:FnOk X.prog X.w X.K X.mg X.base CX k f fd ps sp)(hr:Room k X.A)(hg:Gl X x)(hm:X.mg x=some (.ref f))(hk:keepIn X.K (.ref f)=true)(hb:Binds X.K fd ps ds)(hd:Vals dvs ds)(hx:Passes CX X E)
  (ha:PA X (e::es) t) (hdb:(x==("__debug__":Str))=false:=by decide) (he:starEach (e::es) X.env=(false,eval e X.env)::starEach es X.env:=by rfl) (hpl:(backTo pos (starEach es X.env)).any (·.1)=false:=by rfl) :
  PE X (.Call (.Name x p) (e::es) [] pos) (tCall sp dvs E t):=by
 intro pins s σ H Q I h
 refine wpAny_Call_Name_kw (ld_glob I hg hm ?_ hdb)
 refine PySem.W.callWith_K (h₀:=X.base) I.ok.mod.kin hk (thn (ha pos pins s σ H _ I h) fun us s1 ⟨vs,H1,I1,r,q⟩=>⟨I1.kIn,?_⟩) he hpl
 exact run_fn F hr hb hd hx I1 r q
structure Mk (K:Frag)(C f:Addr):Prop where
 makes:PySem.W.makesIn K C=true
 init:findIn K (.ref C) "__init__"=some (some (.ref f))
 fn:isFn K (.ref f)=true
 kp:keepIn K (.ref C)=true
end
section
variable {X:Cx}{CX:CXT}{k:Nat}{f C:Addr}{fd:FuncData}{ps ks:List Str}{sp:Sp}{E:XK}{x m:Str}{p pos apos kpos:Pos}{e o:Expr}{es:List Expr}{kws:List Keyword}{te ta:TE}{t tk:TA}{nm:Option Str}
structure KBinds (K:Frag)(fd:FuncData)(ps ks:List Str)(g:List Value→List Value→List Value)(gV:List V→List V→List V):Prop where
 to:∀(s:Shared) (us ws:List Value),K.In s.heap→(g us ws).length=ps.length→BindsTo s fd ⟨us,ks.zip ws⟩ (ps.zip (g us ws))
 rel:∀{vs:List V} {us:List Value} {zs:List V} {ws:List Value},Vals vs us→Vals zs ws→Vals (gV vs zs) (g us ws)
variable {g:List Value→List Value→List Value}{gV:List V→List V→List V}
end
structure FnScope (N P:List Str)(sc:Scope):Prop where
 kind:sc.kind=.function
 co:sc.isCoroutine=false
 gen:sc.isGenerator=false
 nd:N.Nodup
 pre:N.take P.length=P
 par:∀x∈P,sc.names.lookup x=some .local∨sc.names.lookup x=some .cell
 nofree:∀y∈sc.names,y.2≠.free
theorem bindL_out {kindOf:Str→Option NameKind}{x:Str}:∀{binds:List (Str×Value)} {m:Str→Option Value},(∀v,(x,v)∉binds)→bindL kindOf binds m x=m x
 | [],_,_=>rfl
 | (n,v)::r,m,h=>by
  unfold bindL
  rw [bindL_out fun w hw=>h w (mem_cons_of_mem _ hw)]
  split
  ·have:x≠n:=by rintro rfl;exact h v mem_cons_self
   simp [this]
  ·rfl
theorem bindC_out {kindOf:Str→Option NameKind}{x:Str}:∀{binds:List (Str×Value)} {m:Str→Option Value},(∀v,(x,v)∉binds)→bindC kindOf binds m x=m x
 | [],_,_=>rfl
 | (n,v)::r,m,h=>by
  unfold bindC
  rw [bindC_out fun w hw=>h w (mem_cons_of_mem _ hw)]
  split
  ·rfl
  ·have:x≠n:=by rintro rfl;exact h v mem_cons_self
   simp [this]
theorem bindL_get {kindOf:Str→Option NameKind}{x:Str}{v:Value}:∀{P:List Str} {vs:List Value} {i:Nat} {m:Str→Option Value},P.Nodup→P[i]?=some x→vs[i]?=some v→kindOf x=some .local→
  bindL kindOf (P.zip vs) m x=some v
 | [],_,_,_,_,h,_,_=>by simp at h
 | _::_,[],_,_,_,_,h,_=>by simp at h
 | p::P,w::vs,0,m,nd,h1,h2,hk=>by
  simp at h1 h2;subst h1;subst h2
  show bindL kindOf ((p,w)::P.zip vs) m p=_
  unfold bindL
  rw [bindL_out fun v hv=>(List.nodup_cons.mp nd).1 (List.of_mem_zip hv).1,if_pos hk]
  simp
 | p::P,w::vs,i+1,m,nd,h1,h2,hk=>by
  show bindL kindOf ((p,w)::P.zip vs) m x=_
  unfold bindL
  exact bindL_get (i:=i) (List.nodup_cons.mp nd).2 (by simpa using h1) (by simpa using h2) hk
theorem bindC_get {kindOf:Str→Option NameKind}{x:Str}{v:Value}:∀{P:List Str} {vs:List Value} {i:Nat} {m:Str→Option Value},P.Nodup→P[i]?=some x→vs[i]?=some v→kindOf x≠some .local→
  bindC kindOf (P.zip vs) m x=some v
 | [],_,_,_,_,h,_,_=>by simp at h
 | _::_,[],_,_,_,_,h,_=>by simp at h
 | p::P,w::vs,0,m,nd,h1,h2,hk=>by
  simp at h1 h2;subst h1;subst h2
  show bindC kindOf ((p,w)::P.zip vs) m p=_
  unfold bindC
  rw [bindC_out fun v hv=>(List.nodup_cons.mp nd).1 (List.of_mem_zip hv).1,if_neg hk]
  simp
 | p::P,w::vs,i+1,m,nd,h1,h2,hk=>by
  show bindC kindOf ((p,w)::P.zip vs) m x=_
  unfold bindC
  exact bindC_get (i:=i) (List.nodup_cons.mp nd).2 (by simpa using h1) (by simpa using h2) hk
noncomputable def start (N:List Str)(vs:List V):St:=vs.map some++List.replicate (N.length - vs.length) none
noncomputable def cxOf (CX:CXT)(P:Program)(w:World)(K:Frag)(mg:Str→Option Value)(base:Heap)(N:List Str)(qual:Str)(scope:Scope)(f:Addr)(cd:Value)(A:Around)(outer:List Env)(s:Shared)(H:Hp)(E:XK):Cx where
 prog:=P
 w:=w
 K:=K
 mg:=mg
 base:=base
 A:=A.deeper (envOfC qual scope s.heap.objs.size f cd)
 N:=N
 s₀:=s
 H₀:=H
 env:=envOfC qual scope s.heap.objs.size f cd
 outer:=outer
 stack:=envOfC qual scope s.heap.objs.size f cd::outer
 ex:=[]
 calm:=true
 fn:=fun _=>true
 pn:=[]
 xe:=fun e s'=>wpAny (model P w) (A.deeper (envOfC qual scope s.heap.objs.size f cd)) (leaving (envOfC qual scope s.heap.objs.size f cd) e) (fun _ s''=>CX outer H s E e s'') (fun e' s''=>CX outer H s E e' s'') s'
theorem cell_has {sc:Scope}{n:Nat}{x:Str}(h:sc.names.lookup x=some .cell):∃c,(cellsFrom n sc.names []).lookup x=some c:=by
 have q:=PySem.W.cellsFrom_some sc.names n [] (.inl h)
 exact Option.isSome_iff_exists.mp q
theorem inv_start {CX:CXT}{P:Program}{w:World}{K:Frag}{mg:Str→Option Value}{base:Heap}{N ps:List Str}{qual:Str}{scope:Scope}{f:Addr}{cd:Value}{A:Around}{outer:List Env}{s s1:Shared}{H:Hp}{E:XK}{us:List Value}{vs:List V}
    (S:FnScope N ps scope) (hd:A.handled=none) (e0:Env0 P w K mg base A outer s H) (hl:vs.length=ps.length) (r:Vals vs us)
    (x:InCallC s s.heap.objs.size (bindL (envOfC qual scope s.heap.objs.size f cd).kindOf (ps.zip us) fun _=>none) (cellsFrom (s.heap.objs.size+1) scope.names []) (bindC (envOfC qual scope s.heap.objs.size f cd).kindOf (ps.zip us) fun _=>none) s1) :
    Inv (cxOf CX P w K mg base N qual scope f cd A outer s H E) [] (start N vs) H s1:=by
  have hpl:ps.length≤N.length:=by have:=congrArg List.length S.pre;rw [length_take] at this;omega
  obtain ⟨h1,tk,rfl,hk⟩:=x.done
  have noA:∀b:Addr,b∉(cxOf CX P w K mg base N qual scope f cd A outer s H E).ex:=fun b z=>absurd (show b∈([]:List Addr) from z) (by simp)
  refine ⟨⟨e0.mod,S.kind,rfl,rfl,le_refl _,fun y z c h1 h2=>?_,fun y hy=>?_,fun y c _ h=>?_,fun _=>hd,Around.frames_deeper e0.frames,.inr ⟨rfl,rfl⟩,fun b z=>absurd z (noA b),e0.bs,e0.bsz,fun b _ _=>noA b,fun b z=>absurd z (noA b),e0.funs,e0.frf⟩,
    rfl,e0.bare,Un.kept hk,⟨_,x.toInCall.ns,fun i y v h1 h2 h3=>?_⟩,fun y c h=>⟨_,x.cell y c h⟩,e0.hok.fresh (le_refl _),fun y c h=>?_,fun p hp=>absurd (show p∈([]:List (Addr×Obj)) from hp) (by simp),e0.hok.kept hk,?_⟩
  · exact name_of_addr x.apart (PySem.mem_of_lookup h1) (PySem.mem_of_lookup h2)
  · have hy:scope.names.lookup y=some .cell∨scope.names.lookup y=some .free:=hy
    rcases hy with hy | hy
    · exact cell_has hy
    · exact absurd rfl (S.nofree _ (PySem.mem_of_lookup hy))
  · exact le_of_lt (x.above y c (PySem.mem_of_lookup h))
  · have hi:i<vs.length:=by
      unfold start at h2
      by_cases hi:i<vs.length
      · exact hi
      · rw [getElem?_append_right (by simpa using hi)] at h2
        rw [List.getElem?_replicate] at h2
        split at h2<;>cases h2
    have ha:vs[i]?=some v:=by
      unfold start at h2
      rw [getElem?_append_left (by simpa using hi),getElem?_map] at h2
      cases e:vs[i]? with
      | none=>rw [e] at h2;cases h2
      | some a=>rw [e] at h2;cases h2;rfl
    obtain ⟨u,hu,rv⟩:=r.get ha
    have hp:ps[i]?=some y:=by
      rw [← S.pre,List.getElem?_take_of_lt (by omega)];exact h1
    have ndP:ps.Nodup:=by rw [← S.pre];exact S.nd.sublist (List.take_sublist _ _)
    refine ⟨u,rv,?_⟩
    rcases S.par y (mem_of_getElem? hp) with k | k
    · exact .inl ⟨k,bindL_get ndP hp hu k⟩
    · obtain ⟨c,e⟩:=cell_has (n:=s.heap.objs.size+1) k
      refine .inr ⟨.inl k,c,e,?_⟩
      have q:=x.cell y c e
      rw [bindC_get ndP hp hu (by show scope.names.lookup y≠_;rw [k];decide)] at q
      exact q
  · exact e0.hok.fresh (le_of_lt (x.above y c (PySem.mem_of_lookup h)))
  · unfold start
    show _=N.length
    rw [length_append,length_map,List.length_replicate]
    omega
theorem fn_of {CX:CXT}{P:Program}{w:World}{K:Frag}{mg:Str→Option Value}{base:Heap}{k:Nat}{f:Addr}{name qual:Str}{params:Arguments}{body:List Stmt}{scope:Scope}{dV kV doc pm cdv ct oc:Value}{an od:Option Addr}
    {osl:Array (Option Value)} {N ps:List Str} {sp:Sp} (lk:K.lookup f=some ⟨oc,od,.func (fnOf name qual params body scope dV kV doc pm an cdv ct),osl⟩) (hcd:codeIn K cdv qual=true) (S:FnScope N ps scope)
    (len:∀vs H Q E,sp vs H Q E→vs.length=ps.length)
    (hbody:∀(A:Around) (outer:List Env) (s:Shared) (H:Hp) (vs:List V) (Q:VK) (E:XK),Room k (A.deeper (envOfC qual scope s.heap.objs.size f cdv))→sp vs H Q E→
      ∃t,PSs (cxOf CX P w K mg base N qual scope f cdv A outer s H E) body t∧t {nx:=fun _ H'=>Q .non H',rt:=Q} (start N vs) H) :
    FnOk P w K mg base CX (k+1) f (fnOf name qual params body scope dV kV doc pm an cdv ct) ps sp:=by
  refine ⟨len,fun A outer s H args us vs Q E hr e0 hb r hsp=>?_⟩
  have hl:=len _ _ _ _ hsp
  have KX:K.In s.heap:=e0.mod.kin.keeps fun b o e=>(e0.bs b o e).1
  have lim:s.heap.NoLimit:=e0.mod.nolimit.keeps fun b o e=>(e0.bs b o e).1
  have hkind:∀y∈ps.zip us,scope.names.lookup y.1=some .local∨(scope.names.lookup y.1=some .cell∧((cellsFrom (s.heap.objs.size+1) scope.names []).lookup y.1).isSome=true):=fun ⟨n,v⟩ hy=>by
    rcases S.par n (List.of_mem_zip hy).1 with q | q
    · exact .inl q
    · exact .inr ⟨q,PySem.W.cellsFrom_some _ _ _ (.inl q)⟩
  refine codeAny_call_function hr.depth (KX _ _ lk) rfl S.co S.gen rfl (PySem.W.codeRec_of KX hcd) (hb _ _ _ _ ?_)
  refine wpAny_newFunctionEnv_cells S.kind hkind fun env he s1 x=>?_
  subst he
  refine ⟨lim.keeps x.toInCall.keep,codeAny_func ?_⟩
  obtain ⟨t,ht,hq⟩:=hbody A outer s H vs Q E (hr.deeper _) hsp
  have I:Inv (cxOf CX P w K mg base N qual scope f cdv A outer s H E) [] (start N vs) H s1:=inv_start S hr.hd e0 hl r x
  refine wpAny_mono (ht [] s1 (start N vs) H _ I hq) (fun fl s' hs=>?_) fun e s' hs=>hs
  have fin:∀{σ':St} {H':Hp} {v:V} {u:Value},Inv (cxOf CX P w K mg base N qual scope f cdv A outer s H E) [] σ' H' s'→RelV v u→Q v H'→CE outer P w H s Q u s':=
    fun {σ' H' v u} J rv q=>⟨v,H',J.os,J.bare,J.base,J.hok,rv,q⟩
  cases fl with
  | ret u =>
    obtain ⟨v,σ',H',J,rv,q⟩:=hs
    exact fin J rv q
  | next =>
    obtain ⟨σ',H',J,q⟩:=hs
    exact fin (v:=V.non) (u:=Value.none) J rfl q
  | brk =>
    obtain ⟨_,_,_,q⟩:=hs
    exact False.elim q
  | cont =>
    obtain ⟨_,_,_,q⟩:=hs
    exact False.elim q
section
variable {X:Cx}{x:Str}{p pos:Pos}{e:Expr}{es:List Expr}{t:TA}{id T:String}{r:List V→Hp→VK→Prop}
def tCB (r:List V→Hp→VK→Prop)(t:TA):TE:=fun σ H Q=>t σ H fun vs H1=>r vs H1 Q
theorem pe_callB (hc:CallR X (.builtin id) r)(hg:Gl X x)(hm:X.mg x=none)(hv:bootBuiltins x=some (.builtin id))(ha:PA X (e::es) t)(hn:x≠"__name__":=by decide)(hdb:(x==("__debug__":Str))=false:=by decide)
  (he:starEach (e::es) X.env=(false,eval e X.env)::starEach es X.env:=by rfl) (hpl:(backTo pos (starEach es X.env)).any (·.1)=false:=by rfl):PE X (.Call (.Name x p) (e::es) [] pos) (tCB r t):=by
 intro pins s σ H Q I h
 refine wpAny_Call_Name_kw (ld_blt I hg hm hv ?_ hn hdb)
 exact PyProof.Rows.callWith_builtin1 (thn (ha pos pins s σ H _ I h) fun us s1 ⟨vs,H1,I1,r1,q1⟩=>hc pins s1 σ H1 vs us Q I1 r1 q1) he hpl
theorem pe_callTy (hc:CallR X (.type T) r)(hg:Gl X x)(hm:X.mg x=none)(hv:bootBuiltins x=some (.type T))(ha:PA X (e::es) t)(hn:x≠"__name__":=by decide)(hdb:(x==("__debug__":Str))=false:=by decide)
  (he:starEach (e::es) X.env=(false,eval e X.env)::starEach es X.env:=by rfl) (hpl:(backTo pos (starEach es X.env)).any (·.1)=false:=by rfl):PE X (.Call (.Name x p) (e::es) [] pos) (tCB r t):=by
 intro pins s σ H Q I h
 refine wpAny_Call_Name_kw (ld_blt I hg hm hv ?_ hn hdb)
 exact PyProof.Rows.callWith_type1 (thn (ha pos pins s σ H _ I h) fun us s1 ⟨vs,H1,I1,r1,q1⟩=>hc pins s1 σ H1 vs us Q I1 r1 q1) he hpl
end
end L2
namespace HT
open PySem PyProof.Rows
noncomputable def lexLt:List Int→List Int→Bool
 | [],[]=>false
 | [],_::_=>true
 | _::_,[]=>false
 | x::xs,y::ys=>if x=y then lexLt xs ys else decide (x<y)
section
open PySem.SeqAt
open PySem.AutoSeq1 (wpAny_loadPart')
open PySem.MeetsSeq PySem.MeetsSeq2 PySem.MeetsSeq3
variable {prog:Program}{w:World}{A:Around}{E:Value→Shared→Prop}{s:Shared}
noncomputable def sIx (n d:Nat):Option Int→Nat
 | none=>d
 | some v=>if v<0 then (v+(n:Int)).toNat else min v.toNat n
theorem clip_eq (v:Int)(n d:Nat):(if v<0 then max (v+(n:Int)) 0 else min v (n:Int))=((sIx n d (some v):Nat):Int):=by
 show (if v<0 then max (v+(n:Int)) 0 else min v (n:Int))=(((if v<0 then (v+(n:Int)).toNat else min v.toNat n):Nat):Int)
 by_cases hv:v<0
 ·simp only [if_pos hv];omega
 ·simp only [if_neg hv];omega
end
end HT
namespace L2
open PySem PySem.Spec PyProof.Rows
noncomputable abbrev TO:=St→Hp→(Option Int→Hp→Prop)→Prop
def PO (X:Cx)(e:Option Expr)(t:TO):Prop:=
 ∀(pins:List (Addr×Obj)) (s:Shared) (σ:St) (H:Hp) (Q:Option Int→Hp→Prop),Inv X pins σ H s→t σ H Q→
  wpAny (model X.prog X.w) X.A (evalPart e X.env) (fun u s'=>∃o H',Inv X pins σ H' s'∧IsPart u o∧Q o H') X.xe s
noncomputable def tNoPart:TO:=fun _ H Q=>Q none H
noncomputable def tPart (t:TE):TO:=fun σ H Q=>t σ H fun x H1=>∃i,x=.int i∧Q (some i) H1
theorem intsAre_of {ns:List Int}:∀{us:List Value},Vals (ns.map V.int) us→IntsAre us ns:=by
 induction ns with
 | nil=>intro us r;rw [List.map_nil] at r;cases r;exact .nil
 | cons n ns ih =>
  intro us r
  rw [map_cons] at r
  cases r with
  | cons r1 r2 =>
   obtain ⟨t,e⟩:=r1
   subst e
   exact .cons n t (ih r2)
section
variable {X:Cx}{e:Expr}{te:TE}{lo hi:Option Expr}{tl th:TO}{pos p2:Pos}
theorem po_none:PO X none tNoPart:=by
 intro pins s σ H Q I h
 rw [evalPart_none]
 exact wpAny_pure ⟨none,H,I,.none,h⟩
theorem po_some (h:PE X e te):PO X (some e) (tPart te):=by
 intro pins s σ H Q I hw
 rw [evalPart_some]
 refine thn (h pins s σ H _ I hw) fun u s1 hz9=>?_
 obtain ⟨x,H1,I1,r1,q1⟩:=hz9
 obtain ⟨i,rfl,q⟩:=q1
 obtain ⟨t,rfl⟩:=r1
 exact ⟨some i,H1,I1,.int i t,q⟩
def SlR (X:Cx)(r:V→Option Int→Option Int→Hp→VK→Prop):Prop:=
 ∀(pins:List (Addr×Obj)) (s:Shared) (σ:St) (H:Hp) (x:V) (v vl vu:Value) (lo hi:Option Int) (sl:Addr) (Q:VK),Inv X pins σ H s→RelV x v→s.heap.IsSliceOf sl vl vu .none→IsPart vl lo→IsPart vu hi→r x lo hi H Q→
  ∃T id,typeLookup (.type T) "__getitem__"=pure (some (.builtin id))∧s.TypeIs v T∧wpAny (model X.prog X.w) X.A (getItem v (.ref sl)) (EP X pins σ Q) X.xe s
def tSl (r:V→Option Int→Option Int→Hp→VK→Prop)(te:TE)(tl th:TO):TE:=fun σ H Q=>te σ H fun x H1=>tl σ H1 fun l H2=>th σ H2 fun u H3=>r x l u H3 Q
theorem pe_slice {r:V→Option Int→Option Int→Hp→VK→Prop}(hr:SlR X r)(he:PE X e te)(hl:PO X lo tl)(hu:PO X hi th):PE X (.Subscript e (.Slice lo hi none p2) pos) (tSl r te tl th):=by
 intro pins s σ H Q I h
 refine Subscript_ (thn (he pins s σ H _ I h) fun v s1 hz9=>?_)
 obtain ⟨x,H1,I1,r1,q1⟩:=hz9
 refine wpAny_Slice (thn (hl pins s1 σ H1 _ I1 q1) fun vl s2 ⟨l,H2,I2,pl,q2⟩=>thn (hu pins s2 σ H2 _ I2 q2) fun vu s3 ⟨u,H3,I3,pu,q3⟩=>?_)
 rw [evalPart_none]
 refine wpAny_pure ?_
 have I4:Inv X pins σ H3 {s3 with heap:=s3.heap.push {cls:=.type "slice",data:=.fields #[vl,vu,.none]}}:=I3.kept (t':=s3.toks) fun b ob q=>get?_push_of_some _ q
 obtain ⟨T,id,hT,ht,hg⟩:=hr pins {s3 with heap:=s3.heap.push {cls:=.type "slice",data:=.fields #[vl,vu,.none]}} σ H3 x v vl vu l u s3.heap.objs.size Q I4 r1 (Heap.IsSliceOf.new ..) pl pu q3
 show wpAny (model X.prog X.w) X.A (subscriptTail e (.Slice lo hi none p2) v (.ref s3.heap.objs.size)) (EP X pins σ Q) X.xe {s3 with heap:=s3.heap.push {cls:=.type "slice",data:=.fields #[vl,vu,.none]}}
 exact tail_any (ops:=[.ref s3.heap.objs.size,v]) ht hT hg (by with_unfolding_all rfl)
noncomputable def cutV (xs:List V)(lo hi:Option Int):List V:=(xs.drop (HT.sIx xs.length 0 lo)).take (HT.sIx xs.length xs.length hi - HT.sIx xs.length 0 lo)
theorem cutV_length (xs:List V)(lo hi:Option Int):(cutV xs lo hi).length≤xs.length:=by
 unfold cutV
 rw [length_take,List.length_drop]
 omega
end
noncomputable def ixN (n:Nat)(i:Int):Option Nat:=if 0≤i then (if i<n then some i.toNat else none) else if -(n:Int)≤i then some (i+n).toNat else none
noncomputable def atI {α:Type}(xs:List α)(i:Int):Option α:=(ixN xs.length i).bind fun j=>xs[j]?
theorem ixN_seq {n:Nat}{i:Int}{j:Nat}(h:ixN n i=some j):seqIndex? i n=some j∧j<n∧-(n:Int)≤i∧i<n:=by
 unfold ixN at h
 by_cases h0:0≤i
 ·rw [if_pos h0] at h
  by_cases h1:i<n
  ·rw [if_pos h1] at h
   have e:i.toNat=j:=Option.some.inj h
   exact ⟨by rw [seqIndex_of h0 h1,e],by omega,by omega,h1⟩
  ·rw [if_neg h1] at h;cases h
 ·rw [if_neg h0] at h
  by_cases h1:-(n:Int)≤i
  ·rw [if_pos h1] at h
   have e:(i+n).toNat=j:=Option.some.inj h
   exact ⟨by rw [seqIndex_neg (by omega) h1,e],by omega,h1,by omega⟩
  ·rw [if_neg h1] at h;cases h
theorem atI_get {α:Type}{xs:List α}{i:Int}{v:α}(h:atI xs i=some v):∃j,seqIndex? i xs.length=some j∧xs[j]?=some v∧j<xs.length∧-(xs.length:Int)≤i∧i<xs.length:=by
 unfold atI at h
 cases e:ixN xs.length i with
 | none=>rw [e] at h;cases h
 | some j =>
  rw [e] at h
  obtain ⟨h1,h2,h3,h4⟩:=ixN_seq e
  exact ⟨j,h1,h,h2,h3,h4⟩
def PlainIx (b:Expr):Prop:=∀o i,subscripted b false o i=operate [o,i] (getItem o i)
def IxR (X:Cx)(r:R2):Prop:=
 ∀(value slice:Expr) (pins:List (Addr×Obj)) (s:Shared) (σ:St) (H:Hp) (x y:V) (v u:Value) (Q:VK),Inv X pins σ H s→RelV x v→RelV y u→r x y H Q→
  subscripted slice false v u=operate [v,u] (getItem v u)→wpAny (model X.prog X.w) X.A (subscriptTail value slice v u) (EP X pins σ Q) X.xe s
def MtR (X:Cx)(id:String)(r:V→List V→Hp→VK→Prop):Prop:=
 ∀(pins:List (Addr×Obj)) (s:Shared) (σ:St) (H:Hp) (x:V) (xs:List V) (v:Value) (us:List Value) (Q:VK),Inv X pins σ H s→RelV x v→Vals xs us→r x xs H Q→
  wpAny (model X.prog X.w) X.A (call (.builtin id) (v::us)) (EP X pins σ Q) X.xe s
section
variable {X:Cx}{a b:Expr}{ta tb:TE}{pos:Pos}
theorem IxR.or {r r':R2}(h:IxR X r)(h':IxR X r'):IxR X (fun x y H Q=>r x y H Q∨r' x y H Q):=by
 intro value slice pins s σ H x y v u Q I rx ry q hs
 rcases q with q | q
 ·exact h value slice pins s σ H x y v u Q I rx ry q hs
 ·exact h' value slice pins s σ H x y v u Q I rx ry q hs
theorem pe_ix {r:R2}(hr:IxR X r)(ha:PE X a ta)(hb:PE X b tb)(hs:PlainIx b):PE X (.Subscript a b pos) (tOp r ta tb):=by
 intro pins s σ H Q I h
 exact Subscript_ (binT ha hb I h fun v u s2 x y H2 I2 rx ry q=>hr a b pins s2 σ H2 x y v u Q I2 rx ry q (hs _ _))
noncomputable def rIxL (K:Frag):R2:=fun x y H Q=>∃p xs i v,x=.ref p∧y=.int i∧SqL K H p xs∧atI xs i=some v∧Q v H
noncomputable def rIxT (K:Frag):R2:=fun x y H Q=>∃p xs i v,x=.ref p∧y=.int i∧SqT K H p xs∧atI xs i=some v∧Q v H
noncomputable def rIxS:R2:=fun x y H Q=>∃z i c,x=.str z∧y=.int i∧z.length≤sizeLine∧atI z.cps.toList i=some c∧Q (.str ⟨#[c]⟩) H
theorem ix_list:IxR X (rIxL X.K):=by
 intro value slice pins s σ H x y v u Q I rx ry h hs
 obtain ⟨p,xs,i,z,rfl,rfl,hq,he,q⟩:=h
 cases rx
 obtain ⟨t,rfl⟩:=ry
 obtain ⟨its,r,pl,hz⟩:=I.list hq
 obtain ⟨j,h1,h2,h3,h4,h5⟩:=atI_get he
 obtain ⟨w,ew,rw'⟩:=r.get h2
 have hl:=r.length
 have hn:=line63
 have fin:EP X pins σ Q w s:=⟨z,H,I,rw',q⟩
 by_cases h0:0≤i
 ·have hj:i.toNat=j:=by
   rw [seqIndex_of h0 h5] at h1
   exact Option.some.inj h1
  exact item_listR pl.isList h0 (by omega) (by rw [hj];simpa using ew) fin hs
 ·have hj:(i+(its.toArray.size:Int)).toNat=j:=by
   rw [seqIndex_neg (by omega) h4] at h1
   rw [size_toArray,← hl]
   exact Option.some.inj h1
  exact subscriptTail_builtinR (x:=w) pl.isList.typeIs slot_list_getitem.lookup
   (wpAny_getItem_list_neg (Q:=fun r s'=>r=w∧EP X pins σ Q r s') pl.isList (by omega) (by rw [size_toArray]<;>omega) (by omega) (by rw [hj];simpa using ew) ⟨rfl,fin⟩) hs
theorem ix_tup:IxR X (rIxT X.K):=by
 intro value slice pins s σ H x y v u Q I rx ry h hs
 obtain ⟨p,xs,i,z,rfl,rfl,hq,he,q⟩:=h
 cases rx
 obtain ⟨t,rfl⟩:=ry
 obtain ⟨its,r,pl,hz⟩:=I.tuple hq
 obtain ⟨j,h1,h2,h3,h4,h5⟩:=atI_get he
 obtain ⟨w,ew,rw'⟩:=r.get h2
 have hl:=r.length
 have hn:=line63
 have fin:EP X pins σ Q w s:=⟨z,H,I,rw',q⟩
 exact subscriptTail_builtinR (x:=w) pl.typeIs slot_tuple_getitem.lookup
  (getItem_tuple (j:=j) (Q:=fun r s'=>r=w∧EP X pins σ Q r s') pl (by omega) (by omega) (by rw [size_toArray,← hl];exact h1) (by simpa using ew) ⟨rfl,fin⟩) hs
theorem ix_str:IxR X rIxS:=by
  intro value slice pins s σ H x y v u Q I rx ry h hs
  obtain ⟨z,i,c,rfl,rfl,hz,he,q⟩:=h
  obtain ⟨t,rfl⟩:=rx
  obtain ⟨t',rfl⟩:=ry
  obtain ⟨j,h1,h2,h3,h4,h5⟩:=atI_get he
  have hl:z.cps.toList.length=z.length:=by simp [Str.length]
  rw [hl] at h1 h4 h5
  have hn:=line63
  exact tail_any (typeIs_str s z t) slot_str_getitem.lookup (getItem_str (c:=c) (by
    have e1:decide (i < -(2 ^ 63:Int))=false:=decide_eq_false (by omega)
    have e2:decide (i≥2 ^ 63)=false:=decide_eq_false (by omega)
    rw [e1,e2,Bool.or_false]) (by rw [h1];simpa using h2) ⟨.str ⟨#[c]⟩,H,I.tok _,⟨_,rfl⟩,q⟩) hs
noncomputable def rIx (K:Frag):R2:=fun x y H Q=>rIxL K x y H Q∨rIxT K x y H Q∨rIxS x y H Q
theorem ix_seq:IxR X (rIx X.K):=ix_list.or (ix_tup.or ix_str)
theorem slice_bounds (lo hi:Option Int)(n:Nat):(sliceBounds lo hi none n).1=((HT.sIx n 0 lo:Nat):Int)∧(sliceBounds lo hi none n).2.1=((HT.sIx n n hi:Nat):Int)∧(sliceBounds lo hi none n).2.2=1:=by
 refine ⟨?_,?_,rfl⟩
 ·cases lo with
  | none=>simp [sliceBounds,HT.sIx]
  | some i =>
   simp only [sliceBounds,HT.sIx,Option.getD_none,show (1:Int) > 0 by decide,if_true]
   by_cases h:i<0
   ·simp only [h,if_true]<;>omega
   ·simp only [h,if_false]<;>omega
 ·cases hi with
  | none=>simp [sliceBounds,HT.sIx]
  | some i =>
   simp only [sliceBounds,HT.sIx,Option.getD_none,show (1:Int) > 0 by decide,if_true]
   by_cases h:i<0
   ·simp only [h,if_true]<;>omega
   ·simp only [h,if_false]<;>omega
theorem slicePick_cut (its:List Value)(lo hi:Option Int):slicePick its.toArray lo hi none=((its.drop (HT.sIx its.length 0 lo)).take (HT.sIx its.length its.length hi - HT.sIx its.length 0 lo)).toArray:=by
 obtain ⟨h1,h2,h3⟩:=slice_bounds lo hi its.toArray.size
 unfold slicePick
 rw [h1,h2,h3]
 simp only [sliceRange_one,pick_run,size_toArray]<;>rfl
def rSlL (K:Frag):V→Option Int→Option Int→Hp→VK→Prop:=fun x lo hi H Q=>∃a xs,x=.ref a∧SqL K H a xs∧∀p,H p=none→Q (.ref p) (upd H p (.lst (cutV xs lo hi)))
theorem sl_list:SlR X (rSlL X.K):=by
 intro pins s σ H x v vl vu lo hi sl Q I rx hs pl pu h
 obtain ⟨a,xs,rfl,hx,q⟩:=h
 cases rx
 obtain ⟨its,r,ht,hz⟩:=I.list hx
 have hlen:=r.length
 refine ⟨"list",_,slot_list_getitem.lookup,ht.isList.typeIs,?_⟩
 refine wpAny_getItem_list_slice ht.isList hs pl pu .none (by simp) ?_ (by rw [size_toArray]<;>omega)
 rw [slicePick_cut,← hlen]
 refine ⟨.ref s.heap.objs.size,_,I.laid (t':=s.toks) (o:=.lst (cutV xs lo hi)) (fun b ob q=>get?_push_of_some _ q) (le_refl _) ?_,rfl,q _ (I.hok.fresh (le_refl _))⟩
 exact ⟨le_trans (cutV_length xs lo hi) hz,_,0,(r.drop (HT.sIx xs.length 0 lo)).take (HT.sIx xs.length xs.length hi - HT.sIx xs.length 0 lo),get?_push_size _ rfl⟩
theorem call_len_seq:CallR X (.builtin "len") (fun xs H Q=>∃p ys,xs=[.ref p]∧(SqL X.K H p ys∨SqT X.K H p ys)∧Q (.int ys.length) H):=by
 intro pins s σ H xs us Q I r h
 obtain ⟨p,ys,rfl,hq,q⟩:=h
 obtain ⟨u,rfl,rx⟩:=vals1 r
 cases rx
 have hn:=line63
 rcases hq with hq | hq
 ·obtain ⟨its,r',pl,hz⟩:=I.list hq
  have hlen:=r'.length
  exact Calls.call_len_list pl.isList (by simp only [size_toArray]<;>omega) ⟨.int ys.length,H,I.tok _,⟨s.toks+1,by rw [size_toArray,hlen]⟩,q⟩
 ·obtain ⟨its,r',pl,hz⟩:=I.tuple hq
  have hlen:=r'.length
  exact len_tuple pl (by simp only [size_toArray]<;>omega) ⟨.int ys.length,H,I.tok _,⟨s.toks+1,by rw [size_toArray,hlen]⟩,q⟩
theorem call_len_str:CallR X (.builtin "len") (fun xs H Q=>∃z,xs=[.str z]∧z.length≤sizeLine∧Q (.int z.length) H):=by
 intro pins s σ H xs us Q I r h
 obtain ⟨z,rfl,hz,q⟩:=h
 obtain ⟨u,rfl,t,rfl⟩:=vals1 r
 have hn:=line63
 exact len_str (by omega) ⟨.int z.length,H,I.tok _,⟨_,rfl⟩,q⟩
theorem CallR.or {f:Value}{r r':List V→Hp→VK→Prop}(h:CallR X f r)(h':CallR X f r'):CallR X f (fun xs H Q=>r xs H Q∨r' xs H Q):=by
 intro pins s σ H xs us Q I rs q
 rcases q with q | q
 ·exact h pins s σ H xs us Q I rs q
 ·exact h' pins s σ H xs us Q I rs q
theorem call_list_of:CallR X (.type "list") (fun xs H Q=>∃p ys,xs=[.ref p]∧(SqL X.K H p ys∨SqT X.K H p ys)∧∀l,H l=none→Q (.ref l) (upd H l (.lst ys))):=by
 intro pins s σ H xs us Q I r h
 obtain ⟨p,ys,rfl,hq,q⟩:=h
 obtain ⟨u,rfl,rx⟩:=vals1 r
 cases rx
 have fin:∀(its:List Value),Vals ys its→ys.length≤sizeLine→∀(h':Heap) (c':Nat),(∀b o',s.heap.get? b=some o'→h'.get? b=some o')→
   h'.get? s.heap.objs.size=some {cls:=.type "list",dict:=none,data:=.seq its.toArray c',slots:=#[]}→EP X pins σ Q (.ref s.heap.objs.size) {s with heap:=h'}:=fun its r' hz h' c' kp e =>
  ⟨.ref s.heap.objs.size,_,I.laid (t':=s.toks) kp (le_refl _) (show ObjOk X.prog X.w _ h' _ (.lst ys) from ⟨hz,its,c',r',e⟩),rfl,q _ (I.hok.fresh (le_refl _))⟩
 rcases hq with hq | hq
 ·obtain ⟨its,r',pl,hz⟩:=I.list hq
  have hlen:=r'.length
  obtain ⟨o,ho,hc,n,hd⟩:=pl.isList
  exact call_list_seq p (.inl rfl) ho hc hd (fun h' c' kp e=>fin its r' hz h' c' kp e) (by simp only [size_toArray]<;>omega)
 ·obtain ⟨its,r',pl,hz⟩:=I.tuple hq
  have hlen:=r'.length
  obtain ⟨o,ho,hc,n,hd⟩:=pl
  exact call_list_seq p (.inr rfl) ho hc hd (fun h' c' kp e=>fin its r' hz h' c' kp e) (by simp only [size_toArray]<;>omega)
def tyV (K:Frag)(T:String)(x:V)(H:Hp):Prop:=match x with
 | .str _=>T="str"
 | .int _=>T="int"
 | .ref p=>(T="list"∧∃xs,SqL K H p xs)∨(T="tuple"∧∃o,K.lookup p=some o∧o.cls=.type "tuple"∧o.dict=none)∨
   (T="dict"∧((∃kvs,H p=some (.dK kvs))∨∃kvs,H p=some (.dT kvs)))∨(T="set"∧∃S n,H p=some (.set S n))
 | _=>False
theorem tyV_is {pins:List (Addr×Obj)}{σ:St}{H:Hp}{s:Shared}{T:String}{x:V}{v:Value}(I:Inv X pins σ H s)(r:RelV x v)(ty:tyV X.K T x H) :
  s.TypeIs v T∧∀a,v=.ref a→∃ob,s.heap.get? a=some ob∧ob.dict=none:=by
 cases x with
 | str z =>
  obtain ⟨t,rfl⟩:=r
  cases (show T="str" from ty)
  exact ⟨typeIs_str s z t,fun _ e=>nomatch e⟩
 | int i =>
  obtain ⟨t,rfl⟩:=r
  cases (show T="int" from ty)
  exact ⟨typeIs_int s i t,fun _ e=>nomatch e⟩
 | ref p =>
  cases r
  rcases ty with ⟨rfl,xs,hq⟩ | ⟨rfl,o,hk,hc,hd⟩ | ⟨rfl,hk⟩ | ⟨rfl,S,n,hk⟩
  ·obtain ⟨its,_,pl,_⟩:=I.list hq
   refine ⟨pl.isList.typeIs,fun a e=>?_⟩
   cases e
   obtain ⟨o,n,e,c,hd,_⟩:=pl
   exact ⟨o,e,hd⟩
  ·refine ⟨⟨o,I.kIn p o hk,hc⟩,fun a e=>?_⟩
   cases e
   exact ⟨o,I.kIn _ o hk,hd⟩
  ·have z:∃o,s.heap.get? p=some o∧o.ExactDict:=by
    rcases hk with ⟨kvs,hk⟩ | ⟨kvs,hk⟩
    ·obtain ⟨_,_,_,_,o,_,_,e,ex,_⟩:=I.hok p _ hk
     exact ⟨o,e,ex⟩
    ·obtain ⟨_,_,_,_,o,_,_,e,ex,_⟩:=I.hok p _ hk
     exact ⟨o,e,ex⟩
   obtain ⟨o,e,ex⟩:=z
   refine ⟨⟨o,e,ex.1⟩,fun a e2=>?_⟩
   cases e2
   exact ⟨o,e,ex.2.1⟩
  ·obtain ⟨o,_,_,_,e,ex,_⟩:=I.hok p _ hk
   refine ⟨⟨o,e,ex.1⟩,fun a e2=>?_⟩
   cases e2
   exact ⟨o,e,ex.2.1⟩
 | _=>exact False.elim ty
def tBM (K:Frag)(T:String)(r:V→List V→Hp→VK→Prop)(to:TE)(t:TA):TE:=fun σ H Q=>to σ H fun x H1=>tyV K T x H1∧t σ H1 fun xs H2=>r x xs H2 Q
variable {o e:Expr}{es:List Expr}{to:TE}{t:TA}{name:Str}{apos cpos:Pos}{T id:String}{r:V→List V→Hp→VK→Prop}
theorem pe_bm (pa:PlainAttrs T)(slot:Slot T name id)(hty:typeOf (.builtin id)=pure (.type "method_descriptor"))(hm:MtR X id r)(ho:PE X o to)(ha:PA X (e::es) t)
    (hbase:attributeBase o name X.env (eval o X.env)=eval o X.env:=by rfl)
    (hfew:((backTo cpos (starEach (e::es) X.env)).all (fun x=>!x.1)&&(backToKw cpos (keywordEach [] X.env)).all (fun x=>x.1.isSome)
      && decide ((e::es).length+([]:List Keyword).length+(if ([]:List Keyword).isEmpty then 0 else 1)<30))=true:=by rfl)
    (hline:(apos.endLine==cpos.line)=true:=by rfl) (hs:starEach (e::es) X.env=(false,eval e X.env)::starEach es X.env:=by rfl) (hplain:(backTo cpos (starEach es X.env)).any (·.1)=false:=by rfl) :
    PE X (.Call (.Attribute o name apos) (e::es) [] cpos) (tBM X.K T r to t):=by
  intro pins s σ H Q I h
  refine wpAny_Call_method_late hbase hfew hline rfl (thn (ho pins s σ H _ I h) fun v s1 hz9=>?_)
  obtain ⟨x,H1,I1,r1,ty,q1⟩:=hz9
  obtain ⟨h1,h2⟩:=tyV_is I1 r1 ty
  refine ⟨T,id,pa,slot,hty,h1,h2,?_⟩
  have hA:=ha cpos pins s1 σ H1 _ I1 q1
  rw [hs] at hA ⊢
  refine Calls.callWith_builtin (by show (false||(backTo cpos (starEach es X.env)).any (·.1))=false;rw [hplain]<;>rfl) (Calls.evalArgs_plain ?_)
  exact thn hA fun us s2 ⟨vs,H2,I2,r2,q2⟩=>hm pins s2 σ H2 x vs v us Q I2 r1 r2 q2
end
def MtM (X:Cx)(id:String)(r:V→List V→Hp→VK→Prop):Prop:=
 ∀(pins:List (Addr×Obj)) (s:Shared) (σ:St) (H:Hp) (x:V) (xs:List V) (v:Value) (us:List Value) (Q:VK),Inv X pins σ H s→RelV x v→Vals xs us→r x xs H Q→
  wpAny (model X.prog X.w) X.A (call (.builtin id) (v::us)) (EP X pins σ Q) X.xe s
theorem Vals.one:∀{x:V} {us:List Value},Vals [x] us→∃u,us=[u]∧RelV x u
 | _,_,.cons r .nil=>⟨_,rfl,r⟩
theorem Vals.zero:∀{us:List Value},Vals [] us→us=[]
 | _,.nil=>rfl
theorem Vals.reverse {xs:List V}{us:List Value}(h:Vals xs us):Vals xs.reverse us.reverse:=by
 induction h with
 | nil=>exact .nil
 | cons r t ih=>rw [reverse_cons,reverse_cons];exact Vals.append ih (.cons r .nil)
theorem Vals.rep {xs:List V}{us:List Value}(h:Vals xs us):∀k:Nat,Vals (List.replicate k xs).flatten (List.replicate k us).flatten
 | 0=>.nil
 | k+1=>by
  rw [replicate_succ,replicate_succ,flatten_cons,flatten_cons]
  exact Vals.append h (Vals.rep h k)
theorem foldl_rep (its:List Value):∀(k:Nat) (acc:List Value),
  List.foldl (fun x1 x2=>x1++x2) acc.toArray (List.replicate k its.toArray)=(acc++(List.replicate k its).flatten).toArray
 | 0,acc=>by simp
 | k+1,acc=>by
  have e:acc.toArray++its.toArray=(acc++its).toArray:=by simp
  have e2:(acc++its)++(List.replicate k its).flatten=acc++(List.replicate (k+1) its).flatten:=by
   rw [replicate_succ,flatten_cons,append_assoc]
  rw [← e2,← foldl_rep its k (acc++its),← e,replicate_succ,foldl_cons]
section
variable {X:Cx}{pins:List (Addr×Obj)}{σ:St}{H:Hp}{s:Shared}{l b:Addr}{xs ys zs:List V}
theorem Inv.lset {its its':List Value}{n:Nat}{f:Array Value→Array Value}{t':Nat}(I:Inv X pins σ H s)(hH:H l=some (.lst xs))
  (e:s.heap.get? l=some {cls:=.type "list",data:=.seq its.toArray n}) (hf:f its.toArray=its'.toArray) (hv:Vals ys its') (hz:ys.length≤sizeLine) :
  Inv X pins σ (upd H l (.lst ys)) {s with heap:=s.heap.update l (Obj.mapSeq f),toks:=t'}:=by
 have q:=PySem.IsL.update e f
 rw [hf] at q
 refine I.write (x:=l) (e:=l) (by rw [hH];exact trivial) (.inl rfl) (fun b' u hb hu=>(get?_update_other s.heap (Obj.mapSeq f) (Ne.symm hb)).trans hu) ⟨_,q⟩ ?_
 exact ⟨hz,its',_,hv,q⟩
theorem Inv.lnew {its:List Value}{t':Nat}(I:Inv X pins σ H s)(hv:Vals ys its)(hz:ys.length≤sizeLine) :
  Inv X pins σ (upd H s.heap.objs.size (.lst ys)) {s with heap:=s.heap.push {cls:=.type "list",data:=.seq its.toArray},toks:=t'}:=
 I.laid (fun _ _ q=>get?_push_of_some _ q) (le_refl _) ⟨hz,its,0,hv,get?_push_size _ rfl⟩
theorem Inv.fresh (I:Inv X pins σ H s):H s.heap.objs.size=none:=I.hok.fresh (le_refl _)
theorem Inv.lstM (I:Inv X pins σ H s)(hH:H l=some (.lst xs)):xs.length≤sizeLine∧∃(its:List Value) (n:Nat),Vals xs its∧xs.length=its.length∧s.heap.get? l=some {cls:=.type "list",data:=.seq its.toArray n}:=by
 obtain ⟨z,its,n,r,e⟩:=I.hok l _ hH
 exact ⟨z,its,n,r,r.length,e⟩
theorem notLongL {n:Nat}(h:n≤sizeLine):Builtin.List.listTooLong n=false:=by
 unfold Builtin.List.listTooLong
 exact decide_eq_false (by omega)
end
section
variable {X:Cx}
def rAppend:V→List V→Hp→VK→Prop:=fun x vs H Q=>∃l xs y,x=.ref l∧vs=[y]∧H l=some (.lst xs)∧xs.length<sizeLine∧Q .non (upd H l (.lst (xs++[y])))
theorem mt_append:MtM X "list.append" rAppend:=by
 intro pins s σ H x vs v us Q I rx rv h
 obtain ⟨l,xs,y,rfl,rfl,hH,hz,q⟩:=h
 cases rx
 obtain ⟨u,rfl,ru⟩:=rv.one
 obtain ⟨z,its,n,r,hl,e⟩:=I.lstM hH
 refine call_meets F.slot_list_append ⟨_,e,rfl⟩ F.entry_list_append (F.args_list_append_2 _ _) (PySem.list_append l its.toArray n u (by rw [size_toArray];omega)) ⟨e,?_⟩
 refine ⟨.non,_,I.lset (its':=its++[u]) hH e (by simp) (r.append (.cons ru .nil)) ?_,rfl,q⟩
 rw [length_append,length_singleton]
 omega
def rExtend:V→List V→Hp→VK→Prop:=fun x vs H Q=>∃l b xs zs,x=.ref l∧vs=[.ref b]∧H l=some (.lst xs)∧H b=some (.lst zs)∧xs.length+zs.length≤sizeLine∧Q .non (upd H l (.lst (xs++zs)))
theorem mt_extend:MtM X "list.extend" rExtend:=by
 intro pins s σ H x vs v us Q I rx rv h
 obtain ⟨l,b,xs,zs,rfl,rfl,hH,hB,hz,q⟩:=h
 cases rx
 obtain ⟨u,rfl,ru⟩:=rv.one
 cases ru
 obtain ⟨z,its,n,r,hl,e⟩:=I.lstM hH
 obtain ⟨z2,its2,n2,r2,hl2,e2⟩:=I.lstM hB
 have hsz:its.toArray.size+its2.toArray.size≤sizeLine:=by rw [size_toArray,size_toArray];omega
 have hlong:¬(!its.toArray.isEmpty&&Builtin.List.listTooLong (its.toArray.size+its2.toArray.size))=true:=by
  rw [notLongL hsz,Bool.and_false]
  exact Bool.false_ne_true
 refine call_meets F.slot_list_extend ⟨_,e,rfl⟩ F.entry_list_extend (F.args_list_extend_2 _ _)
  (AutoSeq1.list_extend_list_list_0 l its.toArray n b its2.toArray n2 hlong (by rw [size_toArray];omega) (by omega)) ⟨e,e2,?_⟩
 refine ⟨.non,_,I.lset (its':=its++its2) hH e (by simp) (r.append r2) ?_,rfl,q⟩
 rw [length_append]
 omega
noncomputable def rCat:R2:=fun x y H Q=>∃l b xs zs,x=.ref l∧y=.ref b∧H l=some (.lst xs)∧H b=some (.lst zs)∧xs.length+zs.length≤sizeLine∧∀p,H p=none→Q (.ref p) (upd H p (.lst (xs++zs)))
theorem op_cat:OpR X (binaryOp .Add) rCat:=by
 intro pins s σ H x y v u Q I rx ry h
 obtain ⟨l,b,xs,zs,rfl,rfl,hH,hB,hz,q⟩:=h
 cases rx
 cases ry
 obtain ⟨z,its,n,r,hl,e⟩:=I.lstM hH
 obtain ⟨z2,its2,n2,r2,hl2,e2⟩:=I.lstM hB
 refine PySem.P.add_list e e2 ?_ (by rw [size_toArray,size_toArray];omega)
 have ea:its.toArray++its2.toArray=(its++its2).toArray:=by simp
 rw [ea]
 exact ⟨.ref _,_,I.lnew (t':=s.toks) (r.append r2) (by rw [length_append];omega),rfl,q _ I.fresh⟩
noncomputable def rRep:R2:=fun x y H Q=>∃l k xs,x=.ref l∧y=.int k∧H l=some (.lst xs)∧-(2 ^ 63)≤k∧k<2 ^ 63∧xs.length*k.toNat≤sizeLine∧
 ∀p,H p=none→Q (.ref p) (upd H p (.lst (List.replicate k.toNat xs).flatten))
theorem len_rep {α:Type}(xs:List α)(k:Nat):(List.replicate k xs).flatten.length=k*xs.length:=by
 induction k with
 | zero=>simp
 | succ k ih=>rw [replicate_succ,flatten_cons,length_append,ih,Nat.succ_mul,Nat.add_comm]
theorem op_rep:OpR X (binaryOp .Mult) rRep:=by
  intro pins s σ H x y v u Q I rx ry h
  obtain ⟨l,k,xs,rfl,rfl,hH,h1,h2,hz,q⟩:=h
  cases rx
  obtain ⟨t,rfl⟩:=ry
  obtain ⟨z,its,n,r,hl,e⟩:=I.lstM hH
  have hlen:its.toArray.size*k.toNat≤sizeLine:=by rw [size_toArray,← hl];exact hz
  have hcap:¬its.toArray.size*k.toNat > (2 ^ 63 - 1) / 8:=by
    have:(sizeLine:Nat)≤(2 ^ 63 - 1) / 8:=by decide
    omega
  have hfit:¬(!Builtin.List.listFitsIndex k)=true:=by
    rw [fitsIndex_both h1 h2]
    exact Bool.false_ne_true
  have hlong:¬Builtin.List.listTooLong (its.toArray.size*k.toNat)=true:=by
    rw [notLongL hlen]
    exact Bool.false_ne_true
  have hnew:List.foldl (fun x1 x2=>x1++x2) #[] (List.replicate (if its.toArray.isEmpty=true then 0 else k.toNat) its.toArray)=(List.replicate k.toNat its).flatten.toArray:=by
    have f0:∀m:Nat,List.foldl (fun x1 x2=>x1++x2) #[] (List.replicate m its.toArray)=(List.replicate m its).flatten.toArray:=fun m=>by
      have:=foldl_rep its m []
      rw [List.nil_append] at this
      exact this
    rw [f0]
    cases its with
    | nil=>simp
    | cons a r'=>rw [if_neg (by simp)]
  refine wpAny_binaryOp_repeat_ref (T:="list") (U:="int") (by decide) ⟨_,e,rfl⟩ (fun s'=>typeIs_int s' k t) noFill_list_mul F.fills_int_mul F.slot_int_rmul repeat_list F.slot_int_index.lookup
    (call_meets F.slot_int_rmul (typeIs_int s k t) F.entry_int_rmul (F.args_int_rmul_2 _ _) (int___rmul___int_list k t l its.toArray n)
      ⟨e,rfl,⟨_,e,rfl⟩,call_meets F.slot_list_mul ⟨_,e,rfl⟩ F.entry_list_mul (F.args_list_mul_2 _ _) (AutoListH.list___mul___list_int_3 l its.toArray n k t hfit hcap hlong) ⟨e,?_⟩⟩)
  rw [hnew]
  exact ⟨.ref _,_,I.lnew (t':=s.toks) (r.rep k.toNat) (by rw [len_rep,Nat.mul_comm];exact hz),rfl,q _ I.fresh⟩
variable {prog:Program}{w:World}{A:Around}{E:Value→Shared→Prop}{s:Shared}
set_option maxRecDepth 100000 in
end
end L2
namespace Att
open PySem PySem.W PySem.Calls PyProof.Rows
theorem ints_of_wellAll {P:Params}{h:Heap}:∀(ns:List Int) (vs:List Value),WellAll P h vs (ns.map WData.int)→IntsAre vs ns:=by
 intro ns
 induction ns with
 | nil =>
  intro vs w
  rw [List.map_nil] at w
  cases w
  exact .nil
 | cons n ns ih =>
  intro vs w
  rw [map_cons] at w
  cases w with
  | cons a b =>
   cases a
   exact .cons _ _ (ih _ b)
theorem script_of {l:OpenLaw}{n:Nat}(hn:l.most=some n){P:Params}{h:Heap}{args:List WData}{vals:List Value}
  (hpre:l.row.toRowW.claim.pre args=true) (hwl:WellAll P h vals args) :
  ∃a vs ns,vals=[Value.ref a]∧args=[WData.list (ns.map WData.int)]∧h.get? a=some {cls:=.type "list",data:=.seq vs.toArray}∧IntsAre vs ns∧ns.length≤n:=by
 have hsh:WShape.hasAll [] args [.list .int]=true:=(pre_splitW hpre).1
 have hc:l.pre.holds [] {args:=args}=true:=(pre_splitW hpre).2
 obtain ⟨d,r,rfl,h1,h2⟩:=hasAllW_cons hsh
 obtain rfl:=hasAllW_nil h2
 obtain ⟨xs,rfl,h3⟩:=hasW_list h1
 obtain ⟨ns,rfl⟩:=items_int h3
 have hlen:ns.length≤n:=by
  unfold OpenLaw.pre at hc
  have h4:(WTm.not (.lt (.lit (.int (n:Int))) (.len (.arg 0)))).holds [] {args:=[.list (ns.map .int)]}=true:=by
   have h4:=(holds_andW hc).1
   rw [hn] at h4
   exact h4
  have h5:=condW_of h4 (w_not (w_lt w_lit (w_len_list (w_arg rfl))))
  rw [length_map] at h5
  refine Nat.le_of_not_lt fun q=>?_
  have q':(n:Int)<((ns.length:Nat):Int):=by omega
  first
   | (rw [decide_eq_true q'] at h5;exact absurd h5 (by decide))
   | (simp at h5;omega)
 cases hwl with
 | cons w1 w2 =>
  cases w2
  cases w1 with
  | list ho hall=>exact ⟨_,_,ns,rfl,rfl,ho,ints_of_wellAll ns _ hall,hlen⟩
theorem post_true (l:OpenLaw)(args:List WData):l.row.toRowW.claim.post args (.bool true) args=true:=
 postW_of (r:=l.row.toRowW) (X:=(true==true))
  (show WShape.has [] (.bool true) .bool=true by first | rfl | decide | simp [WShape.has,WShape.arms,WShape.armsAll])
  (show (WTm.eq .res (.lit (.bool true))).value [] {args:=args,res:=some (.bool true),after:=args}=some (.bool (true==true)) from w_eq_bool (w_res rfl) w_lit) rfl
theorem attach_call {l:OpenLaw}{n:Nat}{q:Program}{loose:List Str}{XP:(Str→Option Value)→Heap→Prop}{YP:World→Heap→Prop}{d:DefRec}
    (hn:l.most=some n) (hdf:d.params.defaults=[])
    (call:∀(w:World) (s₀ s₁:Shared) (mg mb:Str→Option Value) (fa:Addr) (o:Obj) (pm cd doc:Value) (a:Addr) (vs:List Value) (ns:List Int),
      Ground q loose [] XP w s₀ mg mb s₁.heap→YP w s₁.heap→
      s₁.heap.get? fa=some o→o.data=.func (docDef d.name d.params d.body d.scope pm cd doc)→s₁.heap.CodeRec cd d.name→mg d.name=some (.ref fa)→
      s₁.heap.get? a=some {cls:=.type "list",data:=.seq vs.toArray}→IntsAre vs ns→ns.length≤n→s₁.gens=#[]→
      codeAny (model l.prog w) callerA (.call (.ref fa) ⟨[.ref a],[]⟩) (fun r s'=>r=.ok (.ret (.bool true))∧OldK s₁.heap s'.heap∧s'.os=s₁.os∧AllBare s'.gens) s₁) :
    WalkO q loose XP YP l.row.toRowW d [] (fun f vs=>PySem.call f vs):=by
  intro w s₀ s₁ mg mb G Y fa o pm cd doc dV kV ho hd hcd hD hmg hg args vals as hpre hlay hrd hwl hlo
  obtain rfl:dV=.none:=Dflts.none hD hdf
  obtain rfl:kV=.none:=Dflts.noKw hD
  obtain ⟨a,vs,ns,rfl,rfl,hobj,hints,hlen⟩:=script_of hn hpre hwl
  refine enter_call (codeAny_mono (call w s₀ s₁ mg mb fa o pm cd doc a vs ns G Y ho (fd_plain hd) hcd hmg hobj hints hlen hg) fun r s' hq=>?_)
  obtain ⟨rfl,h2,h3,h4⟩:=hq
  exact ⟨.inl ⟨.bool true,.bool true,[],rfl,fun _=>rfl,.bool true,post_true l _,fun _=>⟨List.Pairwise.nil,fun _ hm=>(nomatch hm)⟩⟩,h2,h3,h4⟩
section
variable {prog:Program}{w:World}{A:Around}{E:Value→Shared→Prop}{s:Shared}{K:Frag}
end
end Att
namespace L2
open PySem PySem.Spec PyProof.Rows
theorem vals_ints:∀{vs:List Value} {ns:List Int},IntsAre vs ns→Vals (ns.map V.int) vs
 | _,_,.nil=>.nil
 | _,_,.cons n t h=>.cons ⟨t,rfl⟩ (vals_ints h)
def Only (H:Hp):Prop:=∀b,H b=none∨∃o xs,H b=some (.frz o (.lst xs))
theorem law_call {P:Program}{w:World}{K:Frag}{mg mb:Str→Option Value}{CX:CXT}{k:Nat}{fa a:Addr}{fd:FuncData}{x:Str}{sp:Sp}{s₁:Shared}{vs:List Value}{ns:List Int}
    (KX:K.In s₁.heap) (hns:s₁.heap.Ns mainGlobals mg) (hb:s₁.heap.Ns builtinsNs mb) (hbb:∀x:Str,x≠"__name__"→mb x=bootBuiltins x) (hlim:s₁.heap.NoLimit) (hg:s₁.gens=#[])
    (ha:s₁.heap.get? a=some {cls:=.type "list",data:=.seq vs.toArray}) (hi:IntsAre vs ns) (hl:ns.length≤sizeLine) (hr:Room k callerA)
    (F:∀base:Heap,K.In base→base.Ns mainGlobals mg→FnOk P w K mg base CX k fa fd [x] sp) (hbind:∀(s:Shared) (u:Value),BindsTo s fd ⟨[u],[]⟩ [(x,u)])
    (hsp:∀H:Hp,Only H→SqL K H a (ns.map V.int)→sp [.ref a] H (fun v _=>v=.bl true) fun _ _ _=>False)
    (hCX:∀H e s',CX [] H s₁ (fun _ _ _=>False) e s'→False) :
    codeAny (model P w) callerA (.call (.ref fa) ⟨[.ref a],[]⟩) (fun r s'=>r=.ok (.ret (.bool true))∧OldK s₁.heap s'.heap∧s'.os=s₁.os∧AllBare s'.gens) s₁:=by
  have rv:=vals_ints hi
  have lenV:=hi.length
  have core:∀H:Hp,Only H→SqL K H a (ns.map V.int)→HOk P w H s₁.heap→(∀b,H b≠none→b=a)→(H a≠none→K.lookup a=none)→
      codeAny (model P w) callerA (.call (.ref fa) ⟨[.ref a],[]⟩) (fun r s'=>r=.ok (.ret (.bool true))∧OldK s₁.heap s'.heap∧s'.os=s₁.os∧AllBare s'.gens) s₁:=by
    intro H hO hS hok hA hK
    have base_of:∀{b:Addr} {o:Obj},s₁.heap.get? b=some o→H b=none→(hidT s₁.heap H).get? b=some o:=fun e n=>hidT_get e n
    have noA:∀{b:Addr} {o:Obj} {es:Array DictEntry} {ep:Nat},s₁.heap.get? b=some o→o.data=.dict es ep→H b=none:=fun {b o es ep} e d=>by
      cases q:H b with
      | none=>rfl
      | some u =>
        have e':b=a:=hA b (by rw [q];simp)
        subst e'
        rw [ha] at e;cases e
        have d':Data.seq vs.toArray _=Data.dict es ep:=d
        cases d'
    have nsK:∀{b:Addr} {m:Str→Option Value},s₁.heap.Ns b m→(hidT s₁.heap H).Ns b m:=fun {b m} ⟨o,es,ep,e,d,r⟩=>⟨o,es,ep,base_of e (noA e d),d,r⟩
    have hKb:K.In (hidT s₁.heap H):=fun b o e=>base_of (KX b o e) (by
      cases q:H b with
      | none=>rfl
      | some u =>
        have e':b=a:=hA b (by rw [q];simp)
        subst e'
        rw [hK (by rw [q];simp)] at e;cases e)
    have hM:Mod K mg (hidT s₁.heap H):=⟨hKb,nsK hns,⟨mb,nsK hb,hbb⟩,let ⟨mc,h1,h2⟩:=hlim;⟨mc,nsK h1,h2⟩⟩
    have e0:Env0 P w K mg (hidT s₁.heap H) callerA [] s₁ H:=⟨rfl,hM,fun b o e=>of_hidT e,Nat.le_of_eq (hidT_size _ _),trivial,fun b hb=>absurd (show b∈([]:List Addr) from hb) (by simp),hok,.of_eq hg⟩
    refine codeAny_mono ((F _ hKb (nsK hns)).run callerA [] s₁ H ⟨[.ref a],[]⟩ [.ref a] [.ref a] _ _ hr e0 (hbind s₁ (.ref a)) (.cons rfl .nil) (hsp H hO hS)) fun r s' h=>?_
    cases r with
    | error e=>exact (hCX H e s' h).elim
    | ok fl =>
      cases fl with
      | next=>exact False.elim h
      | brk=>exact False.elim h
      | cont=>exact False.elim h
      | ret u =>
        obtain ⟨v,H',os,bare,un,hok',r',q⟩:=h
        have q':v=.bl true:=q
        subst q'
        obtain rfl:u=Value.bool true:=r'
        refine ⟨rfl,OldK.of_keep fun b o e=>?_,os,bare⟩
        cases q:H b with
        | none=>exact un.keep b o e q (by intro z;exact absurd (show b∈([]:List Addr) from z) (by simp)) (by simp)
        | some u =>
          rcases hO b with z | ⟨ob,xs,z⟩
          · rw [q] at z;cases z
          · have z2:=un.frzs b ob _ z
            obtain ⟨e1,_⟩:=hok b _ z
            obtain ⟨e2,_⟩:=hok' b _ z2
            rw [e] at e1;cases e1
            exact e2
  cases hk:K.lookup a with
  | some o =>
    have e:=KX a o hk
    rw [ha] at e
    cases e
    refine core (fun _=>none) (fun _=>.inl rfl) (.inr ⟨_,vs.toArray,_,hk,rfl,rfl,rfl,by rw [size_toArray,lenV];exact hl,by simpa using rv⟩) (fun b u z=>by have z':(none:Option HO)=some u:=z;cases z') (fun b z=>absurd rfl z) fun z=>absurd rfl z
  | none =>
    refine core (fun b=>if b=a then some (.frz {cls:=.type "list",data:=.seq vs.toArray} (.lst (ns.map V.int))) else none) (fun b=>?_) (.inl (.inr ⟨{cls:=.type "list",data:=.seq vs.toArray},if_pos rfl⟩)) (fun b u z=>?_) (fun b z=>?_) fun _=>hk
    · by_cases hb:b=a
      · exact .inr ⟨_,_,if_pos hb⟩
      · exact .inl (if_neg hb)
    · by_cases hb:b=a
      · have z':=(if_pos hb).symm.trans z
        cases z'
        subst hb
        exact ⟨ha,by rw [length_map];exact hl,vs,_,rv,ha⟩
      · have z':=(if_neg hb).symm.trans z
        cases z'
    · by_cases hb:b=a
      · exact hb
      · exact absurd (if_neg hb) z
noncomputable abbrev KOf {K:Frag}{h:Heap}(_:K.In h):Frag:=K
theorem walk_of {l:PySem.W.OpenLaw}{n k:Nat}{q:Program}{loose:List Str}{XP:(Str→Option Value)→Heap→Prop}{YP:World→Heap→Prop}{d:DefRec}{K:Params→Frag}{CX:World→CXT}{sp:World→Sp}{x:Str}
    (hn:l.most=some n) (hn2:n≤sizeLine) (hdf:d.params.defaults=[]) (hr:Room k callerA)
    (hY:∀(w:World) (h:Heap),YP w h→(K w.params).In h)
    (F:∀(w:World) (mg:Str→Option Value) (fa:Addr) (h:Heap),(K w.params).In h→h.Ns mainGlobals mg→mg d.name=some (.ref fa)→
      ∃fd:FuncData,(∀(s:Shared) (u:Value),BindsTo s fd ⟨[u],[]⟩ [(x,u)])∧
        ∀base:Heap,(K w.params).In base→base.Ns mainGlobals mg→FnOk l.prog w (K w.params) mg base (CX w) k fa fd [x] (sp w))
    (hsp:∀(w:World) (H:Hp) (a:Addr) (ns:List Int),ns.length≤n→Only H→SqL (K w.params) H a (ns.map V.int)→sp w [.ref a] H (fun v _=>v=.bl true) fun _ _ _=>False)
    (hCX:∀(w:World) (H:Hp) (s:Shared) (e:Value) (s':Shared),CX w [] H s (fun _ _ _=>False) e s'→False) :
    PySem.W.WalkO q loose XP YP l.row.toRowW d [] (fun f vs=>PySem.call f vs):=by
  refine Att.attach_call hn hdf fun w s₀ s₁ mg mb fa o pm cd doc a vs ns G Y ho hd hcd hmg hobj hints hlen hg=>?_
  have KX:=hY w _ Y
  obtain ⟨fd,hb,hF⟩:=F w mg fa _ KX G.T.g hmg
  exact law_call KX G.T.g G.T.b G.T.builtins G.T.nolimit hg hobj hints (le_trans hlen hn2) hr hF hb (fun H hO hS=>hsp w H a ns hlen hO hS) fun H e s'=>hCX w H s₁ e s'
noncomputable def defArgs (s:Stmt):Arguments:=match s with
 | .FunctionDef _ a _ _ _ _ _ _ _ _=>a
 | _=>{posonlyargs:=[],args:=[],vararg:=none,kwonlyargs:=[],kw_defaults:=[],kwarg:=none,defaults:=[]}
noncomputable def defBody (s:Stmt):List Stmt:=match s with
 | .FunctionDef _ _ b _ _ _ _ _ _ _=>b
 | _=>[]
noncomputable def defScope (s:Stmt):Scope:=match s with
 | .FunctionDef _ _ _ _ _ _ sc _ _ _=>sc
 | _=>{kind:=.function,names:=[],isGenerator:=false,isCoroutine:=false}
noncomputable abbrev CX0:CXT:=fun _ _ _ _ _ _=>False
noncomputable abbrev E0:XK:=fun _ _ _=>False
theorem pass0 {X:Cx}:Passes CX0 X E0:=fun _ _ _ _ _ _ _ h=>h.elim
structure Fun (K:Frag)(x qual:Str)(st:Stmt)(f:Addr)(fd:FuncData):Prop where
 ex:∃(oc:Value) (od:Option Addr) (kV doc pm:Value) (an:Option Addr) (cdv ct:Value) (osl:Array (Option Value)),
  fd=fnOf x qual (defArgs st) (defBody st) (defScope st) .none kV doc pm an cdv ct∧K.lookup f=some ⟨oc,od,.func fd,osl⟩∧codeIn K cdv qual=true
 kp:keepIn K (.ref f)=true
section
variable {P:Program}{w:World}{K:Frag}{mg:Str→Option Value}{base:Heap}
theorem Fun.ok {x qual:Str}{st:Stmt}{f:Addr}{fd:FuncData}{N ps:List Str}{k:Nat}{sp:Sp}(F:Fun K x qual st f fd)(S:FnScope N ps (defScope st))(len:∀vs H Q E,sp vs H Q E→vs.length=ps.length)
    (hbody:∀(cdv:Value) (A:Around) (outer:List Env) (s:Shared) (H:Hp) (vs:List V) (Q:VK) (E:XK),Room k (A.deeper (envOfC qual (defScope st) s.heap.objs.size f cdv))→sp vs H Q E→
      ∃t,PSs (cxOf CX0 P w K mg base N qual (defScope st) f cdv A outer s H E).nox (defBody st) t∧t {nx:=fun _ H'=>Q .non H',rt:=Q} (start N vs) H):FnOk P w K mg base CX0 (k+1) f fd ps sp:=by
  obtain ⟨oc,od,kV,doc,pm,an,cdv,ct,osl,rfl,lk,hcd⟩:=F.ex
  refine fn_of lk hcd S len fun A outer s H vs Q E hr hsp=>?_
  obtain ⟨t,h,q⟩:=hbody cdv A outer s H vs Q E hr hsp
  exact ⟨t,h.nox,q⟩
theorem Fun.binds {x qual:Str}{st:Stmt}{f:Addr}{fd:FuncData}{ps:List Str}(F:Fun K x qual st f fd)
  (h:∀(kV doc pm:Value) (an:Option Addr) (cdv ct:Value) (us:List Value),us.length=ps.length→bindArgs (fnOf x qual (defArgs st) (defBody st) (defScope st) .none kV doc pm an cdv ct) ⟨us,[]⟩=pure (ps.zip us)):Binds K fd ps []:=by
 obtain ⟨oc,od,kV,doc,pm,an,cdv,ct,osl,rfl,lk,hcd⟩:=F.ex
 exact .all (h kV doc pm an cdv ct)
theorem fun_mk {x qual:Str}{st:Stmt}{f:Addr}{oc:Value}{od an:Option Addr}{osl:Array (Option Value)}{kV doc pm cdv ct:Value}(l:K.lookup f=some ⟨oc,od,.func (fnOf x qual (defArgs st) (defBody st) (defScope st) .none kV doc pm an cdv ct),osl⟩)
  (c:codeIn K cdv qual=true) (k:keepIn K (.ref f)=true):Fun K x qual st f (fnOf x qual (defArgs st) (defBody st) (defScope st) .none kV doc pm an cdv ct):=⟨⟨oc,od,kV,doc,pm,an,cdv,ct,osl,rfl,l,c⟩,k⟩
variable {X:Cx}
theorem pv (i:Nat){x:Str}{pos:Pos}(hN:X.N[i]?=some x:=by rfl)(hv:autoParam (Vis X.env.scope x) aT3._auto_1)(hd:(x==("__debug__":Str))=false:=by decide)
  (hcd:(x==("__classdict__":Str))=false:=by decide):PE X (.Name x pos) (tVar i):=pe_var hN hv hd hcd
end
def Same (H H':Hp):Prop:=∀b o,H b=some o→H' b=some o
theorem Same.refl (H:Hp):Same H H:=fun _ _ h=>h
theorem Same.trans {H H1 H2:Hp}(a:Same H H1)(b:Same H1 H2):Same H H2:=fun c o h=>b c o (a c o h)
theorem Same.free {H H':Hp}(e:Same H H'){l:Addr}(h:H' l=Option.none):H l=Option.none:=by
 cases q:H l with
 | none=>rfl
 | some o =>
  rw [e l o q] at h
  cases h
theorem star_bin {a b:Expr}{op:Operator}{pos:Pos}{es:List Expr}{env:Env}:starEach (.BinOp a op b pos::es) env=(false,eval (.BinOp a op b pos) env)::starEach es env:=rfl
theorem star_const {c:Const}{k:Nat}{pos:Pos}{es:List Expr}{env:Env}:starEach (.Constant c k pos::es) env=(false,eval (.Constant c k pos) env)::starEach es env:=rfl
theorem star_name {x:Str}{pos:Pos}{es:List Expr}{env:Env}:starEach (.Name x pos::es) env=(false,eval (.Name x pos) env)::starEach es env:=rfl
theorem star_sub {a b:Expr}{pos:Pos}{es:List Expr}{env:Env}:starEach (.Subscript a b pos::es) env=(false,eval (.Subscript a b pos) env)::starEach es env:=rfl
theorem star_call {a:Expr}{as:List Expr}{ks:List Keyword}{pos:Pos}{es:List Expr}{env:Env}:starEach (.Call a as ks pos::es) env=(false,eval (.Call a as ks pos) env)::starEach es env:=rfl
theorem star_list {as:List Expr}{pos:Pos}{es:List Expr}{env:Env}:starEach (.List as pos::es) env=(false,eval (.List as pos) env)::starEach es env:=rfl
theorem star_tup {as:List Expr}{k:Nat}{pos:Pos}{es:List Expr}{env:Env}:starEach (.Tuple as k pos::es) env=(false,eval (.Tuple as k pos) env)::starEach es env:=rfl
theorem star_comp {a:Expr}{gs:List Comprehension}{sc:Scope}{pos:Pos}{es:List Expr}{env:Env}:starEach (.ListComp a gs sc pos::es) env=(false,eval (.ListComp a gs sc pos) env)::starEach es env:=rfl
theorem plain_sub {a b:Expr}{pos:Pos}:PlainIx (.Subscript a b pos):=fun _ _=>rfl
theorem plain_name {x:Str}{pos:Pos}:PlainIx (.Name x pos):=fun _ _=>rfl
theorem plain_const {c:Const}{k:Nat}{pos:Pos}:PlainIx (.Constant c k pos):=fun _ _=>rfl
theorem plain_bin {a b:Expr}{op:Operator}{pos:Pos}:PlainIx (.BinOp a op b pos):=fun _ _=>rfl
theorem plain_un {a:Expr}{op:UnaryOp}{pos:Pos}:PlainIx (.UnaryOp op a pos):=fun _ _=>rfl
noncomputable def rAddA:R2:=fun x y H Q=>rI0 (fun i j=>.int (i+j)) x y H Q∨(∃i j,x=.str i∧y=.str j∧i.length+j.length≤sizeLine∧Q (.str (i++j)) H)∨rCat x y H Q
noncomputable def rMulA:R2:=fun x y H Q=>rI CMul (fun i j=>.int (i*j)) x y H Q∨rRep x y H Q
def CDivL (_ j:Int):Prop:=0<j∧j<2 ^ 200
section
variable {X:Cx}
theorem op_addA:OpR X (binaryOp .Add) rAddA:=op_add.or (op_add_str.or op_cat)
theorem op_mulA:OpR X (binaryOp .Mult) rMulA:=op_mul.or op_rep
theorem log2_small {j:Int}(h1:0<j)(h2:j<2 ^ 200):j.natAbs.log2<9000:=by
 have h3:j.natAbs<2 ^ 200:=by omega
 exact lt_trans ((Nat.log2_lt (by omega)).mpr h3) (by decide)
theorem op_fdivL:OpR X (binaryOp .FloorDiv) (rI CDivL fun i j=>.int (i / j)):=opI fun i j _ _ _ _ _ hc q=>by
 have h1:(0:Int)<j:=hc.1
 have h2:j<2 ^ 200:=hc.2
 exact floordiv_int (by omega) (by rw [Int.fdiv_eq_ediv_of_nonneg i (by omega)];exact q) (.inl (PyProof.noPylong_of_log2 (log2_small h1 h2)))
end
mutual
inductive Dn (K:Frag)(H:Hp):V→PyData→Prop
 | non:Dn K H .non .none
 | bl (b:Bool):Dn K H (.bl b) (.bool b)
 | int (i:Int):Dn K H (.int i) (.int i)
 | str (x:Str):Dn K H (.str x) (.str x)
 | lst {a:Addr} {xs:List V} {ds:List PyData}:SqL K H a xs→DnA K H xs ds→Dn K H (.ref a) (.list ds)
 | tup {a:Addr} {xs:List V} {ds:List PyData}:SqT K H a xs→DnA K H xs ds→Dn K H (.ref a) (.tuple ds)
inductive DnA (K:Frag)(H:Hp):List V→List PyData→Prop
 | nil:DnA K H [] []
 | cons {x:V} {d:PyData} {xs:List V} {ds:List PyData}:Dn K H x d→DnA K H xs ds→DnA K H (x::xs) (d::ds)
end
section
variable {X:Cx}{pins:List (Addr×Obj)}{σ:St}{H:Hp}{s:Shared}
mutual
theorem Dn.reads (I:Inv X pins σ H s):∀{x:V} {d:PyData} {u:Value},Dn X.K H x d→RelV x u→∃as,Reads s.heap u d as
 | _,_,_,.non,r=>by cases (show _=Value.none from r);exact ⟨_,.none⟩
 | _,_,_,.bl b,r=>by cases (show _=Value.bool b from r);exact ⟨_,.bool b⟩
 | _,_,_,.int i,r=>by obtain ⟨t,q⟩:=(show ∃t,_=Value.int i t from r);cases q;exact ⟨_,.int i t⟩
 | _,_,_,.str x,r=>by obtain ⟨t,q⟩:=(show ∃t,_=Value.str x t from r);cases q;exact ⟨_,.str x t⟩
 | _,_,_,.lst (a:=a) h ra,r=>by
  cases (show _=Value.ref a from r)
  obtain ⟨its,rv,pl,_⟩:=I.list h
  obtain ⟨as,q⟩:=DnA.reads I ra rv
  obtain ⟨o,ho,hc,n,hd⟩:=pl.isList
  exact ⟨_,.list ho hc hd q⟩
 | _,_,_,.tup (a:=a) h ra,r=>by
  cases (show _=Value.ref a from r)
  obtain ⟨its,rv,pl,_⟩:=I.tuple h
  obtain ⟨as,q⟩:=DnA.reads I ra rv
  obtain ⟨o,ho,hc,n,hd⟩:=pl
  exact ⟨_,.tuple ho hc hd q⟩
theorem DnA.reads (I:Inv X pins σ H s):∀{xs:List V} {ds:List PyData} {us:List Value},DnA X.K H xs ds→Vals xs us→∃as,ReadsAll s.heap us ds as
 | _,_,_,.nil,.nil=>⟨_,.nil⟩
 | _,_,_,.cons h ra,.cons r rs=>by
  obtain ⟨as,q⟩:=Dn.reads I h r
  obtain ⟨bs,q'⟩:=DnA.reads I ra rs
  exact ⟨_,.cons q q'⟩
end
end
noncomputable def rEqD (K:Frag):R2:=fun x y H Q=>∃dx dy,Dn K H x dx∧Dn K H y dy∧SeqAt.shaped dx=true∧SeqAt.shaped dy=true∧Q (.bl (PyData.eqv dx dy)) H
noncomputable def rNeD (K:Frag):R2:=fun x y H Q=>∃dx dy,Dn K H x dx∧Dn K H y dy∧SeqAt.shaped dx=true∧SeqAt.shaped dy=true∧Q (.bl (!PyData.eqv dx dy)) H
noncomputable def rEqA (K:Frag):R2:=fun x y H Q=>rEq x y H Q∨rEqD K x y H Q
noncomputable def rNeA (K:Frag):R2:=fun x y H Q=>rNe x y H Q∨rNeD K x y H Q
section
variable {X:Cx}
theorem op_eqD (hu:X.A.units+64<cLine):OpR X (compareOp .Eq) (rEqD X.K):=by
 intro pins s σ H x y v u Q I rx ry h
 obtain ⟨dx,dy,h1,h2,s1,s2,q⟩:=h
 obtain ⟨as,ra⟩:=h1.reads I rx
 obtain ⟨bs,rb⟩:=h2.reads I ry
 exact eq_dataH ra rb s1 s2 hu ⟨.bl _,H,I,rfl,q⟩
theorem op_neD (hu:X.A.units+64<cLine):OpR X (compareOp .NotEq) (rNeD X.K):=by
 intro pins s σ H x y v u Q I rx ry h
 obtain ⟨dx,dy,h1,h2,s1,s2,q⟩:=h
 obtain ⟨as,ra⟩:=h1.reads I rx
 obtain ⟨bs,rb⟩:=h2.reads I ry
 exact ne_dataH ra rb s1 s2 hu ⟨.bl _,H,I,rfl,q⟩
theorem op_eqA (hu:X.A.units+64<cLine):OpR X (compareOp .Eq) (rEqA X.K):=op_eq.or (op_eqD hu)
theorem op_neA (hu:X.A.units+64<cLine):OpR X (compareOp .NotEq) (rNeA X.K):=op_ne.or (op_neD hu)
end
def rLenA (K:Frag):List V→Hp→VK→Prop:=fun xs H Q=>(∃p ys,xs=[.ref p]∧(SqL K H p ys∨SqT K H p ys)∧Q (.int ys.length) H)∨∃z,xs=[.str z]∧z.length≤sizeLine∧Q (.int z.length) H
def rSum (K:Frag):List V→Hp→VK→Prop:=fun xs H Q=>∃(p:Addr) (ns:List Int),xs=[.ref p]∧SqL K H p (ns.map V.int)∧Q (.int ns.sum) H
def rIsI (K:Frag):List V→Hp→VK→Prop:=fun xs H Q=>∃x c t b,xs=[x,.ty c]∧TyOf K H x t∧kitOne K t (.type c)=some b∧Q (.bl b) H
noncomputable def rngV (lo:Int)(n:Nat):List V:=(List.range n).map fun (k:Nat)=>V.int (lo+(k:Int))
def rList (K:Frag):List V→Hp→VK→Prop:=fun xs H Q=>(∃p ys,xs=[.ref p]∧(SqL K H p ys∨SqT K H p ys)∧∀l,H l=none→Q (.ref l) (upd H l (.lst ys)))∨
 ∃p i j,xs=[.ref p]∧H p=some (.rng i j)∧-(2 ^ 62)≤i∧i<2 ^ 62∧-(2 ^ 62)≤j∧j<2 ^ 62∧(j - i).toNat≤1000000∧∀l,H l=none→Q (.ref l) (upd H l (.lst (rngV i (j - i).toNat)))
section
variable {X:Cx}
theorem call_lenA:CallR X (.builtin "len") (rLenA X.K):=call_len_seq.or call_len_str
theorem call_sum (hc:X.calm=true):CallR X (.builtin "sum") (rSum X.K):=by
 intro pins s σ H xs us Q I r h
 obtain ⟨p,ns,rfl,hq,q⟩:=h
 obtain ⟨u,rfl,rx⟩:=vals1 r
 cases rx
 obtain ⟨its,rv,pl,hz⟩:=I.list hq
 have hi:IntsAre its ns:=intsAre_of rv
 obtain ⟨xs,hxs⟩:=hi.allInts.items
 have hn:numsOf its.toArray.toList=ns:=by rw [show its.toArray.toList=its from rfl,hi.numsOf]
 have hl:=pl.isList
 rw [hxs] at hl hn
 rw [nums_intItems] at hn
 refine sum_intListG (I.ok.hd hc) hl fun h' tk t' hk=>⟨.int ns.sum,H,I.kept hk,⟨t',?_⟩,q⟩
 rw [preSum_eq,take_of_length_le (by simp),hn]
theorem call_isinst:CallR X (.builtin "isinstance") (rIsI X.K):=by
 intro pins s σ H xs us Q I r h
 obtain ⟨x,c,t,b,rfl,ty,e,q⟩:=h
 obtain ⟨u,w',rfl,rx,ry⟩:=vals2 r
 cases (show w'=Value.type c from ry)
 exact isinst_ok I rx ty e fun tk=>⟨.bl b,H,I.tok _,rfl,q⟩
theorem call_list_rng (hc:X.calm=true):CallR X (.type "list") (fun xs H Q=>∃p i j,xs=[.ref p]∧H p=some (.rng i j)∧-(2 ^ 62)≤i∧i<2 ^ 62∧-(2 ^ 62)≤j∧j<2 ^ 62∧(j - i).toNat≤1000000∧
    ∀l,H l=none→Q (.ref l) (upd H l (.lst (rngV i (j - i).toNat)))):=by
  intro pins s σ H xs us Q I r h
  obtain ⟨p,i,j,rfl,hH,h1,h2,h3,h4,h5,q⟩:=h
  obtain ⟨u,rfl,rx⟩:=vals1 r
  cases rx
  obtain ⟨t,u,v,e⟩:=I.hok p _ hH
  have en:Builtin.Range.rangeSize i j 1=(((j - i).toNat:Nat):Int):=by rw [rangeSize_one];split<;>omega
  refine call_list_range (n:=(j - i).toNat) (I.ok.hd hc) e (small_one h1 h2 h3 h4) en (le_trans h5 (by decide)) fun h' tk acc' c' hk hg hit=>?_
  refine ⟨.ref s.heap.objs.size,_,I.laid (t':=tk) hk (le_refl _) (show ObjOk X.prog X.w _ h' _ (.lst (rngV i (j - i).toNat)) from ⟨?_,acc'.toList,c',?_,?_⟩),rfl,q _ I.fresh⟩
  · unfold rngV
    rw [length_map,length_range]
    exact le_trans h5 (by decide)
  · obtain ⟨hsz,hv⟩:=hit
    have key:∀(k:Nat) (l:List Value) (lo:Int),l.length=k→(∀(m:Nat) (v:Value),l[m]?=some v→∃t,v=Value.int (lo+(m:Int)) t)→Vals (rngV lo k) l:=by
      intro k
      induction k with
      | zero =>
        intro l lo hl _
        rw [List.length_eq_zero_iff.mp hl]
        exact .nil
      | succ k ih =>
        intro l lo hl hv
        cases l with
        | nil=>simp at hl
        | cons x l =>
          obtain ⟨t,e⟩:=hv 0 x (by simp)
          have er:rngV lo (k+1)=V.int lo::rngV (lo+1) k:=by
            unfold rngV
            rw [List.range_succ_eq_map,map_cons,map_map]
            congr 1
            · simp
            · apply List.map_congr_left
              intro m _
              show V.int (lo+((m+1:Nat):Int))=V.int (lo+1+(m:Int))
              congr 1
              omega
          rw [er]
          refine .cons ⟨t,?_⟩ (ih l (lo+1) (by simpa using hl) fun m v hm=>?_)
          · rw [e]
            congr 1
            simp
          · obtain ⟨t',e'⟩:=hv (m+1) v (by simpa using hm)
            refine ⟨t',?_⟩
            rw [e']
            congr 1
            omega
    refine key _ _ i (by simpa using hsz) fun m v hm=>?_
    obtain ⟨t,e⟩:=hv m v (by simpa using hm)
    exact ⟨t,by rw [e];congr 1;omega⟩
  · simpa using hg
theorem call_listA (hc:X.calm=true):CallR X (.type "list") (rList X.K):=call_list_of.or (call_list_rng hc)
def tRev (K:Frag)(te ts:TE):TE:=fun σ H Q=>te σ H fun x H1=>ts σ H1 fun y H2=>∃a xs,x=.ref a∧y=.int (-1)∧SqL K H2 a xs∧∀p,H2 p=none→Q (.ref p) (upd H2 p (.lst xs.reverse))
theorem pe_rev {e st:Expr}{te ts:TE}{pos p2:Pos}(he:PE X e te)(hst:PE X st ts):PE X (.Subscript e (.Slice none none (some st) p2) pos) (tRev X.K te ts):=by
 intro pins s σ H Q I h
 refine Subscript_ (thn (he pins s σ H _ I h) fun v s1 hz9=>?_)
 obtain ⟨x,H1,I1,r1,q1⟩:=hz9
 refine wpAny_Slice ?_
 rw [evalPart_none]
 refine wpAny_pure (wpAny_pure ?_)
 rw [evalPart_some]
 refine thn (hst pins s1 σ H1 _ I1 q1) fun vk s3 hz9=>?_
 obtain ⟨y,H3,I3,r3,a,xs,ex,ey,hx,q3⟩:=hz9
 subst ex ey
 obtain ⟨tk,rfl⟩:=r3
 cases r1
 have I4:Inv X pins σ H3 {s3 with heap:=s3.heap.push {cls:=.type "slice",data:=.fields #[.none,.none,.int (-1) tk]}}:=I3.kept (t':=s3.toks) fun b ob q=>get?_push_of_some _ q
 obtain ⟨its,r,ht,hz⟩:=I4.list hx
 have hlen:=r.length
 show wpAny (model X.prog X.w) X.A (subscriptTail e (.Slice none none (some st) p2) (.ref a) (.ref s3.heap.objs.size)) (EP X pins σ Q) X.xe {s3 with heap:=s3.heap.push {cls:=.type "slice",data:=.fields #[.none,.none,.int (-1) tk]}}
 refine tail_any (ops:=[.ref a,.ref s3.heap.objs.size]) ht.isList.typeIs slot_list_getitem.lookup ?_ (by with_unfolding_all rfl)
 refine wpAny_getItem_list_slice ht.isList (Heap.IsSliceOf.new ..) .none .none (.int (-1) tk) (by simp) ?_ (by rw [size_toArray]<;>omega)
 rw [PySem.W.krv_pick]
 refine ⟨.ref _,_,I4.laid (t':=s3.toks) (o:=.lst xs.reverse) (fun b ob q=>get?_push_of_some _ q) (le_refl _) ?_,rfl,q3 _ (I4.hok.fresh (le_refl _))⟩
 exact ⟨by rw [length_reverse];exact hz,_,0,r.reverse,get?_push_size _ rfl⟩
end
structure Def (P:Program)(w:World)(K:Frag)(mg:Str→Option Value)(base:Heap)(CX:CXT)(k:Nat)(x:Str)(ps:List Str)(sp:Sp):Prop where
 ex:∃f fd,mg x=some (.ref f)∧keepIn K (.ref f)=true∧Binds K fd ps []∧FnOk P w K mg base CX k f fd ps sp
theorem pe_callD {X:Cx}{CX:CXT}{k:Nat}{ps:List Str}{sp:Sp}{E:XK}{x:Str}{p pos:Pos}{e:Expr}{es:List Expr}{t:TA}(D:Def X.prog X.w X.K X.mg X.base CX k x ps sp)(hr:Room k X.A)(hg:Gl X x)(hx:Passes CX X E)
  (ha:PA X (e::es) t) (hdb:(x==("__debug__":Str))=false:=by decide) (he:starEach (e::es) X.env=(false,eval e X.env)::starEach es X.env:=by rfl) (hpl:(backTo pos (starEach es X.env)).any (·.1)=false:=by rfl) :
  PE X (.Call (.Name x p) (e::es) [] pos) (tCall sp [] E t):=by
 obtain ⟨f,fd,m,kp,b,F⟩:=D.ex
 exact pe_call F hr hg m kp b .nil hx ha hdb he hpl
section
variable {σ:St}{H:Hp}{Q:VK}{D:Ends}{K:Frag}
theorem rd_I {C:Int→Int→Prop}{g:Int→Int→V}{i j:Int}(c:C i j)(q:Q (g i j) H):rI C g (.int i) (.int j) H Q:=⟨i,j,rfl,rfl,c,q⟩
theorem rd_I0 {g:Int→Int→V}{i j:Int}(q:Q (g i j) H):rI0 g (.int i) (.int j) H Q:=⟨i,j,rfl,rfl,q⟩
theorem rd_U {g:Int→V}{i:Int}(q:Q (g i) H):rU g (.int i) H Q:=⟨i,rfl,q⟩
theorem rd_add {i j:Int}(q:Q (.int (i+j)) H):rAddA (.int i) (.int j) H Q:=.inl ⟨i,j,rfl,rfl,q⟩
theorem rd_mul {i j:Int}(c:CMul i j)(q:Q (.int (i*j)) H):rMulA (.int i) (.int j) H Q:=.inl ⟨i,j,rfl,rfl,c,q⟩
theorem rd_call {sp:Sp}{E:XK}{t:TA}(q:t σ H fun vs H1=>sp vs H1 Q E):tCall sp [] E t σ H Q:=by
 show t σ H fun vs H1=>sp (vs++[]) H1 Q E
 have e:(fun vs H1=>sp (vs++[]) H1 Q E)=fun vs H1=>sp vs H1 Q E:=by
  funext vs H1
  rw [append_nil]
 rw [e]
 exact q
theorem rd_ixL {p:Addr}{xs:List V}{i:Int}{v:V}(h:SqL K H p xs)(e:atI xs i=some v)(q:Q v H):rIx K (.ref p) (.int i) H Q:=.inl ⟨p,xs,i,v,rfl,rfl,h,e,q⟩
theorem rd_ixT {p:Addr}{xs:List V}{i:Int}{v:V}(h:SqT K H p xs)(e:atI xs i=some v)(q:Q v H):rIx K (.ref p) (.int i) H Q:=.inr (.inl ⟨p,xs,i,v,rfl,rfl,h,e,q⟩)
theorem rd_lenL {p:Addr}{ys:List V}(h:SqL K H p ys)(q:Q (.int ys.length) H):rLenA K [.ref p] H Q:=.inl ⟨p,ys,rfl,.inl h,q⟩
theorem rd_lenT {p:Addr}{ys:List V}(h:SqT K H p ys)(q:Q (.int ys.length) H):rLenA K [.ref p] H Q:=.inl ⟨p,ys,rfl,.inr h,q⟩
theorem rd_lenS {z:Str}(h:z.length≤sizeLine)(q:Q (.int z.length) H):rLenA K [.str z] H Q:=.inr ⟨z,rfl,h,q⟩
theorem rd_app {l:Addr}{xs:List V}{y:V}(h:H l=some (.lst xs))(hz:xs.length<sizeLine)(q:Q .non (upd H l (.lst (xs++[y])))):rAppend (.ref l) [y] H Q:=⟨l,xs,y,rfl,rfl,h,hz,q⟩
theorem rd_slL {a:Addr}{xs:List V}{lo hi:Option Int}(h:SqL K H a xs)(q:∀p,H p=none→Q (.ref p) (upd H p (.lst (cutV xs lo hi)))):rSlL K (.ref a) lo hi H Q:=⟨a,xs,rfl,h,q⟩
theorem rd_cat {a b:Addr}{xs zs:List V}(h1:H a=some (.lst xs))(h2:H b=some (.lst zs))(hz:xs.length+zs.length≤sizeLine)(q:∀p,H p=none→Q (.ref p) (upd H p (.lst (xs++zs)))):rAddA (.ref a) (.ref b) H Q:=
 .inr (.inr ⟨a,b,xs,zs,rfl,rfl,h1,h2,hz,q⟩)
theorem rd_rep {l:Addr}{k:Int}{xs:List V}(h:H l=some (.lst xs))(h1:-(2 ^ 63)≤k)(h2:k<2 ^ 63)(hz:xs.length*k.toNat≤sizeLine)(q:∀p,H p=none→Q (.ref p) (upd H p (.lst (List.replicate k.toNat xs).flatten))):rMulA (.ref l) (.int k) H Q:=
 .inr ⟨l,k,xs,rfl,rfl,h,h1,h2,hz,q⟩
theorem rd_sum {p:Addr}{ns:List Int}(h:SqL K H p (ns.map V.int))(q:Q (.int ns.sum) H):rSum K [.ref p] H Q:=⟨p,ns,rfl,h,q⟩
theorem rd_isI {x:V}{c:String}{t:Value}{b:Bool}(h:TyOf K H x t)(e:kitOne K t (.type c)=some b)(q:Q (.bl b) H):rIsI K [x,.ty c] H Q:=⟨x,c,t,b,rfl,h,e,q⟩
theorem rd_listL {p:Addr}{ys:List V}(h:SqL K H p ys)(q:∀l,H l=none→Q (.ref l) (upd H l (.lst ys))):rList K [.ref p] H Q:=.inl ⟨p,ys,rfl,.inl h,q⟩
theorem rd_listR {p:Addr}{i j:Int}(h:H p=some (.rng i j))(h1:-(2 ^ 62)≤i)(h2:i<2 ^ 62)(h3:-(2 ^ 62)≤j)(h4:j<2 ^ 62)(h5:(j - i).toNat≤1000000)(q:∀l,H l=none→Q (.ref l) (upd H l (.lst (rngV i (j - i).toNat)))):rList K [.ref p] H Q:=
 .inr ⟨p,i,j,rfl,h,h1,h2,h3,h4,h5,q⟩
end
structure QE (X:Cx)(e:Expr)(t:TE):Prop where
 out:PE X e t
structure QT (X:Cx)(e:Expr)(t:TT):Prop where
 out:PT X e t
structure QW (X:Cx)(e:Expr)(t:TT):Prop where
 out:PW X e t
structure QA (X:Cx)(es:List Expr)(t:TA):Prop where
 out:PA X es t
structure QO (X:Cx)(e:Option Expr)(t:TO):Prop where
 out:PO X e t
structure QG (X:Cx)(e:Expr)(t:TG):Prop where
 out:PG X e t
structure QGs (X:Cx)(es:List Expr)(t:TGs):Prop where
 out:PGs X es t
structure QI (X:Cx)(tg iter:Expr)(wi:TI):Prop where
 out:PI X tg iter wi
structure QS (X:Cx)(st:Stmt)(t:TS):Prop where
 out:PS X st t
structure QSs (X:Cx)(st:List Stmt)(t:TS):Prop where
 out:PSs X st t
section
variable {X:Cx}{a b c e st o tg iter:Expr}{rest es:List Expr}{ta tb tc te ts to:TE}{tA tB':TT}{t:TA}{pos p p2 apos cpos:Pos}
theorem qe_int {i:Int}{j:Nat}:QE X (.Constant (.int i) j pos) (tC (.int i)):=⟨pe_int⟩
theorem qe_bl {i:Bool}{j:Nat}:QE X (.Constant (.bool i) j pos) (tC (.bl i)):=⟨pe_bl⟩
theorem qe_non {j:Nat}:QE X (.Constant .none j pos) (tC .non):=⟨pe_non⟩
theorem qe_str {x:Str}{j:Nat}:QE X (.Constant (.str x) j pos) (tC (.str x)):=⟨pe_str⟩
theorem qv (i:Nat){x:Str}(hN:X.N[i]?=some x:=by rfl)(hv:autoParam (Vis X.env.scope x) aT3._auto_1)(hd:(x==("__debug__":Str))=false:=by decide)
  (hcd:(x==("__classdict__":Str))=false:=by decide):QE X (.Name x pos) (tVar i):=⟨pv i hN hv hd hcd⟩
theorem qe_bltn {x:Str}{v:V}{u:Value}(hg:Gl X x)(hm:X.mg x=none)(hv:bootBuiltins x=some u)(r:RelV v u)(hn:x≠"__name__":=by decide)(hd:(x==("__debug__":Str))=false:=by decide):QE X (.Name x pos) (tC v):=⟨pe_bltn hg hm hv r hn hd⟩
theorem qe_op {op:Operator}{r:R2}(ho:OpR X (binaryOp op) r)(ha:QE X a ta)(hb:QE X b tb):QE X (.BinOp a op b pos) (tOp r ta tb):=⟨pe_op ho ha.out hb.out⟩
theorem qe_un {op:UnaryOp}{r:V→Hp→VK→Prop}(ho:UnR X (unaryOp op) r)(ha:QE X a ta):QE X (.UnaryOp op a pos) (tUn r ta):=⟨pe_un ho ha.out⟩
theorem qe_cmpR {op:CmpOp}{r:R2}(ho:OpR X (compareOp op) r)(ha:QE X a ta)(hb:QE X b tb)(hm:behindInMarks op b=false):QE X (.Compare a [op] [b] pos) (tOp r ta tb):=⟨pe_cmpR ho ha.out hb.out hm⟩
theorem qt_cmpR {op:CmpOp}{r:R2}(ho:OpR X (compareOp op) r)(ha:QE X a ta)(hb:QE X b tb)(hm:behindInMarks op b=false):QT X (.Compare a [op] [b] pos) (tTest (tOp r ta tb)):=⟨pt_cmpR ho ha.out hb.out hm⟩
theorem qe_one {op:BoolOp}(h:QE X a ta):QE X (.BoolOp op [a] pos) ta:=⟨pe_one h.out⟩
theorem qe_and (ha:QE X a ta)(hb:QE X (.BoolOp .And (b::rest) pos) tb):QE X (.BoolOp .And (a::b::rest) pos) (tAndV ta tb):=⟨pe_and ha.out hb.out⟩
theorem qt_val (h:QE X e te)(he:∀whole,isTrue e X.env whole=(do let v ← whole;standAt e.pos;holding [v] (truthy v)):=by intro _;rfl):QT X e (tB te):=⟨pt_val h.out he⟩
theorem qt_not (ha:QT X a tA):QT X (.UnaryOp .Not a pos) (tNot tA):=⟨pt_not ha.out⟩
theorem qw_and1 (ha:QT X a tA):QW X (.BoolOp .And [a] pos) tA:=⟨pw_and1 ha.out⟩
theorem qw_or1 (ha:QT X a tA):QW X (.BoolOp .Or [a] pos) tA:=⟨pw_or1 ha.out⟩
theorem qw_and (ha:QT X a tA)(hb:QW X (.BoolOp .And (b::rest) pos) tB'):QW X (.BoolOp .And (a::b::rest) pos) (tAnd tA tB'):=⟨pw_and ha.out hb.out⟩
theorem qw_or (ha:QT X a tA)(hb:QW X (.BoolOp .Or (b::rest) pos) tB'):QW X (.BoolOp .Or (a::b::rest) pos) (tOr tA tB'):=⟨pw_or ha.out hb.out⟩
theorem qt_w (h:QW X a tA):QT X a tA:=⟨h.out.pt⟩
theorem qa_nil:QA X [] tNil:=⟨pa_nil⟩
theorem qa_cons (ha:QE X e te)(hr:QA X es t)(hs:starEach (e::es) X.env=(false,eval e X.env)::starEach es X.env):QA X (e::es) (tCons te t):=⟨pa_cons ha.out hr.out hs⟩
theorem qe_tup {x1:Nat}(h:QA X es t):QE X (.Tuple es x1 pos) (tTup t):=⟨pe_tup h.out⟩
theorem qe_lst (h:QA X es t):QE X (.List es pos) (tLst t):=⟨pe_lst h.out⟩
theorem qe_ix {r:R2}(hr:IxR X r)(ha:QE X a ta)(hb:QE X b tb)(hs:PlainIx b):QE X (.Subscript a b pos) (tOp r ta tb):=⟨pe_ix hr ha.out hb.out hs⟩
theorem qo_none:QO X none tNoPart:=⟨po_none⟩
theorem qo_some (h:QE X e te):QO X (some e) (tPart te):=⟨po_some h.out⟩
theorem qe_slice {r:V→Option Int→Option Int→Hp→VK→Prop}{lo hi:Option Expr}{tl th:TO}(hr:SlR X r)(he:QE X e te)(hl:QO X lo tl)(hu:QO X hi th):QE X (.Subscript e (.Slice lo hi none p2) pos) (tSl r te tl th):=⟨pe_slice hr he.out hl.out hu.out⟩
theorem qe_rev (he:QE X e te)(hst:QE X st ts):QE X (.Subscript e (.Slice none none (some st) p2) pos) (tRev X.K te ts):=⟨pe_rev he.out hst.out⟩
theorem qe_callD {CX:CXT}{k:Nat}{ps:List Str}{sp:Sp}{E:XK}{x:Str}(D:Def X.prog X.w X.K X.mg X.base CX k x ps sp)(hr:Room k X.A)(hg:Gl X x)(hx:Passes CX X E)
  (ha:QA X (e::es) t) (hdb:(x==("__debug__":Str))=false:=by decide) (he:starEach (e::es) X.env=(false,eval e X.env)::starEach es X.env:=by rfl) (hpl:(backTo pos (starEach es X.env)).any (·.1)=false:=by rfl) :
  QE X (.Call (.Name x p) (e::es) [] pos) (tCall sp [] E t):=⟨pe_callD D hr hg hx ha.out hdb he hpl⟩
theorem qe_callB {x:Str}{id:String}{r:List V→Hp→VK→Prop}(hc:CallR X (.builtin id) r)(hg:Gl X x)(hm:X.mg x=none)(hv:bootBuiltins x=some (.builtin id))(ha:QA X (e::es) t)(hn:x≠"__name__":=by decide)(hdb:(x==("__debug__":Str))=false:=by decide)
  (he:starEach (e::es) X.env=(false,eval e X.env)::starEach es X.env:=by rfl) (hpl:(backTo pos (starEach es X.env)).any (·.1)=false:=by rfl):QE X (.Call (.Name x p) (e::es) [] pos) (tCB r t):=⟨pe_callB hc hg hm hv ha.out hn hdb he hpl⟩
theorem qe_callTy {x:Str}{T:String}{r:List V→Hp→VK→Prop}(hc:CallR X (.type T) r)(hg:Gl X x)(hm:X.mg x=none)(hv:bootBuiltins x=some (.type T))(ha:QA X (e::es) t)(hn:x≠"__name__":=by decide)(hdb:(x==("__debug__":Str))=false:=by decide)
  (he:starEach (e::es) X.env=(false,eval e X.env)::starEach es X.env:=by rfl) (hpl:(backTo pos (starEach es X.env)).any (·.1)=false:=by rfl):QE X (.Call (.Name x p) (e::es) [] pos) (tCB r t):=⟨pe_callTy hc hg hm hv ha.out hn hdb he hpl⟩
theorem qe_bm {name:Str}{T id:String}{r:V→List V→Hp→VK→Prop}(pa:PlainAttrs T)(slot:Slot T name id)(hty:typeOf (.builtin id)=pure (.type "method_descriptor"))(hm:MtR X id r)(ho:QE X o to)(ha:QA X (e::es) t)
    (hbase:attributeBase o name X.env (eval o X.env)=eval o X.env:=by rfl)
    (hfew:((backTo cpos (starEach (e::es) X.env)).all (fun x=>!x.1)&&(backToKw cpos (keywordEach [] X.env)).all (fun x=>x.1.isSome)
      && decide ((e::es).length+([]:List Keyword).length+(if ([]:List Keyword).isEmpty then 0 else 1)<30))=true:=by rfl)
    (hline:(apos.endLine==cpos.line)=true:=by rfl) (hs:starEach (e::es) X.env=(false,eval e X.env)::starEach es X.env:=by rfl) (hplain:(backTo cpos (starEach es X.env)).any (·.1)=false:=by rfl) :
    QE X (.Call (.Attribute o name apos) (e::es) [] cpos) (tBM X.K T r to t):=⟨pe_bm pa slot hty hm ho.out ha.out hbase hfew hline hs hplain⟩
theorem qg_name {i:Nat}{x:Str}(hN:X.N.Nodup)(hi:X.N[i]?=some x)(hx:Loc X.env.scope x)(hf:autoParam (X.fn x=true∨X.env.scope.names.lookup x=some .local) aT0._auto_1):QG X (.Name x pos) (gName i):=⟨pg_name hN hi hx hf⟩
theorem qg_tup {k:Nat}{tt:TGs}{n:Nat}(hc:X.calm=true)(h:QGs X es tt)(hn:(assignEach es X.env).length=n:=by rfl)(hst:(assignEach es X.env).findIdx? (·.1)=none:=by rfl):QG X (.Tuple es k pos) (gTup X.K n tt):=⟨pg_tup hc h.out hn hst⟩
theorem qgs_nil:QGs X [] gNil:=⟨pgs_nil⟩
theorem qgs_cons {tt:TG}{u:TGs}(h1:QG X e tt)(h2:QGs X es u)(hs:(assignEach (e::es) X.env).map (·.2)=assign e X.env::(assignEach es X.env).map (·.2):=by rfl):QGs X (e::es) (gCons tt u):=⟨pgs_cons h1.out h2.out hs⟩
theorem qi_list (hl:QE X e te):QI X tg e (iList X.K te):=⟨pi_list hl.out⟩
theorem qi_range1 (hg:Gl X "range")(hm:X.mg "range"=none)(ha:QA X [a] t)(hs:starEach [a] X.env=[(false,eval a X.env)]:=by rfl):QI X tg (.Call (.Name "range" p) [a] [] pos) (iRng1 t):=⟨pi_range1 hg hm ha.out hs⟩
theorem qi_range2 (hg:Gl X "range")(hm:X.mg "range"=none)(ha:QA X [a,b] t)(hs:starEach [a,b] X.env=[(false,eval a X.env),(false,eval b X.env)]:=by rfl)(hs2:starEach [b] X.env=[(false,eval b X.env)]:=by rfl):QI X tg (.Call (.Name "range" p) [a,b] [] pos) (iRng2 t):=⟨pi_range2 hg hm ha.out hs hs2⟩
variable {s1:Stmt}{ss body other:List Stmt}{u v:TS}{pos':Pos}
theorem qss_nil:QSs X [] tNext:=⟨pss_nil⟩
theorem qss_cons (h1:QS X s1 u)(h2:QSs X ss v):QSs X (s1::ss) (tSeq u v):=⟨pss_cons h1.out h2.out⟩
theorem qss_one (h1:QS X s1 u):QSs X [s1] u:=⟨pss_one h1.out⟩
theorem qs_never:QS X s1 tNever:=⟨ps_never⟩
theorem qs_expr (he:QE X e te)(hs:swapsWith e none pos.line X.env=pure false:=by rfl):QS X (.Expr e pos) (tDrop te):=⟨ps_expr he.out hs⟩
theorem qs_ret (he:QE X e te):QS X (.Return (some e) pos) (tRet te):=⟨ps_ret he.out⟩
theorem qs_if (hc:QT X c tA)(ha:QSs X body u)(hb:QSs X other v):QS X (.If c body other pos) (tIfS tA u v):=⟨ps_if hc.out ha.out hb.out⟩
theorem qs_asg {g:TG}(he:QE X e te)(hg:QG X tg g)(hs:swapsWithSole [tg] e pos.line X.env=pure false:=by rfl)(hw:swappedStores [tg] e X.env=pure none:=by rfl)(h1:(assignEach [tg] X.env).map (·.2)=[assign tg X.env]:=by rfl):QS X (.Assign [tg] e pos) (tAsg te g):=⟨ps_asg he.out hg.out hs hw h1⟩
theorem qs_set {i:Nat}{x:Str}(hN:X.N.Nodup)(hi:X.N[i]?=some x)(hx:Loc X.env.scope x)(he:QE X e te)(hs:swapsWith e (some (.Name x pos')) pos.line X.env=pure false:=by rfl)(hf:autoParam (X.fn x=true∨X.env.scope.names.lookup x=some .local) aT0._auto_1) :
  QS X (.Assign [.Name x pos'] e pos) (tAsg te (gName i)):=⟨ps_set hN hi hx he.out hs hf⟩
theorem qs_for {wi:TI}{g:TG}(hp:PassesOwn (model X.prog X.w) X.A X.env X.xe)(hc:X.calm=true)(hi:QI X tg iter wi)(hg:QG X tg g)(hb:QSs X body u)(hs:∀x,foldedSetIterable iter X.env x=pure x:=by intro _;rfl):QS X (.For tg iter body [] pos) (tFor wi g u):=⟨ps_for hp hc hi.out hg.out hb.out hs⟩
end
theorem Fun.okQ {P:Program}{w:World}{K:Frag}{mg:Str→Option Value}{base:Heap}{x qual:Str}{st:Stmt}{f:Addr}{fd:FuncData}{N ps:List Str}{k:Nat}{sp:Sp}(F:Fun K x qual st f fd)(S:FnScope N ps (defScope st))(len:∀vs H Q E,sp vs H Q E→vs.length=ps.length)
    (hbody:∀(cdv:Value) (A:Around) (outer:List Env) (s:Shared) (H:Hp) (vs:List V) (Q:VK) (E:XK),Room k (A.deeper (envOfC qual (defScope st) s.heap.objs.size f cdv))→sp vs H Q E→
      ∃t,QSs (cxOf CX0 P w K mg base N qual (defScope st) f cdv A outer s H E).nox (defBody st) t∧t {nx:=fun _ H'=>Q .non H',rt:=Q} (start N vs) H):FnOk P w K mg base CX0 (k+1) f fd ps sp:=
  F.ok S len fun cdv A outer s H vs Q E hr h=>by
    obtain ⟨t,ht,q⟩:=hbody cdv A outer s H vs Q E hr h
    exact ⟨t,ht.out,q⟩
@[reducible] noncomputable def Cx.blk (X:Cx)(N2:List Str)(x:Str)(sc:Scope)(cl:List (Str×Addr))(C:Addr)(s0:Shared)(H0:Hp)(fp:List Addr):Cx:=
 {X with N:=N2++[x],s₀:=s0,H₀:=H0,env:=compEnvC sc cl C X.env,outer:=X.stack,ex:=fp,fn:=fun _=>false,pn:=[],xe:=fun _ _=>False}
structure BlkOk (sc esc:Scope)(x:Str)(N N2:List Str):Prop where
 kind:sc.kind=.function
 cell:∀y∈sc.names,y.2≠.cell
 loc:∀y∈sc.names,y.2=.local→sc.names.lookup y.1=some .local
 own:sc.names.lookup x=some .local
 free:∀y∈sc.names,y.2=.free→esc.names.lookup y.1=some .cell∨esc.names.lookup y.1=some .free
 out:∀y∈N2,sc.names.lookup y≠some .local
 nd:N.Nodup
 nd2:N2.Nodup
 len:N2.length=N.length
 ren:∀p∈N.zip N2,p.2=p.1∨sc.names.lookup p.2=none
theorem lookup_mem {l:List (Str×NameKind)}{y:Str}{k:NameKind}(h:(y,k)∈l):l.lookup y≠none:=by
 induction l with
 | nil=>simp at h
 | cons p r ih =>
  obtain ⟨n,k'⟩:=p
  cases hy:y==n with
  | true=>rw [lookup_cons,hy];simp
  | false =>
   rw [lookup_cons,hy]
   rcases List.mem_cons.mp h with e | e
   ·cases e
    simp at hy
   ·exact ih e
noncomputable def closOf (cells:List (Str×Addr)):List (Str×NameKind)→List (Str×Addr)→List (Str×Addr)
 | [],cs=>cs
 | (n,k)::r,cs=>closOf cells r (if k=.free then (n,(cells.lookup n).getD 0)::cs else cs)
theorem closureFor_all {sc:Scope}{env:Env}(h:∀y∈sc.names,y.2=.free→∃c,env.cells.lookup y.1=some c):closureFor sc env=pure (closOf env.cells sc.names []):=by
  unfold closureFor
  generalize sc.names=l at h ⊢
  have key:∀(l:List (Str×NameKind)) (cs:List (Str×Addr)),(∀y∈l,y.2=.free→∃c,env.cells.lookup y.1=some c)→
      (forIn l cs fun (y:Str×NameKind) (r:List (Str×Addr))=>(do
        let (name,kind):=y
        if kind==.free then
          let c ← cellOf env name
          pure (ForInStep.yield ((name,c)::r))
        else pure (ForInStep.yield r):Sem (ForInStep (List (Str×Addr)))))=pure (closOf env.cells l cs):=by
    intro l
    induction l with
    | nil=>intro cs _;rfl
    | cons y r ih =>
      intro cs hy
      obtain ⟨n,k⟩:=y
      rw [List.forIn_cons]
      have hr:∀y∈r,y.2=.free→∃c,env.cells.lookup y.1=some c:=fun y h'=>hy y (mem_cons_of_mem _ h')
      by_cases hk:k=.free
      · subst hk
        obtain ⟨c,hc⟩:=hy _ mem_cons_self rfl
        have e:cellOf env n=pure c:=by unfold cellOf;rw [show env.cells.lookup n=some c from hc]
        simp only [beq_self_eq_true,if_true,e]
        rw [closOf,if_pos rfl,show env.cells.lookup n=some c from hc]
        exact ih _ hr
      · have hb:(k==NameKind.free)=false:=by simpa using hk
        rw [closOf,if_neg hk]
        simp only [hb,if_false,Bool.false_eq_true]
        exact ih _ hr
  have q:=key l [] h
  exact (congrArg (fun z:Sem (List (Str×Addr))=>z >>= fun r=>pure r) q).trans rfl
theorem clos_look {cells:List (Str×Addr)}:∀{l:List (Str×NameKind)} {cs:List (Str×Addr)} {y:Str} {c:Addr},(∀z∈l,z.2=.free→∃c,cells.lookup z.1=some c)→(∀c,cs.lookup y=some c→cells.lookup y=some c)→
  (closOf cells l cs).lookup y=some c→cells.lookup y=some c
 | [],_,_,_,_,h0,h=>h0 _ h
 | (n,k)::r,cs,y,c,hl,h0,h=>by
  rw [closOf] at h
  refine clos_look (l:=r) (fun z hz=>hl z (mem_cons_of_mem _ hz)) (fun c' hc'=>?_) h
  by_cases hk:k=.free
  ·rw [if_pos hk] at hc'
   obtain ⟨c0,e0⟩:=hl _ mem_cons_self hk
   cases hy:y==n with
   | true =>
    have e:y=n:=by simpa using hy
    subst e
    rw [lookup_cons,hy] at hc'
    have e1:(cells.lookup y).getD 0=c':=by simpa using hc'
    have e2:cells.lookup y=some c0:=e0
    rw [e2] at e1 ⊢
    simpa using e1
   | false =>
    rw [lookup_cons,hy] at hc'
    exact h0 _ hc'
  ·rw [if_neg hk] at hc'
   exact h0 _ hc'
theorem clos_keep {cells:List (Str×Addr)}:∀{l:List (Str×NameKind)} {cs:List (Str×Addr)} {y:Str},(∃c,cs.lookup y=some c)→∃c,(closOf cells l cs).lookup y=some c
 | [],_,_,h=>h
 | (n,k)::r,cs,y,h=>by
  rw [closOf]
  refine clos_keep ?_
  split
  ·cases hy:y==n with
   | true=>exact ⟨_,by rw [lookup_cons,hy]⟩
   | false=>rw [lookup_cons,hy];exact h
  ·exact h
theorem clos_has {cells:List (Str×Addr)}:∀{l:List (Str×NameKind)} {cs:List (Str×Addr)} {y:Str},(y,NameKind.free)∈l→∃c,(closOf cells l cs).lookup y=some c
 | (n,k)::r,cs,y,h=>by
  rw [closOf]
  rcases List.mem_cons.mp h with e | e
  ·cases e
   refine clos_keep ?_
   rw [if_pos rfl]
   exact ⟨_,by rw [lookup_cons,beq_self_eq_true]⟩
  ·exact clos_has e
theorem relabel_look {env:Env}:∀{names:List (Str×NameKind)} {y:Str} {k:NameKind},(∀z∈names,z.2≠.cell)→(k=.cell∨k=.free)→
  (names.map fun (n,k)=>if (k==NameKind.free&&env.scope.kind==.function&&env.kindOf n==some .cell) then (n,NameKind.cell) else (n,k)).lookup y=some k→(y,NameKind.free)∈names
 | [],_,_,_,_,hz=>by simp at hz
 | (n,k0)::r,y,k,hc,hk,h=>by
  rw [map_cons] at h
  cases hy:y==n with
  | true =>
   have e:y=n:=by simpa using hy
   subst e
   by_cases hf:k0=.free
   ·subst hf;exact mem_cons_self
   ·have hb:(k0==NameKind.free)=false:=by simpa using hf
    simp only [hb,Bool.false_and,Bool.false_eq_true,if_false,lookup_cons,beq_self_eq_true] at h
    have e1:k0=k:=by simpa using h
    subst e1
    rcases hk with z | z
    ·exact absurd z (hc _ mem_cons_self)
    ·exact absurd z hf
  | false =>
   refine mem_cons_of_mem _ (relabel_look (env:=env) (k:=k) (fun z hz=>hc z (mem_cons_of_mem _ hz)) hk ?_)
   by_cases hc':(k0==NameKind.free&&env.scope.kind==.function&&env.kindOf n==some .cell)=true
   ·simp only [hc',if_true,lookup_cons,hy] at h
    exact h
   ·simp only [hc',Bool.false_eq_true,if_false,lookup_cons,hy] at h
    exact h
theorem relabel_loc {env:Env}:∀{names:List (Str×NameKind)} {y:Str},
  (names.map fun (n,k)=>if (k==NameKind.free&&env.scope.kind==.function&&env.kindOf n==some .cell) then (n,NameKind.cell) else (n,k)).lookup y=some .local→names.lookup y=some .local
 | [],_,h=>by simp at h
 | (n,kn)::r,y,h=>by
  rw [map_cons] at h
  cases hy:y==n with
  | true =>
   rw [lookup_cons,hy]
   by_cases hc:(kn==NameKind.free&&env.scope.kind==.function&&env.kindOf n==some .cell)=true
   ·simp only [hc,if_true,lookup_cons,hy] at h
    cases h
   ·simp only [hc,Bool.false_eq_true,if_false,lookup_cons,hy] at h
    exact h
  | false =>
   rw [lookup_cons,hy]
   refine relabel_loc (env:=env) ?_
   by_cases hc:(kn==NameKind.free&&env.scope.kind==.function&&env.kindOf n==some .cell)=true
   ·simp only [hc,if_true,lookup_cons,hy] at h
    exact h
   ·simp only [hc,Bool.false_eq_true,if_false,lookup_cons,hy] at h
    exact h
section
variable {s:Shared}{R:Result→Shared→Prop}{A:Around}{P:Program}{w:World}
noncomputable def testsOf (ifs:List Expr)(env:Env):Sem Bool:=forIn ifs true fun c r=>if r=true then do let ok ← isTrue c env (eval c env);pure (ForInStep.yield ok) else pure (ForInStep.yield r)
theorem comp_turns {elt tg iter:Expr}{ifs:List Expr}{scope:Scope}{pos:Pos}{it ac:Value}{env:Env}(W:Nat→Shared→Prop)
    (turn:∀n s,W n s→wpAny (model P w) A (pyNext it) (fun r s₁=>match r with
      | none=>R (.ok .next) s₁
      | some v=>wpAny (model P w) A (letOwnedTupleGo tg it v) (fun _ s₁'=>wpAny (model P w) A (assign tg env v) (fun _ s₂ =>
          wpAny (model P w) A (testsOf ifs env) (fun ok s₃ =>
            if ok=true then wpAny (model P w) A (eval elt env) (fun z s₄ =>
              wpAny (model P w) A (call (.builtin "list.append") [ac,z]) (fun _ s₅=>∃m,m<n∧W m s₅) (fun _ _=>False) s₄) (fun _ _=>False) s₃
            else ∃m,m<n∧W m s₃) (fun _ _=>False) s₂) (fun _ _=>False) s₁') (fun _ _=>False) s₁) (fun _ _=>False) s)
    (n:Nat) (h:W n s) :
    codeAny (model P w) A (.compLoop (.ListComp elt [⟨tg,iter,ifs,0⟩] scope pos) 0 it ac env) R s:=by
  refine codeAny_loop rfl W (fun n s hI=>?_) n h
  show wpAny _ A ((compTurn (.ListComp elt [⟨tg,iter,ifs,0⟩] scope pos) 0 it ac env).onRaise (fun z=>do noteFrame z env;theTreesLotGoes z)) _ _ s
  refine wpAny_noted ?_
  rw [compTurn_list]
  refine wpAny_bind (wpAny_standAt (wpAny_bind (wpAny_mono (turn n s hI) (fun r s₁ h₁=>?_) fun _ _ h'=>h'.elim)))
  cases r with
  | none=>exact wpAny_pure h₁
  | some v =>
    refine wpAny_bind (wpAny_mono h₁ (fun _ s₁' h₁'=>?_) fun _ _ h'=>h'.elim)
    refine wpAny_bind (wpAny_mono h₁' (fun _ s₂ h₂=>wpAny_bind (wpAny_mono h₂ (fun ok s₃ h₃=>?_) fun _ _ h'=>h'.elim)) fun _ _ h'=>h'.elim)
    cases ok with
    | false=>exact wpAny_pure (And.intro rfl h₃)
    | true =>
      exact wpAny_bind (wpAny_bind (wpAny_mono h₃ (fun x s₄ h₄=>wpAny_bind (wpAny_mono h₄ (fun _ s₅ h₅=>wpAny_pure (wpAny_pure ⟨rfl,h₅⟩)) fun _ _ h'=>h'.elim)) fun _ _ h'=>h'.elim))
end
def PIf (X:Cx)(ifs:List Expr)(t:TT):Prop:=
 ∀(pins:List (Addr×Obj)) (s:Shared) (σ:St) (H:Hp) (Q:Bool→Hp→Prop),Inv X pins σ H s→t σ H Q→wpAny (model X.prog X.w) X.A (testsOf ifs X.env) (TP X pins σ Q) X.xe s
def tYes:TT:=fun _ H Q=>Q true H
theorem pif_nil {X:Cx}:PIf X [] tYes:=fun _ _ _ H _ I h=>wpAny_pure ⟨H,I,h⟩
theorem pif_one {X:Cx}{c:Expr}{t:TT}(h:PT X c t):PIf X [c] t:=fun pins s σ H Q I hw=>wpAny_tests_one (h pins s σ H Q I hw)
section
variable {X:Cx}{elt iter:Expr}{x:Str}{px pos:Pos}{ifs:List Expr}{sc:Scope}{N2:List Str}{wi:TI}{tc:TT}{te:TE}
end
structure QIf (X:Cx)(ifs:List Expr)(t:TT):Prop where
 out:PIf X ifs t
section
variable {X:Cx}{elt iter c:Expr}{x:Str}{px pos:Pos}{ifs:List Expr}{sc esc:Scope}{N N2:List Str}{wi:TI}{tc:TT}{te:TE}
theorem qif_nil:QIf X [] tYes:=⟨pif_nil⟩
theorem qif_one (h:QT X c tc):QIf X [c] tc:=⟨pif_one h.out⟩
end
section
variable {K:Frag}{a D:Addr}{xs:List V}{tc:TT}{te:TE}{σ:St}{H:Hp}{Q:VK}{R:Hp→Prop}
end
@[reducible] noncomputable def Cx.blkN (X:Cx)(N2 xs:List Str)(sc:Scope)(cl:List (Str×Addr))(C:Addr)(s0:Shared)(H0:Hp)(fp:List Addr):Cx:=
 {X with N:=N2++xs,s₀:=s0,H₀:=H0,env:=compEnvC sc cl C X.env,outer:=X.stack,ex:=fp,fn:=fun _=>false,pn:=[],xe:=fun _ _=>False}
structure BlkN (sc esc:Scope)(xs N N2:List Str):Prop where
 kind:sc.kind=.function
 cell:∀y∈sc.names,y.2≠.cell
 loc:∀y∈sc.names,y.2=.local→sc.names.lookup y.1=some .local
 free:∀y∈sc.names,y.2=.free→esc.names.lookup y.1=some .cell∨esc.names.lookup y.1=some .free
 out:∀y∈N2,sc.names.lookup y≠some .local
 nd:N.Nodup
 len:N2.length=N.length
 ren:∀p∈N.zip N2,p.2=p.1∨sc.names.lookup p.2=none
def tCompN (k:Nat)(g:TG)(wi:TI)(tc:TT)(te:TE):TE:=fun σ H Q=>wi σ H fun J H1=>∀D,H1 D=none→∃W:Nat→Nat→Hp→Prop,(∃m,W 0 m (upd H1 D (.lst [])))∧∀i m H,W i m H→
  (J.stop i H∧Q (.ref D) H)∨(J.go i H∧∃N:Hp→Prop,(∀H',N H'→∃m',m'<m∧W (i+1) m' H')∧∀x H',J.yld i H x H'→∀os:St,os.length=k→g x (σ++os) H' fun σ' Hg=>(∃os',os'.length=k∧σ'=σ++os')∧tc σ' Hg fun b H2 =>
    if b=true then te σ' H2 fun v H3=>∃ys,H3 D=some (.lst ys)∧ys.length<sizeLine∧N (upd H3 D (.lst (ys++[v])))
    else N H2)
section
variable {X:Cx}{elt iter tg:Expr}{xs:List Str}{pos:Pos}{g:TG}{ifs:List Expr}{sc:Scope}{N2:List Str}{wi:TI}{tc:TT}{te:TE}
theorem blkN_start {pins:List (Addr×Obj)}{σ:St}{H:Hp}{s s1:Shared}{fp:List Addr}{h':Heap}{m:Str→Option Value}{tk:Nat}(B:BlkN sc X.env.scope xs X.N N2)(I:Inv X pins σ H s)(hf:∀b∈fp,FpOk X pins H b)
    (hfl:∀b∈fp,b<s.heap.objs.size) (hn:h'.Ns s.heap.objs.size m) (hk:∀b o,s.heap.get? b=some o→h'.get? b=some o) (e1:s1={s with heap:=h',toks:=tk}) :
    Inv (X.blkN N2 xs sc (closOf X.env.cells sc.names []) s.heap.objs.size s H fp) [] (σ++List.replicate xs.length none) H s1:=by
  subst e1
  have hcl:∀y∈sc.names,y.2=.free→∃c,X.env.cells.lookup y.1=some c:=fun y hy hf=>I.ok.has y.1 (B.free y hy hf)
  have look:∀y c,(closOf X.env.cells sc.names []).lookup y=some c→X.env.cells.lookup y=some c:=fun y c h=>clos_look hcl (fun _ z=>by simp at z) h
  have isfree:∀y,(relabel sc X.env).names.lookup y=some .cell∨(relabel sc X.env).names.lookup y=some .free→(y,NameKind.free)∈sc.names:=fun y hy=>by
    rcases hy with hy | hy
    · exact relabel_look (env:=X.env) B.cell (.inl rfl) hy
    · exact relabel_look (env:=X.env) B.cell (.inr rfl) hy
  refine ⟨⟨I.ok.mod,B.kind,I.ok.glob,I.ok.blt,le_refl _,fun y z c h1 h2=>I.ok.inj y z c (look y c h1) (look z c h2),fun y hy=>clos_has (isfree y hy),fun _ _ h=>(by cases h),I.ok.hd,I.ok.frames,.inl rfl,fun b hb=>?_,fun b o e=>?_,le_trans I.ok.bsz I.sz,fun b o e hb=>?_,fun b hb hs=>?_,I.stack,I.stkFree⟩,
    rfl,I.bare,Un.kept hk,⟨_,hn,fun i y v h1 h2 h3=>?_⟩,fun y c h=>?_,I.hok.fresh (le_refl _),fun y c h=>I.freeC y c (look y c h),fun p hp=>absurd (show p∈([]:List (Addr×Obj)) from hp) (by simp),I.hok.kept hk,?_⟩
  · exact ⟨ne_of_lt (hfl b hb),fun y c h=>(hf b hb).2.2.2.2.1 y c (look y c h)⟩
  · exact I.bs b o e
  · rcases (hf b hb).2.2.2.1 with z | z
    · exact I.ok.noex b o e z
    · exact absurd (lt_of_lt_of_le (lt_size e) (le_trans I.ok.bsz z)) (lt_irrefl _)
  · rcases List.mem_cons.mp (I.stkSub b hs) with z | z
    · exact (hf b hb).2.1 z
    · exact (hf b hb).2.2.1 z
  · have hlen:=I.len
    have hl2:=B.len
    have h1:(N2++xs)[i]?=some y:=h1
    have h2:(σ++List.replicate xs.length none)[i]?=some (some v):=h2
    have hi:i<X.N.length:=by
      by_cases hi:i<X.N.length
      · exact hi
      · rw [getElem?_append_right (by omega)] at h2
        have hm:=mem_of_getElem? h2
        rw [List.mem_replicate] at hm
        exact absurd hm.2 (by intro z;cases z)
    rw [getElem?_append_left (by omega)] at h1
    rw [getElem?_append_left (by omega)] at h2
    have h3':(relabel sc X.env).names.lookup y=some .cell∨(relabel sc X.env).names.lookup y=some .free:=by
      rcases h3 with z | z
      · exact absurd (relabel_loc (env:=X.env) z) (B.out y (mem_of_getElem? h1))
      · exact z
    have hfr:=isfree y h3'
    have h1:X.N[i]?=some y:=by
      obtain ⟨z,hz⟩:∃z,X.N[i]?=some z:=⟨X.N[i],getElem?_eq_getElem hi⟩
      rcases B.ren (z,y) (mem_of_getElem? (List.getElem?_zip_eq_some.mpr ⟨hz,h1⟩)) with e | e
      · rw [hz,show y=z from e]
      · exact absurd e (lookup_mem hfr)
    obtain ⟨m3,hn3,hl3⟩:=I.loc
    have hv:X.env.scope.names.lookup y=some .cell∨X.env.scope.names.lookup y=some .free:=B.free (y,.free) hfr rfl
    obtain ⟨u,ru,lk⟩:=hl3 i y v h1 h2 (.inr hv)
    refine ⟨u,ru,.inr ⟨h3',?_⟩⟩
    rcases lk with ⟨k1,_⟩ | ⟨k1,c,ec,zc⟩
    · rcases hv with q | q
      · rw [show X.env.kindOf y=X.env.scope.names.lookup y from rfl,q] at k1
        cases k1
      · rw [show X.env.kindOf y=X.env.scope.names.lookup y from rfl,q] at k1
        cases k1
    · obtain ⟨c',e'⟩:=clos_has (cells:=X.env.cells) (cs:=[]) hfr
      have e2:=look y c' e'
      rw [ec] at e2
      cases e2
      obtain ⟨o,ho,hd⟩:=zc
      exact ⟨c,e',o,hk _ _ ho,hd⟩
  · obtain ⟨v,o,ho,hd⟩:=I.cell y c (look y c h)
    exact ⟨v,o,hk _ _ ho,hd⟩
  · show (σ++List.replicate xs.length none).length=(N2++xs).length
    rw [length_append,length_append,I.len,B.len,List.length_replicate]
theorem blkN_run {pins:List (Addr×Obj)}{σ:St}{H2:Hp}{s2:Shared}{it:Addr}{fp:List Addr}{tn:Nat→Heap→Prop}{J:It}{Q:VK}{E:Value→Shared→Prop}{RR:Value→Addr→Result→Shared→Prop}(hc:X.calm=true)(B:BlkN sc X.env.scope xs X.N N2)
    (hg:∀cl C s0 H0 fp,PG (X.blkN N2 xs sc cl C s0 H0 fp) tg g) (ht:∀cl C s0 H0 fp,PIf (X.blkN N2 xs sc cl C s0 H0 fp) ifs tc) (he:∀cl C s0 H0 fp,PE (X.blkN N2 xs sc cl C s0 H0 fp) elt te)
    (I2:Inv X pins σ H2 s2) (T:Turn X.prog X.w X.K tg J fp it tn) (st2:tn 0 s2.heap) (f2:∀b∈fp,FpOk X pins H2 b)
    (hw:∀D,H2 D=none→∃W:Nat→Nat→Hp→Prop,(∃m,W 0 m (upd H2 D (.lst [])))∧∀i m H,W i m H→
      (J.stop i H∧Q (.ref D) H)∨(J.go i H∧∃N:Hp→Prop,(∀H',N H'→∃m',m'<m∧W (i+1) m' H')∧∀x H',J.yld i H x H'→∀os:St,os.length=xs.length→g x (σ++os) H' fun σ' Hg=>(∃os',os'.length=xs.length∧σ'=σ++os')∧tc σ' Hg fun b H2 =>
        if b=true then te σ' H2 fun v H3=>∃ys,H3 D=some (.lst ys)∧ys.length<sizeLine∧N (upd H3 D (.lst (ys++[v])))
        else N H2))
    (fin:∀(D C:Addr) (H':Hp) (s':Shared) (m:Str→Option Value),Inv X pins σ H' s'→s'.heap.Ns C m→FpOk X pins H' C→Q (.ref D) H'→RR (.ref D) C (.ok .next) s') :
    wpAny (model X.prog X.w) X.A (newList []) (fun acc s₃=>wpAny (model X.prog X.w) X.A (newFunctionEnv sc X.env.globals (closOf X.env.cells sc.names []) [] X.env.qual none .none (some X.env)) (fun cenv s₄ =>
      codeAny (model X.prog X.w) X.A (.compStart (.ListComp elt [⟨tg,iter,ifs,0⟩] sc pos) 0 (.ref it) acc {cenv with scope:=relabel sc X.env}) (RR acc cenv.locals) s₄) E s₃) E s2:=by
  refine wpAny_newObj_type (wpAny_newFunctionEnv B.cell (by intro y hy;simp at hy) (fun h₁ hns₁ hsb₁=>?_) B.kind)
  have hD:H2 s2.heap.objs.size=none:=I2.fresh
  obtain ⟨W,⟨m0,w0⟩,turn⟩:=hw _ hD
  have I3:Inv X pins σ (upd H2 s2.heap.objs.size (.lst [])) {s2 with heap:=s2.heap.push {cls:=.type "list",data:=.seq ([]:List Value).toArray}}:=I2.lnew (its:=[]) (t':=s2.toks) .nil (zero_le _)
  have fne:∀b∈fp,b<s2.heap.objs.size:=fun b hb=>by
    obtain ⟨o,ho,_⟩:=T.obj _ _ st2 b hb
    exact lt_size ho
  generalize hs3:({s2 with heap:=s2.heap.push {cls:=.type "list",data:=.seq ([]:List Value).toArray}}:Shared)=s3 at I3
  have hs3h:s3.heap=s2.heap.push {cls:=.type "list",data:=.seq ([]:List Value).toArray}:=by rw [← hs3]
  have f3:∀b∈fp,FpOk X pins (upd H2 s2.heap.objs.size (.lst [])) b:=fun b hb=>⟨by rw [upd_ne (ne_of_lt (fne b hb))];exact (f2 b hb).1,(f2 b hb).2⟩
  have fl3:∀b∈fp,b<s3.heap.objs.size:=fun b hb=>by
    rw [hs3h,size_push]
    exact Nat.lt_succ_of_lt (fne b hb)
  have keep3:∀b o,s3.heap.get? b=some o→h₁.get? b=some o:=fun b o e=>by
    rw [hs3h] at e
    refine hsb₁.extBut b o ?_ (get?_push_of_some _ e)
    exact ne_of_lt (lt_size e)
  have hns3:h₁.Ns s3.heap.objs.size (fun z=>([]:List (Str×Value)).reverse.lookup z):=by
    rw [hs3h]
    exact hns₁
  have I4:=blkN_start (xs:=xs) (sc:=sc) (s1:={s3 with heap:=h₁,toks:=s3.toks+([]:List (Str×Value)).length}) B I3 f3 fl3 hns3 keep3 rfl
  have st4:tn 0 h₁:=T.keep _ _ _ st2 fun b hb o e=>keep3 b o (by rw [hs3h];exact get?_push_of_some _ e)
  have stat:∀{H':Hp},(∀b∈fp,H' b=none)→∀b∈fp,FpOk (X.blkN N2 xs sc (closOf X.env.cells sc.names []) s3.heap.objs.size s3 (upd H2 s2.heap.objs.size (.lst [])) fp) [] H' b:=fun hn b hb =>
    ⟨hn b hb,(I4.ok.exf b hb).1,I4.ok.exfs b hb,.inl hb,(I4.ok.exf b hb).2,fun p hp=>absurd (show p∈([]:List (Addr×Obj)) from hp) (by simp)⟩
  have loop:∀s4:Shared,s4={s3 with heap:=h₁,toks:=s3.toks+([]:List (Str×Value)).length}→
      codeAny (model X.prog X.w) X.A (.compLoop (.ListComp elt [⟨tg,iter,ifs,0⟩] sc pos) 0 (.ref it) (.ref s2.heap.objs.size) (compEnvC sc (closOf X.env.cells sc.names []) s3.heap.objs.size X.env)) (RR (.ref s2.heap.objs.size) s3.heap.objs.size) s4:=by
    rintro s4 rfl
    refine comp_turns (fun n s'=>∃(i:Nat) (o:St) (H':Hp),o.length=xs.length∧Inv (X.blkN N2 xs sc (closOf X.env.cells sc.names []) s3.heap.objs.size s3 (upd H2 s2.heap.objs.size (.lst [])) fp) [] (σ++o) H' s'∧tn i s'.heap∧(∀b∈fp,H' b=none)∧W i n H') ?_ m0
      ⟨0,List.replicate xs.length none,_,by simp,I4,st4,fun b hb=>(f3 b hb).1,w0⟩
    rintro n s5 ⟨i,o,H5,ol5,I5,st5,fr5,w5⟩
    rcases turn i n H5 w5 with ⟨stop,qn⟩ | ⟨go,N,hN,step⟩
    · refine thn (T.done (X.blkN N2 xs sc (closOf X.env.cells sc.names []) s3.heap.objs.size s3 (upd H2 s2.heap.objs.size (.lst [])) fp) rfl rfl rfl hc i [] s5 (σ++o) H5 _ I5 (stat fr5) st5 stop) fun r s6 ⟨hr,I6⟩=>?_
      subst hr
      obtain ⟨m6,hn6,_⟩:=I6.loc
      refine fin _ _ H5 s6 m6 ?_ hn6 (I3.fpOk (le_refl _) I6.free) qn
      exact I3.call' (ch:=fp) I6.os I6.base I6.hok I6.bare fun b hb=>⟨(f3 b hb).2.2.2.1,(f3 b hb).2.1,(f3 b hb).2.2.2.2.1,(f3 b hb).2.2.2.2.2⟩
    · refine thn (T.item (X.blkN N2 xs sc (closOf X.env.cells sc.names []) s3.heap.objs.size s3 (upd H2 s2.heap.objs.size (.lst [])) fp) rfl rfl rfl hc i [] s5 (σ++o) H5 _ I5 (stat fr5) st5 go) fun r s6 ⟨u,hr,h6⟩=>?_
      subst hr
      refine thn h6 fun _ s7 hz9=>?_
      obtain ⟨v,H7,I7,r7,y7,st7,fr7⟩:=hz9
      have I7':=I7.pinned (stat fr7) (T.obj _ _ st7)
      refine thn (hg _ _ _ _ _ _ s7 _ H7 v u _ I7' r7 (step v H7 y7 o ol5)) fun _ s8 ⟨σ8,H8,I8,⟨os',ol8,e8⟩,q8⟩=>?_
      subst e8
      have again:∀{H9:Hp} {s9:Shared},Inv (X.blkN N2 xs sc (closOf X.env.cells sc.names []) s3.heap.objs.size s3 (upd H2 s2.heap.objs.size (.lst [])) fp) ([]++pinsAt fp s7.heap) (σ++os') H9 s9→N H9→
          ∃m,m<n∧∃(i:Nat) (o:St) (H':Hp),o.length=xs.length∧Inv (X.blkN N2 xs sc (closOf X.env.cells sc.names []) s3.heap.objs.size s3 (upd H2 s2.heap.objs.size (.lst [])) fp) [] (σ++o) H' s9∧tn i s9.heap∧(∀b∈fp,H' b=none)∧W i m H':=fun {H9 s9} I9 n9=>by
        obtain ⟨m',hm,w9⟩:=hN H9 n9
        refine ⟨m',hm,i+1,os',H9,ol8,I9.unpinned,T.keep _ _ _ st7 fun b hb o e=>(I9.pin (b,o) (mem_append_right _ (mem_append_right _ (mem_pinsAt hb e)))).1,fun b hb=>?_,w9⟩
        obtain ⟨o,e,d⟩:=T.obj _ _ st7 b hb
        exact (I9.pin (b,o) (mem_append_right _ (mem_append_right _ (mem_pinsAt hb e)))).2.1
      refine thn (ht _ _ _ _ _ _ s8 _ H8 _ I8 q8) fun ok s9 ⟨H9,I9,q9⟩=>?_
      cases ok with
      | false =>
        rw [if_neg Bool.false_ne_true] at q9 ⊢
        exact again I9 q9
      | true =>
        rw [if_pos rfl] at q9 ⊢
        refine thn (he _ _ _ _ _ _ s9 _ H9 _ I9 q9) fun ue s10 hz9=>?_
        obtain ⟨ve,H10,I10,r10,ys,hy,hz,q10⟩:=hz9
        refine thn (mt_append _ s10 _ H10 (.ref s2.heap.objs.size) [ve] (.ref s2.heap.objs.size) [ue] (fun _ H'=>N H') I10 rfl (.cons r10 .nil) ⟨_,ys,ve,rfl,rfl,hy,hz,q10⟩) fun _ s11 hz9=>?_
        obtain ⟨_,H11,I11,_,q11⟩:=hz9
        exact again I11 q11
  have fin':codeAny (model X.prog X.w) X.A (.compStart (.ListComp elt [⟨tg,iter,ifs,0⟩] sc pos) 0 (.ref it) (.ref s2.heap.objs.size) (compEnvC sc (closOf X.env.cells sc.names []) s3.heap.objs.size X.env)) (RR (.ref s2.heap.objs.size) s3.heap.objs.size) {s3 with heap:=h₁,toks:=s3.toks+([]:List (Str×Value)).length}:=
    codeAny_compStart_list (loop _ rfl) (T.self _ 0 _ _ _ st4 (loop _ rfl))
  exact fin'
theorem pe_compN (hc:X.calm=true)(B:BlkN sc X.env.scope xs X.N N2)(hi:PI X tg iter wi)(hg:∀cl C s0 H0 fp,PG (X.blkN N2 xs sc cl C s0 H0 fp) tg g)(ht:∀cl C s0 H0 fp,PIf (X.blkN N2 xs sc cl C s0 H0 fp) ifs tc)(he:∀cl C s0 H0 fp,PE (X.blkN N2 xs sc cl C s0 H0 fp) elt te)
  (hs:∀v,foldedSetIterable iter X.env v=pure v:=by intro _;rfl):PE X (.ListComp elt [⟨tg,iter,ifs,0⟩] sc pos) (tCompN xs.length g wi tc te):=by
 intro pins s σ H Q I h
 rw [eval_ListComp]
 have hcl:∀y∈sc.names,y.2=.free→∃c,X.env.cells.lookup y.1=some c:=fun y hy hf=>I.ok.has y.1 (B.free y hy hf)
 refine wpAny_comprehension_free (use:=none) rfl hs (closureFor_all hcl) B.kind B.loc (thn (hi pins s σ H _ I h) fun v s1 h1=>thn h1 fun itv s2 h2=>?_)
 obtain ⟨it,fp,tn,J,H2,e,I2,T,st2,f2,hw⟩:=h2
 subst e
 refine blkN_run (RR:=fun acc C=>compPost (model X.prog X.w) X.A X.xe none (EP X pins σ Q) acc C) hc B hg ht he I2 T st2 f2 hw ?_
 intro D C H' s' m I' hn hC q
 obtain ⟨c0,c1,c2,c3,c4,c5⟩:=hC
 refine ⟨m,hn,fun h'' hs''=>⟨.ref D,H',?_,rfl,q⟩⟩
 exact I'.turned (t':=s'.toks) (fun b o hb e=>hs''.extBut b o hb e) c0 c1 c3 c4 c5
theorem ps_compN {i:Nat}{y:Str}{py spos:Pos}(hc:X.calm=true)(B:BlkN sc X.env.scope xs X.N N2)(hi:PI X tg iter wi)(hg:∀cl C s0 H0 fp,PG (X.blkN N2 xs sc cl C s0 H0 fp) tg g)(ht:∀cl C s0 H0 fp,PIf (X.blkN N2 xs sc cl C s0 H0 fp) ifs tc)(he:∀cl C s0 H0 fp,PE (X.blkN N2 xs sc cl C s0 H0 fp) elt te)
    (hy:X.N[i]?=some y) (hl:X.env.scope.names.lookup y=some .local) (hsw:swapsWith (.ListComp elt [⟨tg,iter,ifs,0⟩] sc pos) (some (.Name y py)) spos.line X.env=pure true:=by rfl)
    (hs:∀v,foldedSetIterable iter X.env v=pure v:=by intro _;rfl):PS X (.Assign [.Name y py] (.ListComp elt [⟨tg,iter,ifs,0⟩] sc pos) spos) (tAsg (tCompN xs.length g wi tc te) (gName i)):=by
  intro pins s σ H D I h
  have hx:=exec_Assign_Name_used (env:=X.env) _ _ _ _ hsw
  rw [hx]
  refine wpAny_bind (wpAny_standAt ?_)
  refine wpAny_bind ?_
  show wpAny _ X.A (do let _ ← comprehension (.ListComp elt [⟨tg,iter,ifs,0⟩] sc pos) sc X.env _ (newList []) false (eval iter X.env) (some (assign (.Name y py) X.env))) _ _ s
  have hcl:∀y∈sc.names,y.2=.free→∃c,X.env.cells.lookup y.1=some c:=fun y hy hf=>I.ok.has y.1 (B.free y hy hf)
  refine wpAny_bind (wpAny_mono (wpAny_comprehension_free (use:=some (assign (.Name y py) X.env)) (Q:=fun _ s'=>SP X pins D .next s') rfl hs (closureFor_all hcl) B.kind B.loc
    (thn (hi pins s σ H _ I h) fun v s1 h1=>thn h1 fun itv s2 h2=>?_)) (fun _ s' hq=>wpAny_pure (wpAny_pure hq)) fun _ _ e=>e)
  obtain ⟨it,fp,tn,J,H2,e,I2,T,st2,f2,hw⟩:=h2
  subst e
  refine blkN_run (Q:=fun v H1=>gName i v σ H1 D.nx) (RR:=fun acc C=>compPost (model X.prog X.w) X.A X.xe (some (assign (.Name y py) X.env)) (fun _ s'=>SP X pins D .next s') acc C) hc B hg ht he I2 T st2 f2 hw ?_
  intro E C H' s' m I' hn hC q
  obtain ⟨c0,c1,c2,c3,c4,c5⟩:=hC
  show wpAny _ X.A (assign (.Name y py) X.env (.ref E)) _ _ _
  refine wpAny_assign_Name (store_ok2 (v:=.ref E) I' B.nd hy (.inl hl) rfl (fun s8 I8 ⟨a,sb,ha⟩=>?_) (.inr hl))
  have hCa:C≠a:=by
    rcases ha with z | z
    · rw [z];exact c1
    · exact fun z'=>c4 _ _ z z'.symm
  refine ⟨m,hn.sameBut sb hCa,fun h'' hs''=>⟨_,H',?_,q⟩⟩
  exact I8.turned (t':=s8.toks) (fun b o hb e=>hs''.extBut b o hb e) c0 c1 c3 c4 c5
end
section
variable {X:Cx}{elt iter c tg:Expr}{xs:List Str}{pos:Pos}{ifs:List Expr}{sc esc:Scope}{N N2:List Str}{wi:TI}{tc:TT}{te:TE}{g:TG}
theorem qe_compN (esc:Scope)(N N2 xs:List Str)(B:BlkN sc esc xs N N2)(hi:QI X tg iter wi)(hg:∀cl C s0 H0 fp,QG (X.blkN N2 xs sc cl C s0 H0 fp) tg g)(ht:∀cl C s0 H0 fp,QIf (X.blkN N2 xs sc cl C s0 H0 fp) ifs tc)(he:∀cl C s0 H0 fp,QE (X.blkN N2 xs sc cl C s0 H0 fp) elt te)
  (hesc:X.env.scope=esc:=by rfl) (hN:X.N=N:=by rfl) (hc:X.calm=true:=by rfl) (hs:∀v,foldedSetIterable iter X.env v=pure v:=by intro _;rfl):QE X (.ListComp elt [⟨tg,iter,ifs,0⟩] sc pos) (tCompN xs.length g wi tc te):=by
 subst hesc hN
 exact ⟨pe_compN hc B hi.out (fun cl C s0 H0 fp=>(hg cl C s0 H0 fp).out) (fun cl C s0 H0 fp=>(ht cl C s0 H0 fp).out) (fun cl C s0 H0 fp=>(he cl C s0 H0 fp).out) hs⟩
theorem qs_compN {i:Nat}{y:Str}{py spos:Pos}(esc:Scope)(N N2 xs:List Str)(B:BlkN sc esc xs N N2)(hy:N[i]?=some y)(hl:esc.names.lookup y=some .local)(hi:QI X tg iter wi)(hg:∀cl C s0 H0 fp,QG (X.blkN N2 xs sc cl C s0 H0 fp) tg g)(ht:∀cl C s0 H0 fp,QIf (X.blkN N2 xs sc cl C s0 H0 fp) ifs tc)(he:∀cl C s0 H0 fp,QE (X.blkN N2 xs sc cl C s0 H0 fp) elt te)
  (hesc:X.env.scope=esc:=by rfl) (hN:X.N=N:=by rfl) (hc:X.calm=true:=by rfl) (hsw:swapsWith (.ListComp elt [⟨tg,iter,ifs,0⟩] sc pos) (some (.Name y py)) spos.line X.env=pure true:=by rfl)
  (hs:∀v,foldedSetIterable iter X.env v=pure v:=by intro _;rfl):QS X (.Assign [.Name y py] (.ListComp elt [⟨tg,iter,ifs,0⟩] sc pos) spos) (tAsg (tCompN xs.length g wi tc te) (gName i)):=by
 subst hesc hN
 exact ⟨ps_compN hc B hi.out (fun cl C s0 H0 fp=>(hg cl C s0 H0 fp).out) (fun cl C s0 H0 fp=>(ht cl C s0 H0 fp).out) (fun cl C s0 H0 fp=>(he cl C s0 H0 fp).out) hy hl hsw hs⟩
end
theorem best_in (bt:Nat→Nat→Bool):∀k,argBest bt k≤k
 | 0=>le_refl _
 | k+1=>by
  rw [argBest]
  have:=best_in bt k
  split<;>omega
theorem best_top (val:Nat→Int):∀k j,j≤k→val j≤val (argBest (fun i j=>decide (val i > val j)) k)
 | 0,j,h=>by
  have e:j=0:=by omega
  subst e
  exact Int.le_refl _
 | k+1,j,h=>by
  have ih:=best_top val k
  rw [argBest]
  by_cases c:val (k+1) > val (argBest (fun i j=>decide (val i > val j)) k)
  ·rw [if_pos (by simpa using c)]
   by_cases e:j=k+1
   ·subst e;exact Int.le_refl _
   ·have:=ih j (by omega)
    omega
  ·rw [if_neg (by simpa using c)]
   by_cases e:j=k+1
   ·subst e
    omega
   ·exact ih j (by omega)
def rMaxL (K:Frag):List V→Hp→VK→Prop:=fun xs H Q=>∃p ns,xs=[.ref p]∧SqL K H p (ns.map V.int)∧ns≠[]∧∀m,m∈ns→(∀n∈ns,n≤m)→Q (.int m) H
def rMaxA (K:Frag):List V→Hp→VK→Prop:=fun xs H Q=>(∃i j,xs=[.int i,.int j]∧Q (.int (if j > i then j else i)) H)∨rMaxL K xs H Q
section
variable {X:Cx}
theorem call_maxL (hc:X.calm=true):CallR X (.builtin "max") (rMaxL X.K):=by
 intro pins s σ H xs us Q I r h
 obtain ⟨p,ns,rfl,hq,hne,q⟩:=h
 obtain ⟨u,rfl,rx⟩:=vals1 r
 cases rx
 obtain ⟨its,rv,pl,hz⟩:=I.list hq
 have hi:IntsAre its ns:=intsAre_of rv
 obtain ⟨xs,hxs⟩:=hi.allInts.items
 have hn:numsOf its.toArray.toList=ns:=by rw [show its.toArray.toList=its from rfl,hi.numsOf]
 have hl:=pl.isList
 rw [hxs] at hl hn
 rw [nums_intItems] at hn
 have hsz:xs.size=ns.length:=by rw [← hn];simp
 have h0:0<ns.length:=List.length_pos_iff.mpr hne
 have val:∀i,i<ns.length→numAt xs i=ns.getD i 0:=fun i hi=>by
  rw [← hn]
  have:i<xs.size:=by omega
  simp [numAt,List.getD,this]
 refine max_intList (I.ok.hd hc) hl (by omega) fun v h' tk hv hk=>?_
 obtain ⟨tk',rfl⟩:=intItems_at hv
 have hb:=best_in (fun i j=>decide (numAt xs i > numAt xs j)) (xs.size - 1)
 have hlt:argBest (fun i j=>decide (numAt xs i > numAt xs j)) (xs.size - 1)<ns.length:=by omega
 refine ⟨.int (numAt xs (argBest (fun i j=>decide (numAt xs i > numAt xs j)) (xs.size - 1))),H,I.kept hk,⟨tk',rfl⟩,q _ ?_ fun n hn'=>?_⟩
 ·rw [val _ hlt]
  have e:ns.getD (argBest (fun i j=>decide (numAt xs i > numAt xs j)) (xs.size - 1)) 0=ns[argBest (fun i j=>decide (numAt xs i > numAt xs j)) (xs.size - 1)]:=by simp [List.getD,hlt]
  rw [e]
  exact getElem_mem hlt
 ·obtain ⟨j,hj,e⟩:=List.mem_iff_getElem.mp hn'
  have q1:=best_top (numAt xs) (xs.size - 1) j (by omega)
  rw [val j hj] at q1
  have e2:ns.getD j 0=ns[j]:=by simp [List.getD,hj]
  rw [e2,e] at q1
  exact q1
theorem call_maxA (hc:X.calm=true):CallR X (.builtin "max") (rMaxA X.K):=(call_max2 hc).or (call_maxL hc)
variable {σ:St}{H:Hp}{Q:VK}{D:Ends}{K:Frag}
theorem rd_max2 {i j:Int}(q:Q (.int (if j > i then j else i)) H):rMaxA K [.int i,.int j] H Q:=.inl ⟨i,j,rfl,q⟩
theorem rd_maxL {p:Addr}{ns:List Int}(h:SqL K H p (ns.map V.int))(hne:ns≠[])(q:∀m,m∈ns→(∀n∈ns,n≤m)→Q (.int m) H):rMaxA K [.ref p] H Q:=.inr ⟨p,ns,rfl,h,hne,q⟩
variable {a b c e o i':Expr}{to ti te:TE}{tc:TT}{pos p2 apos cpos:Pos}{body:List Stmt}{tb:TS}
theorem qs_while (hp:PassesOwn (model X.prog X.w) X.A X.env X.xe)(hc:QT X c tc)(hb:QSs X body tb):QS X (.While c body [] pos) (tWhile tc tb):=⟨ps_while hp hc.out hb.out⟩
variable {s:Shared}{E:Value→Shared→Prop}{A:Around}{P:Program}{w:World}
end
section
variable {X:Cx}{e:Expr}{te:TE}{p p' pos pos':Pos}
variable {σ:St}{H:Hp}{Q:VK}{K:Frag}
end
section
variable {X:Cx}
theorem truths {prog:Program}{w:World}{A:Around}{bs:List Bool}{its:List Value}(rv:Vals (bs.map V.bl) its):TruthOf prog w A (fun i v=>its.toArray[i]?=some v) (fun i=>bs.getD i false):=by
  intro i v s Q E hv hQ
  have hl:=rv.length
  rw [length_map] at hl
  have hv':its[i]?=some v:=by simpa using hv
  have hi:i<its.length:=(List.getElem?_eq_some_iff.mp hv').1
  obtain ⟨u,e,ru⟩:=rv.get (i:=i) (x:=V.bl (bs.getD i false)) (by
    rw [getElem?_map,getElem?_eq_getElem (by omega)]
    simp [List.getD,show i<bs.length by omega])
  rw [hv'] at e
  cases e
  cases (show v=Value.bool (bs.getD i false) from ru)
  exact wpAny_truthy_bool hQ
variable {H:Hp}{Q:VK}{K:Frag}
end
noncomputable def rIsA (neg:Bool):R2:=fun x y H Q=>(y=.non∧Q (.bl (if neg then !decide (x=.non) else decide (x=.non))) H)∨∃b c,x=.bl b∧y=.bl c∧Q (.bl (if neg then !(b==c) else b==c)) H
section
variable {X:Cx}
theorem op_isA:OpR X (compareOp .Is) (rIsA false):=by
 intro pins s σ H x y v u Q I rx ry h
 rcases h with ⟨rfl,q⟩ | ⟨b,c,rfl,rfl,q⟩
 ·exact op_isN pins s σ H x .non v u Q I rx ry ⟨rfl,q⟩
 ·cases (show v=Value.bool b from rx)
  cases (show u=Value.bool c from ry)
  refine wpAny_is_plain (by cases b<;>cases c<;>rfl) ⟨.bl (b==c),H,I,?_,q⟩
  cases b<;>cases c<;>rfl
theorem op_notA:OpR X (compareOp .IsNot) (rIsA true):=by
 intro pins s σ H x y v u Q I rx ry h
 rcases h with ⟨rfl,q⟩ | ⟨b,c,rfl,rfl,q⟩
 ·exact op_notN pins s σ H x .non v u Q I rx ry ⟨rfl,q⟩
 ·cases (show v=Value.bool b from rx)
  cases (show u=Value.bool c from ry)
  refine wpAny_isNot_plain (by cases b<;>cases c<;>rfl) ⟨.bl (!(b==c)),H,I,?_,q⟩
  cases b<;>cases c<;>rfl
variable {H:Hp}{Q:VK}{K:Frag}
end
noncomputable def Dk {α:Type}:Sem α→Prop
 | .pure _=>True
 | .raise _=>True
 | .unsupported _=>True
 | .finish _=>True
 | .rule _ k=>Dk (k ())
 | .at _ k=>Dk (k ())
 | .load _ _ k=>∀o,Dk (k o)
 | .update _ _ f k=>(∀o:Obj,o.isFreed=false→(f o).isFreed=false∧(f o).dict=o.dict)∧Dk (k ())
 | .alloc _ k=>∀a,Dk (k a)
 | .loadIfAlive _ k=>∀o,Dk (k o)
 | .point _ k=>Dk (k ())
 | .fresh k=>∀a,Dk (k a)
 | .ask k=>∀a,Dk (k a)
 | .choose _ _ k=>∀a,Dk (k a)
 | .os _ _ k=>∀a,Dk (k a)
 | .handled _ k=>∀a,Dk (k a)
 | .stack k=>∀a,Dk (k a)
 | .thread k=>∀a,Dk (k a)
 | .register _ _=>False
 | .call ..=>False
 | .newGen ..=>False
 | .genState ..=>False
 | .resume ..=>False
 | .yield ..=>False
 | .fork ..=>False
 | .await ..=>False
section
variable {X:Cx}{pins:List (Addr×Obj)}{σ:St}{H H':Hp}{s:Shared}{h':Heap}
end
section
variable {X:Cx}{pins:List (Addr×Obj)}{σ:St}{H:Hp}{s:Shared}
structure Kept (X:Cx)(own:List Addr)(h h':Heap):Prop where
 st:(hideAll h (own++frs X.stack)).StaysIn h'
 fr:h'.FunFrames (hideAll h (own++frs X.stack)) X.stack
 up:h.UpToSlots h'
end
noncomputable abbrev bmV:List Value:=[.type "ValueError",.type "Exception",.type "BaseException",.type "object"]
section
variable {X:Cx}{pins:List (Addr×Obj)}{σ:St}{H:Hp}{s:Shared}
noncomputable def exO (e:Addr)(cls:Value)(dx:Option Addr):HO:=.ext fun h=>∃o vs,h.get? e=some o∧o.cls=cls∧o.data=.fields vs∧o.dict=dx
noncomputable abbrev Cx.hand (X:Cx)(e:Addr):Cx:={X with A:=X.A.mark (some (.ref e)),calm:=false,xe:=fun _ _=>False}
end
end L2
namespace L2
open PySem PySem.Spec
section
variable {prog:Program}{w:World}{A:Around}{E:Value→Shared→Prop}{h:Heap}{g:Array GenState}{d:Drawn}{t:Nat}{os:OsState}{a C:Addr}{o:Obj}{vs:Array Value}
open PySem.W (Looks)
end
end L2
namespace L2
open PySem PySem.Spec PyProof.Rows
noncomputable abbrev TJ:=St→Hp→(Hp→Prop)→Prop
def PJ (X:Cx)(es:List Expr)(t:TJ):Prop:=
 ∀(out:Str) (pins:List (Addr×Obj)) (s:Shared) (σ:St) (H:Hp) (Q:VK),Inv X pins σ H s→out.length+2000*es.length≤sizeLine→t σ H (fun H1=>∀z,Q (.str z) H1)→
  wpAny (model X.prog X.w) X.A (joinParts out (evalEach es X.env)) (EP X pins σ Q) X.xe s
structure QJ (X:Cx)(es:List Expr)(t:TJ):Prop where
 out:PJ X es t
section
variable {X:Cx}{a b e:Expr}{es:List Expr}{te:TE}{t:TJ}{pos:Pos}
end
end L2
namespace L2
open PySem PySem.Spec PyProof.Rows
open PySem.W (Looks)
structure ErrIn (K:Frag)(C:Addr):Prop where
 exc:PySem.W.excIn K C bmV "ValueError.__new__"=true
 ty:typeIn K (.ref C)=some (.type "type")
 cl:∃c,clsIn K C=some c
 ga:findIn K (.ref C) "__getattribute__"=some (some (.builtin "BaseException.__getattribute__"))
 ge:findIn K (.ref C) "__getattr__"=some none
 lk:findIn K (.ref C) "__class__"=some (some (.builtin "object.__class__"))
 so:subIn K (.ref C) (.type "object")=some true
 sb:subIn K (.ref C) (.type "BaseException")=some true
 se:subIn K (.ref C) (.ref C)=some true
section
variable {K:Frag}{C D e:Addr}{b:Bool}
structure ErrK (K:Frag)(C:Addr):Prop where
 ob:∃dd cd sl,K.lookup C=some ⟨.type "type",dd,.cls cd,sl⟩
 ty:typeIn K (.ref C)=some (.type "type")
 cl:∃c,clsIn K C=some c
 ga:findIn K (.ref C) "__getattribute__"=some (some (.builtin "BaseException.__getattribute__"))
 ge:findIn K (.ref C) "__getattr__"=some none
 lk:findIn K (.ref C) "__class__"=some (some (.builtin "object.__class__"))
 so:subIn K (.ref C) (.type "object")=some true
 sb:subIn K (.ref C) (.type "BaseException")=some true
 se:subIn K (.ref C) (.ref C)=some true
variable {X:Cx}
end
section
variable {σ:St}{H:Hp}{Q:VK}{D:Ends}{K:Frag}
variable {X:Cx}{a b c d:Expr}{ta tb tc td:TE}{pos:Pos}
end
section
variable {X:Cx}{e:Expr}{es:List Expr}{t:TA}{np cpos pos hpos:Pos}
end
end L2
namespace L2
open PySem PySem.Spec PyProof.Rows
structure Pl (n:Nat)(x:Str):Prop where
 len:x.length≤n
 asc:∀c∈x.cps.toList,c<128
section
variable {X:Cx}{e:Expr}{te:TE}{pos:Pos}
end
section
variable {κ:Type}[DecidableEq κ]
noncomputable def putK (kvs:List (κ×V))(k:κ)(v:V):List (κ×V):=
 if (kvs.any fun kv=>decide (kv.1=k))=true then kvs.map (fun kv=>if kv.1=k then (kv.1,v) else kv) else kvs++[(k,v)]
end
section
variable {P:Program}{w:World}{H:Hp}{h:Heap}{a:Addr}
end
def DPut (H:Hp)(a:Addr)(y v:V)(H':Hp):Prop:=
 (∃kvs k,H a=some (.dK kvs)∧y=kV k∧kvs.length<sizeLine∧H'=upd H a (.dK (putK kvs k v)))∨
 ∃kvs k b,H a=some (.dT kvs)∧y=.ref b∧H b=some (.tup (k.map kV))∧kvs.length<sizeLine∧H'=upd H a (.dT (putK kvs k v))
section
variable {X:Cx}{pins:List (Addr×Obj)}{σ:St}{H:Hp}{s:Shared}{a:Addr}{y v:V}{u r:Value}{o:Option V}{A:Around}{E:Value→Shared→Prop}
end
section
variable {X:Cx}{pins:List (Addr×Obj)}{σ:St}{H:Hp}{s:Shared}{a:Addr}{kvs:List (Key×V)}{k:Key}{u:Value}{A:Around}{E:Value→Shared→Prop}
end
def sDPut (td ty tv:TE):TS:=fun D σ H=>tv σ H fun v H1=>td σ H1 fun x H2=>ty σ H2 fun y H3=>∃a H4,x=.ref a∧DPut H3 a y v H4∧D.nx σ H4
section
variable {X:Cx}{o i e value:Expr}{pos pos' tpos:Pos}{td ty tv:TE}
end
noncomputable def tPairs:List (TE×TE)→St→Hp→(List (V×V)→Hp→Prop)→Prop
 | [],_,H,Q=>Q [] H
 | (tk,tv)::r,σ,H,Q=>tk σ H fun x H1=>tv σ H1 fun y H2=>tPairs r σ H2 fun ps H3=>Q ((x,y)::ps) H3
noncomputable abbrev VV:List (V×V)→List (Value×Value)→Prop:=Paired fun p q=>RelV p.1 q.1∧RelV p.2 q.2
structure M1 (X:Cx)(o:Expr)(m:Str)(apos:Pos)(e:Expr)(cpos:Pos):Prop where
  base:attributeBase o m X.env (eval o X.env)=eval o X.env
  few:((backTo cpos (starEach [e] X.env)).all (fun x=>!x.1)&&(backToKw cpos (keywordEach [] X.env)).all (fun x=>x.1.isSome)
    && decide (([e]:List Expr).length+([]:List Keyword).length+(if ([]:List Keyword).isEmpty then 0 else 1)<30))=true
  line:(apos.endLine==cpos.line)=true
  trees:backTo cpos (starEach [e] X.env)=[(false,eval e X.env)]
structure M2 (X:Cx)(o:Expr)(m:Str)(apos:Pos)(e f:Expr)(cpos:Pos):Prop where
  base:attributeBase o m X.env (eval o X.env)=eval o X.env
  few:((backTo cpos (starEach [e,f] X.env)).all (fun x=>!x.1)&&(backToKw cpos (keywordEach [] X.env)).all (fun x=>x.1.isSome)
    && decide (([e,f]:List Expr).length+([]:List Keyword).length+(if ([]:List Keyword).isEmpty then 0 else 1)<30))=true
  line:(apos.endLine==cpos.line)=true
  trees:backTo cpos (starEach [e,f] X.env)=[(false,eval e X.env),(false,eval f X.env)]
section
variable {X:Cx}{pins:List (Addr×Obj)}{σ:St}{H:Hp}{s:Shared}{a:Addr}{y d:V}{u r:Value}{o:Option V}{A:Around}{E:Value→Shared→Prop}
end
section
variable {X:Cx}{o e f:Expr}{apos cpos:Pos}{td ty tx:TE}
variable {pins:List (Addr×Obj)}{σ:St}{H:Hp}{s:Shared}{a:Addr}{kvs:List (Key×V)}{A:Around}{E:Value→Shared→Prop}
end
section
variable {X:Cx}{pins:List (Addr×Obj)}{σ:St}{H:Hp}{s:Shared}{a:Addr}{y:V}{u:Value}{A:Around}{E:Value→Shared→Prop}
end
end L2
namespace Dl
open PySem
set_option genInjectivity true in
inductive D where
 | non
 | bl (b:Bool)
 | int (i:Int)
 | str (x:Str)
 | lst (xs:List D)
 | tup (xs:List D)
 | scr (ns:List Int)
 | rng (lo hi:Int)
 | exc (c:String) (f:Option Int)
 | obj (c:String) (ns:List Str) (xs:List D)
 | dct (ks:List (Int ⊕ Str)) (xs:List D)
 | dtt (ks:List (List (Int ⊕ Str))) (xs:List D)
 deriving Inhabited
set_option genInjectivity true in
inductive R (α:Type) where
 | ok (a:α)
 | err (c:String) (f:Option Int)
 | bad
noncomputable abbrev Env:=List (Option D)
set_option genInjectivity true in
inductive Fl where
 | nx (ρ:Env)
 | ret (d:D)
 | brk (ρ:Env)
 | cnt (ρ:Env)
noncomputable def R.bind {α β:Type}:R α→(α→R β)→R β
 | .ok a,f=>f a
 | .err c x,_=>.err c x
 | .bad,_=>.bad
@[simp] theorem bind_ok {α β:Type}(a:α)(f:α→R β):(R.ok a).bind f=f a:=(rfl)
@[simp] theorem bind_err {α β:Type}(c:String)(x:Option Int)(f:α→R β):(R.err c x:R α).bind f=.err c x:=(rfl)
@[simp] theorem bind_bad {α β:Type}(f:α→R β):(R.bad:R α).bind f=.bad:=(rfl)
noncomputable abbrev FE:=Env→R D
noncomputable abbrev FT:=Env→R Bool
noncomputable abbrev FA:=Env→R (List D)
noncomputable abbrev FO:=Env→R (Option Int)
noncomputable abbrev FS:=Env→R Fl
noncomputable def fC (d:D):FE:=fun _=>.ok d
noncomputable def fV (i:Nat):FE:=fun ρ=>match ρ[i]? with
 | some (some d)=>.ok d
 | _=>.bad
noncomputable def oR {α:Type}:Option α→R α
 | some a=>.ok a
 | none=>.bad
@[simp] theorem oR_some {α:Type}(a:α):oR (some a)=.ok a:=(rfl)
@[simp] theorem oR_none {α:Type}:(oR (none:Option α))=.bad:=(rfl)
noncomputable def f1 (g:D→Option D)(a:FE):FE:=fun ρ=>(a ρ).bind fun x=>oR (g x)
noncomputable def f2 (g:D→D→Option D)(a b:FE):FE:=fun ρ=>(a ρ).bind fun x=>(b ρ).bind fun y=>oR (g x y)
noncomputable def aNil:FA:=fun _=>.ok []
noncomputable def aCons (a:FE)(r:FA):FA:=fun ρ=>(a ρ).bind fun x=>(r ρ).bind fun xs=>.ok (x::xs)
noncomputable def fA (g:List D→Option D)(a:FA):FE:=fun ρ=>(a ρ).bind fun xs=>oR (g xs)
noncomputable def fCall (F:List D→R D)(a:FA):FE:=fun ρ=>(a ρ).bind F
noncomputable abbrev lim:Nat:=1000000
noncomputable def gLst (xs:List D):Option D:=if xs.length≤lim then some (.lst xs) else none
noncomputable def gTup (xs:List D):Option D:=if xs.length≤lim then some (.tup xs) else none
mutual
noncomputable def flat:D→Bool
 | .lst _=>false
 | .tup xs=>flatA xs
 | .non=>true
 | .bl _=>true
 | .int _=>true
 | .str _=>true
 | .scr _=>true
 | .rng _ _=>true
 | .exc _ _=>true
 | .obj _ _ _=>false
 | .dct _ _=>false
 | .dtt _ _=>false
noncomputable def flatA:List D→Bool
 | []=>true
 | x::xs=>flat x&&flatA xs
end
noncomputable def gFlat (d:D):Option D:=if flat d then some d else none
noncomputable def gAdd:D→D→Option D
 | .int i,.int j=>some (.int (i+j))
 | .str x,.str y=>if x.length+y.length≤lim then some (.str (x++y)) else none
 | .lst xs,.lst ys=>if xs.length+ys.length≤lim∧flatA xs∧flatA ys then some (.lst (xs++ys)) else none
 | _,_=>none
noncomputable def gAddI:D→D→Option D
 | .int i,.int j=>some (.int (i+j))
 | _,_=>none
noncomputable def gSub:D→D→Option D
 | .int i,.int j=>some (.int (i - j))
 | _,_=>none
noncomputable def short (i:Int):Bool:=decide (-(2 ^ 64)<i)&&decide (i<2 ^ 64)
noncomputable def gMul:D→D→Option D
 | .int i,.int j=>if short i||short j then some (.int (i*j)) else none
 | .lst xs,.int k=>if k≤1000000∧xs.length*k.toNat≤lim∧-1000000≤k∧flatA xs then some (.lst (List.replicate k.toNat xs).flatten) else none
 | _,_=>none
noncomputable def gMod:D→D→Option D
 | .int i,.int j=>if 0<j then some (.int (i % j)) else none
 | _,_=>none
noncomputable def gDiv:D→D→Option D
 | .int i,.int j=>if 0<j∧j<2 ^ 200 then some (.int (i / j)) else none
 | _,_=>none
noncomputable def gPow:D→D→Option D
 | .int i,.int j=>if 0≤j∧j≤1000000∧i.natAbs<2 ^ 64 then some (.int (i ^ j.toNat)) else none
 | _,_=>none
noncomputable def gNeg:D→Option D
 | .int i=>some (.int (-i))
 | _=>none
noncomputable def gLt:D→D→Option D
 | .int i,.int j=>some (.bl (decide (i<j)))
 | _,_=>none
noncomputable def gLe:D→D→Option D
 | .int i,.int j=>some (.bl (decide (i≤j)))
 | _,_=>none
noncomputable def gGt:D→D→Option D
 | .int i,.int j=>some (.bl (decide (j<i)))
 | _,_=>none
noncomputable def gGe:D→D→Option D
 | .int i,.int j=>some (.bl (decide (j≤i)))
 | _,_=>none
mutual
noncomputable def dep:D→Nat
 | .lst xs=>depA xs+1
 | .tup xs=>depA xs+1
 | .scr _=>100
 | .rng _ _=>100
 | .exc _ _=>100
 | .obj _ _ _=>100
 | .dct _ _=>100
 | .dtt _ _=>100
 | .non=>0
 | .bl _=>0
 | .int _=>0
 | .str _=>0
noncomputable def depA:List D→Nat
 | []=>0
 | x::xs=>max (dep x) (depA xs)
end
mutual
noncomputable def eqv:D→D→Bool
 | .non,.non=>true
 | .bl a,.bl b=>a==b
 | .bl a,.int j=>(if a then 1 else 0)==j
 | .int i,.bl b=>i==(if b then 1 else 0)
 | .int i,.int j=>i==j
 | .str x,.str y=>x==y
 | .lst xs,.lst ys=>eqvA xs ys
 | .tup xs,.tup ys=>eqvA xs ys
 | _,_=>false
noncomputable def eqvA:List D→List D→Bool
 | [],[]=>true
 | x::xs,y::ys=>eqv x y&&eqvA xs ys
 | _,_=>false
end
noncomputable def gEq (a b:D):Option D:=if dep a≤20∧dep b≤20 then some (.bl (eqv a b)) else none
noncomputable def gNe (a b:D):Option D:=if dep a≤20∧dep b≤20 then some (.bl (!eqv a b)) else none
noncomputable def isNon:D→Bool
 | .non=>true
 | _=>false
noncomputable def gIs (x:D):D→Option D
 | .non=>some (.bl (isNon x))
 | .bl c=>match x with
  | .bl b=>some (.bl (b==c))
  | _=>none
 | _=>none
noncomputable def gIsNot (x:D):D→Option D
 | .non=>some (.bl (!isNon x))
 | .bl c=>match x with
  | .bl b=>some (.bl (!(b==c)))
  | _=>none
 | _=>none
noncomputable def ixD (n:Nat)(i:Int):Option Nat:=if 0≤i then (if i<n then some i.toNat else none) else if -(n:Int)≤i then some (i+n).toNat else none
noncomputable def atD {α:Type}(xs:List α)(i:Int):Option α:=(ixD xs.length i).bind fun j=>xs[j]?
noncomputable def sixD (n d:Nat):Option Int→Nat
 | none=>d
 | some v=>if v<0 then (max (v+(n:Int)) 0).toNat else min v.toNat n
noncomputable def cut {α:Type}(xs:List α)(lo hi:Option Int):List α:=(xs.drop (sixD xs.length 0 lo)).take (sixD xs.length xs.length hi - sixD xs.length 0 lo)
noncomputable def gIx:D→D→Option D
 | .lst xs,.int i=>(atD xs i)
 | .tup xs,.int i=>(atD xs i)
 | .scr ns,.int i=>((atD ns i).map D.int)
 | .str z,.int i=>if z.length≤lim then ((atD z.cps.toList i).map fun c=>D.str ⟨#[c]⟩) else none
 | _,_=>none
noncomputable def gIxL (x y:D):Option D:=match x with
 | .lst _=>gIx x y
 | _=>none
noncomputable def oNone:FO:=fun _=>.ok none
noncomputable def oSome (a:FE):FO:=fun ρ=>(a ρ).bind fun d=>match d with
 | .int i=>.ok (some i)
 | _=>.bad
noncomputable def fSl (g:D→Option Int→Option Int→Option D)(a:FE)(l h:FO):FE:=fun ρ=>(a ρ).bind fun x=>(l ρ).bind fun lo=>(h ρ).bind fun hi=>oR (g x lo hi)
noncomputable def gSl:D→Option Int→Option Int→Option D
 | .lst xs,lo,hi=>if flatA xs then some (.lst (cut xs lo hi)) else none
 | .scr ns,lo,hi=>some (.lst ((cut ns lo hi).map D.int))
 | _,_,_=>none
noncomputable def gRev:D→D→Option D
 | .lst xs,.int i=>if i=-1∧flatA xs then some (.lst xs.reverse) else none
 | _,_=>none
noncomputable def plain (n:Nat)(z:Str):Bool:=decide (z.length≤n)&&z.cps.toList.all (fun c=>decide (c<128))
noncomputable def intsOf:List D→Option (List Int)
 | []=>some []
 | .int i::r=>(intsOf r).map (i::·)
 | _::_=>none
noncomputable def bools:List D→Option (List Bool)
 | []=>some []
 | .bl i::r=>(bools r).map (i::·)
 | _::_=>none
noncomputable def gLen:List D→Option D
 | [.lst xs]=>some (.int xs.length)
 | [.tup xs]=>some (.int xs.length)
 | [.scr xs]=>some (.int xs.length)
 | [.str z]=>if z.length≤lim then some (.int z.length) else none
 | _=>none
noncomputable def gSum:List D→Option D
 | [.lst xs]=>(intsOf xs).bind fun ns=>some (.int ns.sum)
 | _=>none
noncomputable def maxL:List Int→Int
 | []=>0
 | x::r=>r.foldl max x
noncomputable def gMax:List D→Option D
 | [.int i,.int j]=>some (.int (if j > i then j else i))
 | [.lst xs]=>(intsOf xs).bind fun ns=>if ns=[] then none else some (.int (maxL ns))
 | _=>none
noncomputable def gMin:List D→Option D
 | [.int i,.int j]=>some (.int (if j<i then j else i))
 | _=>none
noncomputable def rngL (lo:Int)(n:Nat):List D:=(List.range n).map fun (k:Nat)=>D.int (lo+(k:Int))
noncomputable def gList:List D→Option D
 | [.lst xs]=>if flatA xs then some (.lst xs) else none
 | [.tup xs]=>if flatA xs then some (.lst xs) else none
 | [.rng i j]=>if -1000000000≤i∧i≤1000000000∧-1000000000≤j∧j≤1000000000∧(j - i).toNat≤lim then some (.lst (rngL i (j - i).toNat)) else none
 | _=>none
noncomputable def gListV:List D→Option D
 | [.lst xs]=>some (.lst xs)
 | _=>none
noncomputable def tyName:D→String
 | .non=>"NoneType"
 | .bl _=>"bool"
 | .int _=>"int"
 | .str _=>"str"
 | .lst _=>"list"
 | .tup _=>"tuple"
 | .scr _=>"list"
 | .rng _ _=>"range"
 | .exc c _=>c
 | .obj c _ _=>c
 | .dct _ _=>"dict"
 | .dtt _ _=>"dict"
noncomputable def gIsI (c:String):D→Option D
 | .non=>some (.bl false)
 | .bl _=>some (.bl (c=="bool"||c=="int"))
 | .int _=>some (.bl (c=="int"))
 | .str _=>some (.bl (c=="str"))
 | .lst _=>some (.bl (c=="list"))
 | .tup _=>some (.bl (c=="tuple"))
 | _=>none
noncomputable def cE (a:FE):FT:=fun ρ=>(a ρ).bind fun d=>match d with
 | .bl b=>.ok b
 | _=>.bad
noncomputable def cNot (a:FT):FT:=fun ρ=>(a ρ).bind fun b=>.ok (!b)
noncomputable def cAnd (a b:FT):FT:=fun ρ=>(a ρ).bind fun x=>if x then b ρ else .ok false
noncomputable def cOr (a b:FT):FT:=fun ρ=>(a ρ).bind fun x=>if x then .ok true else b ρ
noncomputable def fAnd (a b:FE):FE:=fun ρ=>(a ρ).bind fun x=>match x with
 | .bl true=>b ρ
 | .bl false=>.ok (.bl false)
 | _=>.bad
noncomputable def fOr (a b:FE):FE:=fun ρ=>(a ρ).bind fun x=>match x with
 | .bl true=>.ok (.bl true)
 | .bl false=>b ρ
 | _=>.bad
noncomputable def gNot:D→Option D
 | .bl b=>some (.bl (!b))
 | _=>none
noncomputable def fIf (c:FT)(a b:FE):FE:=fun ρ=>(c ρ).bind fun x=>if x then a ρ else b ρ
noncomputable def fChain (g g':D→D→Option D)(a b c:FE):FE:=fun ρ=>(a ρ).bind fun x=>(b ρ).bind fun y=>(oR (g x y)).bind fun z=>match z with
 | .bl true=>(c ρ).bind fun w=>oR (g' y w)
 | .bl false=>.ok (.bl false)
 | _=>.bad
noncomputable abbrev FB:=D→Env→R Env
noncomputable def bName (i:Nat):FB:=fun d ρ=>.ok (ρ.set i (some d))
noncomputable def bNil:List D→Env→R Env
 | [],ρ=>.ok ρ
 | _,_=>.bad
noncomputable def bCons (b:FB)(r:List D→Env→R Env):List D→Env→R Env
 | d::ds,ρ=>(b d ρ).bind fun ρ'=>r ds ρ'
 | _,_=>.bad
noncomputable def bTup (r:List D→Env→R Env):FB:=fun d ρ=>match d with
 | .tup ds=>r ds ρ
 | _=>.bad
noncomputable def R.calm {α:Type}:R α→R α
 | .ok a=>.ok a
 | .err _ _=>.bad
 | .bad=>.bad
@[simp] theorem calm_ok {α:Type}(a:α):(R.ok a).calm=.ok a:=(rfl)
noncomputable def compN (k:Nat)(b:FB)(c:FT)(e:FE)(ρ:Env):List D→R (List D)
 | []=>.ok []
 | x::xs=>(b x (ρ++List.replicate k none)).calm.bind fun ρ1=>(c ρ1).bind fun t=>if t then (e ρ1).bind fun y=>(compN k b c e ρ xs).bind fun ys=>.ok (y::ys) else compN k b c e ρ xs
noncomputable def cYes:FT:=fun _=>.ok true
noncomputable abbrev FI:=Env→R (List D)
noncomputable def jList (a:FE):FI:=fun ρ=>(a ρ).bind fun d=>match d with
 | .lst xs=>if xs.length≤lim then .ok xs else .bad
 | .scr ns=>if ns.length≤lim then .ok (ns.map D.int) else .bad
 | _=>.bad
noncomputable def jTup (a:FE):FI:=fun ρ=>(a ρ).bind fun d=>match d with
 | .tup xs=>if xs.length≤lim then .ok xs else .bad
 | _=>.bad
noncomputable def jRng1 (a:FA):FI:=fun ρ=>(a ρ).bind fun ds=>match ds with
 | [.int j]=>if -1000000000≤j∧j≤1000000 then .ok (rngL 0 j.toNat) else .bad
 | _=>.bad
noncomputable def jRng2 (a:FA):FI:=fun ρ=>(a ρ).bind fun ds=>match ds with
 | [.int i,.int j]=>if -1000000000≤i∧i≤1000000000∧-1000000000≤j∧j≤1000000000∧(j - i).toNat≤lim then .ok (rngL i (j - i).toNat) else .bad
 | _=>.bad
noncomputable def sortI (ns:List Int):List Int:=ns.mergeSort fun a b=>decide (a≤b)
noncomputable def fComp (n k:Nat)(it:FI)(b:FB)(c:FT)(e:FE):FE:=fun ρ=>if ρ.length=n then (it ρ).bind fun xs=>(compN k b c e ρ xs).calm.bind fun ys=>.ok (.lst ys) else .bad
noncomputable def sNx:FS:=fun ρ=>.ok (.nx ρ)
noncomputable def sNever:FS:=fun _=>.bad
noncomputable def sSeq (a b:FS):FS:=fun ρ=>(a ρ).bind fun fl=>match fl with
 | .nx ρ'=>b ρ'
 | fl=>.ok fl
noncomputable def sSet (i:Nat)(e:FE):FS:=fun ρ=>(e ρ).bind fun d=>.ok (.nx (ρ.set i (some d)))
noncomputable def sRet (e:FE):FS:=fun ρ=>(e ρ).bind fun d=>.ok (.ret d)
noncomputable def sIf (c:FT)(a b:FS):FS:=fun ρ=>(c ρ).bind fun x=>if x then a ρ else b ρ
noncomputable def sApp (i:Nat)(e:FE):FS:=fun ρ=>match ρ[i]? with
 | some (some (.lst xs))=>(e ρ).bind fun d=>if xs.length<lim then .ok (.nx (ρ.set i (some (.lst (xs++[d]))))) else .bad
 | _=>.bad
noncomputable def sExt (i:Nat)(e:FE):FS:=fun ρ=>match ρ[i]? with
 | some (some (.lst xs))=>(e ρ).bind fun d=>match d with
  | .lst ys=>if xs.length+ys.length≤lim then .ok (.nx (ρ.set i (some (.lst (xs++ys))))) else .bad
  | _=>.bad
 | _=>.bad
noncomputable def updP (f:List D→Option (List D)):List Int→D→Option D
 | [],.lst xs=>(f xs).map D.lst
 | n::r,.lst xs=>(ixD xs.length n).bind fun j=>xs[j]?.bind fun d=>(updP f r d).map fun d'=>D.lst (xs.set j d')
 | n::r,.tup xs=>(ixD xs.length n).bind fun j=>xs[j]?.bind fun d=>(updP f r d).map fun d'=>D.tup (xs.set j d')
 | _,_=>none
noncomputable def addL (d:D)(xs:List D):Option (List D):=if xs.length<lim then some (xs++[d]) else none
noncomputable def forApp (i j:Nat)(c:FT)(r:D)(e:FE)(ρ:Env):List D→List D→R Fl
 | dn,[]=>.ok (.nx ((ρ.set i (some (.lst dn))).set j none))
 | dn,x::rest=>(c ((ρ.set i (some (.lst (dn++x::rest)))).set j (some x))).bind fun b=>if b then .ok (.ret r) else
   (e ((ρ.set i (some (.lst (dn++x::rest)))).set j (some x))).calm.bind fun v=>match updP (addL v) [] x with
    | some x'=>forApp i j c r e ρ (dn++[x']) rest
    | none=>.bad
noncomputable def sAsg (e:FE)(b:FB):FS:=fun ρ=>(e ρ).bind fun d=>(b d ρ).calm.bind fun ρ'=>.ok (.nx ρ')
noncomputable def forD (b:FB)(s:FS):List D→Env→R Fl
 | [],ρ=>.ok (.nx ρ)
 | x::xs,ρ=>(b x ρ).calm.bind fun ρ1=>(s ρ1).bind fun fl=>match fl with
  | .nx ρ2=>forD b s xs ρ2
  | .cnt ρ2=>forD b s xs ρ2
  | .brk ρ2=>.ok (.nx ρ2)
  | .ret d=>.ok (.ret d)
noncomputable def sFor (it:FI)(b:FB)(s:FS):FS:=fun ρ=>(it ρ).bind fun xs=>forD b s xs ρ
noncomputable def whileD (c:FT)(s:FS):Nat→Env→R Fl
 | 0,_=>.bad
 | n+1,ρ=>(c ρ).bind fun b=>if b then (s ρ).bind fun fl=>match fl with
  | .nx ρ2=>whileD c s n ρ2
  | .cnt ρ2=>whileD c s n ρ2
  | .brk ρ2=>.ok (.nx ρ2)
  | .ret d=>.ok (.ret d)
  else .ok (.nx ρ)
noncomputable def sWhile (n:Nat)(c:FT)(s:FS):FS:=fun ρ=>whileD c s n ρ
noncomputable def sRaise (c:String)(words:FA):FS:=fun ρ=>(words ρ).bind fun _=>.err c none
noncomputable def strsOf:List D→Option (List Str)
 | []=>some []
 | .str i::r=>(strsOf r).map (i::·)
 | _::_=>none
noncomputable def gJoin:D→D→Option D
 | .str s,.lst ds=>(strsOf ds).bind fun ts=>if (ts.map (·.length)).sum+ts.length*s.length≤lim then some (.str (Str.join s ts)) else none
 | _,_=>none
noncomputable def fJoin (a b:FE):FE:=fun ρ=>(a ρ).bind fun x=>match x with
 | .str s=>(b ρ).bind fun y=>oR (gJoin (.str s) y)
 | _=>.bad
noncomputable def pickM (N:Nat)(c:String)(x:Option Int):List (List (String×Bool)×Option Nat×FS)→R Fl
  | []=>.bad
  | z::r=>match z.1.lookup c with
    | some true=>(match z.2.1 with
      | some i=>(z.2.2 ((List.replicate N none).set i (some (.exc c x)))).calm.bind fun fl=>match fl with
        | .nx _=>.ok (.nx (List.replicate N none))
        | .brk _=>.ok (.brk (List.replicate N none))
        | .cnt _=>.ok (.cnt (List.replicate N none))
        | .ret d=>.ok (.ret d)
      | none=>(z.2.2 (List.replicate N none)).calm)
    | some false=>pickM N c x r
    | none=>.bad
noncomputable def fIx (f:Str):List Str→Option Nat
 | []=>none
 | g::r=>if g=f then some 0 else (fIx f r).map (·+1)
noncomputable def putO (c:String)(f:Str)(d:D):D→Option D
 | .obj c' ns xs=>if c'=c∧ns.length<100 then match fIx f ns with
   | some j=>some (.obj c' ns (xs.set j d))
   | none=>some (.obj c' (ns++[f]) (xs++[d]))
  else none
 | _=>none
noncomputable def sFld (i:Nat)(c:String)(f:Str)(e:FE):FS:=fun ρ=>(e ρ).bind fun d=>match ρ[i]? with
 | some (some o)=>(oR (putO c f d o)).bind fun o'=>.ok (.nx (ρ.set i (some o')))
 | _=>.bad
noncomputable abbrev FM:=Env→R (D×Env)
noncomputable abbrev FMT:=Env→R (Bool×Env)
noncomputable def run (N:Nat)(b:FS)(ds:List D):R D:=(b (ds.map some++List.replicate (N - ds.length) none)).bind fun fl=>match fl with
 | .nx _=>.ok .non
 | .ret d=>.ok d
 | _=>.bad
noncomputable def keyD:D→Option (Int ⊕ Str)
 | .int i=>some (.inl i)
 | .str x=>some (.inr x)
 | _=>none
noncomputable def dHas (ks:List (Int ⊕ Str))(k:Int ⊕ Str):Bool:=ks.any fun j=>decide (j=k)
noncomputable def dPut (ks:List (Int ⊕ Str))(xs:List D)(k:Int ⊕ Str)(d:D):D:=if dHas ks k then .dct ks (List.zipWith (fun j x=>if j=k then d else x) ks xs) else .dct (ks++[k]) (xs++[d])
noncomputable def sDPut (i:Nat)(k e:FE):FS:=fun ρ=>(e ρ).bind fun d=>match ρ[i]? with
 | some (some (.dct ks xs))=>(k ρ).bind fun z=>match keyD z with
  | some q=>if flat d=true∧flatA xs=true∧ks.length<lim then .ok (.nx (ρ.set i (some (dPut ks xs q d)))) else .bad
  | none=>.bad
 | _=>.bad
noncomputable def catO:Str→List D→Option D
 | out,[]=>some (.str out)
 | out,.str y::r=>if y.length≤2000 then catO (out++y) r else none
 | _,_=>none
noncomputable def splitL (c:Nat):List Nat→List (List Nat)
 | []=>[[]]
 | x::r=>if x=c then []::splitL c r else match splitL c r with
  | []=>[[x]]
  | w::ws=>(x::w)::ws
noncomputable def unR (p:List Nat):Option (List Nat):=if p.getLast?=some 32 then some p.dropLast else none
noncomputable def unL:List Nat→Option (List Nat)
 | []=>none
 | x::r=>if x=32 then some r else none
noncomputable def unP:List Nat→List (List Nat)→Option (List (List Nat))
 | p,[]=>some [p]
 | p,q::r=>(unR p).bind fun w=>(unL q).bind fun q'=>(unP q' r).bind fun ws=>some (w::ws)
noncomputable def keysD:List D→Option (List (Int ⊕ Str))
 | []=>some []
 | d::r=>(keyD d).bind fun k=>(keysD r).bind fun ks=>some (k::ks)
noncomputable def tAt:List (List (Int ⊕ Str))→List D→List (Int ⊕ Str)→Option D
 | j::ks,x::xs,k=>if j=k then some x else tAt ks xs k
 | _,_,_=>none
noncomputable abbrev Pc:=Int×Str
noncomputable def sLt (x y:Str):Bool:=decide (x.cps.toList<y.cps.toList)
noncomputable def pcLt (p q:Pc):Bool:=if p.1=q.1 then (if p.2=q.2 then false else sLt p.2 q.2) else decide (p.1<q.1)
noncomputable def ctLt:List Pc→List Pc→Bool
 | [],[]=>false
 | [],_::_=>true
 | _::_,[]=>false
 | p::c,q::d=>if p=q then ctLt c d else pcLt p q
noncomputable def insC (c:List Pc):List (List Pc)→List (List Pc)
 | []=>[c]
 | d::r=>if ctLt c d=true then c::d::r else d::insC c r
noncomputable def sortC:List (List Pc)→List (List Pc)
 | []=>[]
 | c::r=>insC c (sortC r)
noncomputable def pcOf:D→Option Pc
 | .tup [.int i,.str z]=>some (i,z)
 | _=>none
noncomputable def pcsOf:List D→Option (List Pc)
 | []=>some []
 | d::r=>(pcOf d).bind fun p=>(pcsOf r).bind fun ps=>some (p::ps)
noncomputable def ctOf:D→Option (List Pc)
 | .lst ds=>pcsOf ds
 | _=>none
noncomputable def ctsOf:List D→Option (List (List Pc))
 | []=>some []
 | d::r=>(ctOf d).bind fun c=>(ctsOf r).bind fun cs=>some (c::cs)
noncomputable def aVars:List Nat→FA
 | []=>aNil
 | j::r=>aCons (fV j) (aVars r)
noncomputable def keyLs (fb:FE)(fr:Env):List D→R (List Int)
 | []=>.ok []
 | x::r=>(fb (some x::fr)).calm.bind fun k=>match k with
  | .int k=>(keyLs fb fr r).bind fun ks=>.ok (k::ks)
  | _=>.bad
noncomputable def goP:List Int→D→Option D
 | [],d=>some d
 | n::r,.lst xs=>(ixD xs.length n).bind fun j=>xs[j]?.bind (goP r)
 | n::r,.tup xs=>(ixD xs.length n).bind fun j=>xs[j]?.bind (goP r)
 | _,_=>none
noncomputable def forPath (i j:Nat)(path:List Int)(e:FE)(ρ:Env):Nat→Nat→D→R Fl
 | _,0,d=>.ok (.nx ((ρ.set i (some d)).set j none))
 | k,m+1,d=>match goP path d with
  | some (.lst _)=>(e ((ρ.set i (some d)).set j none)).calm.bind fun v=>match updP (addL v) (path++[(k:Int)]) d with
   | some d'=>forPath i j path e ρ (k+1) m d'
   | none=>.bad
  | _=>.bad
noncomputable def dAt:List (Int ⊕ Str)→List D→Int ⊕ Str→Option D
 | j::ks,x::xs,k=>if j=k then some x else dAt ks xs k
 | _,_,_=>none
noncomputable def intsK:List (Int ⊕ Str)→Option (List Int)
 | []=>some []
 | .inl i::r=>(intsK r).map (i::·)
 | .inr _::_=>none
noncomputable def dFilt (g:D→D→Option D)(ks:List (Int ⊕ Str))(xs:List D)(z:D):List Int→R (List D)
 | []=>.ok []
 | j::js=>(oR (dAt ks xs (.inl j))).bind fun x=>(oR (g x z)).bind fun t=>match t with
  | .bl b=>(dFilt g ks xs z js).bind fun r=>.ok (if b then .int j::r else r)
  | _=>.bad
noncomputable abbrev Pr:=Int×(Int ⊕ Str)
noncomputable def kLt:Int ⊕ Str→Int ⊕ Str→Bool
 | .inl a,.inl b=>decide (a<b)
 | .inr a,.inr b=>sLt a b
 | _,_=>false
noncomputable def prLt (p q:Pr):Bool:=if p.1=q.1 then kLt p.2 q.2 else decide (p.1<q.1)
noncomputable def insP (c:Pr):List Pr→List Pr
 | []=>[c]
 | d::r=>if prLt c d=true then c::d::r else d::insP c r
noncomputable def sortP:List Pr→List Pr
 | []=>[]
 | c::r=>insP c (sortP r)
noncomputable def kdD:Int ⊕ Str→D
 | .inl i=>.int i
 | .inr x=>.str x
noncomputable def prOfD:D→Option Pr
 | .tup [.int i,.int j]=>some (i,.inl j)
 | .tup [.int i,.str z]=>some (i,.inr z)
 | _=>none
noncomputable def prsOf:List D→Option (List Pr)
 | []=>some []
 | d::r=>(prOfD d).bind fun c=>(prsOf r).bind fun cs=>some (c::cs)
noncomputable def forT (i j:Nat)(fc:FT)(b:Bool)(ρ:Env):List (List (Int ⊕ Str))→R Fl
 | []=>.ok (.nx (ρ.set j none))
 | k::r=>(fc ((ρ.set i none).set j (some (.tup (k.map kdD))))).calm.bind fun t=>if t=true then .ok (.ret (.bl b)) else forT i j fc b ρ r
noncomputable def addKs (ks:List Int)(k:Int):List Int:=if k∈ks then ks else ks++[k]
noncomputable def addAll (ks:List Int):List Int→List Int
 | []=>ks
 | n::ns=>addAll (addKs ks n) ns
noncomputable def gSortS:D→Option D
 | .lst ds=>(intsOf ds).bind fun ns=>if ns.length<64 then some (.lst ((sortI (addAll [] ns)).map D.int)) else none
 | _=>none
end Dl
namespace L2
open PySem PySem.Spec PyProof.Rows
open Dl (D R FE FT FA FO FS FI FB Fl)
def FzL (K:Frag)(H:Hp)(a:Addr)(xs:List V):Prop:=
 (∃o,H a=some (.frz o (.lst xs)))∨∃(o:Obj) (its:Array Value) (n:Nat),K.lookup a=some o∧o.cls=.type "list"∧o.dict=none∧o.data=.seq its n∧its.size≤sizeLine∧Vals xs its.toList
theorem FzL.sq {K:Frag}{H:Hp}{a:Addr}{xs:List V}(h:FzL K H a xs):SqL K H a xs:=by
 rcases h with ⟨o,h⟩ | h
 ·exact .inl (.inr ⟨o,h⟩)
 ·exact .inr h
noncomputable def fnm (c:String):Str:=if c="TooMany" then "most" else "at"
def FOk (H:Hp)(c:String)(f:Option Int)(dx:Option Addr):Prop:=match f with
 | none=>True
 | some i=>∃d,dx=some d∧H d=some (.xd [(fnm c,.int i)])
section
variable (K:Frag)(C:String→Addr)
mutual
noncomputable def Rp (H:Hp):D→V→List Addr→Prop
 | .non,v,A=>v=.non∧A=[]
 | .bl b,v,A=>v=.bl b∧A=[]
 | .int i,v,A=>v=.int i∧A=[]
 | .str x,v,A=>v=.str x∧PyData.strOk x=true∧A=[]
 | .lst ds,v,A=>∃a xs B,v=.ref a∧H a=some (.lst xs)∧RpA H ds xs B∧A=a::B
 | .tup ds,v,A=>∃a xs,v=.ref a∧H a=some (.tup xs)∧RpA H ds xs A
 | .scr ns,v,A=>∃a,v=.ref a∧FzL K H a (ns.map V.int)∧A=[]
 | .rng lo hi,v,A=>∃a,v=.ref a∧H a=some (.rng lo hi)∧A=[]
 | .exc c f,v,A=>∃e dx,v=.ref e∧H e=some (exO e (.ref (C c)) dx)∧FOk H c f dx∧A=[]
 | .obj c ns ds,v,A=>∃a dx xs B,v=.ref a∧H a=some (.ins (C c) dx (ns.zip xs))∧ns.length=ds.length∧RpA H ds xs B∧A=a::B
 | .dct ks ds,v,A=>∃a xs B,v=.ref a∧H a=some (.dK (ks.zip xs))∧ks.length=ds.length∧RpA H ds xs B∧A=a::B
 | .dtt ks ds,v,A=>∃a xs B,v=.ref a∧H a=some (.dT (ks.zip xs))∧ks.length=ds.length∧RpA H ds xs B∧A=a::B
noncomputable def RpA (H:Hp):List D→List V→List Addr→Prop
 | [],xs,A=>xs=[]∧A=[]
 | d::ds,xs,A=>∃x r B B',xs=x::r∧Rp H d x B∧RpA H ds r B'∧A=B++B'
end
end
section
variable {K:Frag}{C:String→Addr}{H H' H1 H2:Hp}
inductive IsM:HO→Prop where
 | lst {xs:List V}:IsM (.lst xs)
 | ins {C dx:Addr} {fs:List (Str×V)}:IsM (.ins C dx fs)
 | dct {kvs:List (Key×V)}:IsM (.dK kvs)
 | dtt {kvs:List (List Key×V)}:IsM (.dT kvs)
def Ext (W:Addr→Prop)(H H':Hp):Prop:=∀b o,H b=some o→H' b=some o∨(W b∧IsM o)
theorem Ext.same (h:Same H H'):Ext (fun _=>False) H H':=fun b o q=>.inl (h b o q)
mutual
theorem Rp.ext {W:Addr→Prop}(h:Ext W H H'):∀{d:D} {v:V} {A:List Addr},(∀a∈A,¬W a)→Rp K C H d v A→Rp K C H' d v A
 | .non,_,_,_,r=>r
 | .bl _,_,_,_,r=>r
 | .int _,_,_,_,r=>r
 | .str _,_,_,_,r=>r
 | .lst ds,v,A,hw,r=>by
  obtain ⟨a,xs,B,e1,e2,e3,e4⟩:=r
  subst e4
  refine ⟨a,xs,B,e1,?_,RpA.ext h (fun b hb=>hw b (.tail _ hb)) e3,rfl⟩
  rcases h a _ e2 with q | ⟨q,_⟩
  ·exact q
  ·exact absurd q (hw a (.head _))
 | .tup ds,v,A,hw,r=>by
  obtain ⟨a,xs,e1,e2,e3⟩:=r
  refine ⟨a,xs,e1,?_,RpA.ext h hw e3⟩
  rcases h a _ e2 with q | ⟨_,q⟩
  ·exact q
  ·cases q
 | .scr ns,v,A,_,r=>by
  obtain ⟨a,e1,e2,e3⟩:=r
  refine ⟨a,e1,?_,e3⟩
  rcases e2 with ⟨o,e2⟩ | e2
  ·rcases h a _ e2 with q | ⟨_,q⟩
   ·exact .inl ⟨o,q⟩
   ·cases q
  ·exact .inr e2
 | .rng lo hi,v,A,_,r=>by
  obtain ⟨a,e1,e2,e3⟩:=r
  refine ⟨a,e1,?_,e3⟩
  rcases h a _ e2 with q | ⟨_,q⟩
  ·exact q
  ·cases q
 | .exc c f,v,A,_,r=>by
  obtain ⟨a,dx,e1,e2,e3,e4⟩:=r
  refine ⟨a,dx,e1,?_,?_,e4⟩
  ·rcases h a _ e2 with q | ⟨_,q⟩
   ·exact q
   ·cases q
  ·cases f with
   | none=>trivial
   | some i =>
    obtain ⟨d,z1,z2⟩:=e3
    refine ⟨d,z1,?_⟩
    rcases h d _ z2 with q | ⟨_,q⟩
    ·exact q
    ·cases q
 | .obj c ns ds,v,A,hw,r=>by
  obtain ⟨a,dx,xs,B,e1,e2,e0,e3,e4⟩:=r
  subst e4
  refine ⟨a,dx,xs,B,e1,?_,e0,RpA.ext h (fun b hb=>hw b (.tail _ hb)) e3,rfl⟩
  rcases h a _ e2 with q | ⟨q,_⟩
  ·exact q
  ·exact absurd q (hw a (.head _))
 | .dct ks ds,v,A,hw,r=>by
  obtain ⟨a,xs,B,e1,e2,e0,e3,e4⟩:=r
  subst e4
  refine ⟨a,xs,B,e1,?_,e0,RpA.ext h (fun b hb=>hw b (.tail _ hb)) e3,rfl⟩
  rcases h a _ e2 with q | ⟨q,_⟩
  ·exact q
  ·exact absurd q (hw a (.head _))
 | .dtt ks ds,v,A,hw,r=>by
  obtain ⟨a,xs,B,e1,e2,e0,e3,e4⟩:=r
  subst e4
  refine ⟨a,xs,B,e1,?_,e0,RpA.ext h (fun b hb=>hw b (.tail _ hb)) e3,rfl⟩
  rcases h a _ e2 with q | ⟨q,_⟩
  ·exact q
  ·exact absurd q (hw a (.head _))
theorem RpA.ext {W:Addr→Prop}(h:Ext W H H'):∀{ds:List D} {vs:List V} {A:List Addr},(∀a∈A,¬W a)→RpA K C H ds vs A→RpA K C H' ds vs A
 | [],_,_,_,r=>r
 | d::ds,vs,A,hw,r=>by
  obtain ⟨x,l,B,B',e1,e2,e3,e4⟩:=r
  subst e4
  exact ⟨x,l,B,B',e1,Rp.ext h (fun a ha=>hw a (mem_append_left _ ha)) e2,RpA.ext h (fun a ha=>hw a (mem_append_right _ ha)) e3,rfl⟩
end
theorem Rp.same (h:Same H H'){d:D}{v:V}{A:List Addr}(r:Rp K C H d v A):Rp K C H' d v A:=r.ext (Ext.same h) (fun _ _ q=>q)
theorem RpA.same (h:Same H H'){d:List D}{v:List V}{A:List Addr}(r:RpA K C H d v A):RpA K C H' d v A:=r.ext (Ext.same h) (fun _ _ q=>q)
def Agree (W:List Addr)(H Hb:Hp):Prop:=(∀a∈W,Hb a=H a)∧∀b o,H b=some o→¬IsM o→Hb b=some o
theorem Agree.ext {W:List Addr}(h:Agree W H H'):Ext (fun a=>a∉W) H H':=fun b o q=>by
 by_cases hb:b∈W
 ·exact .inl ((h.1 b hb).trans q)
 ·by_cases ho:IsM o
  ·exact .inr ⟨hb,ho⟩
  ·exact .inl (h.2 b o q ho)
theorem RpA.agree {W:List Addr}(h:Agree W H H'){ds:List D}{vs:List V}{A:List Addr}(hA:∀a∈A,a∈W)(r:RpA K C H ds vs A):RpA K C H' ds vs A:=r.ext h.ext fun a ha z=>z (hA a ha)
mutual
theorem Rp.isl:∀{d:D} {v:V} {A:List Addr},Rp K C H d v A→∀a∈A,∃o,H a=some o∧IsM o
 | .non,_,_,r,a,ha=>by rw [r.2] at ha;cases ha
 | .bl _,_,_,r,a,ha=>by rw [r.2] at ha;cases ha
 | .int _,_,_,r,a,ha=>by rw [r.2] at ha;cases ha
 | .str _,_,_,r,a,ha=>by rw [r.2.2] at ha;cases ha
 | .lst ds,_,_,r,a,ha=>by
  obtain ⟨b,xs,B,e1,e2,e3,e4⟩:=r
  rw [e4] at ha
  rcases List.mem_cons.mp ha with z | z
  ·rw [z];exact ⟨_,e2,.lst⟩
  ·exact RpA.isl e3 a z
 | .tup ds,_,_,r,a,ha=>by
  obtain ⟨b,xs,e1,e2,e3⟩:=r
  exact RpA.isl e3 a ha
 | .scr _,_,_,r,a,ha=>by obtain ⟨_,_,_,e⟩:=r;rw [e] at ha;cases ha
 | .rng _ _,_,_,r,a,ha=>by obtain ⟨_,_,_,e⟩:=r;rw [e] at ha;cases ha
 | .exc _ _,_,_,r,a,ha=>by obtain ⟨_,_,_,_,_,e⟩:=r;rw [e] at ha;cases ha
 | .obj c ns ds,_,_,r,a,ha=>by
  obtain ⟨b,dx,xs,B,e1,e2,e0,e3,e4⟩:=r
  rw [e4] at ha
  rcases List.mem_cons.mp ha with z | z
  ·rw [z];exact ⟨_,e2,.ins⟩
  ·exact RpA.isl e3 a z
 | .dct ks ds,_,_,r,a,ha=>by
  obtain ⟨b,xs,B,e1,e2,e0,e3,e4⟩:=r
  rw [e4] at ha
  rcases List.mem_cons.mp ha with z | z
  ·rw [z];exact ⟨_,e2,.dct⟩
  ·exact RpA.isl e3 a z
 | .dtt ks ds,_,_,r,a,ha=>by
  obtain ⟨b,xs,B,e1,e2,e0,e3,e4⟩:=r
  rw [e4] at ha
  rcases List.mem_cons.mp ha with z | z
  ·rw [z];exact ⟨_,e2,.dtt⟩
  ·exact RpA.isl e3 a z
theorem RpA.isl:∀{ds:List D} {vs:List V} {A:List Addr},RpA K C H ds vs A→∀a∈A,∃o,H a=some o∧IsM o
 | [],_,_,r,a,ha=>by rw [r.2] at ha;cases ha
 | d::ds,_,_,r,a,ha=>by
  obtain ⟨x,l,B,B',e1,e2,e3,e4⟩:=r
  rw [e4] at ha
  rcases List.mem_append.mp ha with z | z
  ·exact Rp.isl e2 a z
  ·exact RpA.isl e3 a z
end
mutual
theorem Rp.flat:∀{d:D} {v:V} {A:List Addr},Dl.flat d=true→Rp K C H d v A→A=[]
 | .non,_,_,_,r=>r.2
 | .bl _,_,_,_,r=>r.2
 | .int _,_,_,_,r=>r.2
 | .str _,_,_,_,r=>r.2.2
 | .lst _,_,_,h,_=>by simp [Dl.flat] at h
 | .tup ds,_,_,h,r=>by
  obtain ⟨b,xs,e1,e2,e3⟩:=r
  exact RpA.flat (by simpa [Dl.flat] using h) e3
 | .scr _,_,_,_,r=>by obtain ⟨_,_,_,e⟩:=r;exact e
 | .rng _ _,_,_,_,r=>by obtain ⟨_,_,_,e⟩:=r;exact e
 | .exc _ _,_,_,_,r=>by obtain ⟨_,_,_,_,_,e⟩:=r;exact e
 | .obj _ _ _,_,_,h,_=>by simp [Dl.flat] at h
 | .dct _ _,_,_,h,_=>by simp [Dl.flat] at h
 | .dtt _ _,_,_,h,_=>by simp [Dl.flat] at h
theorem RpA.flat:∀{ds:List D} {vs:List V} {A:List Addr},Dl.flatA ds=true→RpA K C H ds vs A→A=[]
 | [],_,_,_,r=>r.2
 | d::ds,_,_,h,r=>by
  obtain ⟨x,l,B,B',e1,e2,e3,e4⟩:=r
  simp only [Dl.flatA,Bool.and_eq_true] at h
  rw [e4,Rp.flat h.1 e2,RpA.flat h.2 e3]
  rfl
end
theorem RpA.len:∀{ds:List D} {vs:List V} {A:List Addr},RpA K C H ds vs A→vs.length=ds.length
 | [],_,_,r=>by rw [r.1];rfl
 | d::ds,_,_,r=>by
  obtain ⟨x,l,B,B',e1,e2,e3,e4⟩:=r
  rw [e1,length_cons,length_cons,RpA.len e3]
theorem RpA.get:∀{ds:List D} {vs:List V} {A:List Addr} {i:Nat} {d:D},RpA K C H ds vs A→ds[i]?=some d→∃v B,vs[i]?=some v∧Rp K C H d v B∧∀a∈B,a∈A
 | [],_,_,_,_,_,h=>by simp at h
 | d::ds,_,_,0,_,r,h=>by
  obtain ⟨x,l,B,B',e1,e2,e3,e4⟩:=r
  simp only [List.getElem?_cons_zero,Option.some.injEq] at h
  subst h e1 e4
  exact ⟨x,B,rfl,e2,fun a ha=>mem_append_left _ ha⟩
 | d::ds,_,_,i+1,_,r,h=>by
  obtain ⟨x,l,B,B',e1,e2,e3,e4⟩:=r
  simp only [List.getElem?_cons_succ] at h
  obtain ⟨v,B2,q1,q2,q3⟩:=RpA.get e3 h
  subst e1 e4
  exact ⟨v,B2,by simpa using q1,q2,fun a ha=>mem_append_right _ (q3 a ha)⟩
theorem RpA.get':∀{ds:List D} {vs:List V} {A:List Addr} {i:Nat} {v:V},RpA K C H ds vs A→vs[i]?=some v→∃d B,ds[i]?=some d∧Rp K C H d v B∧∀a∈B,a∈A:=fun {ds vs A i v} r h=>by
 have hl:=r.len
 have hi:i<ds.length:=by
  have:=(List.getElem?_eq_some_iff.mp h).1
  omega
 obtain ⟨v',B,q1,q2,q3⟩:=r.get (getElem?_eq_getElem hi)
 rw [h] at q1
 cases q1
 exact ⟨_,B,getElem?_eq_getElem hi,q2,q3⟩
theorem RpA.app:∀{ds es:List D} {vs ws:List V} {A B:List Addr},RpA K C H ds vs A→RpA K C H es ws B→RpA K C H (ds++es) (vs++ws) (A++B)
 | [],_,_,_,_,_,r,q=>by
  obtain ⟨e1,e2⟩:=r
  subst e1 e2
  exact q
 | d::ds,_,_,_,_,_,r,q=>by
  obtain ⟨x,l,B,B',e1,e2,e3,e4⟩:=r
  subst e1 e4
  exact ⟨x,_,B,_,rfl,e2,RpA.app e3 q,append_assoc ..⟩
theorem RpA.one {d:D}{v:V}{A:List Addr}(r:Rp K C H d v A):RpA K C H [d] [v] A:=⟨v,[],A,[],rfl,r,⟨rfl,rfl⟩,(append_nil _).symm⟩
theorem RpA.flatRev {ds:List D}{vs:List V}{A:List Addr}:Dl.flatA ds=true→RpA K C H ds vs A→RpA K C H ds.reverse vs.reverse []:=by
 intro h r
 induction ds generalizing vs A with
 | nil=>rw [r.1];exact ⟨rfl,rfl⟩
 | cons d ds ih =>
  obtain ⟨x,l,B,B',e1,e2,e3,e4⟩:=r
  simp only [Dl.flatA,Bool.and_eq_true] at h
  have z:=Rp.flat h.1 e2
  subst e1 z
  rw [reverse_cons,reverse_cons]
  exact (ih h.2 e3).app (RpA.one e2)
theorem RpA.flatDrop {ds:List D}{vs:List V}{A:List Addr}:Dl.flatA ds=true→RpA K C H ds vs A→∀n,RpA K C H (ds.drop n) (vs.drop n) []:=by
 intro h r n
 induction ds generalizing vs A n with
 | nil=>rw [r.1];simp;exact ⟨rfl,rfl⟩
 | cons d ds ih =>
  have r0:=r
  obtain ⟨x,l,B,B',e1,e2,e3,e4⟩:=r
  cases n with
  | zero =>
   have z:=RpA.flat h r0
   subst z
   exact r0
  | succ n =>
   simp only [Dl.flatA,Bool.and_eq_true] at h
   subst e1
   exact ih h.2 e3 n
theorem RpA.flatTake {ds:List D}{vs:List V}{A:List Addr}:Dl.flatA ds=true→RpA K C H ds vs A→∀n,RpA K C H (ds.take n) (vs.take n) []:=by
 intro h r n
 induction ds generalizing vs A n with
 | nil=>rw [r.1];simp;exact ⟨rfl,rfl⟩
 | cons d ds ih =>
  obtain ⟨x,l,B,B',e1,e2,e3,e4⟩:=r
  simp only [Dl.flatA,Bool.and_eq_true] at h
  have z:=Rp.flat h.1 e2
  subst e1 z
  cases n with
  | zero=>exact ⟨rfl,rfl⟩
  | succ n=>exact ⟨x,_,[],_,rfl,e2,ih h.2 e3 n,rfl⟩
theorem flatA_drop {ds:List D}(h:Dl.flatA ds=true):∀n,Dl.flatA (ds.drop n)=true:=by
 intro n
 induction ds generalizing n with
 | nil=>simp;rfl
 | cons d ds ih =>
  cases n with
  | zero=>exact h
  | succ n =>
   simp only [Dl.flatA,Bool.and_eq_true] at h
   exact ih h.2 n
theorem RpA.ints {ns:List Int}:RpA K C H (ns.map D.int) (ns.map V.int) []:=by
 induction ns with
 | nil=>exact ⟨rfl,rfl⟩
 | cons n ns ih=>exact ⟨_,_,[],[],rfl,⟨rfl,rfl⟩,ih,rfl⟩
theorem RpA.ofInts:∀{ds:List D} {vs:List V} {A:List Addr} {ns:List Int},RpA K C H ds vs A→Dl.intsOf ds=some ns→vs=ns.map V.int
 | [],_,_,ns,r,h=>by
  simp only [Dl.intsOf,Option.some.injEq] at h
  rw [r.1,← h]
  rfl
 | d::ds,_,_,ns,r,h=>by
  obtain ⟨x,l,B,B',e1,e2,e3,e4⟩:=r
  cases d<;>simp only [Dl.intsOf] at h<;>try cases h
  obtain ⟨ms,h1,h2⟩:=Option.map_eq_some_iff.mp h
  rw [e1,e2.1,RpA.ofInts e3 h1,← h2]
  rfl
mutual
noncomputable def toPy:D→PyData
 | .non=>.none
 | .bl b=>.bool b
 | .int i=>.int i
 | .str x=>.str x
 | .lst ds=>.list (toPyA ds)
 | .tup ds=>.tuple (toPyA ds)
 | .scr _=>.none
 | .rng _ _=>.none
 | .exc _ _=>.none
 | .obj _ _ _=>.none
 | .dct _ _=>.none
 | .dtt _ _=>.none
noncomputable def toPyA:List D→List PyData
 | []=>[]
 | d::ds=>toPy d::toPyA ds
end
mutual
theorem Rp.dn:∀{d:D} {v:V} {A:List Addr} {n:Nat},Dl.dep d≤n→n<100→Rp K C H d v A→Dn K H v (toPy d)∧(toPy d).canLay0=true∧(toPy d).depth=Dl.dep d
 | .non,_,_,_,_,_,r=>by rw [r.1];exact ⟨.non,rfl,rfl⟩
 | .bl _,_,_,_,_,_,r=>by rw [r.1];exact ⟨.bl _,rfl,rfl⟩
 | .int _,_,_,_,_,_,r=>by rw [r.1];exact ⟨.int _,rfl,rfl⟩
 | .str _,_,_,_,_,_,r=>by rw [r.1];exact ⟨.str _,by simpa [toPy,PyData.canLay0] using r.2.1,by simp [toPy,PyData.depth,Dl.dep]⟩
 | .lst ds,_,_,n,h,hn,r=>by
  obtain ⟨a,xs,B,e1,e2,e3,e4⟩:=r
  simp only [Dl.dep] at h
  obtain ⟨q1,q2,q3⟩:=RpA.dn (n:=n) (by omega) hn e3
  rw [e1]
  exact ⟨.lst (SqL.of e2) q1,by simpa [toPy,PyData.canLay0] using q2,by simp [toPy,PyData.depth,Dl.dep,q3]⟩
 | .tup ds,_,_,n,h,hn,r=>by
  obtain ⟨a,xs,e1,e2,e3⟩:=r
  simp only [Dl.dep] at h
  obtain ⟨q1,q2,q3⟩:=RpA.dn (n:=n) (by omega) hn e3
  rw [e1]
  exact ⟨.tup (SqT.of e2) q1,by simpa [toPy,PyData.canLay0] using q2,by simp [toPy,PyData.depth,Dl.dep,q3]⟩
 | .scr _,_,_,n,h,hn,_=>by simp only [Dl.dep] at h;omega
 | .rng _ _,_,_,n,h,hn,_=>by simp only [Dl.dep] at h;omega
 | .exc _ _,_,_,n,h,hn,_=>by simp only [Dl.dep] at h;omega
 | .obj _ _ _,_,_,n,h,hn,_=>by simp only [Dl.dep] at h;omega
 | .dct _ _,_,_,n,h,hn,_=>by simp only [Dl.dep] at h;omega
 | .dtt _ _,_,_,n,h,hn,_=>by simp only [Dl.dep] at h;omega
theorem RpA.dn:∀{ds:List D} {vs:List V} {A:List Addr} {n:Nat},Dl.depA ds≤n→n<100→RpA K C H ds vs A→DnA K H vs (toPyA ds)∧PyData.canLayAll0 (toPyA ds)=true∧PyData.depthAll (toPyA ds)=Dl.depA ds
 | [],_,_,_,_,_,r=>by rw [r.1];exact ⟨.nil,rfl,rfl⟩
 | d::ds,_,_,n,h,hn,r=>by
  obtain ⟨x,l,B,B',e1,e2,e3,e4⟩:=r
  simp only [Dl.depA] at h
  obtain ⟨q1,q2,q3⟩:=Rp.dn (n:=n) (by omega) hn e2
  obtain ⟨p1,p2,p3⟩:=RpA.dn (n:=n) (by omega) hn e3
  rw [e1]
  exact ⟨.cons q1 p1,by simp [toPyA,PyData.canLayAll0,q2,p2],by simp [toPyA,PyData.depthAll,Dl.depA,q3,p3]⟩
end
mutual
theorem eqv_py:∀{d e:D},Dl.dep d<100→Dl.dep e<100→PyData.eqv (toPy d) (toPy e)=Dl.eqv d e
 | .non,e,_,h=>by cases e<;>first | rfl | exact absurd h (lt_irrefl 100)
 | .bl _,e,_,h=>by cases e<;>first | rfl | exact absurd h (lt_irrefl 100)
 | .int _,e,_,h=>by cases e<;>first | rfl | exact absurd h (lt_irrefl 100)
 | .str _,e,_,h=>by cases e<;>first | rfl | exact absurd h (lt_irrefl 100)
 | .lst ds,e,h1,h=>by
  cases e with
  | lst es=>exact eqvA_py (Nat.lt_of_succ_lt h1) (Nat.lt_of_succ_lt h)
  | _=>rfl
 | .tup ds,e,h1,h=>by
  cases e with
  | tup es=>exact eqvA_py (Nat.lt_of_succ_lt h1) (Nat.lt_of_succ_lt h)
  | _=>rfl
 | .scr _,_,h,_=>absurd h (lt_irrefl 100)
 | .rng _ _,_,h,_=>absurd h (lt_irrefl 100)
 | .exc _ _,_,h,_=>absurd h (lt_irrefl 100)
 | .obj _ _ _,_,h,_=>absurd h (lt_irrefl 100)
 | .dct _ _,_,h,_=>absurd h (lt_irrefl 100)
 | .dtt _ _,_,h,_=>absurd h (lt_irrefl 100)
theorem eqvA_py:∀{d e:List D},Dl.depA d<100→Dl.depA e<100→PyData.eqvAll (toPyA d) (toPyA e)=Dl.eqvA d e
 | [],[],_,_=>rfl
 | [],_::_,_,_=>rfl
 | _::_,[],_,_=>rfl
 | d::ds,e::es,h1,h=>by
  have a1:Dl.dep d<100∧Dl.depA ds<100:=Nat.max_lt.mp h1
  have a2:Dl.dep e<100∧Dl.depA es<100:=Nat.max_lt.mp h
  show (PyData.eqv (toPy d) (toPy e)&&PyData.eqvAll (toPyA ds) (toPyA es))=(Dl.eqv d e&&Dl.eqvA ds es)
  rw [eqv_py a1.1 a2.1,eqvA_py a1.2 a2.2]
end
end
noncomputable abbrev DEnv:=Dl.Env
section
variable (K:Frag)(C:String→Addr)
structure EnvOk (H0 Hb H:Hp)(Γ Δ:List Nat)(σ:St)(ρ:DEnv)(A:Nat→List Addr):Prop where
 s0:Same H0 Hb
 same:Same Hb H
 len:σ.length=ρ.length
 rep:∀i d,ρ[i]?=some (some d)→∃v,σ[i]?=some (some v)∧Rp K C H d v (A i)
 nil:∀i,(∀d,ρ[i]?≠some (some d))→A i=[]
 loc:∀i∈Γ,∀a∈A i,H0 a=none
 top:∀i∈Γ,∀a r,A i=a::r→Hb a=none∧a∉r∧∀j,j≠i→a∉A j
 deep:∀i∈Δ,(A i).Nodup∧(∀j,j≠i→∀a∈A i,a∉A j)∧∀a∈A i,Hb a=none
def InS (A:Nat→List Addr)(S:List (Nat×Bool))(a:Addr):Prop:=∃p∈S,if p.2=true then a∈(A p.1).tail else a∈A p.1
def Res (m:Nat)(S:List (Nat×Bool))(H:Hp)(A:Nat→List Addr)(d:D)(v:V)(H':Hp):Prop:=
 ∃B,Rp K C H' d v B∧(∀a∈B,H a=none∨InS A S a)∧(m=1→∀a r,B=a::r→H a=none∧a∉r)∧(m=2→B.Nodup)
def ResA (m:Nat)(S:List (Nat×Bool))(H:Hp)(A:Nat→List Addr)(ds:List D)(vs:List V)(H':Hp):Prop:=
 ∃B,RpA K C H' ds vs B∧(∀a∈B,H a=none∨InS A S a)∧(m=2→B.Nodup)
def EC (E:XK)(c:String)(x:Option Int)(H:Hp):Prop:=∀dx,FOk H c x dx→E (.ref (C c)) dx H
def Post {α:Type}(r:R α)(ok:α→Prop)(er:String→Option Int→Prop):Prop:=match r with
 | .ok a=>ok a
 | .err c x=>er c x
 | .bad=>False
def EOk (E:XK)(Γ Δ:List Nat)(m:Nat)(S:List (Nat×Bool))(t:TE)(f:FE):Prop:=∀(H0 Hb H:Hp) (σ:St) (ρ:DEnv) (A:Nat→List Addr) (Q:VK),EnvOk K C H0 Hb H Γ Δ σ ρ A→
 Post (f ρ) (fun d=>∀v H',Same H H'→Res K C m S H A d v H'→Q v H') (fun c x=>∀H',Same H H'→EC C E c x H')→t σ H Q
def AOk (E:XK)(Γ Δ:List Nat)(m:Nat)(S:List (Nat×Bool))(t:TA)(f:FA):Prop:=∀(H0 Hb H:Hp) (σ:St) (ρ:DEnv) (A:Nat→List Addr) (Q:List V→Hp→Prop),EnvOk K C H0 Hb H Γ Δ σ ρ A→
 Post (f ρ) (fun d=>∀v H',Same H H'→ResA K C m S H A d v H'→Q v H') (fun c x=>∀H',Same H H'→EC C E c x H')→t σ H Q
def TOk (E:XK)(Γ Δ:List Nat)(t:TT)(f:FT):Prop:=∀(H0 Hb H:Hp) (σ:St) (ρ:DEnv) (A:Nat→List Addr) (Q:Bool→Hp→Prop),EnvOk K C H0 Hb H Γ Δ σ ρ A→
 Post (f ρ) (fun b=>∀H',Same H H'→Q b H') (fun c x=>∀H',Same H H'→EC C E c x H')→t σ H Q
def OOk (E:XK)(Γ Δ:List Nat)(t:TO)(f:FO):Prop:=∀(H0 Hb H:Hp) (σ:St) (ρ:DEnv) (A:Nat→List Addr) (Q:Option Int→Hp→Prop),EnvOk K C H0 Hb H Γ Δ σ ρ A→
 Post (f ρ) (fun b=>∀H',Same H H'→Q b H') (fun c x=>∀H',Same H H'→EC C E c x H')→t σ H Q
def PostS (E:XK)(mr:Nat)(Γl Δl Γ' Δ':List Nat)(H0 Hb:Hp)(D:Ends)(r:R Fl):Prop:=Post r (fun fl=>match fl with
    | .nx ρ'=>∀σ' H' A',EnvOk K C H0 Hb H' Γ' Δ' σ' ρ' A'→D.nx σ' H'
    | .ret d=>∀v H',Same H0 H'→Res K C mr [] H0 (fun _=>[]) d v H'→D.rt v H'
    | .brk ρ'=>∀σ' H' A',EnvOk K C H0 Hb H' Γl Δl σ' ρ' A'→D.bk σ' H'
    | .cnt ρ'=>∀σ' H' A',EnvOk K C H0 Hb H' Γl Δl σ' ρ' A'→D.ct σ' H')
  (fun c x=>∀H',Same H0 H'→EC C E c x H')
def SOk (E:XK)(mr:Nat)(Γl Δl Γ Δ Γ' Δ':List Nat)(t:TS)(f:FS):Prop:=∀(H0 Hb H:Hp) (σ:St) (ρ:DEnv) (A:Nat→List Addr) (D:Ends),EnvOk K C H0 Hb H Γ Δ σ ρ A→
 PostS K C E mr Γl Δl Γ' Δ' H0 Hb D (f ρ)→t D σ H
end
section
variable {K:Frag}{C:String→Addr}{E:XK}{Γ Δ Γ' Δ' Γ1 Δ1 Γl Δl:List Nat}{m m1 m2 mr:Nat}{S S1 S2:List (Nat×Bool)}
theorem EnvOk.mono {H0 Hb H H':Hp}{σ:St}{ρ:DEnv}{A:Nat→List Addr}(h:EnvOk K C H0 Hb H Γ Δ σ ρ A)(g:Same H H'):EnvOk K C H0 Hb H' Γ Δ σ ρ A:=
 ⟨h.s0,h.same.trans g,h.len,fun i d e=>let ⟨v,q1,q2⟩:=h.rep i d e;⟨v,q1,q2.same g⟩,h.nil,h.loc,h.top,h.deep⟩
theorem EnvOk.weak {H0 Hb H:Hp}{σ:St}{ρ:DEnv}{A:Nat→List Addr}(h:EnvOk K C H0 Hb H Γ Δ σ ρ A)(h1:∀i∈Γ',i∈Γ)(h2:∀i∈Δ',i∈Δ):EnvOk K C H0 Hb H Γ' Δ' σ ρ A:=
 ⟨h.s0,h.same,h.len,h.rep,h.nil,fun i hi=>h.loc i (h1 i hi),fun i hi=>h.top i (h1 i hi),fun i hi=>h.deep i (h2 i hi)⟩
theorem EnvOk.is {H0 Hb H:Hp}{σ:St}{ρ:DEnv}{A:Nat→List Addr}(h:EnvOk K C H0 Hb H Γ Δ σ ρ A){j:Nat}{a:Addr}(ha:a∈A j):∃o,H a=some o∧IsM o:=by
 by_cases q:∃d,ρ[j]?=some (some d)
 ·obtain ⟨d,q⟩:=q
  obtain ⟨v,_,r⟩:=h.rep j d q
  exact r.isl a ha
 ·rw [h.nil j fun d e=>q ⟨d,e⟩] at ha
  cases ha
theorem EnvOk.ne {H0 Hb H:Hp}{σ:St}{ρ:DEnv}{A:Nat→List Addr}(h:EnvOk K C H0 Hb H Γ Δ σ ρ A){j:Nat}{a:Addr}(ha:a∈A j)(hn:H a=none):False:=by
 obtain ⟨xs,q,_⟩:=h.is ha
 rw [q] at hn
 cases hn
theorem InS.mem {A:Nat→List Addr}{a:Addr}(h:InS A S a):∃p∈S,a∈A p.1:=by
 obtain ⟨p,hp,q⟩:=h
 refine ⟨p,hp,?_⟩
 split at q
 ·exact List.mem_of_mem_tail q
 ·exact q
theorem InS.mono {A:Nat→List Addr}{a:Addr}(h:InS A S1 a)(hs:∀p∈S1,p∈S2):InS A S2 a:=let ⟨p,hp,q⟩:=h;⟨p,hs p hp,q⟩
theorem Post.imp {α:Type}{r:R α}{ok ok':α→Prop}{er er':String→Option Int→Prop}(h:Post r ok er)(h1:∀a,ok a→ok' a)(h2:∀c x,er c x→er' c x):Post r ok' er':=by
 cases r with
 | ok a=>exact h1 a h
 | err c x=>exact h2 c x h
 | bad=>exact h
theorem Post.bind {α β:Type}{r:R α}{g:α→R β}{ok:β→Prop}{er:String→Option Int→Prop}(h:Post (r.bind g) ok er):Post r (fun a=>Post (g a) ok er) er:=by
 cases r with
 | ok a=>exact h
 | err c x=>exact h
 | bad=>exact h
theorem Res.flat {H H':Hp}{A:Nat→List Addr}{d:D}{v:V}(r:Rp K C H' d v []):Res K C m S H A d v H':=⟨[],r,fun _ h=>(nomatch h),fun _ _ _ e=>(nomatch e),fun _=>nodup_nil⟩
theorem eok_c {d:D}{v:V}(h:∀H,Rp K C H d v []):EOk K C E Γ Δ 2 [] (tC v) (Dl.fC d):=fun _ _ H _ _ _ _ _ p=>p v H (Same.refl _) (Res.flat (h H))
theorem fV_ok {i:Nat}{ρ:DEnv}{ok:D→Prop}{er:String→Option Int→Prop}(h:Post (Dl.fV i ρ) ok er):∃d,ρ[i]?=some (some d)∧ok d:=by
 unfold Dl.fV at h
 split at h
 ·rename_i d e
  exact ⟨d,e,h⟩
 ·exact h.elim
theorem eok_v {i:Nat}:EOk K C E Γ Δ 0 [(i,false)] (tVar i) (Dl.fV i):=fun H0 Hb H σ ρ A Q I p=>by
 obtain ⟨d,e,p⟩:=fV_ok p
 obtain ⟨v,e1,r⟩:=I.rep i d e
 exact ⟨v,e1,p v H (Same.refl _) ⟨A i,r,fun a ha=>.inr ⟨(i,false),.head _,ha⟩,(fun z=>nomatch z),(fun z=>nomatch z)⟩⟩
theorem eok_vd {i:Nat}(hi:i∈Δ):EOk K C E Γ Δ 2 [(i,false)] (tVar i) (Dl.fV i):=fun H0 Hb H σ ρ A Q I p=>by
 obtain ⟨d,e,p⟩:=fV_ok p
 obtain ⟨v,e1,r⟩:=I.rep i d e
 exact ⟨v,e1,p v H (Same.refl _) ⟨A i,r,fun a ha=>.inr ⟨(i,false),.head _,ha⟩,(fun z=>nomatch z),fun _=>(I.deep i hi).1⟩⟩
theorem eok_flat {t:TE}{f:FE}(h:EOk K C E Γ Δ m S t f):EOk K C E Γ Δ 2 [] t (Dl.f1 Dl.gFlat f):=fun H0 Hb H σ ρ A Q I p =>
  h H0 Hb H σ ρ A Q I (p.bind.imp (fun d q v H' g r=>by
    unfold Dl.gFlat at q
    split at q
    · rename_i hf
      obtain ⟨B,r1,_⟩:=r
      have e:=r1.flat hf
      subst e
      exact q v H' g (Res.flat r1)
    · exact q.elim) fun _ _ q=>q)
theorem Res.later {H0 H1 H2 H3:Hp}{A:Nat→List Addr}{d:D}{v:V}(g1:Same H0 H1)(g2:Same H2 H3)(r:Res K C m S H1 A d v H2):Res K C m S H0 A d v H3:=by
 obtain ⟨B,r1,r2,r3,r4⟩:=r
 exact ⟨B,r1.same g2,fun a ha=>(r2 a ha).imp (fun h=>g1.free h) id,fun hm a l e=>⟨g1.free (r3 hm a l e).1,(r3 hm a l e).2⟩,r4⟩
theorem Res.new {H H':Hp}{A:Nat→List Addr}{d:D}{v:V}{B:List Addr}(r:Rp K C H' d v B)(h1:B.Nodup)(h2:∀a∈B,H a=none):Res K C m S H A d v H':=
 ⟨B,r,fun a ha=>.inl (h2 a ha),fun _ a l e=>by subst e;exact ⟨h2 a (.head _),(List.nodup_cons.mp h1).1⟩,fun _=>h1⟩
theorem oR_ok {α:Type}{o:Option α}{ok:α→Prop}{er:String→Option Int→Prop}(h:Post (Dl.oR o) ok er):∃a,o=some a∧ok a:=by
 cases o with
 | none=>exact h.elim
 | some a=>exact ⟨a,rfl,h⟩
def GOk (K:Frag)(C:String→Addr)(r:R2)(g:D→D→Option D):Prop:=
 ∀(H:Hp) (x y d:D) (vx vy:V) (Bx By:List Addr) (Q:VK),Rp K C H x vx Bx→Rp K C H y vy By→g x y=some d→(∀v H' B,Same H H'→Rp K C H' d v B→B.Nodup→(∀a∈B,H a=none)→Q v H')→r vx vy H Q
def GAk (K:Frag)(C:String→Addr)(r:List V→Hp→VK→Prop)(g:List D→Option D):Prop:=
 ∀(H:Hp) (xs:List D) (d:D) (vs:List V) (Bx:List Addr) (Q:VK),RpA K C H xs vs Bx→g xs=some d→(∀v H' B,Same H H'→Rp K C H' d v B→B.Nodup→(∀a∈B,H a=none)→Q v H')→r vs H Q
theorem eok_op {r:R2}{g:D→D→Option D}{ta tb:TE}{fa fb:FE}(hg:GOk K C r g)(ha:EOk K C E Γ Δ m1 S1 ta fa)(hb:EOk K C E Γ Δ m2 S2 tb fb):EOk K C E Γ Δ 2 [] (tOp r ta tb) (Dl.f2 g fa fb):=
  fun H0 Hb H σ ρ A Q I p=>ha H0 Hb H σ ρ A _ I (p.bind.imp (fun x q vx H1 g1 r1=>hb H0 Hb H1 σ ρ A _ (I.mono g1) (q.bind.imp (fun y q vy H2 g2 r2=>by
    obtain ⟨d,e,q⟩:=oR_ok q
    obtain ⟨Bx,r1,_⟩:=r1
    obtain ⟨By,r2,_⟩:=r2
    exact hg H2 x y d vx vy Bx By Q (r1.same g2) r2 e fun v H' B g3 r3 h1 h2=>q v H' (g1.trans (g2.trans g3)) (Res.new r3 h1 fun a ha=>(g1.trans g2).free (h2 a ha))) fun c x q H' g'=>q H' (g1.trans g'))) fun c x q H' g'=>q H' g')
theorem eok_un {r:V→Hp→VK→Prop}{g:D→Option D}{ta:TE}{fa:FE}(hg:∀(H:Hp) (x d:D) (vx:V) (Bx:List Addr) (Q:VK),Rp K C H x vx Bx→g x=some d→(∀v H' B,Same H H'→Rp K C H' d v B→B.Nodup→(∀a∈B,H a=none)→Q v H')→r vx H Q)
    (ha:EOk K C E Γ Δ m1 S1 ta fa):EOk K C E Γ Δ 2 [] (tUn r ta) (Dl.f1 g fa):=
  fun H0 Hb H σ ρ A Q I p=>ha H0 Hb H σ ρ A _ I (p.bind.imp (fun x q vx H1 g1 r1=>by
    obtain ⟨d,e,q⟩:=oR_ok q
    obtain ⟨Bx,r1,_⟩:=r1
    exact hg H1 x d vx Bx Q r1 e fun v H' B g3 r3 h1 h2=>q v H' (g1.trans g3) (Res.new r3 h1 fun a ha=>g1.free (h2 a ha))) fun c x q H' g'=>q H' g')
theorem no_some {α:Type}{d:α}{P:Prop}(e:(none:Option α)=some d):P:=nomatch e
theorem one_at {F:List D→Option D}(hn:F []=none)(hc:∀x y r,F (x::y::r)=none):∀{ds:List D} {d:D},F ds=some d→∃x,ds=[x]
 | [],_,e=>no_some (hn.symm.trans e)
 | [x],_,_=>⟨x,rfl⟩
 | x::y::r,_,e=>no_some ((hc x y r).symm.trans e)
theorem gIx_lst {ds:List D}{y d:D}(e:Dl.gIx (.lst ds) y=some d):∃i,y=.int i∧atI ds i=some d:=by
 cases y with
 | int i=>exact ⟨i,rfl,e⟩
 | _=>exact no_some e
theorem gIx_tup {ds:List D}{y d:D}(e:Dl.gIx (.tup ds) y=some d):∃i,y=.int i∧atI ds i=some d:=by
 cases y with
 | int i=>exact ⟨i,rfl,e⟩
 | _=>exact no_some e
theorem gIx_scr {ns:List Int}{y d:D}(e:Dl.gIx (.scr ns) y=some d):∃i,y=.int i∧(atI ns i).map D.int=some d:=by
 cases y with
 | int i=>exact ⟨i,rfl,e⟩
 | _=>exact no_some e
theorem gIx_str {z:Str}{y d:D}(e:Dl.gIx (.str z) y=some d):∃i,y=.int i∧z.length≤Dl.lim∧(atI z.cps.toList i).map (fun c=>D.str ⟨#[c]⟩)=some d:=by
 cases y with
 | int i =>
  have e':(if z.length≤Dl.lim then ((Dl.atD z.cps.toList i).map fun c=>D.str ⟨#[c]⟩) else none)=some d:=e
  by_cases h:z.length≤Dl.lim
  ·rw [if_pos h] at e'
   exact ⟨i,rfl,h,e'⟩
  ·rw [if_neg h] at e'
   exact no_some e'
 | _=>exact no_some e
theorem gIx_at {x y d:D}(e:Dl.gIx x y=some d):∃i,y=.int i∧((∃ds,x=.lst ds∧atI ds i=some d)∨(∃ds,x=.tup ds∧atI ds i=some d)∨(∃ns,x=.scr ns∧(atI ns i).map D.int=some d)∨∃z,x=.str z∧z.length≤Dl.lim∧(atI z.cps.toList i).map (fun c=>D.str ⟨#[c]⟩)=some d):=by
 cases x with
 | lst ds=>exact (gIx_lst e).imp fun _ h=>⟨h.1,.inl ⟨ds,rfl,h.2⟩⟩
 | tup ds=>exact (gIx_tup e).imp fun _ h=>⟨h.1,.inr (.inl ⟨ds,rfl,h.2⟩)⟩
 | scr ns=>exact (gIx_scr e).imp fun _ h=>⟨h.1,.inr (.inr (.inl ⟨ns,rfl,h.2⟩))⟩
 | str z=>exact (gIx_str e).imp fun _ h=>⟨h.1,.inr (.inr (.inr ⟨z,rfl,h.2⟩))⟩
 | _=>exact no_some e
theorem at_seq {α β:Type}{ds:List α}{xs:List β}{i:Int}{d:α}{v:β}{j:Nat}(hl:xs.length=ds.length)(e:atI ds i=some d)(h1:seqIndex? i ds.length=some j)(hv:xs[j]?=some v):atI xs i=some v:=by
 unfold atI at e ⊢
 rw [hl]
 cases hx:ixN ds.length i with
 | none=>rw [hx] at e;cases e
 | some k =>
  obtain ⟨z1,_⟩:=ixN_seq hx
  rw [h1] at z1
  cases z1
  exact hv
theorem gIx_ok {H:Hp}{x y d:D}{vx vy:V}{Bx By:List Addr}{Q:VK}(rx:Rp K C H x vx Bx)(ry:Rp K C H y vy By)(e:Dl.gIx x y=some d)(q:∀v B,Rp K C H d v B→(∀a∈B,a∈Bx)→((∃ds,x=.lst ds)→∀a∈B,a∈Bx.tail)→Q v H):rIx K vx vy H Q:=by
 obtain ⟨i,rfl,h⟩:=gIx_at e
 cases ry.1
 rcases h with ⟨ds,rfl,e'⟩ | ⟨ds,rfl,e'⟩ | ⟨ns,rfl,e'⟩ | ⟨z,rfl,hz,e'⟩
 ·obtain ⟨a,xs,B,rfl,e2,e3,rfl⟩:=rx
  obtain ⟨j,h1,h2,_⟩:=atI_get e'
  obtain ⟨v,B',q1,q2,q3⟩:=e3.get h2
  exact rd_ixL (SqL.of e2) (v:=v) (at_seq e3.len e' h1 q1) (q v B' q2 (fun a ha=>.tail _ (q3 a ha)) fun _ a ha=>q3 a ha)
 ·obtain ⟨a,xs,rfl,e2,e3⟩:=rx
  obtain ⟨j,h1,h2,_⟩:=atI_get e'
  obtain ⟨v,B',q1,q2,q3⟩:=e3.get h2
  exact rd_ixT (SqT.of e2) (v:=v) (at_seq e3.len e' h1 q1) (q v B' q2 q3 fun z=>by obtain ⟨_,z⟩:=z;cases z)
 ·obtain ⟨a,rfl,e2,rfl⟩:=rx
  obtain ⟨n,h1,rfl⟩:=Option.map_eq_some_iff.mp e'
  obtain ⟨j,h2,h3,_⟩:=atI_get h1
  exact .inl ⟨a,ns.map V.int,i,.int n,rfl,rfl,e2.sq,at_seq (length_map _) h1 h2 (by rw [getElem?_map,h3];rfl),q (.int n) [] ⟨rfl,rfl⟩ (fun _ h=>(nomatch h)) fun _ _ h=>(nomatch h)⟩
 ·obtain ⟨rfl,e2,rfl⟩:=rx
  obtain ⟨c,h1,rfl⟩:=Option.map_eq_some_iff.mp e'
  refine .inr (.inr ⟨z,i,c,rfl,rfl,le_trans hz (by decide),h1,q _ [] ⟨rfl,?_,rfl⟩ (fun _ h=>(nomatch h)) fun _ _ h=>(nomatch h)⟩)
  obtain ⟨j,_,h3,_⟩:=atI_get h1
  have hm:c∈z.cps:=Array.mem_toList_iff.mp (mem_of_getElem? h3)
  have ho:z.cps.all (·<0x110000)=true:=e2
  have:=(Array.all_eq_true_iff_forall_mem.mp ho) c hm
  unfold PyData.strOk
  simpa using this
theorem eok_ix {ta tb:TE}{fa fb:FE}(ha:EOk K C E Γ Δ m1 S1 ta fa)(hb:EOk K C E Γ Δ m2 S2 tb fb):EOk K C E Γ Δ 0 S1 (tOp (rIx K) ta tb) (Dl.f2 Dl.gIx fa fb):=
  fun H0 Hb H σ ρ A Q I p=>ha H0 Hb H σ ρ A _ I (p.bind.imp (fun x q vx H1 g1 r1=>hb H0 Hb H1 σ ρ A _ (I.mono g1) (q.bind.imp (fun y q vy H2 g2 r2=>by
    obtain ⟨d,e,q⟩:=oR_ok q
    obtain ⟨Bx,r1,r1',_⟩:=r1
    obtain ⟨By,r2,_⟩:=r2
    exact gIx_ok (r1.same g2) r2 e fun v B r3 h _=>q v H2 (g1.trans g2) ⟨B,r3,fun a ha=>r1' a (h a ha),(fun z=>nomatch z),(fun z=>nomatch z)⟩) fun c x q H' g'=>q H' (g1.trans g'))) fun c x q H' g'=>q H' g')
noncomputable def gIxL (x y:D):Option D:=match x with
 | .lst _=>Dl.gIx x y
 | _=>none
end
section
variable {K:Frag}{C:String→Addr}{E:XK}{Γ Δ:List Nat}{m m1 m2 m3 mr:Nat}{S S1 S2 S3:List (Nat×Bool)}{H:Hp}{Q:VK}
theorem sameNew {H:Hp}{p:Addr}(h:H p=none)(o:HO):Same H (upd H p o):=fun b u q=>by rw [upd_ne (ne_of_none q h)];exact q
noncomputable abbrev Out (K:Frag)(C:String→Addr)(H:Hp)(d:D)(Q:VK):Prop:=∀v H' B,Same H H'→Rp K C H' d v B→B.Nodup→(∀a∈B,H a=none)→Q v H'
theorem Out.flat {d:D}{v:V}(q:Out K C H d Q)(r:Rp K C H d v []):Q v H:=q v H [] (Same.refl _) r nodup_nil (fun _ h=>nomatch h)
theorem Out.lst {ds:List D}{vs:List V}{p:Addr}(q:Out K C H (.lst ds) Q)(r:RpA K C H ds vs [])(hp:H p=none):Q (.ref p) (upd H p (.lst vs)):=
 q _ _ [p] (sameNew hp _) ⟨p,vs,[],rfl,upd_same,r.same (sameNew hp _),rfl⟩ (by simp) (fun a ha=>by rw [List.mem_singleton.mp ha];exact hp)
theorem limLine {n:Nat}(h:n≤Dl.lim):n≤sizeLine:=le_trans h (by decide)
theorem limLine' {n:Nat}(h:n<Dl.lim):n<sizeLine:=lt_of_lt_of_le h (by decide)
theorem strOk_cat {x y:Str}(h1:PyData.strOk x=true)(h2:PyData.strOk y=true):PyData.strOk (x++y)=true:=by
 unfold PyData.strOk at *
 show (x.cps++y.cps).all _=true
 rw [Array.all_append,h1,h2]
 rfl
theorem RpA.nil:RpA K C H [] [] []:=⟨rfl,rfl⟩
theorem RpA.flat' {ds:List D}{vs:List V}{A:List Addr}(h:Dl.flatA ds=true)(r:RpA K C H ds vs A):RpA K C H ds vs []:=by
 have e:=RpA.flat h r
 subst e
 exact r
theorem RpA.rep {ds:List D}{vs:List V}(r:RpA K C H ds vs []):∀n,RpA K C H (List.replicate n ds).flatten (List.replicate n vs).flatten []
 | 0=>RpA.nil
 | n+1=>by
  rw [replicate_succ,replicate_succ,flatten_cons,flatten_cons]
  exact r.app (RpA.rep r n)
theorem gok_add:GOk K C rAddA Dl.gAdd:=by
 intro H x y d vx vy Bx By Q rx ry e q
 unfold Dl.gAdd at e
 split at e
 ·cases e
  obtain ⟨rfl,_⟩:=rx
  obtain ⟨rfl,_⟩:=ry
  exact rd_add (Out.flat q ⟨rfl,rfl⟩)
 ·split at e
  ·rename_i hz
   cases e
   obtain ⟨rfl,h1,_⟩:=rx
   obtain ⟨rfl,h2,_⟩:=ry
   exact .inr (.inl ⟨_,_,rfl,rfl,limLine hz,Out.flat q ⟨rfl,strOk_cat h1 h2,rfl⟩⟩)
  ·cases e
 ·split at e
  ·rename_i hz
   cases e
   obtain ⟨a,xs,B,rfl,e2,e3,_⟩:=rx
   obtain ⟨a',xs',B',rfl,e2',e3',_⟩:=ry
   obtain ⟨hz,f1,f2⟩:=hz
   refine rd_cat e2 e2' (by rw [e3.len,e3'.len];exact limLine hz) fun p hp=>?_
   exact Out.lst q ((e3.flat' f1).app (e3'.flat' f2)) hp
  ·cases e
 ·cases e
theorem gok_I0 {g:Int→Int→D}{gv:Int→Int→V}{f:D→D→Option D}(hf:∀x y d,f x y=some d→∃i j,x=.int i∧y=.int j∧d=g i j)(hr:∀H i j,Rp K C H (g i j) (gv i j) []):GOk K C (rI0 gv) f:=by
 intro H x y d vx vy Bx By Q rx ry e q
 obtain ⟨i,j,rfl,rfl,rfl⟩:=hf x y d e
 obtain ⟨rfl,_⟩:=rx
 obtain ⟨rfl,_⟩:=ry
 exact rd_I0 (Out.flat q (hr H i j))
theorem gok_I {Cd:Int→Int→Prop}{g:Int→Int→D}{gv:Int→Int→V}{f:D→D→Option D}(hf:∀x y d,f x y=some d→∃i j,x=.int i∧y=.int j∧d=g i j∧Cd i j)(hr:∀H i j,Rp K C H (g i j) (gv i j) []):GOk K C (rI Cd gv) f:=by
 intro H x y d vx vy Bx By Q rx ry e q
 obtain ⟨i,j,rfl,rfl,rfl,hc⟩:=hf x y d e
 obtain ⟨rfl,_⟩:=rx
 obtain ⟨rfl,_⟩:=ry
 exact rd_I hc (Out.flat q (hr H i j))
theorem rpI {i:Int}:Rp K C H (.int i) (.int i) []:=⟨rfl,rfl⟩
theorem rpB {i:Bool}:Rp K C H (.bl i) (.bl i) []:=⟨rfl,rfl⟩
theorem gok_sub:GOk K C (rI0 fun i j=>.int (i - j)) Dl.gSub:=gok_I0 (fun x y d e=>by unfold Dl.gSub at e;split at e<;>cases e;exact ⟨_,_,rfl,rfl,rfl⟩) fun _ _ _=>rpI
theorem gok_lt:GOk K C (rI0 fun i j=>.bl (decide (i<j))) Dl.gLt:=gok_I0 (fun x y d e=>by unfold Dl.gLt at e;split at e<;>cases e;exact ⟨_,_,rfl,rfl,rfl⟩) fun _ _ _=>rpB
theorem gok_le:GOk K C (rI0 fun i j=>.bl (decide (i≤j))) Dl.gLe:=gok_I0 (fun x y d e=>by unfold Dl.gLe at e;split at e<;>cases e;exact ⟨_,_,rfl,rfl,rfl⟩) fun _ _ _=>rpB
theorem gok_gt:GOk K C (rI0 fun i j=>.bl (decide (j<i))) Dl.gGt:=gok_I0 (fun x y d e=>by unfold Dl.gGt at e;split at e<;>cases e;exact ⟨_,_,rfl,rfl,rfl⟩) fun _ _ _=>rpB
theorem gok_ge:GOk K C (rI0 fun i j=>.bl (decide (j≤i))) Dl.gGe:=gok_I0 (fun x y d e=>by unfold Dl.gGe at e;split at e<;>cases e;exact ⟨_,_,rfl,rfl,rfl⟩) fun _ _ _=>rpB
theorem gok_mod:GOk K C (rI (fun _ j=>0<j) fun i j=>.int (i % j)) Dl.gMod:=gok_I (fun x y d e=>by
  unfold Dl.gMod at e
  split at e
  · split at e
    · rename_i h;cases e;exact ⟨_,_,rfl,rfl,rfl,h⟩
    · cases e
  · cases e) fun _ _ _=>rpI
theorem gok_div:GOk K C (rI CDivL fun i j=>.int (i / j)) Dl.gDiv:=gok_I (fun x y d e=>by
  unfold Dl.gDiv at e
  split at e
  · split at e
    · rename_i h;cases e;exact ⟨_,_,rfl,rfl,rfl,h⟩
    · cases e
  · cases e) fun _ _ _=>rpI
theorem gok_pow:GOk K C (rI CPow fun i j=>.int (i ^ j.toNat)) Dl.gPow:=gok_I (fun x y d e=>by
  unfold Dl.gPow at e
  split at e
  · split at e
    · rename_i h;cases e;exact ⟨_,_,rfl,rfl,rfl,h⟩
    · cases e
  · cases e) fun _ _ _=>rpI
theorem short_mul {i j:Int}(h:(Dl.short i||Dl.short j)=true):CMul i j:=by
 unfold Dl.short at h
 simp only [Bool.or_eq_true,Bool.and_eq_true,decide_eq_true_eq] at h
 exact h
theorem gok_mul:GOk K C rMulA Dl.gMul:=by
 intro H x y d vx vy Bx By Q rx ry e q
 unfold Dl.gMul at e
 split at e
 ·split at e
  ·rename_i h
   cases e
   obtain ⟨rfl,_⟩:=rx
   obtain ⟨rfl,_⟩:=ry
   exact rd_mul (short_mul h) (Out.flat q rpI)
  ·cases e
 ·split at e
  ·rename_i h
   cases e
   obtain ⟨a,xs,B,rfl,e2,e3,_⟩:=rx
   obtain ⟨rfl,_⟩:=ry
   obtain ⟨h1,h2,h3,h4⟩:=h
   refine rd_rep e2 (by omega) (by omega) (by rw [e3.len];exact limLine h2) fun p hp=>?_
   exact Out.lst q ((e3.flat' h4).rep _) hp
  ·cases e
 ·cases e
theorem shaped_of {d:D}{v:V}{A:List Addr}(h:Dl.dep d≤20)(r:Rp K C H d v A):Dn K H v (toPy d)∧SeqAt.shaped (toPy d)=true:=by
 obtain ⟨q1,q2,q3⟩:=r.dn h (by decide)
 refine ⟨q1,?_⟩
 unfold SeqAt.shaped
 rw [q2,q3]
 simp only [Bool.true_and,decide_eq_true_eq]
 omega
theorem gok_eq:GOk K C (rEqA K) Dl.gEq:=by
 intro H x y d vx vy Bx By Q rx ry e q
 unfold Dl.gEq at e
 split at e
 ·rename_i h
  cases e
  obtain ⟨a1,a2⟩:=shaped_of h.1 rx
  obtain ⟨b1,b2⟩:=shaped_of h.2 ry
  refine .inr ⟨_,_,a1,b1,a2,b2,?_⟩
  rw [eqv_py (by omega) (by omega)]
  exact Out.flat q rpB
 ·cases e
theorem gok_ne:GOk K C (rNeA K) Dl.gNe:=by
 intro H x y d vx vy Bx By Q rx ry e q
 unfold Dl.gNe at e
 split at e
 ·rename_i h
  cases e
  obtain ⟨a1,a2⟩:=shaped_of h.1 rx
  obtain ⟨b1,b2⟩:=shaped_of h.2 ry
  refine .inr ⟨_,_,a1,b1,a2,b2,?_⟩
  rw [eqv_py (by omega) (by omega)]
  exact Out.flat q rpB
 ·cases e
theorem isNon_of {x:D}{v:V}{B:List Addr}(r:Rp K C H x v B):decide (v=.non)=Dl.isNon x:=by
 cases x
 ·rw [r.1];rfl
 ·rw [r.1];rfl
 ·rw [r.1];rfl
 ·rw [r.1];rfl
 ·obtain ⟨a,xs,B,rfl,_⟩:=r;rfl
 ·obtain ⟨a,xs,rfl,_⟩:=r;rfl
 ·obtain ⟨a,rfl,_⟩:=r;rfl
 ·obtain ⟨a,rfl,_⟩:=r;rfl
 ·obtain ⟨a,dx,rfl,_⟩:=r;rfl
 ·obtain ⟨a,dx,xs,B,rfl,_⟩:=r;rfl
 ·obtain ⟨a,xs,B,rfl,_⟩:=r;rfl
 ·obtain ⟨a,xs,B,rfl,_⟩:=r;rfl
theorem gok_is:GOk K C (rIsA false) Dl.gIs:=by
 intro H x y d vx vy Bx By Q rx ry e q
 unfold Dl.gIs at e
 split at e
 ·cases e
  refine .inl ⟨ry.1,?_⟩
  simp only [Bool.false_eq_true,if_false]
  rw [isNon_of rx]
  exact Out.flat q rpB
 ·split at e
  ·cases e
   obtain ⟨rfl,_⟩:=rx
   obtain ⟨rfl,_⟩:=ry
   exact .inr ⟨_,_,rfl,rfl,by simp only [Bool.false_eq_true,if_false];exact Out.flat q rpB⟩
  ·cases e
 ·cases e
theorem gok_isNot:GOk K C (rIsA true) Dl.gIsNot:=by
 intro H x y d vx vy Bx By Q rx ry e q
 unfold Dl.gIsNot at e
 split at e
 ·cases e
  refine .inl ⟨ry.1,?_⟩
  simp only [if_true]
  rw [isNon_of rx]
  exact Out.flat q rpB
 ·split at e
  ·cases e
   obtain ⟨rfl,_⟩:=rx
   obtain ⟨rfl,_⟩:=ry
   exact .inr ⟨_,_,rfl,rfl,by simp only [if_true];exact Out.flat q rpB⟩
  ·cases e
 ·cases e
theorem aok_nil:AOk K C E Γ Δ 2 [] tNil Dl.aNil:=fun _ _ H _ _ _ _ _ p=>p [] H (Same.refl _) ⟨[],RpA.nil,(fun _ h=>nomatch h),fun _=>nodup_nil⟩
theorem InS.left {A:Nat→List Addr}{a:Addr}(h:InS A S1 a):InS A (S1++S2) a:=h.mono fun _ hp=>mem_append_left _ hp
theorem InS.right {A:Nat→List Addr}{a:Addr}(h:InS A S2 a):InS A (S1++S2) a:=h.mono fun _ hp=>mem_append_right _ hp
theorem aok_cons {te:TE}{t:TA}{fe:FE}{f:FA}(he:EOk K C E Γ Δ m1 S1 te fe)(ha:AOk K C E Γ Δ m2 S2 t f):AOk K C E Γ Δ 0 (S1++S2) (tCons te t) (Dl.aCons fe f):=
  fun H0 Hb H σ ρ A Q I p=>he H0 Hb H σ ρ A _ I (p.bind.imp (fun x q vx H1 g1 r1=>ha H0 Hb H1 σ ρ A _ (I.mono g1) (q.bind.imp (fun ys q vs H2 g2 r2=>by
    obtain ⟨Bx,r1,r1',_⟩:=r1
    obtain ⟨By,r2,r2',_⟩:=r2
    exact q _ H2 (g1.trans g2) ⟨Bx++By,⟨vx,vs,Bx,By,rfl,r1.same g2,r2,rfl⟩,fun a h=>(List.mem_append.mp h).elim (fun h=>(r1' a h).imp id InS.left) (fun h=>(r2' a h).imp (fun h=>g1.free h) InS.right),(fun z=>nomatch z)⟩)
    fun c x q H' g'=>q H' (g1.trans g'))) fun c x q H' g'=>q H' g')
theorem aok_consD {te:TE}{t:TA}{fe:FE}{f:FA}(he:EOk K C E Γ Δ 2 S1 te fe)(ha:AOk K C E Γ Δ 2 S2 t f)(h1:∀p∈S1,p.1∈Δ:=by decide)(h2:∀p∈S1,∀q∈S2,p.1≠q.1:=by decide):AOk K C E Γ Δ 2 (S1++S2) (tCons te t) (Dl.aCons fe f):=
  fun H0 Hb H σ ρ A Q I p=>he H0 Hb H σ ρ A _ I (p.bind.imp (fun x q vx H1 g1 r1=>ha H0 Hb H1 σ ρ A _ (I.mono g1) (q.bind.imp (fun ys q vs H2 g2 r2=>by
    obtain ⟨Bx,r1,r1',_,n1⟩:=r1
    obtain ⟨By,r2,r2',n2⟩:=r2
    refine q _ H2 (g1.trans g2) ⟨Bx++By,⟨vx,vs,Bx,By,rfl,r1.same g2,r2,rfl⟩,fun a h=>(List.mem_append.mp h).elim (fun h=>(r1' a h).imp id InS.left) (fun h=>(r2' a h).imp (fun h=>g1.free h) InS.right),fun _=>?_⟩
    refine List.nodup_append.mpr ⟨n1 rfl,n2 rfl,fun a ha b hb e=>?_⟩
    subst e
    rcases r2' a hb with z | z
    · obtain ⟨xs,w,_⟩:=r1.isl a ha
      rw [w] at z
      cases z
    · obtain ⟨p2,hp2,z⟩:=z.mem
      rcases r1' a ha with w | w
      · exact I.ne z w
      · obtain ⟨p1,hp1,w⟩:=w.mem
        exact (I.deep p1.1 (h1 p1 hp1)).2.1 p2.1 (fun e=>h2 p1 hp1 p2 hp2 e.symm) a w z)
    fun c x q H' g'=>q H' (g1.trans g'))) fun c x q H' g'=>q H' g')
theorem eok_lst {t:TA}{f:FA}(ha:AOk K C E Γ Δ 2 S t f):EOk K C E Γ Δ 2 S (tLst t) (Dl.fA Dl.gLst f):=
  fun H0 Hb H σ ρ A Q I p=>ha H0 Hb H σ ρ A _ I (p.bind.imp (fun ds q vs H1 g1 r1=>by
    obtain ⟨d,e,q⟩:=oR_ok q
    unfold Dl.gLst at e
    split at e
    · rename_i hz
      cases e
      obtain ⟨B,r1,r1',n1⟩:=r1
      refine ⟨by rw [r1.len];exact limLine hz,fun p hp=>?_⟩
      have g2:=sameNew hp (.lst vs)
      refine q _ _ (g1.trans g2) ⟨p::B,⟨p,vs,B,rfl,upd_same,r1.same g2,rfl⟩,fun a ha=>?_,(fun z=>nomatch z),fun _=>List.nodup_cons.mpr ⟨fun h=>?_,n1 rfl⟩⟩
      · rcases List.mem_cons.mp ha with z | z
        · rw [z];exact .inl (g1.free hp)
        · exact r1' a z
      · obtain ⟨xs,w,_⟩:=r1.isl p h
        rw [w] at hp
        cases hp
    · cases e) fun c x q H' g'=>q H' g')
theorem eok_lst1 {t:TA}{f:FA}(ha:AOk K C E Γ Δ m S t f):EOk K C E Γ Δ 1 S (tLst t) (Dl.fA Dl.gLst f):=
  fun H0 Hb H σ ρ A Q I p=>ha H0 Hb H σ ρ A _ I (p.bind.imp (fun ds q vs H1 g1 r1=>by
    obtain ⟨d,e,q⟩:=oR_ok q
    unfold Dl.gLst at e
    split at e
    · rename_i hz
      cases e
      obtain ⟨B,r1,r1',n1⟩:=r1
      refine ⟨by rw [r1.len];exact limLine hz,fun p hp=>?_⟩
      have g2:=sameNew hp (.lst vs)
      refine q _ _ (g1.trans g2) ⟨p::B,⟨p,vs,B,rfl,upd_same,r1.same g2,rfl⟩,fun a ha=>?_,fun _ a r e=>?_,(fun z=>nomatch z)⟩
      · rcases List.mem_cons.mp ha with z | z
        · rw [z];exact .inl (g1.free hp)
        · exact r1' a z
      · cases e
        refine ⟨g1.free hp,fun h=>?_⟩
        obtain ⟨xs,w,_⟩:=r1.isl p h
        rw [w] at hp
        cases hp
    · cases e) fun c x q H' g'=>q H' g')
theorem eok_tup (hm:m=0∨m=2){t:TA}{f:FA}(ha:AOk K C E Γ Δ m S t f):EOk K C E Γ Δ m S (tTup t) (Dl.fA Dl.gTup f):=
  fun H0 Hb H σ ρ A Q I p=>ha H0 Hb H σ ρ A _ I (p.bind.imp (fun ds q vs H1 g1 r1=>by
    obtain ⟨d,e,q⟩:=oR_ok q
    unfold Dl.gTup at e
    split at e
    · rename_i hz
      cases e
      obtain ⟨B,r1,r1',n1⟩:=r1
      refine ⟨by rw [r1.len];exact limLine hz,fun p hp=>?_⟩
      have g2:=sameNew hp (.tup vs)
      exact q _ _ (g1.trans g2) ⟨B,⟨p,vs,rfl,upd_same,r1.same g2⟩,r1',(fun z=>by omega),n1⟩
    · cases e) fun c x q H' g'=>q H' g')
theorem eok_cb {r:List V→Hp→VK→Prop}{g:List D→Option D}{t:TA}{f:FA}(hg:GAk K C r g)(ha:AOk K C E Γ Δ m S t f):EOk K C E Γ Δ 2 [] (tCB r t) (Dl.fA g f):=
  fun H0 Hb H σ ρ A Q I p=>ha H0 Hb H σ ρ A _ I (p.bind.imp (fun ds q vs H1 g1 r1=>by
    obtain ⟨d,e,q⟩:=oR_ok q
    obtain ⟨B,r1,_⟩:=r1
    exact hg H1 ds d vs B Q r1 e fun v H' B' g2 r2 h1 h2=>q v H' (g1.trans g2) (Res.new r2 h1 fun a ha=>g1.free (h2 a ha))) fun c x q H' g'=>q H' g')
theorem RpA.one' {d:D}{vs:List V}{A:List Addr}(r:RpA K C H [d] vs A):∃v,vs=[v]∧Rp K C H d v A:=by
 obtain ⟨x,l,B,B',e1,e2,e3,e4⟩:=r
 obtain ⟨e5,e6⟩:=e3
 subst e1 e4 e5 e6
 rw [append_nil]
 exact ⟨x,rfl,e2⟩
theorem RpA.two' {d e:D}{vs:List V}{A:List Addr}(r:RpA K C H [d,e] vs A):∃v w B B',vs=[v,w]∧Rp K C H d v B∧Rp K C H e w B':=by
 obtain ⟨x,l,B,B',e1,e2,e3,e4⟩:=r
 obtain ⟨w,e5,e6⟩:=e3.one'
 subst e1 e5
 exact ⟨x,w,B,B',rfl,e2,e6⟩
theorem gak_len:GAk K C (rLenA K) Dl.gLen:=by
 intro H xs d vs B Q r e q
 obtain ⟨x,rfl⟩:=one_at (F:=Dl.gLen) rfl (fun x _ _=>by cases x<;>rfl) e
 obtain ⟨v,rfl,r1⟩:=r.one'
 cases x with
 | lst xs =>
  cases (show some (D.int xs.length)=some d from e)
  obtain ⟨a,ys,B,rfl,e2,e3,_⟩:=r1
  refine rd_lenL (SqL.of e2) ?_
  rw [e3.len]
  exact Out.flat q rpI
 | tup xs =>
  cases (show some (D.int xs.length)=some d from e)
  obtain ⟨a,ys,rfl,e2,e3⟩:=r1
  refine rd_lenT (SqT.of e2) ?_
  rw [e3.len]
  exact Out.flat q rpI
 | scr xs =>
  cases (show some (D.int xs.length)=some d from e)
  obtain ⟨a,rfl,e2,_⟩:=r1
  refine rd_lenL e2.sq ?_
  rw [length_map]
  exact Out.flat q rpI
 | str z =>
  have e:(if z.length≤Dl.lim then some (D.int z.length) else none)=some d:=e
  by_cases hz:z.length≤Dl.lim
  ·rw [if_pos hz] at e
   cases e
   obtain ⟨rfl,_⟩:=r1
   exact rd_lenS (limLine hz) (Out.flat q rpI)
  ·rw [if_neg hz] at e
   exact no_some e
 | _=>exact no_some e
theorem gak_sum:GAk K C (rSum K) Dl.gSum:=by
 intro H xs d vs B Q r e q
 obtain ⟨x,rfl⟩:=one_at (F:=Dl.gSum) rfl (fun x _ _=>by cases x<;>rfl) e
 obtain ⟨v,rfl,r1⟩:=r.one'
 cases x with
 | lst xs =>
  obtain ⟨ns,h1,h2⟩:=Option.bind_eq_some_iff.mp e
  cases h2
  obtain ⟨a,ys,B,rfl,e2,e3,_⟩:=r1
  have h:=e3.ofInts h1
  subst h
  exact rd_sum (SqL.of e2) (Out.flat q rpI)
 | _=>exact no_some e
theorem foldl_max (x:Int):∀(r:List Int),(r.foldl max x=x∨r.foldl max x∈r)∧x≤r.foldl max x∧∀y∈r,y≤r.foldl max x:=by
 intro r
 induction r generalizing x with
 | nil=>simp
 | cons y r ih =>
  obtain ⟨h1,h2,h3⟩:=ih (max x y)
  rw [foldl_cons]
  refine ⟨?_,by omega,fun z hz=>?_⟩
  ·rcases h1 with h | h
   ·rw [h]
    by_cases hxy:x≤y
    ·right;rw [Int.max_eq_right hxy];exact .head _
    ·left;omega
   ·right;exact .tail _ h
  ·rcases List.mem_cons.mp hz with e | e
   ·omega
   ·exact h3 z e
theorem maxL_spec {ns:List Int}(h:ns≠[]):Dl.maxL ns∈ns∧∀n∈ns,n≤Dl.maxL ns:=by
 cases ns with
 | nil=>exact absurd rfl h
 | cons x r =>
  obtain ⟨h1,h2,h3⟩:=foldl_max x r
  show r.foldl max x∈x::r∧∀n∈x::r,n≤r.foldl max x
  refine ⟨?_,fun n hn=>?_⟩
  ·rcases h1 with e | e
   ·rw [e];exact .head _
   ·exact .tail _ e
  ·rcases List.mem_cons.mp hn with e | e
   ·omega
   ·exact h3 n e
theorem gak_max:GAk K C (rMaxA K) Dl.gMax:=by
 intro H xs d vs B Q r e q
 unfold Dl.gMax at e
 split at e
 ·cases e
  obtain ⟨v,w,B,B',rfl,r1,r2⟩:=r.two'
  obtain ⟨rfl,_⟩:=r1
  obtain ⟨rfl,_⟩:=r2
  exact rd_max2 (Out.flat q rpI)
 ·obtain ⟨ns,h1,h2⟩:=Option.bind_eq_some_iff.mp e
  split at h2
  ·cases h2
  ·rename_i hne
   cases h2
   obtain ⟨v,rfl,r1⟩:=r.one'
   obtain ⟨a,ys,B,rfl,e2,e3,_⟩:=r1
   have h:=e3.ofInts h1
   subst h
   obtain ⟨s1,s2⟩:=maxL_spec hne
   refine rd_maxL (SqL.of e2) hne fun mm h1 h2=>?_
   have e:mm=Dl.maxL ns:=Int.le_antisymm (s2 mm h1) (h2 _ s1)
   rw [e]
   exact Out.flat q rpI
 ·cases e
def rMin2:List V→Hp→VK→Prop:=fun xs H Q=>∃i j,xs=[.int i,.int j]∧Q (.int (if j<i then j else i)) H
theorem call_minR {X:Cx}(hc:X.calm=true):CallR X (.builtin "min") rMin2:=call_min2 hc
theorem gak_min:GAk K C rMin2 Dl.gMin:=by
 intro H xs d vs B Q r e q
 unfold Dl.gMin at e
 split at e
 ·cases e
  obtain ⟨v,w,B,B',rfl,r1,r2⟩:=r.two'
  obtain ⟨rfl,_⟩:=r1
  obtain ⟨rfl,_⟩:=r2
  exact ⟨_,_,rfl,Out.flat q rpI⟩
 ·cases e
theorem RpA.rng {lo:Int}{n:Nat}:RpA K C H (Dl.rngL lo n) (rngV lo n) []:=by
 unfold Dl.rngL rngV
 generalize List.range n=l
 induction l with
 | nil=>exact RpA.nil
 | cons k l ih=>exact ⟨_,_,[],[],rfl,rpI,ih,rfl⟩
theorem gak_list:GAk K C (rList K) Dl.gList:=by
 intro H xs d vs B Q r e q
 obtain ⟨x,rfl⟩:=one_at (F:=Dl.gList) rfl (fun x _ _=>by cases x<;>rfl) e
 obtain ⟨v,rfl,r1⟩:=r.one'
 cases x with
 | lst xs =>
  have e:(if Dl.flatA xs then some (D.lst xs) else none)=some d:=e
  split at e
  ·rename_i hf
   cases e
   obtain ⟨a,ys,B,rfl,e2,e3,_⟩:=r1
   exact rd_listL (SqL.of e2) fun l hl=>Out.lst q (e3.flat' hf) hl
  ·exact no_some e
 | tup xs =>
  have e:(if Dl.flatA xs then some (D.lst xs) else none)=some d:=e
  split at e
  ·rename_i hf
   cases e
   obtain ⟨a,ys,rfl,e2,e3⟩:=r1
   exact .inl ⟨a,ys,rfl,.inr (SqT.of e2),fun l hl=>Out.lst q (e3.flat' hf) hl⟩
  ·exact no_some e
 | rng i j =>
  have e:(if -1000000000≤i∧i≤1000000000∧-1000000000≤j∧j≤1000000000∧(j - i).toNat≤Dl.lim then some (D.lst (Dl.rngL i (j - i).toNat)) else none)=some d:=e
  split at e
  ·rename_i hf
   cases e
   obtain ⟨a,rfl,e2,_⟩:=r1
   obtain ⟨h1,h2,h3,h4,h5⟩:=hf
   exact rd_listR e2 (by omega) (by omega) (by omega) (by omega) h5 fun l hl=>Out.lst q RpA.rng hl
  ·exact no_some e
 | _=>exact no_some e
theorem ook_none:OOk K C E Γ Δ tNoPart Dl.oNone:=fun _ _ H _ _ _ _ _ p=>p H (Same.refl _)
theorem ook_some {t:TE}{f:FE}(h:EOk K C E Γ Δ m S t f):OOk K C E Γ Δ (tPart t) (Dl.oSome f):=fun H0 Hb H σ ρ A Q I p=>h H0 Hb H σ ρ A _ I (p.bind.imp (fun d q v H' g r=>by
  obtain ⟨B,r,_⟩:=r
  cases d with
  | int i =>
    obtain ⟨rfl,_⟩:=r
    exact ⟨i,rfl,q H' g⟩
  | _=>exact q.elim) fun c x q H' g'=>q H' g')
theorem six_eq (n d:Nat)(o:Option Int):Dl.sixD n d o=HT.sIx n d o:=by
 cases o with
 | none=>rfl
 | some v =>
  have h:=HT.clip_eq v n d
  show (if v<0 then (max (v+(n:Int)) 0).toNat else min v.toNat n)=_
  by_cases hv:v<0
  ·rw [if_pos hv] at h ⊢
   omega
  ·rw [if_neg hv] at h ⊢
   omega
theorem RpA.cut {ds:List D}{vs:List V}{A:List Addr}(h:Dl.flatA ds=true)(r:RpA K C H ds vs A)(lo hi:Option Int):RpA K C H (Dl.cut ds lo hi) (cutV vs lo hi) []:=by
 unfold Dl.cut cutV
 rw [six_eq,six_eq,r.len]
 exact (r.flatDrop h _).flatTake (flatA_drop h _) _
theorem cut_ints (ns:List Int)(lo hi:Option Int):cutV (ns.map V.int) lo hi=(Dl.cut ns lo hi).map V.int:=by
 unfold Dl.cut cutV
 rw [six_eq,six_eq,length_map,map_take,map_drop]
theorem eok_sl {ta:TE}{tl th:TO}{fa:FE}{fl fh:FO}(ha:EOk K C E Γ Δ m S ta fa)(hl:OOk K C E Γ Δ tl fl)(hh:OOk K C E Γ Δ th fh):EOk K C E Γ Δ 2 [] (tSl (rSlL K) ta tl th) (Dl.fSl Dl.gSl fa fl fh):=
  fun H0 Hb H σ ρ A Q I p=>ha H0 Hb H σ ρ A _ I (p.bind.imp (fun x q vx H1 g1 r1=>hl H0 Hb H1 σ ρ A _ (I.mono g1) (q.bind.imp (fun lo q H2 g2=>hh H0 Hb H2 σ ρ A _ (I.mono (g1.trans g2)) (q.bind.imp (fun hi q H3 g3=>by
    obtain ⟨d,e,q⟩:=oR_ok q
    obtain ⟨B,r1,_⟩:=r1
    have r1:=r1.same (g2.trans g3)
    have g13:=g1.trans (g2.trans g3)
    have out:Out K C H3 d Q:=fun v H' B g4 r h1 h2=>q v H' (g13.trans g4) (Res.new r h1 fun a ha=>g13.free (h2 a ha))
    unfold Dl.gSl at e
    split at e
    · split at e
      · rename_i hf
        cases e
        obtain ⟨a,ys,B,rfl,e2,e3,_⟩:=r1
        exact rd_slL (SqL.of e2) fun p hp=>Out.lst out (e3.cut hf _ _) hp
      · cases e
    · cases e
      obtain ⟨a,rfl,e2,_⟩:=r1
      refine rd_slL e2.sq fun p hp=>?_
      rw [cut_ints]
      exact Out.lst out RpA.ints hp
    · cases e) fun c x q H' g'=>q H' ((g1.trans g2).trans g'))) fun c x q H' g'=>q H' (g1.trans g'))) fun c x q H' g'=>q H' g')
theorem eok_rev {ta ts:TE}{fa fs:FE}(ha:EOk K C E Γ Δ m1 S1 ta fa)(hs:EOk K C E Γ Δ m2 S2 ts fs):EOk K C E Γ Δ 2 [] (tRev K ta ts) (Dl.f2 Dl.gRev fa fs):=
  fun H0 Hb H σ ρ A Q I p=>ha H0 Hb H σ ρ A _ I (p.bind.imp (fun x q vx H1 g1 r1=>hs H0 Hb H1 σ ρ A _ (I.mono g1) (q.bind.imp (fun y q vy H2 g2 r2=>by
    obtain ⟨d,e,q⟩:=oR_ok q
    obtain ⟨Bx,r1,_⟩:=r1
    obtain ⟨By,r2,_⟩:=r2
    have r1:=r1.same g2
    have g13:=g1.trans g2
    have out:Out K C H2 d Q:=fun v H' B g4 r h1 h2=>q v H' (g13.trans g4) (Res.new r h1 fun a ha=>g13.free (h2 a ha))
    unfold Dl.gRev at e
    split at e
    · split at e
      · rename_i hf
        cases e
        obtain ⟨a,ys,B,rfl,e2,e3,_⟩:=r1
        obtain ⟨rfl,_⟩:=r2
        refine ⟨a,ys,rfl,by rw [hf.1],SqL.of e2,fun p hp=>Out.lst out (RpA.flatRev hf.2 e3) hp⟩
      · cases e
    · cases e) fun c x q H' g'=>q H' (g1.trans g'))) fun c x q H' g'=>q H' g')
end
section
variable {K:Frag}{C:String→Addr}{E:XK}{Γ Δ Γ' Δ' Γ1 Δ1 Γl Δl:List Nat}{m m1 m2 m3 mr:Nat}{S S1 S2 S3:List (Nat×Bool)}{H:Hp}{Q:VK}
theorem tok_of {t:TE}{f:FE}(h:EOk K C E Γ Δ m S t f):∀(H0 Hb H:Hp) (σ:St) (ρ:DEnv) (A:Nat→List Addr) (Q:Bool→Hp→Prop),EnvOk K C H0 Hb H Γ Δ σ ρ A→
    Post (Dl.cE f ρ) (fun b=>∀H',Same H H'→Q b H') (fun c x=>∀H',Same H H'→EC C E c x H')→t σ H fun x H'=>∃k,x=.bl k∧Q k H':=fun H0 Hb H σ ρ A Q I p=>h H0 Hb H σ ρ A _ I (p.bind.imp (fun d q v H' g r=>by
  obtain ⟨B,r,_⟩:=r
  cases d with
  | bl b =>
    obtain ⟨rfl,_⟩:=r
    exact ⟨b,rfl,q H' g⟩
  | _=>exact q.elim) fun c x q H' g'=>q H' g')
theorem tok_test {t:TE}{f:FE}(h:EOk K C E Γ Δ m S t f):TOk K C E Γ Δ (tTest t) (Dl.cE f):=tok_of h
theorem tok_B {t:TE}{f:FE}(h:EOk K C E Γ Δ m S t f):TOk K C E Γ Δ (tB t) (Dl.cE f):=tok_of h
theorem tok_not {t:TT}{f:FT}(h:TOk K C E Γ Δ t f):TOk K C E Γ Δ (tNot t) (Dl.cNot f):=fun H0 Hb H σ ρ A Q I p=>h H0 Hb H σ ρ A _ I (p.bind.imp (fun b q H' g=>q H' g) fun c x q H' g'=>q H' g')
theorem tok_and {t u:TT}{f g:FT}(h:TOk K C E Γ Δ t f)(h':TOk K C E Γ Δ u g):TOk K C E Γ Δ (tAnd t u) (Dl.cAnd f g):=fun H0 Hb H σ ρ A Q I p=>h H0 Hb H σ ρ A _ I (p.bind.imp (fun b q H' g'=>by
  cases b with
  | true=>exact h' H0 Hb H' σ ρ A Q (I.mono g') (Post.imp q (fun b q H2 g2=>q H2 (g'.trans g2)) fun c x q H2 g2=>q H2 (g'.trans g2))
  | false=>exact q H' g') fun c x q H' g'=>q H' g')
theorem tok_or {t u:TT}{f g:FT}(h:TOk K C E Γ Δ t f)(h':TOk K C E Γ Δ u g):TOk K C E Γ Δ (tOr t u) (Dl.cOr f g):=fun H0 Hb H σ ρ A Q I p=>h H0 Hb H σ ρ A _ I (p.bind.imp (fun b q H' g'=>by
  cases b with
  | false=>exact h' H0 Hb H' σ ρ A Q (I.mono g') (Post.imp q (fun b q H2 g2=>q H2 (g'.trans g2)) fun c x q H2 g2=>q H2 (g'.trans g2))
  | true=>exact q H' g') fun c x q H' g'=>q H' g')
theorem tok_yes:TOk K C E Γ Δ tYes Dl.cYes:=fun _ _ H _ _ _ _ _ p=>p H (Same.refl _)
theorem EOk.run {t:TE}{f:FE}(h:EOk K C E Γ Δ m S t f){H0 Hb H H1:Hp}{σ:St}{ρ:DEnv}{A:Nat→List Addr}{Q:VK}(I:EnvOk K C H0 Hb H Γ Δ σ ρ A)(g:Same H H1)
  (p:Post (f ρ) (fun d=>∀v H',Same H H'→Res K C m S H A d v H'→Q v H') (fun c x=>∀H',Same H H'→EC C E c x H')):t σ H1 Q:=
 h H0 Hb H1 σ ρ A Q (I.mono g) (p.imp (fun d q v H2 g2 r=>q v H2 (g.trans g2) (r.later g (Same.refl _))) fun c x q H2 g2=>q H2 (g.trans g2))
theorem eok_and {ta tb:TE}{fa fb:FE}(ha:EOk K C E Γ Δ m1 S1 ta fa)(hb:EOk K C E Γ Δ m S tb fb):EOk K C E Γ Δ m S (tAndV ta tb) (Dl.fAnd fa fb):=fun H0 Hb H σ ρ A Q I p=>ha H0 Hb H σ ρ A _ I (p.bind.imp (fun d q v H' g r=>by
  obtain ⟨B,r,_⟩:=r
  cases d with
  | bl b =>
    obtain ⟨rfl,_⟩:=r
    refine ⟨b,rfl,?_⟩
    cases b with
    | true=>exact hb.run I g q
    | false=>exact q _ H' g (Res.flat rpB)
  | _=>exact q.elim) fun c x q H' g'=>q H' g')
noncomputable def spD (K:Frag)(C:String→Addr)(n mr:Nat)(F:List D→R D):Sp:=fun vs H Q E=>∃ds B,ds.length=n∧RpA K C H ds vs B∧
 Post (F ds) (fun d=>∀v H',Same H H'→Res K C mr [] H (fun _=>[]) d v H'→Q v H') (fun c x=>∀H',Same H H'→EC C E c x H')
theorem InS.none {A:Nat→List Addr}{a:Addr}(h:InS A [] a):False:=by
 obtain ⟨p,hp,_⟩:=h
 cases hp
theorem Res.reA {H H':Hp}{A A':Nat→List Addr}{d:D}{v:V}(r:Res K C m [] H A d v H'):Res K C m S H A' d v H':=by
 obtain ⟨B,r1,r2,r3,r4⟩:=r
 exact ⟨B,r1,fun a ha=>(r2 a ha).imp id fun h=>h.none.elim,r3,r4⟩
theorem eok_call {n:Nat}{F:List D→R D}{t:TA}{f:FA}(ha:AOk K C E Γ Δ m S t f)(hn:∀ρ ds,f ρ=.ok ds→ds.length=n):EOk K C E Γ Δ mr [] (tCall (spD K C n mr F) [] E t) (Dl.fCall F f):=
  fun H0 Hb H σ ρ A Q I p=>rd_call (ha H0 Hb H σ ρ A _ I (by
    have p':=p.bind
    cases e:f ρ with
    | bad=>rw [e] at p';exact p'
    | err c x=>rw [e] at p';exact p'
    | ok ds =>
      rw [e] at p'
      intro vs H1 g1 r1
      obtain ⟨B,r1,_⟩:=r1
      exact ⟨ds,B,hn ρ ds e,r1,Post.imp p' (fun d q v H' g2 r=>q v H' (g1.trans g2) ((r.later g1 (Same.refl _)).reA)) fun c x q H' g'=>q H' (g1.trans g')⟩))
theorem len_nil (ρ:DEnv)(ds:List D)(h:Dl.aNil ρ=.ok ds):ds.length=0:=by cases h;rfl
theorem len_cons {n:Nat}{fe:FE}{f:FA}(hf:∀ρ ds,f ρ=.ok ds→ds.length=n)(ρ:DEnv)(ds:List D)(h:Dl.aCons fe f ρ=.ok ds):ds.length=n+1:=by
 unfold Dl.aCons at h
 cases e:fe ρ with
 | ok x =>
  rw [e] at h
  cases e':f ρ with
  | ok xs =>
   rw [e'] at h
   cases h
   rw [length_cons,hf ρ xs e']
  | err c x=>rw [e'] at h;cases h
  | bad=>rw [e'] at h;cases h
 | err c x=>rw [e] at h;cases h
 | bad=>rw [e] at h;cases h
def Goes (K:Frag)(C:String→Addr)(J:It)(ds:List D)(Hb:Hp):Prop:=∀H2,Same Hb H2→(∀i,i<ds.length→J.go i H2)∧(∀i,ds.length≤i→J.stop i H2)∧
 ∀i x H3,i<ds.length→J.yld i H2 x H3→Same H2 H3∧∃d B,ds[i]?=some d∧Rp K C H3 d x B∧∀a∈B,Hb a≠none
def IOk (K:Frag)(C:String→Addr)(E:XK)(Γ Δ:List Nat)(S:List (Nat×Bool))(wi:TI)(f:FI):Prop:=∀(H0 Hb H:Hp) (σ:St) (ρ:DEnv) (A:Nat→List Addr) (Rr:It→Hp→Prop),EnvOk K C H0 Hb H Γ Δ σ ρ A→
  Post (f ρ) (fun ds=>∀J H' W,Same H H'→(∀a∈W,(∃o,H' a=some o∧IsM o)∧(H a=none∨InS A S a))→ds.length≤Dl.lim→
    (∀Hc,Agree W H' Hc→Goes K C J ds Hc)→Rr J H') (fun c x=>∀H',Same H H'→EC C E c x H')→wi σ H Rr
theorem goes_of {J:It}{ds:List D}{vs:List V}{B:List Addr}{Hc:Hp}(r:RpA K C Hc ds vs B)(h:∀H2,Same Hc H2→(∀i,i<vs.length→J.go i H2)∧(∀i,vs.length≤i→J.stop i H2)∧∀i x H3,J.yld i H2 x H3→H3=H2∧(i<vs.length→vs[i]?=some x)):Goes K C J ds Hc:=fun H2 g=>by
 obtain ⟨h1,h2,h3⟩:=h H2 g
 have hl:=r.len
 refine ⟨fun i hi=>h1 i (by omega),fun i hi=>h2 i (by omega),fun i x H3 hi y=>?_⟩
 obtain ⟨e,y2⟩:=h3 i x H3 y
 subst e
 obtain ⟨d,Bd,q1,q2,q3⟩:=r.get' (y2 (by omega))
 refine ⟨Same.refl _,d,Bd,q1,q2.same g,fun a ha z=>?_⟩
 obtain ⟨xs,e,_⟩:=q2.isl a ha
 rw [e] at z
 cases z
theorem goes_list {a:Addr}{ds:List D}{vs:List V}{B:List Addr}{Hc:Hp}(r:RpA K C Hc ds vs B)(h:∀H2,Same Hc H2→SqL K H2 a vs):Goes K C (Itl K a) ds Hc:=goes_of r fun H2 g=>by
 have q:=h H2 g
 exact ⟨fun i hi=>⟨vs,vs[i],q,by simp [hi]⟩,fun i hi=>⟨vs,q,hi⟩,fun i x H3 y=>⟨y.1,fun _=>y.2 vs q⟩⟩
theorem goes_rng {lo:Int}{n:Nat}{Hc:Hp}:Goes K C (Itr lo n) (Dl.rngL lo n) Hc:=goes_of (vs:=rngV lo n) RpA.rng fun H2 _=>by
 have hl:(rngV lo n).length=n:=by simp [rngV]
 refine ⟨fun i hi=>by rw [hl] at hi;exact hi,fun i hi=>by rw [hl] at hi;exact hi,fun i x H3 y=>⟨y.1,fun hi=>?_⟩⟩
 rw [hl] at hi
 rw [y.2]
 simp [rngV,hi]
theorem FzL.keep {a:Addr}{xs:List V}{H Hb:Hp}(h:FzL K H a xs)(hk:∀b o,H b=some o→¬IsM o→Hb b=some o):FzL K Hb a xs:=by
 rcases h with ⟨o,h⟩ | h
 ·exact .inl ⟨o,hk a _ h (fun z=>by cases z)⟩
 ·exact .inr h
theorem FzL.same {a:Addr}{xs:List V}{H Hb:Hp}(h:FzL K H a xs)(g:Same H Hb):FzL K Hb a xs:=h.keep fun b o q _=>g b o q
theorem iok_list {t:TE}{f:FE}(h:EOk K C E Γ Δ m S t f):IOk K C E Γ Δ S (iList K t) (Dl.jList f):=fun H0 Hb H σ ρ A Rr I p=>h H0 Hb H σ ρ A _ I (p.bind.imp (fun d q v H' g r=>by
  obtain ⟨B,r,r',_⟩:=r
  cases d with
  | lst ds =>
    obtain ⟨a,xs,B',rfl,e2,e3,e4⟩:=r
    subst e4
    simp only at q
    split at q
    · rename_i hl
      refine ⟨a,rfl,⟨xs,SqL.of e2⟩,q _ H' (a::B') g (fun b hb=>?_) hl fun Hc h1=>goes_list (e3.agree h1 fun b hb=>.tail _ hb) fun H2 g2=>SqL.of (g2 _ _ ((h1.1 a (.head _)).trans e2))⟩
      rcases List.mem_cons.mp hb with z | z
      · rw [z]
        exact ⟨⟨_,e2,.lst⟩,r' a (.head _)⟩
      · exact ⟨e3.isl b z,r' b (.tail _ z)⟩
    · exact q.elim
  | scr ns =>
    obtain ⟨a,rfl,e2,_⟩:=r
    simp only at q
    split at q
    · rename_i hl
      exact ⟨a,rfl,⟨_,e2.sq⟩,q _ H' [] g (fun b hb=>nomatch hb) (by rw [length_map];exact hl) fun Hc h2=>goes_list RpA.ints fun H2 g2=>((e2.keep h2.2).same g2).sq⟩
    · exact q.elim
  | _=>exact q.elim) fun c x q H' g'=>q H' g')
theorem rngL_len (lo:Int)(n:Nat):(Dl.rngL lo n).length=n:=by simp [Dl.rngL]
theorem iok_rng1 {t:TA}{f:FA}(h:AOk K C E Γ Δ m S t f):IOk K C E Γ Δ [] (iRng1 t) (Dl.jRng1 f):=fun H0 Hb H σ ρ A Rr I p=>h H0 Hb H σ ρ A _ I (p.bind.imp (fun ds q vs H' g r=>by
  obtain ⟨B,r,_⟩:=r
  split at q
  · split at q
    · rename_i hl
      obtain ⟨v,rfl,r1⟩:=r.one'
      obtain ⟨rfl,_⟩:=r1
      exact ⟨_,rfl,by omega,by omega,q _ H' [] g (fun b hb=>nomatch hb) (by rw [rngL_len];show _≤1000000;omega) fun Hc _=>goes_rng⟩
    · exact q.elim
  · exact q.elim) fun c x q H' g'=>q H' g')
theorem iok_rng2 {t:TA}{f:FA}(h:AOk K C E Γ Δ m S t f):IOk K C E Γ Δ [] (iRng2 t) (Dl.jRng2 f):=fun H0 Hb H σ ρ A Rr I p=>h H0 Hb H σ ρ A _ I (p.bind.imp (fun ds q vs H' g r=>by
  obtain ⟨B,r,_⟩:=r
  split at q
  · split at q
    · rename_i hl
      obtain ⟨v,w,B,B',rfl,r1,r2⟩:=r.two'
      obtain ⟨rfl,_⟩:=r1
      obtain ⟨rfl,_⟩:=r2
      obtain ⟨h1,h2,h3,h4,h5⟩:=hl
      exact ⟨_,_,rfl,⟨by omega,by omega,by omega,by omega⟩,q _ H' [] g (fun b hb=>nomatch hb) (by rw [rngL_len];exact h5) fun Hc _=>goes_rng⟩
    · exact q.elim
  · exact q.elim) fun c x q H' g'=>q H' g')
theorem comp_gen {J:It}{ds:List D}{Hc H:Hp}{Dd:Addr}{k:Nat}{g:TG}{tc:TT}{te:TE}{σ:St}{Rr:Hp→Prop}(go:Goes K C J ds Hc)(Pv:Nat→Hp→Prop)(h0:Pv 0 (upd H Dd (.lst [])))(hb:∀i H,Pv i H→Same Hc H)
    (hs:∀i d x B H H3,ds[i]?=some d→Pv i H→Same H H3→Rp K C H3 d x B→(∀a∈B,Hc a≠none)→∀os:St,os.length=k→g x (σ++os) H3 fun σ' Hg=>(∃os',os'.length=k∧σ'=σ++os')∧tc σ' Hg fun b H2=>if b=true then te σ' H2 fun v H3=>∃ys,H3 Dd=some (.lst ys)∧ys.length<sizeLine∧Pv (i+1) (upd H3 Dd (.lst (ys++[v]))) else Pv (i+1) H2)
    (hd:∀H,Pv ds.length H→Rr H) :
    ∃W:Nat→Nat→Hp→Prop,(∃m,W 0 m (upd H Dd (.lst [])))∧∀i m H,W i m H→
      (J.stop i H∧Rr H)∨(J.go i H∧∃N:Hp→Prop,(∀H',N H'→∃m',m'<m∧W (i+1) m' H')∧∀x H',J.yld i H x H'→∀os:St,os.length=k→g x (σ++os) H' fun σ' Hg=>(∃os',os'.length=k∧σ'=σ++os')∧tc σ' Hg fun b H2 =>
        if b=true then te σ' H2 fun v H3=>∃ys,H3 Dd=some (.lst ys)∧ys.length<sizeLine∧N (upd H3 Dd (.lst (ys++[v])))
        else N H2):=by
  refine ⟨fun i m H=>m=ds.length - i∧i≤ds.length∧Pv i H,⟨ds.length,by simp,zero_le _,h0⟩,?_⟩
  rintro i m H1 ⟨rfl,hi,p⟩
  obtain ⟨g1,g2,g3⟩:=go H1 (hb i H1 p)
  by_cases hlt:i<ds.length
  · refine .inr ⟨g1 i hlt,Pv (i+1),fun H' p'=>⟨ds.length - (i+1),by omega,rfl,hlt,p'⟩,fun x H' y=>?_⟩
    obtain ⟨e,d,B,y1,y2,y3⟩:=g3 i x H' hlt y
    exact hs i d x B H1 H' y1 p e y2 y3
  · have e:i=ds.length:=by omega
    subst e
    exact .inl ⟨g2 _ (le_refl _),hd H1 p⟩
theorem for_gen {J:It}{ds:List D}{Hc H:Hp}{g:TG}{tb:TS}{Dd:Ends}{σ:St}(go:Goes K C J ds Hc)(Pv:Nat→St→Hp→Prop)(h0:Pv 0 σ H)(hb:∀i σ H,Pv i σ H→Same Hc H)
  (hs:∀i d x B σ H H3,ds[i]?=some d→Pv i σ H→Same H H3→Rp K C H3 d x B→(∀a∈B,Hc a≠none)→g x σ H3 fun σ2 H2=>tb {Dd with nx:=Pv (i+1),ct:=Pv (i+1),bk:=Dd.nx} σ2 H2) (hd:∀σ H,Pv ds.length σ H→Dd.nx σ H) :
  ∃W:Nat→Nat→St→Hp→Prop,(∃m,W 0 m σ H)∧∀i m σ H,W i m σ H→
   (J.stop i H∧Dd.nx σ H)∨(J.go i H∧∃N:St→Hp→Prop,(∀σ' H',N σ' H'→∃m',m'<m∧W (i+1) m' σ' H')∧∀x H',J.yld i H x H'→g x σ H' fun σ2 H2=>tb {Dd with nx:=N,ct:=N,bk:=Dd.nx} σ2 H2):=by
 refine ⟨fun i m σ H=>m=ds.length - i∧i≤ds.length∧Pv i σ H,⟨ds.length,by simp,zero_le _,h0⟩,?_⟩
 rintro i m σ H1 ⟨rfl,hi,p⟩
 obtain ⟨g1,g2,g3⟩:=go H1 (hb i σ H1 p)
 by_cases hlt:i<ds.length
 ·refine .inr ⟨g1 i hlt,Pv (i+1),fun σ' H' p'=>⟨ds.length - (i+1),by omega,rfl,hlt,p'⟩,fun x H' y=>?_⟩
  obtain ⟨e,d,B,y1,y2,y3⟩:=g3 i x H' hlt y
  exact hs i d x B σ H1 H' y1 p e y2 y3
 ·have e:i=ds.length:=by omega
  subst e
  exact .inl ⟨g2 _ (le_refl _),hd σ H1 p⟩
theorem EnvOk.more {H0 Hb H:Hp}{σ:St}{ρ:DEnv}{A:Nat→List Addr}(I:EnvOk K C H0 Hb H Γ Δ σ ρ A)(os:St):EnvOk K C H H H [] [] (σ++os) (ρ++List.replicate os.length none) A:=by
 refine ⟨Same.refl _,Same.refl _,by rw [length_append,length_append,I.len,List.length_replicate],fun i e h=>?_,fun i h=>?_,(fun _ h=>nomatch h),(fun _ h=>nomatch h),(fun _ h=>nomatch h)⟩
 ·by_cases hi:i<ρ.length
  ·rw [getElem?_append_left hi] at h
   obtain ⟨w,q1,q2⟩:=I.rep i e h
   refine ⟨w,?_,q2⟩
   rw [getElem?_append_left (by rw [I.len];exact hi)]
   exact q1
  ·rw [getElem?_append_right (by omega)] at h
   have hm:=mem_of_getElem? h
   rw [List.mem_replicate] at hm
   exact absurd hm.2 (by intro z;cases z)
 ·refine I.nil i fun e h'=>h e ?_
  rw [getElem?_append_left (List.getElem?_eq_some_iff.mp h').1]
  exact h'
def NOk (K:Frag)(C:String→Addr)(n k:Nat)(g:TG)(b:FB):Prop:=∀(H:Hp) (σ os:St) (ρ:DEnv) (A:Nat→List Addr) (d:D) (v:V) (B:List Addr) (Rr:St→Hp→Prop),σ.length=n→os.length=k→EnvOk K C H H H [] [] (σ++os) ρ A→Rp K C H d v B→
 Post (b d ρ) (fun ρ'=>∀os' A',os'.length=k→EnvOk K C H H H [] [] (σ++os') ρ' A'→Rr (σ++os') H) (fun _ _=>False)→g v (σ++os) H Rr
def NsOk (K:Frag)(C:String→Addr)(n k:Nat)(g:TGs)(b:List D→DEnv→R DEnv):Prop:=∀(H:Hp) (σ os:St) (ρ:DEnv) (A:Nat→List Addr) (d:List D) (v:List V) (B:List Addr) (Rr:St→Hp→Prop),σ.length=n→os.length=k→EnvOk K C H H H [] [] (σ++os) ρ A→RpA K C H d v B→
 Post (b d ρ) (fun ρ'=>∀os' A',os'.length=k→EnvOk K C H H H [] [] (σ++os') ρ' A'→Rr (σ++os') H) (fun _ _=>False)→g v (σ++os) H Rr
theorem comp_split (k:Nat)(b:FB)(c:FT)(e:FE)(ρ:DEnv)(xs:List D){i:Nat}{x:D}(h:xs[i]?=some x):Dl.compN k b c e ρ (xs.drop i)=(b x (ρ++List.replicate k none)).calm.bind fun ρ1=>(c ρ1).bind fun t=>if t then (e ρ1).bind fun y=>(Dl.compN k b c e ρ (xs.drop (i+1))).bind fun ys=>.ok (y::ys) else Dl.compN k b c e ρ (xs.drop (i+1)):=by
 obtain ⟨hi,rfl⟩:=List.getElem?_eq_some_iff.mp h
 rw [List.drop_eq_getElem_cons hi]
 rfl
theorem bind_assoc {α β γ:Type}(r:R α)(f:α→R β)(g:β→R γ):(r.bind f).bind g=r.bind fun a=>(f a).bind g:=by cases r<;>rfl
theorem calm_of {α:Type}{r:R α}{ok:α→Prop}{er:String→Option Int→Prop}(h:Post r.calm ok er):Post r ok (fun _ _=>False):=by
 cases r with
 | ok a=>exact h
 | err c x=>exact h
 | bad=>exact h
theorem get_set {α:Type}{l:List α}{i j:Nat}{x y:α}(h:(l.set i x)[j]?=some y):(j=i∧i<l.length∧y=x)∨(j≠i∧l[j]?=some y):=by
 by_cases e:i=j
 ·subst e
  rw [List.getElem?_set_self'] at h
  by_cases hi:i<l.length
  ·rw [getElem?_eq_getElem hi] at h
   simp at h
   exact .inl ⟨rfl,hi,h.symm⟩
  ·rw [List.getElem?_eq_none (by omega)] at h
   cases h
 ·rw [getElem?_set_ne e] at h
  exact .inr ⟨fun z=>e z.symm,h⟩
theorem EnvOk.put {H0 Hb H:Hp}{σ:St}{ρ:DEnv}{A:Nat→List Addr}{i:Nat}{d:D}{v:V}{B:List Addr}(I:EnvOk K C H0 Hb H Γ Δ σ ρ A)(r:Rp K C H d v B)
  (h1:∀j∈Γ',j≠i→j∈Γ∧∀a l,A j=a::l→a∉B)
  (h2:i∈Γ'→(∀a∈B,H0 a=none)∧∀a l,B=a::l→Hb a=none∧a∉l∧∀j,j≠i→a∉A j)
  (h3:∀j∈Δ',j≠i→j∈Δ∧∀a∈A j,a∉B)
  (h4:i∈Δ'→B.Nodup∧(∀j,j≠i→∀a∈B,a∉A j)∧∀a∈B,Hb a=none):∃A',EnvOk K C H0 Hb H Γ' Δ' (σ.set i (some v)) (ρ.set i (some d)) A'∧∀j a,a∈A' j→a∈B∨a∈A j:=by
 by_cases hi:i<ρ.length
 ·refine ⟨fun j=>if j=i then B else A j,⟨I.s0,I.same,by rw [length_set,length_set,I.len],fun j e h=>?_,fun j h=>?_,fun j hj a ha=>?_,fun j hj a l e=>?_,fun j hj=>?_⟩,fun j a ha=>?_⟩
  ·rcases get_set h with ⟨e1,_,e2⟩ | ⟨e1,e2⟩
   ·subst e1
    cases e2
    refine ⟨v,?_,by rw [if_pos rfl];exact r⟩
    rw [getElem?_set_self (by rw [I.len];exact hi)]
   ·obtain ⟨w,q1,q2⟩:=I.rep j e e2
    refine ⟨w,?_,by rw [if_neg e1];exact q2⟩
    rw [getElem?_set_ne (fun z=>e1 z.symm)]
    exact q1
  ·by_cases e:j=i
   ·subst e
    exact absurd (getElem?_set_self hi) (h d)
   ·rw [if_neg e]
    refine I.nil j fun x hx=>h x ?_
    rw [getElem?_set_ne (fun z=>e z.symm)]
    exact hx
  ·by_cases e:j=i
   ·subst e
    rw [if_pos rfl] at ha
    exact (h2 hj).1 a ha
   ·rw [if_neg e] at ha
    exact I.loc j (h1 j hj e).1 a ha
  ·by_cases e':j=i
   ·subst e'
    rw [if_pos rfl] at e
    obtain ⟨q0,q1,q2⟩:=(h2 hj).2 a l e
    refine ⟨q0,q1,fun k hk=>?_⟩
    rw [if_neg hk]
    exact q2 k hk
   ·rw [if_neg e'] at e
    obtain ⟨q0,q⟩:=h1 j hj e'
    obtain ⟨q3,q1,q2⟩:=I.top j q0 a l e
    refine ⟨q3,q1,fun k hk=>?_⟩
    by_cases ek:k=i
    ·rw [if_pos ek];exact q a l e
    ·rw [if_neg ek];exact q2 k hk
  ·by_cases e:j=i
   ·subst e
    rw [if_pos rfl]
    obtain ⟨q1,q2,q3⟩:=h4 hj
    refine ⟨q1,fun k hk a ha=>?_,q3⟩
    rw [if_neg hk]
    exact q2 k hk a ha
   ·rw [if_neg e]
    obtain ⟨q0,q⟩:=h3 j hj e
    obtain ⟨q1,q2,q3⟩:=I.deep j q0
    refine ⟨q1,fun k hk a ha=>?_,q3⟩
    by_cases ek:k=i
    ·rw [if_pos ek];exact q a ha
    ·rw [if_neg ek];exact q2 k hk a ha
  ·have ha:a∈(if j=i then B else A j):=ha
   by_cases e:j=i
   ·rw [if_pos e] at ha;exact .inl ha
   ·rw [if_neg e] at ha;exact .inr ha
 ·have e1:ρ.set i (some d)=ρ:=List.set_eq_of_length_le (by omega)
  have e2:σ.set i (some v)=σ:=List.set_eq_of_length_le (by rw [I.len];omega)
  have e3:A i=[]:=I.nil i fun x h=>by
   have:=(List.getElem?_eq_some_iff.mp h).1
   omega
  refine ⟨A,?_,fun j a ha=>.inr ha⟩
  rw [e1,e2]
  refine ⟨I.s0,I.same,I.len,I.rep,I.nil,fun j hj a ha=>?_,fun j hj a l e=>?_,fun j hj=>?_⟩
  ·by_cases e:j=i
   ·subst e;rw [e3] at ha;cases ha
   ·exact I.loc j (h1 j hj e).1 a ha
  ·by_cases e':j=i
   ·subst e';rw [e3] at e;cases e
   ·exact I.top j (h1 j hj e').1 a l e
  ·by_cases e:j=i
   ·subst e
    rw [e3]
    exact ⟨nodup_nil,fun _ _ _ h=>(nomatch h),fun _ h=>(nomatch h)⟩
   ·exact I.deep j (h3 j hj e).1
theorem EnvOk.writeO {H0 Hb H:Hp}{σ:St}{ρ:DEnv}{A:Nat→List Addr}{i:Nat}{es:List D}{ys:List V}{o':HO}{d':D}{B':List Addr}{a:Addr}{l:List Addr}(I:EnvOk K C H0 Hb H Γ Δ σ ρ A)(hi:i∈Γ)(hA:A i=a::l)(hl:i<ρ.length)(hs:σ[i]?=some (some (.ref a)))
  (mk:∀H',H' a=some o'→RpA K C H' es ys B'→Rp K C H' d' (.ref a) (a::B')) (r:RpA K C H es ys B') (hn:∀b∈B',H0 b=none) (ha:a∉B')
  (h1:∀j∈Γ',j≠i→j∈Γ∧∀b l,A j=b::l→b∉B')
  (h2:∀j∈Δ',j≠i→j∈Δ∧∀b∈A j,b∉B')
  (h3:i∈Δ'→B'.Nodup∧(∀j,j≠i→∀b∈B',b∉A j)∧∀b∈B',Hb b=none):∃A',EnvOk K C H0 Hb (upd H a o') Γ' Δ' σ (ρ.set i (some d')) A':=by
 obtain ⟨xs,hxs,hm⟩:=I.is (j:=i) (a:=a) (by rw [hA];exact .head _)
 have hne:∀j,j≠i→a∉A j:=(I.top i hi a l hA).2.2
 have hb0:Hb a=none:=(I.top i hi a l hA).1
 have h0:H0 a=none:=I.loc i hi a (by rw [hA];exact .head _)
 have ext:Ext (fun b=>b=a) H (upd H a o'):=fun b o h=>by
  by_cases e:b=a
  ·subst e
   rw [hxs] at h
   cases h
   exact .inr ⟨rfl,hm⟩
  ·rw [upd_ne e]
   exact .inl h
 refine ⟨fun j=>if j=i then a::B' else A j,I.s0,fun b o h=>?_,by rw [length_set,I.len],fun j e h=>?_,fun j h=>?_,fun j hj b hb=>?_,fun j hj b l' e=>?_,fun j hj=>?_⟩
 ·rw [upd_ne (ne_of_none h hb0)]
  exact I.same b o h
 ·rcases get_set h with ⟨e1,_,e2⟩ | ⟨e1,e2⟩
  ·subst e1
   cases e2
   refine ⟨.ref a,hs,?_⟩
   rw [if_pos rfl]
   exact mk _ upd_same (r.ext ext (fun b hb h=>ha (by rw [h] at hb;exact hb)))
  ·obtain ⟨w,q1,q2⟩:=I.rep j e e2
   refine ⟨w,q1,?_⟩
   rw [if_neg e1]
   exact q2.ext ext fun b hb h=>hne j e1 (by rw [h] at hb;exact hb)
 ·by_cases e:j=i
  ·subst e
   exact absurd (getElem?_set_self hl) (h _)
  ·rw [if_neg e]
   refine I.nil j fun x hx=>h x ?_
   rw [getElem?_set_ne (fun z=>e z.symm)]
   exact hx
 ·by_cases e:j=i
  ·subst e
   rw [if_pos rfl] at hb
   rcases List.mem_cons.mp hb with z | z
   ·rw [z];exact h0
   ·exact hn b z
  ·rw [if_neg e] at hb
   exact I.loc j (h1 j hj e).1 b hb
 ·by_cases e':j=i
  ·subst e'
   rw [if_pos rfl] at e
   cases e
   refine ⟨hb0,ha,fun k hk=>?_⟩
   rw [if_neg hk]
   exact hne k hk
  ·rw [if_neg e'] at e
   obtain ⟨q0,q⟩:=h1 j hj e'
   obtain ⟨q3,q1,q2⟩:=I.top j q0 b l' e
   refine ⟨q3,q1,fun k hk=>?_⟩
   by_cases ek:k=i
   ·rw [if_pos ek]
    intro z
    rcases List.mem_cons.mp z with z | z
    ·exact hne j e' (by rw [e,z];exact .head _)
    ·exact q b l' e z
   ·rw [if_neg ek];exact q2 k hk
 ·by_cases e:j=i
  ·subst e
   rw [if_pos rfl]
   obtain ⟨q1,q2,q3⟩:=h3 hj
   refine ⟨List.nodup_cons.mpr ⟨ha,q1⟩,fun k hk b hb=>?_,fun b hb=>?_⟩
   ·rw [if_neg hk]
    rcases List.mem_cons.mp hb with z | z
    ·rw [z];exact hne k hk
    ·exact q2 k hk b z
   ·rcases List.mem_cons.mp hb with z | z
    ·rw [z];exact hb0
    ·exact q3 b z
  ·rw [if_neg e]
   obtain ⟨q0,q⟩:=h2 j hj e
   obtain ⟨q1,q2,q3⟩:=I.deep j q0
   refine ⟨q1,fun k hk b hb=>?_,q3⟩
   by_cases ek:k=i
   ·rw [if_pos ek]
    intro z
    rcases List.mem_cons.mp z with z | z
    ·exact hne j e (by rw [← z];exact hb)
    ·exact q b hb z
   ·rw [if_neg ek];exact q2 k hk b hb
theorem EnvOk.write {H0 Hb H:Hp}{σ:St}{ρ:DEnv}{A:Nat→List Addr}{i:Nat}{es:List D}{ys:List V}{B':List Addr}{a:Addr}{l:List Addr}(I:EnvOk K C H0 Hb H Γ Δ σ ρ A)(hi:i∈Γ)(hA:A i=a::l)(hl:i<ρ.length)(hs:σ[i]?=some (some (.ref a)))
  (r:RpA K C H es ys B') (hn:∀b∈B',H0 b=none) (ha:a∉B')
  (h1:∀j∈Γ',j≠i→j∈Γ∧∀b l,A j=b::l→b∉B')
  (h2:∀j∈Δ',j≠i→j∈Δ∧∀b∈A j,b∉B')
  (h3:i∈Δ'→B'.Nodup∧(∀j,j≠i→∀b∈B',b∉A j)∧∀b∈B',Hb b=none):∃A',EnvOk K C H0 Hb (upd H a (.lst ys)) Γ' Δ' σ (ρ.set i (some (.lst es))) A':=I.writeO hi hA hl hs (fun _ q1 q2=>⟨a,_,_,rfl,q1,q2,rfl⟩) r hn ha h1 h2 h3
theorem nok_name {n k:Nat}(i:Nat)(h1:n≤i)(h2:i<n+k):NOk K C n k (gName i) (Dl.bName i):=fun H σ os ρ A d v B Rr hσ hos I r p=>by
 have e:(σ++os).set i (some v)=σ++os.set (i - n) (some v):=by rw [← hσ,List.set_append_right _ _ (by omega)]
 obtain ⟨A',I',_⟩:=I.put (Γ':=[]) (Δ':=[]) (i:=i) r (fun _ h=>nomatch h) (fun h=>nomatch h) (fun _ h=>nomatch h) (fun h=>nomatch h)
 show Rr ((σ++os).set i (some v)) H
 rw [e] at I' ⊢
 exact p _ A' (by rw [length_set];exact hos) I'
theorem nok_nil {n k:Nat}:NsOk K C n k gNil Dl.bNil:=fun H σ os ρ A d v B Rr hσ hos I r p=>by
 cases d with
 | nil=>exact ⟨r.1,p _ A hos I⟩
 | cons _ _=>exact p.elim
theorem nok_cons {n k:Nat}{g:TG}{gs:TGs}{b:FB}{bs:List D→DEnv→R DEnv}(h1:NOk K C n k g b)(h2:NsOk K C n k gs bs):NsOk K C n k (gCons g gs) (Dl.bCons b bs):=fun H σ os ρ A d v B Rr hσ hos I r p=>by
 cases d with
 | nil=>exact p.elim
 | cons d ds =>
  obtain ⟨x,l,B1,B2,e1,e2,e3,e4⟩:=r
  subst e1 e4
  exact ⟨x,l,rfl,h1 H σ os ρ A d x B1 _ hσ hos I e2 (Post.imp (Post.bind p) (fun ρ1 q os1 A1 ho1 I1=>h2 H σ os1 ρ1 A1 ds l B2 Rr hσ ho1 I1 e3 q) fun _ _ z=>z)⟩
theorem nok_tup {n k:Nat}{gs:TGs}{bs:List D→DEnv→R DEnv}{l:Nat}(hn:∀ds ρ ρ',bs ds ρ=.ok ρ'→ds.length=l)(h:NsOk K C n k gs bs):NOk K C n k (gTup K l gs) (Dl.bTup bs):=fun H σ os ρ A d v B Rr hσ hos I r p=>by
 cases d with
 | tup ds =>
  obtain ⟨a,xs,rfl,e2,e3⟩:=r
  have p':Post (bs ds ρ) (fun ρ'=>∀os' A',os'.length=k→EnvOk K C H H H [] [] (σ++os') ρ' A'→Rr (σ++os') H) (fun _ _=>False):=p
  have hl:xs.length=l:=by
   rw [e3.len]
   cases e:bs ds ρ with
   | ok ρ'=>exact hn ds ρ ρ' e
   | err _ _=>rw [e] at p';exact p'.elim
   | bad=>rw [e] at p';exact p'.elim
  exact ⟨a,xs,rfl,SqT.of e2,hl,h H σ os ρ A ds xs B Rr hσ hos I e3 p'⟩
 | _=>exact p.elim
theorem eok_comp {n k:Nat}{g:TG}{wi:TI}{tc:TT}{te:TE}{fi:FI}{fb:FB}{fc:FT}{fe:FE}(hi:IOk K C E Γ Δ S wi fi)(hg:NOk K C n k g fb)(hc:TOk K C E0 [] [] tc fc)(he:EOk K C E0 [] [] 2 [] te fe):EOk K C E Γ Δ 2 [] (tCompN k g wi tc te) (Dl.fComp n k fi fb fc fe):=fun H0 Hb H σ ρ A Q I p=>by
  unfold Dl.fComp at p
  split at p
  · rename_i hn
    refine hi H0 Hb H σ ρ A _ I (p.bind.imp (fun ds q J H1 W g1 hW hlen hJ Dd hD=>?_) fun c x q H' g'=>q H' g')
    have I1:=I.mono g1
    have go:Goes K C J ds H1:=hJ H1 ⟨fun _ _=>rfl,fun b o h _=>h⟩
    have q':=calm_of q.bind
    refine comp_gen go (fun i H2=>Same H1 H2∧∃(us:List D) (ys:List V) (B':List Addr),H2 Dd=some (.lst ys)∧us.length≤i∧RpA K C H2 us ys B'∧B'.Nodup∧Dd∉B'∧(∀a∈B',H1 a=none)∧
      Post (Dl.compN k fb fc fe ρ (ds.drop i)) (fun zs=>∀v H',Same H H'→Res K C 2 [] H A (.lst (us++zs)) v H'→Q v H') (fun _ _=>False)) ⟨sameNew hD _,[],[],[],upd_same,le_refl _,RpA.nil,nodup_nil,(fun h=>nomatch h),(fun _ h=>nomatch h),q'⟩ (fun _ _ h=>h.1) ?_ ?_
    · rintro i x v Bx H2a H2 hx ⟨g2a,us,ys,B',hD2,hul,ru,nd,hDB,hnew,pq⟩ g2b rx _ os hos
      have g2:=g2a.trans g2b
      have hil:=(List.getElem?_eq_some_iff.mp hx).1
      rw [comp_split _ _ _ _ _ _ hx] at pq
      have I2:=(I1.mono g2).more os
      have pq':=calm_of pq.bind
      rw [← hos] at pq'
      refine hg H2 σ os _ A x v Bx _ (by rw [I.len,hn]) hos I2 rx (pq'.imp (fun ρ1 pq os1 A1 ho1 I3=>⟨⟨os1,ho1,rfl⟩,?_⟩) fun _ _ z=>z)
      refine hc H2 H2 H2 _ _ _ _ I3 (pq.bind.imp (fun b pq H3 g3=>?_) fun _ _ z=>z.elim)
      have hD2':=g2b _ _ hD2
      have ru':=ru.same g2b
      cases b with
      | false =>
        simp only [Bool.false_eq_true,if_false] at pq ⊢
        rw [hos] at pq
        exact ⟨g2.trans g3,us,ys,B',g3 _ _ hD2',by omega,ru'.same g3,nd,hDB,hnew,pq⟩
      | true =>
        simp only [if_true] at pq ⊢
        refine he H2 H2 H3 _ _ _ _ (I3.mono g3) (pq.bind.imp (fun y pq w H4 g4 r4=>?_) fun _ _ z=>z.elim)
        rw [hos] at pq
        obtain ⟨By,ry,hy1,_,hy2⟩:=r4
        have g24:=g3.trans g4
        have hD4:=g24 _ _ hD2'
        have hnewy:∀a∈By,H3 a=none:=fun a ha=>(hy1 a ha).elim id fun z=>z.none.elim
        have hDy:Dd∉By:=fun h=>by
          have z:=hnewy Dd h
          rw [g3 _ _ hD2'] at z
          cases z
        have ext:Ext (fun a=>a=Dd) H4 (upd H4 Dd (.lst (ys++[w]))):=fun b o h=>by
          by_cases e:b=Dd
          · subst e
            rw [hD4] at h
            cases h
            exact .inr ⟨rfl,.lst⟩
          · rw [upd_ne e]
            exact .inl h
        have hDB':Dd∉B'++By:=fun h=>(List.mem_append.mp h).elim hDB hDy
        refine ⟨ys,hD4,?_,?_,us++[y],ys++[w],B'++By,upd_same,by rw [length_append];simp;omega,?_,?_,hDB',?_,?_⟩
        · rw [ru.len]
          exact limLine' (by omega)
        · intro b o h
          have hb:b≠Dd:=ne_of_none h hD
          rw [upd_ne hb]
          exact (g2.trans g24) b o h
        · exact ((ru'.same g24).app (RpA.one ry)).ext ext fun a ha h=>hDB' (by rw [h] at ha;exact ha)
        · refine List.nodup_append.mpr ⟨nd,hy2 rfl,fun a ha b hb e=>?_⟩
          subst e
          obtain ⟨xs,z,_⟩:=(ru'.same g3).isl a ha
          rw [hnewy a hb] at z
          cases z
        · intro a ha
          rcases List.mem_append.mp ha with h | h
          · exact hnew a h
          · exact (g2.trans g3).free (hnewy a h)
        · exact pq.bind.imp (fun zs pq v H' g' r=>by
            rw [append_assoc] at r
            exact pq v H' g' r) fun _ _ z=>z
    · rintro H2 ⟨g2,us,ys,B',hD2,hul,ru,nd,hDB,hnew,pq⟩
      rw [List.drop_length] at pq
      have pq:∀v H',Same H H'→Res K C 2 [] H A (.lst (us++[])) v H'→Q v H':=pq
      rw [append_nil] at pq
      refine pq _ H2 (g1.trans g2) ⟨Dd::B',⟨Dd,ys,B',rfl,hD2,ru,rfl⟩,fun a ha=>.inl ?_,(fun z=>nomatch z),fun _=>List.nodup_cons.mpr ⟨hDB,nd⟩⟩
      rcases List.mem_cons.mp ha with h | h
      · rw [h];exact g1.free hD
      · exact g1.free (hnew a h)
  · exact p.elim
end
section
variable {K:Frag}{C:String→Addr}{E:XK}{Γ Δ Γ' Δ' Γ1 Δ1 Γl Δl Γk Δk:List Nat}{m m1 m2 m3 mr:Nat}{S S1 S2 S3:List (Nat×Bool)}{H:Hp}{Q:VK}
theorem PostS.weak {H0 Hb:Hp}{D:Ends}{r:R Fl}(h:PostS K C E mr Γl Δl Γ' Δ' H0 Hb D r)(h1:∀i∈Γ',i∈Γ1)(h2:∀i∈Δ',i∈Δ1):PostS K C E mr Γl Δl Γ1 Δ1 H0 Hb D r:=by
 unfold PostS at *
 refine Post.imp h (fun fl q=>?_) fun _ _ q=>q
 cases fl with
 | nx ρ'=>exact fun σ' H' A' I=>q σ' H' A' (I.weak h1 h2)
 | ret d=>exact q
 | brk ρ'=>exact q
 | cnt ρ'=>exact q
theorem sok_weak {t:TS}{f:FS}(h:SOk K C E mr Γl Δl Γ Δ Γ1 Δ1 t f)(h1:∀i∈Γ',i∈Γ1:=by decide)(h2:∀i∈Δ',i∈Δ1:=by decide):SOk K C E mr Γl Δl Γ Δ Γ' Δ' t f:=fun H0 Hb H σ ρ A D I p =>
 h H0 Hb H σ ρ A D I (p.weak h1 h2)
theorem sok_nx:SOk K C E mr Γl Δl Γ Δ Γ Δ tNext Dl.sNx:=fun _ _ H σ _ A _ I p=>p σ H A I
theorem sok_never:SOk K C E mr Γl Δl Γ Δ Γ' Δ' tNever Dl.sNever:=fun _ _ _ _ _ _ _ _ p=>p.elim
theorem sok_seq {t u:TS}{f g:FS}(h1:SOk K C E mr Γl Δl Γ Δ Γ1 Δ1 t f)(h2:SOk K C E mr Γl Δl Γ1 Δ1 Γ' Δ' u g):SOk K C E mr Γl Δl Γ Δ Γ' Δ' (tSeq t u) (Dl.sSeq f g):=fun H0 Hb H σ ρ A D I p =>
  h1 H0 Hb H σ ρ A _ I (Post.imp (Post.bind p) (fun fl q=>by
    cases fl with
    | nx ρ'=>exact fun σ' H' A' I'=>h2 H0 Hb H' σ' ρ' A' D I' q
    | ret d=>exact q
    | brk ρ'=>exact q
    | cnt ρ'=>exact q) fun _ _ q=>q)
theorem Same.from0 {H0 Hb H H':Hp}{σ:St}{ρ:DEnv}{A:Nat→List Addr}(I:EnvOk K C H0 Hb H Γ Δ σ ρ A)(g:Same H H'):Same H0 H':=I.s0.trans (I.same.trans g)
theorem EnvOk.top_out {H0 Hb H:Hp}{σ:St}{ρ:DEnv}{A:Nat→List Addr}(I:EnvOk K C H0 Hb H Γ Δ σ ρ A){j:Nat}(hj:j∈Γ)(hS:(j,false)∉S){a:Addr}{l:List Addr}(e:A j=a::l):¬InS A S a:=fun h=>by
 obtain ⟨q0,q1,q2⟩:=I.top j hj a l e
 obtain ⟨p,hp,q⟩:=h
 split at q
 ·by_cases ep:p.1=j
  ·rw [ep,e] at q
   exact q1 q
  ·exact q2 p.1 ep (List.mem_of_mem_tail q)
 ·rename_i hf
  by_cases ep:p.1=j
  ·refine hS ?_
   have:p=(j,false):=by
    obtain ⟨p1,p2⟩:=p
    simp at ep hf
    rw [ep,hf]
   rw [← this]
   exact hp
  ·exact q2 p.1 ep q
theorem EnvOk.deep_out {H0 Hb H:Hp}{σ:St}{ρ:DEnv}{A:Nat→List Addr}(I:EnvOk K C H0 Hb H Γ Δ σ ρ A){j:Nat}(hj:j∈Δ)(hS:∀p∈S,p.1≠j){a:Addr}(e:a∈A j):¬InS A S a:=fun h=>by
 obtain ⟨p,hp,q⟩:=h.mem
 exact (I.deep j hj).2.1 p.1 (hS p hp) a e q
theorem sok_set2 {i:Nat}{te:TE}{fe:FE}(he:EOk K C E Γ Δ 2 [] te fe)(h1:∀j∈Γ',j=i∨j∈Γ:=by decide)(h2:∀j∈Δ',j=i∨j∈Δ:=by decide):SOk K C E mr Γl Δl Γ Δ Γ' Δ' (tAsg te (gName i)) (Dl.sSet i fe):=fun H0 Hb H σ ρ A D I p =>
  he H0 Hb H σ ρ A _ I (Post.imp (Post.bind p) (fun d q v H1 g1 r=>by
    obtain ⟨B,r1,r2,r3,r4⟩:=r
    have hn:∀a∈B,H a=none:=fun a ha=>(r2 a ha).elim id fun z=>z.none.elim
    have nd:=r4 rfl
    obtain ⟨A',I',_⟩:=(I.mono g1).put (Γ':=Γ') (Δ':=Δ') (i:=i) r1 (fun j hj e=>⟨(h1 j hj).elim (fun z=>absurd z e) id,fun a l e' ha=>I.ne (j:=j) (by rw [e'];exact .head _) (hn a ha)⟩)
      (fun _=>⟨fun a ha=>I.s0.free (I.same.free (hn a ha)),fun a l e=>by subst e;exact ⟨I.same.free (hn a (.head _)),(List.nodup_cons.mp nd).1,fun j _ h=>I.ne h (hn a (.head _))⟩⟩)
      (fun j hj e=>⟨(h2 j hj).elim (fun z=>absurd z e) id,fun a ha hB=>I.ne ha (hn a hB)⟩)
      (fun _=>⟨nd,fun j _ a ha h=>I.ne h (hn a ha),fun a ha=>I.same.free (hn a ha)⟩)
    exact q _ H1 A' I') fun c x q H' g'=>q H' (Same.from0 I g'))
theorem sok_set1 {i:Nat}{te:TE}{fe:FE}(he:EOk K C E Γ Δ 1 S te fe)(h0:∀p∈S,p.1∈Γ:=by decide)(h1:∀j∈Γ',j=i∨(j∈Γ∧(j,false)∉S):=by decide)(h2:∀j∈Δ',j≠i∧j∈Δ∧∀p∈S,p.1≠j:=by decide) :
    SOk K C E mr Γl Δl Γ Δ Γ' Δ' (tAsg te (gName i)) (Dl.sSet i fe):=fun H0 Hb H σ ρ A D I p =>
  he H0 Hb H σ ρ A _ I (Post.imp (Post.bind p) (fun d q v H1 g1 r=>by
    obtain ⟨B,r1,r2,r3,r4⟩:=r
    obtain ⟨A',I',_⟩:=(I.mono g1).put (Γ':=Γ') (Δ':=Δ') (i:=i) r1 (fun j hj e=>by
        obtain ⟨q1,q2⟩:=(h1 j hj).elim (fun z=>absurd z e) id
        exact ⟨q1,fun a l e' ha=>(r2 a ha).elim (fun z=>I.ne (j:=j) (by rw [e'];exact .head _) z) (I.top_out q1 q2 e')⟩)
      (fun _=>⟨fun a ha=>(r2 a ha).elim (fun z=>I.s0.free (I.same.free z)) fun z=>by
          obtain ⟨p,hp,z⟩:=z.mem
          exact I.loc p.1 (h0 p hp) a z,fun a l e=>⟨I.same.free (r3 rfl a l e).1,(r3 rfl a l e).2,fun j _ h=>I.ne h (r3 rfl a l e).1⟩⟩)
      (fun j hj e=>⟨(h2 j hj).2.1,fun a ha hB=>(r2 a hB).elim (fun z=>I.ne ha z) (I.deep_out (h2 j hj).2.1 (h2 j hj).2.2 ha)⟩)
      (fun hj=>absurd rfl (h2 i hj).1)
    exact q _ H1 A' I') fun c x q H' g'=>q H' (Same.from0 I g'))
theorem sok_ret2 {te:TE}{fe:FE}(he:EOk K C E Γ Δ 2 S te fe)(h0:∀p∈S,p.1∈Δ:=by decide):SOk K C E 2 Γl Δl Γ Δ Γ' Δ' (tRet te) (Dl.sRet fe):=fun H0 Hb H σ ρ A D I p =>
  he H0 Hb H σ ρ A _ I (Post.imp (Post.bind p) (fun d q v H1 g1 r=>by
    obtain ⟨B,r1,r2,r3,r4⟩:=r
    refine q v H1 (Same.from0 I g1) ⟨B,r1,fun a ha=>.inl ((r2 a ha).elim (fun z=>I.s0.free (I.same.free z)) fun z=>?_),(fun z=>nomatch z),r4⟩
    obtain ⟨p,hp,z⟩:=z.mem
    exact I.s0.free ((I.deep p.1 (h0 p hp)).2.2 a z)) fun c x q H' g'=>q H' (Same.from0 I g'))
theorem sok_ret0 {te:TE}{fe:FE}(he:EOk K C E Γ Δ m S te fe)(h0:∀p∈S,p.1∈Γ:=by decide):SOk K C E 0 Γl Δl Γ Δ Γ' Δ' (tRet te) (Dl.sRet fe):=fun H0 Hb H σ ρ A D I p =>
  he H0 Hb H σ ρ A _ I (Post.imp (Post.bind p) (fun d q v H1 g1 r=>by
    obtain ⟨B,r1,r2,r3,r4⟩:=r
    refine q v H1 (Same.from0 I g1) ⟨B,r1,fun a ha=>.inl ((r2 a ha).elim (fun z=>I.s0.free (I.same.free z)) fun z=>?_),(fun z=>nomatch z),(fun z=>nomatch z)⟩
    obtain ⟨p,hp,z⟩:=z.mem
    exact I.loc p.1 (h0 p hp) a z) fun c x q H' g'=>q H' (Same.from0 I g'))
theorem sok_if {tc:TT}{t u:TS}{fc:FT}{f g:FS}(hc:TOk K C E Γ Δ tc fc)(h1:SOk K C E mr Γl Δl Γ Δ Γ' Δ' t f)(h2:SOk K C E mr Γl Δl Γ Δ Γ' Δ' u g):SOk K C E mr Γl Δl Γ Δ Γ' Δ' (tIfS tc t u) (Dl.sIf fc f g):=fun H0 Hb H σ ρ A D I p =>
  hc H0 Hb H σ ρ A _ I (Post.imp (Post.bind p) (fun b q H1 g1=>by
    cases b with
    | true=>exact h1 H0 Hb H1 σ ρ A D (I.mono g1) q
    | false=>exact h2 H0 Hb H1 σ ρ A D (I.mono g1) q) fun c x q H' g'=>q H' (Same.from0 I g'))
theorem slot_lst {H0 Hb H:Hp}{σ:St}{ρ:DEnv}{A:Nat→List Addr}{i:Nat}{ds:List D}(I:EnvOk K C H0 Hb H Γ Δ σ ρ A)(e:ρ[i]?=some (some (.lst ds))):∃a xs l,σ[i]?=some (some (.ref a))∧H a=some (.lst xs)∧RpA K C H ds xs l∧A i=a::l∧i<ρ.length:=by
 obtain ⟨v,q1,a,xs,l,rfl,q3,q4,q5⟩:=I.rep i _ e
 exact ⟨a,xs,l,q1,q3,q4,q5,(List.getElem?_eq_some_iff.mp e).1⟩
theorem sok_app2 {i:Nat}{te:TE}{fe:FE}(hi:i∈Γ:=by decide)(he:EOk K C E Γ Δ 2 [] te fe):SOk K C E mr Γl Δl Γ Δ Γ Δ (tDrop (tBM K "list" rAppend (tVar i) (tCons te tNil))) (Dl.sApp i fe):=fun H0 Hb H σ ρ A D I p=>by
  unfold Dl.sApp at p
  split at p
  · rename_i ds e
    obtain ⟨a,xs,l,s1,h1,r1,hA,hl⟩:=slot_lst I e
    refine ⟨.ref a,s1,.inl ⟨rfl,xs,SqL.of h1⟩,he H0 Hb H σ ρ A _ I (Post.imp (Post.bind p) (fun d q v H1 g1 r=>?_) fun c x q H' g'=>q H' (Same.from0 I g'))⟩
    split at q
    · rename_i hz
      obtain ⟨B,r2,r3,_,r4⟩:=r
      have hn:∀a∈B,H a=none:=fun a ha=>(r3 a ha).elim id fun z=>z.none.elim
      have h1':=g1 _ _ h1
      show rAppend (.ref a) [v] H1 fun _ H3=>D.nx σ H3
      refine rd_app h1' (by rw [r1.len];exact limLine' hz) ?_
      obtain ⟨tb,ta,tt⟩:=I.top i hi a l hA
      have I1:=I.mono g1
      have haB:a∉B:=fun z=>by
        have:=hn a z
        rw [h1] at this
        cases this
      have w1:∀b∈l++B,H0 b=none:=fun b hb=>by
        rcases List.mem_append.mp hb with z | z
        · exact I.loc i hi b (by rw [hA];exact .tail _ z)
        · exact I.s0.free (I.same.free (hn b z))
      have w2:∀j∈Γ,j≠i→j∈Γ∧∀b l',A j=b::l'→b∉l++B:=fun j hj e=>⟨hj,fun b l' e' z=>by
        rcases List.mem_append.mp z with z | z
        · exact (I.top j hj b l' e').2.2 i (fun w=>e w.symm) (by rw [hA];exact .tail _ z)
        · exact I.ne (j:=j) (by rw [e'];exact .head _) (hn b z)⟩
      have w3:∀j∈Δ,j≠i→j∈Δ∧∀b∈A j,b∉l++B:=fun j hj e=>⟨hj,fun b hb z=>by
        rcases List.mem_append.mp z with z | z
        · exact (I.deep j hj).2.1 i (fun w=>e w.symm) b hb (by rw [hA];exact .tail _ z)
        · exact I.ne hb (hn b z)⟩
      have w4:i∈Δ→(l++B).Nodup∧(∀j,j≠i→∀b∈l++B,b∉A j)∧∀b∈l++B,Hb b=none:=fun hd=>by
        obtain ⟨d1,d2,d3⟩:=I.deep i hd
        rw [hA] at d1 d2 d3
        refine ⟨List.nodup_append.mpr ⟨(List.nodup_cons.mp d1).2,r4 rfl,fun x hx y hy e=>?_⟩,fun j hj b hb=>?_,fun b hb=>?_⟩
        · subst e
          exact I.ne (j:=i) (by rw [hA];exact .tail _ hx) (hn x hy)
        · rcases List.mem_append.mp hb with z | z
          · exact d2 j hj b (.tail _ z)
          · exact fun w=>I.ne w (hn b z)
        · rcases List.mem_append.mp hb with z | z
          · exact d3 b (.tail _ z)
          · exact I.same.free (hn b z)
      obtain ⟨A',I'⟩:=I1.write (Γ':=Γ) (Δ':=Δ) hi hA hl s1 ((r1.same g1).app (RpA.one r2)) w1 (fun z=>(List.mem_append.mp z).elim ta haB) w2 w3 w4
      exact q _ _ A' I'
    · exact q.elim
  · exact p.elim
def BOk (K:Frag)(C:String→Addr)(Γ Δ:List Nat)(g:TG)(b:FB):Prop:=∀(H0 Hb H:Hp) (σ:St) (ρ:DEnv) (A:Nat→List Addr) (d:D) (v:V) (B:List Addr) (Rr:St→Hp→Prop),EnvOk K C H0 Hb H Γ Δ σ ρ A→Rp K C H d v B→(∀a∈B,Hb a≠none)→
 Post (b d ρ) (fun ρ'=>∀σ' A',EnvOk K C H0 Hb H Γ Δ σ' ρ' A'→Rr σ' H) (fun _ _=>False)→g v σ H Rr
def BsOk (K:Frag)(C:String→Addr)(Γ Δ:List Nat)(g:TGs)(b:List D→DEnv→R DEnv):Prop:=∀(H0 Hb H:Hp) (σ:St) (ρ:DEnv) (A:Nat→List Addr) (d:List D) (v:List V) (B:List Addr) (Rr:St→Hp→Prop),EnvOk K C H0 Hb H Γ Δ σ ρ A→RpA K C H d v B→(∀a∈B,Hb a≠none)→
 Post (b d ρ) (fun ρ'=>∀σ' A',EnvOk K C H0 Hb H Γ Δ σ' ρ' A'→Rr σ' H) (fun _ _=>False)→g v σ H Rr
theorem bok_name {i:Nat}(h1:i∉Γ:=by decide)(h2:i∉Δ:=by decide):BOk K C Γ Δ (gName i) (Dl.bName i):=fun H0 Hb H σ ρ A d v B Rr I r hB p=>by
 obtain ⟨A',I',_⟩:=I.put (Γ':=Γ) (Δ':=Δ) (i:=i) r (fun j hj e=>⟨hj,fun a l e' ha=>hB a ha (I.top j hj a l e').1⟩) (fun hj=>absurd hj h1) (fun j hj e=>⟨hj,fun a ha hb=>hB a hb ((I.deep j hj).2.2 a ha)⟩) (fun hj=>absurd hj h2)
 exact p _ A' I'
theorem bn_nil (ds:List D)(ρ ρ':DEnv)(h:Dl.bNil ds ρ=.ok ρ'):ds.length=0:=by
 cases ds with
 | nil=>rfl
 | cons _ _=>cases h
theorem bn_cons {n:Nat}{b:FB}{bs:List D→DEnv→R DEnv}(hb:∀ds ρ ρ',bs ds ρ=.ok ρ'→ds.length=n)(ds:List D)(ρ ρ':DEnv)(h:Dl.bCons b bs ds ρ=.ok ρ'):ds.length=n+1:=by
 cases ds with
 | nil=>cases h
 | cons d ds =>
  have h:((b d ρ).bind fun ρ'=>bs ds ρ')=.ok ρ':=h
  cases e:b d ρ with
  | ok ρ1 =>
   rw [e] at h
   rw [length_cons,hb ds ρ1 ρ' h]
  | err _ _=>rw [e] at h;cases h
  | bad=>rw [e] at h;cases h
noncomputable def ownAt (A:Nat→List Addr)(Γ Δ:List Nat):List Addr:=Γ.flatMap (fun i=>(A i).take 1)++Δ.flatMap A
theorem mem_own {A:Nat→List Addr}{a:Addr}(h:a∈ownAt A Γ Δ):(∃i∈Γ,∃l,A i=a::l)∨∃i∈Δ,a∈A i:=by
 rcases List.mem_append.mp h with h | h
 ·obtain ⟨i,hi,h⟩:=List.mem_flatMap.mp h
  left
  refine ⟨i,hi,?_⟩
  cases e:A i with
  | nil=>rw [e] at h;cases h
  | cons b l =>
   rw [e] at h
   simp only [List.take_succ_cons,List.take_zero,List.mem_singleton] at h
   rw [h]
   exact ⟨l,rfl⟩
 ·obtain ⟨i,hi,h⟩:=List.mem_flatMap.mp h
  exact .inr ⟨i,hi,h⟩
theorem own_top {A:Nat→List Addr}{i:Nat}(hi:i∈Γ){a:Addr}{l:List Addr}(e:A i=a::l):a∈ownAt A Γ Δ:=mem_append_left _ (List.mem_flatMap.mpr ⟨i,hi,by rw [e];simp⟩)
theorem own_deep {A:Nat→List Addr}{i:Nat}(hi:i∈Δ){a:Addr}(h:a∈A i):a∈ownAt A Γ Δ:=mem_append_right _ (List.mem_flatMap.mpr ⟨i,hi,h⟩)
theorem forD_split (b:FB)(s:FS)(xs:List D){i:Nat}{x:D}(h:xs[i]?=some x)(ρ:DEnv):Dl.forD b s (xs.drop i) ρ=(b x ρ).calm.bind fun ρ1=>(s ρ1).bind fun fl=>match fl with
  | .nx ρ2=>Dl.forD b s (xs.drop (i+1)) ρ2
  | .cnt ρ2=>Dl.forD b s (xs.drop (i+1)) ρ2
  | .brk ρ2=>.ok (.nx ρ2)
  | .ret d=>.ok (.ret d):=by
 obtain ⟨hi,rfl⟩:=List.getElem?_eq_some_iff.mp h
 rw [List.drop_eq_getElem_cons hi]
 rfl
theorem sok_for {wi:TI}{g:TG}{tb:TS}{fi:FI}{fb:FB}{fs:FS}(hi:IOk K C E Γ Δ S wi fi)(hb:BOk K C Γl Δl g fb)(hs:SOk K C E mr Γl Δl Γl Δl Γl Δl tb fs)
    (h1:∀i∈Γl,i∈Γ:=by decide) (h2:∀i∈Δl,i∈Δ:=by decide) (h3:∀p∈S,p.1∉Γl∧p.1∉Δl:=by decide):SOk K C E mr Γk Δk Γ Δ Γl Δl (tFor wi g tb) (Dl.sFor fi fb fs):=fun H0 Hb H σ ρ A D I p=>by
  refine hi H0 Hb H σ ρ A _ I (Post.imp (Post.bind p) (fun ds q J H1 W g1 hW hlen hJ=>?_) fun c x q H' g'=>q H' (Same.from0 I g'))
  have I1:=(I.mono g1).weak h1 h2
  have hlst:∀a∈ownAt A Γl Δl,∃o,H1 a=some o∧IsM o:=fun a ha=>by
    rcases mem_own ha with ⟨i,_,l,e⟩ | ⟨i,_,e⟩
    · exact I1.is (j:=i) (by rw [e];exact .head _)
    · exact I1.is e
  have hbn:∀a∈ownAt A Γl Δl,Hb a=none:=fun a ha=>by
    rcases mem_own ha with ⟨i,hi,l,e⟩ | ⟨i,hi,e⟩
    · exact (I1.top i hi a l e).1
    · exact (I1.deep i hi).2.2 a e
  have hout:∀a∈W,a∉ownAt A Γl Δl:=fun a ha ho=>by
    rcases (hW a ha).2 with z | z
    · rcases mem_own ho with ⟨i,hi,l,e⟩ | ⟨i,hi,e⟩
      · exact I.ne (j:=i) (by rw [e];exact .head _) z
      · exact I.ne e z
    · rcases mem_own ho with ⟨i,hi,l,e⟩ | ⟨i,hi,e⟩
      · exact I1.top_out hi (fun h=>(h3 _ h).1 hi) e z
      · exact I1.deep_out hi (fun p hp e'=>(h3 p hp).2 (by rw [e'];exact hi)) e z
  let Hc:Hp:=fun b=>if b∈ownAt A Γl Δl then none else H1 b
  have c1:Same Hc H1:=fun b o h=>by
    show H1 b=some o
    have h:(if b∈ownAt A Γl Δl then none else H1 b)=some o:=h
    split at h
    · cases h
    · exact h
  have c2:Same Hb Hc:=fun b o h=>by
    show (if b∈ownAt A Γl Δl then none else H1 b)=some o
    rw [if_neg fun ho=>by rw [hbn b ho] at h;cases h]
    exact I1.same b o h
  have c3:∀a,a∉ownAt A Γl Δl→Hc a=H1 a:=fun a ha=>if_neg ha
  have c4:∀a∈ownAt A Γl Δl,Hc a=none:=fun a ha=>if_pos ha
  have I2:EnvOk K C H0 Hc H1 Γl Δl σ ρ A:=⟨I1.s0.trans c2,c1,I1.len,I1.rep,I1.nil,I1.loc,fun i hi a l e=>⟨c4 a (own_top hi e),(I1.top i hi a l e).2⟩,fun i hi=>⟨(I1.deep i hi).1,(I1.deep i hi).2.1,fun a ha=>c4 a (own_deep hi ha)⟩⟩
  have back:∀{σ':St} {ρ':DEnv} {H':Hp} {A':Nat→List Addr},EnvOk K C H0 Hc H' Γl Δl σ' ρ' A'→EnvOk K C H0 Hb H' Γl Δl σ' ρ' A':=fun I' =>
    ⟨I1.s0,c2.trans I'.same,I'.len,I'.rep,I'.nil,I'.loc,fun i hi a l e=>⟨c2.free (I'.top i hi a l e).1,(I'.top i hi a l e).2⟩,fun i hi=>⟨(I'.deep i hi).1,(I'.deep i hi).2.1,fun a ha=>c2.free ((I'.deep i hi).2.2 a ha)⟩⟩
  have go:Goes K C J ds Hc:=hJ Hc ⟨fun a ha=>c3 a (hout a ha),fun b o h hn=>(c3 b fun ho=>by
    obtain ⟨xs,e,hm⟩:=hlst b ho
    rw [e] at h
    cases h
    exact hn hm).trans h⟩
  refine for_gen go (fun k σ' H'=>∃ρ' A',EnvOk K C H0 Hc H' Γl Δl σ' ρ' A'∧PostS K C E mr Γk Δk Γl Δl H0 Hb D (Dl.forD fb fs (ds.drop k) ρ')) ⟨ρ,A,I2,q⟩ (fun _ _ _ ⟨_,_,I',_⟩=>I'.same) ?_ ?_
  · rintro k d x Bx σ' Ha H' hd ⟨ρ',A',Ia,pq⟩ ga rx hBx
    have I':=Ia.mono ga
    rw [forD_split _ _ _ hd] at pq
    have pq':=calm_of (Post.bind pq)
    refine hb H0 Hc H' σ' ρ' A' d x Bx _ I' rx hBx (Post.imp pq' (fun ρ1 pq σ1 A1 I1'=>?_) fun _ _ z=>z)
    refine hs H0 Hc H' σ1 ρ1 A1 _ I1' (Post.imp (Post.bind pq) (fun fl pq=>?_) fun _ _ z=>z)
    cases fl with
    | nx ρ2=>exact fun σ2 H2 A2 I2'=>⟨ρ2,A2,I2',pq⟩
    | cnt ρ2=>exact fun σ2 H2 A2 I2'=>⟨ρ2,A2,I2',pq⟩
    | brk ρ2=>exact fun σ2 H2 A2 I2'=>pq σ2 H2 A2 (back I2')
    | ret d=>exact pq
  · rintro σ' H' ⟨ρ',A',I',pq⟩
    rw [List.drop_length] at pq
    exact pq σ' H' A' (back I')
theorem sok_while {n:Nat}{tc:TT}{tb:TS}{fc:FT}{fs:FS}(hc:TOk K C E Γ Δ tc fc)(hs:SOk K C E mr Γ Δ Γ Δ Γ Δ tb fs):SOk K C E mr Γk Δk Γ Δ Γ Δ (tWhile tc tb) (Dl.sWhile n fc fs):=fun H0 Hb H σ ρ A D I p=>by
 refine ⟨fun k σ' H'=>∃ρ' A',EnvOk K C H0 Hb H' Γ Δ σ' ρ' A'∧PostS K C E mr Γk Δk Γ Δ H0 Hb D (Dl.whileD fc fs k ρ'),⟨n,ρ,A,I,p⟩,?_⟩
 rintro k σ' H' ⟨ρ',A',I',pq⟩
 cases k with
 | zero=>exact pq.elim
 | succ k =>
  refine hc H0 Hb H' σ' ρ' A' _ I' (Post.imp (Post.bind pq) (fun b pq H1 g1=>?_) fun c x q H' g'=>q H' (Same.from0 I' g'))
  cases b with
  | false =>
   simp only [Bool.false_eq_true,if_false] at pq ⊢
   exact pq σ' H1 A' (I'.mono g1)
  | true =>
   simp only [if_true] at pq ⊢
   refine ⟨fun σ2 H2=>∃ρ2 A2,EnvOk K C H0 Hb H2 Γ Δ σ2 ρ2 A2∧PostS K C E mr Γk Δk Γ Δ H0 Hb D (Dl.whileD fc fs k ρ2),fun σ2 H2 h=>⟨k,Nat.lt_succ_self k,h⟩,?_⟩
   refine hs H0 Hb H1 σ' ρ' A' _ (I'.mono g1) (Post.imp (Post.bind pq) (fun fl pq=>?_) fun _ _ z=>z)
   cases fl with
   | nx ρ2=>exact fun σ2 H2 A2 I2'=>⟨ρ2,A2,I2',pq⟩
   | cnt ρ2=>exact fun σ2 H2 A2 I2'=>⟨ρ2,A2,I2',pq⟩
   | brk ρ2=>exact fun σ2 H2 A2 I2'=>pq σ2 H2 A2 I2'
   | ret d=>exact pq
theorem start_env {N:Nat}{ds:List D}{vs:List V}{B:List Addr}{H:Hp}(r:RpA K C H ds vs B):∃A,EnvOk K C H H H [] [] (vs.map some++List.replicate (N - vs.length) none) (ds.map some++List.replicate (N - ds.length) none) A:=by
 have hl:=r.len
 have key:∀{ds:List D} {vs:List V} {B:List Addr},RpA K C H ds vs B→∃A:Nat→List Addr,(∀(i:Nat) d,ds[i]?=some d→∃v,vs[i]?=some v∧Rp K C H d v (A i))∧∀i,ds.length≤i→A i=[]:=by
  intro ds
  induction ds with
  | nil=>intro vs B r;exact ⟨fun _=>[],fun i d h=>by simp at h,fun _ _=>rfl⟩
  | cons d ds ih =>
   intro vs B r
   obtain ⟨x,l,B1,B2,e1,e2,e3,e4⟩:=r
   obtain ⟨A,h1,h2⟩:=ih e3
   subst e1
   refine ⟨fun i=>match i with | 0=>B1 | i+1=>A i,fun i d' h=>?_,fun i h=>?_⟩
   ·cases i with
    | zero=>simp at h;subst h;exact ⟨x,rfl,e2⟩
    | succ i=>simp at h;obtain ⟨v,q1,q2⟩:=h1 i d' h;exact ⟨v,by simpa using q1,q2⟩
   ·cases i with
    | zero=>simp at h
    | succ i=>exact h2 i (by simpa using h)
 obtain ⟨A,h1,h2⟩:=key r
 refine ⟨A,Same.refl _,Same.refl _,by simp [hl],fun i d h=>?_,fun i h=>?_,(fun _ h=>nomatch h),(fun _ h=>nomatch h),(fun _ h=>nomatch h)⟩
 ·by_cases hi:i<ds.length
  ·rw [getElem?_append_left (by simpa using hi),getElem?_map] at h
   obtain ⟨d',hd,e⟩:=Option.map_eq_some_iff.mp h
   cases e
   obtain ⟨v,q1,q2⟩:=h1 i d hd
   refine ⟨v,?_,q2⟩
   rw [getElem?_append_left (by simp [hl,hi]),getElem?_map,q1]
   rfl
  ·rw [getElem?_append_right (by simpa using hi)] at h
   have:=mem_of_getElem? h
   rw [List.mem_replicate] at this
   exact absurd this.2 (by intro z;cases z)
 ·by_cases hi:i<ds.length
  ·exact absurd (by rw [getElem?_append_left (by simpa using hi),getElem?_map,getElem?_eq_getElem hi];rfl) (h ds[i])
  ·exact h2 i (by omega)
theorem run_post {N:Nat}{t:TS}{f:FS}{E:XK}{ds:List D}{vs:List V}{B:List Addr}{H:Hp}{Q:VK}(h:SOk K C E mr [] [] [] [] Γ' Δ' t f)(r:RpA K C H ds vs B)
  (p:Post (Dl.run N f ds) (fun d=>∀v H',Same H H'→Res K C mr [] H (fun _=>[]) d v H'→Q v H') (fun c x=>∀H',Same H H'→EC C E c x H')) :
  t {nx:=fun _ H'=>Q .non H',rt:=Q} (vs.map some++List.replicate (N - vs.length) none) H:=by
 obtain ⟨A,I⟩:=start_env (N:=N) r
 refine h H H H _ _ A _ I (Post.imp (Post.bind p) (fun fl q=>?_) fun _ _ q=>q)
 cases fl with
 | nx ρ'=>exact fun σ' H' A' I'=>q _ H' I'.same (Res.flat ⟨rfl,rfl⟩)
 | ret d=>exact q
 | brk _=>exact q.elim
 | cnt _=>exact q.elim
end
structure JE (X:Cx)(C:String→Addr)(E:XK)(Γ Δ:List Nat)(m:Nat)(S:List (Nat×Bool))(e:Expr)(t:TE)(f:FE):Prop where
 q:QE X e t
 o:EOk X.K C E Γ Δ m S t f
structure JT (X:Cx)(C:String→Addr)(E:XK)(Γ Δ:List Nat)(e:Expr)(t:TT)(f:FT):Prop where
 q:QT X e t
 o:TOk X.K C E Γ Δ t f
structure JW (X:Cx)(C:String→Addr)(E:XK)(Γ Δ:List Nat)(e:Expr)(t:TT)(f:FT):Prop where
 q:QW X e t
 o:TOk X.K C E Γ Δ t f
structure JA (X:Cx)(C:String→Addr)(E:XK)(Γ Δ:List Nat)(m:Nat)(S:List (Nat×Bool))(e:List Expr)(n:Nat)(t:TA)(f:FA):Prop where
 q:QA X e t
 o:AOk X.K C E Γ Δ m S t f
 n:∀ρ ds,f ρ=.ok ds→ds.length=n
structure JO (X:Cx)(C:String→Addr)(E:XK)(Γ Δ:List Nat)(e:Option Expr)(t:TO)(f:FO):Prop where
 q:QO X e t
 o:OOk X.K C E Γ Δ t f
structure JI (X:Cx)(C:String→Addr)(E:XK)(Γ Δ:List Nat)(S:List (Nat×Bool))(tg e:Expr)(t:TI)(f:FI):Prop where
 q:QI X tg e t
 o:IOk X.K C E Γ Δ S t f
structure JG (X:Cx)(C:String→Addr)(Γ Δ:List Nat)(e:Expr)(t:TG)(f:FB):Prop where
 q:QG X e t
 o:BOk X.K C Γ Δ t f
structure JGs (X:Cx)(C:String→Addr)(Γ Δ:List Nat)(es:List Expr)(n:Nat)(t:TGs)(f:List D→DEnv→R DEnv):Prop where
 q:QGs X es t
 o:BsOk X.K C Γ Δ t f
 n:∀ds ρ ρ',f ds ρ=.ok ρ'→ds.length=n
structure JS (X:Cx)(C:String→Addr)(E:XK)(mr:Nat)(Γl Δl Γ Δ Γ' Δ':List Nat)(s:Stmt)(t:TS)(f:FS):Prop where
 q:QS X s t
 o:SOk X.K C E mr Γl Δl Γ Δ Γ' Δ' t f
structure JSs (X:Cx)(C:String→Addr)(E:XK)(mr:Nat)(Γl Δl Γ Δ Γ' Δ':List Nat)(s:List Stmt)(t:TS)(f:FS):Prop where
 q:QSs X s t
 o:SOk X.K C E mr Γl Δl Γ Δ Γ' Δ' t f
structure JIf (X:Cx)(C:String→Addr)(E:XK)(Γ Δ:List Nat)(e:List Expr)(t:TT)(f:FT):Prop where
 q:QIf X e t
 o:TOk X.K C E Γ Δ t f
section
variable {X:Cx}{C:String→Addr}{E:XK}{Γ Δ Γ' Δ' Γ1 Δ1 Γl Δl Γk Δk:List Nat}{m m1 m2 m3 mr:Nat}{S S1 S2 S3:List (Nat×Bool)}{a b c e st o tg iter:Expr}{es rest:List Expr}{ta tb tc te ts:TE}{fa fb fc fe fs:FE}{t:TA}{f:FA}{pos p p2 apos cpos:Pos}{n:Nat}
theorem ce_int {i:Int}{j:Nat}:JE X C E Γ Δ 2 [] (.Constant (.int i) j pos) (tC (.int i)) (Dl.fC (.int i)):=⟨qe_int,eok_c fun _=>rpI⟩
theorem ce_bl {i:Bool}{j:Nat}:JE X C E Γ Δ 2 [] (.Constant (.bool i) j pos) (tC (.bl i)) (Dl.fC (.bl i)):=⟨qe_bl,eok_c fun _=>rpB⟩
theorem ce_non {j:Nat}:JE X C E Γ Δ 2 [] (.Constant .none j pos) (tC .non) (Dl.fC .non):=⟨qe_non,eok_c fun _=>⟨rfl,rfl⟩⟩
theorem ce_str {x:Str}{j:Nat}(h:PyData.strOk x=true:=by decide +kernel):JE X C E Γ Δ 2 [] (.Constant (.str x) j pos) (tC (.str x)) (Dl.fC (.str x)):=⟨qe_str,eok_c fun _=>⟨rfl,h,rfl⟩⟩
theorem ce_v (i:Nat){x:Str}(hN:X.N[i]?=some x:=by rfl)(hv:autoParam (Vis X.env.scope x) aT3._auto_1)(hd:(x==("__debug__":Str))=false:=by decide)
  (hcd:(x==("__classdict__":Str))=false:=by decide):JE X C E Γ Δ 0 [(i,false)] (.Name x pos) (tVar i) (Dl.fV i):=⟨qv i hN hv hd hcd,eok_v⟩
theorem ce_vd (i:Nat){x:Str}(hi:i∈Δ:=by decide)(hN:X.N[i]?=some x:=by rfl)(hv:autoParam (Vis X.env.scope x) aT3._auto_1)(hd:(x==("__debug__":Str))=false:=by decide)
  (hcd:(x==("__classdict__":Str))=false:=by decide):JE X C E Γ Δ 2 [(i,false)] (.Name x pos) (tVar i) (Dl.fV i):=⟨qv i hN hv hd hcd,eok_vd hi⟩
theorem ce_flat (h:JE X C E Γ Δ m S e te fe):JE X C E Γ Δ 2 [] e te (Dl.f1 Dl.gFlat fe):=⟨h.q,eok_flat h.o⟩
theorem ce_op {op:Operator}{r:R2}{g:D→D→Option D}(ho:OpR X (binaryOp op) r)(hg:GOk X.K C r g)(ha:JE X C E Γ Δ m1 S1 a ta fa)(hb:JE X C E Γ Δ m2 S2 b tb fb):JE X C E Γ Δ 2 [] (.BinOp a op b pos) (tOp r ta tb) (Dl.f2 g fa fb):=⟨qe_op ho ha.q hb.q,eok_op hg ha.o hb.o⟩
theorem ce_neg (ha:JE X C E Γ Δ m1 S1 a ta fa):JE X C E Γ Δ 2 [] (.UnaryOp .USub a pos) (tUn (rU fun i=>.int (-i)) ta) (Dl.f1 Dl.gNeg fa):=⟨qe_un un_neg ha.q,eok_un (fun H x d vx Bx Q r e q=>by
  unfold Dl.gNeg at e
  split at e
  · cases e
    obtain ⟨rfl,_⟩:=r
    exact rd_U (Out.flat q rpI)
  · cases e) ha.o⟩
theorem ce_cmp {op:CmpOp}{r:R2}{g:D→D→Option D}(ho:OpR X (compareOp op) r)(hg:GOk X.K C r g)(ha:JE X C E Γ Δ m1 S1 a ta fa)(hb:JE X C E Γ Δ m2 S2 b tb fb)(hm:behindInMarks op b=false):JE X C E Γ Δ 2 [] (.Compare a [op] [b] pos) (tOp r ta tb) (Dl.f2 g fa fb):=⟨qe_cmpR ho ha.q hb.q hm,eok_op hg ha.o hb.o⟩
theorem ct_cmp {op:CmpOp}{r:R2}{g:D→D→Option D}(ho:OpR X (compareOp op) r)(hg:GOk X.K C r g)(ha:JE X C E Γ Δ m1 S1 a ta fa)(hb:JE X C E Γ Δ m2 S2 b tb fb)(hm:behindInMarks op b=false):JT X C E Γ Δ (.Compare a [op] [b] pos) (tTest (tOp r ta tb)) (Dl.cE (Dl.f2 g fa fb)):=⟨qt_cmpR ho ha.q hb.q hm,tok_test (eok_op hg ha.o hb.o)⟩
theorem ce_one {op:BoolOp}(h:JE X C E Γ Δ m S a ta fa):JE X C E Γ Δ m S (.BoolOp op [a] pos) ta fa:=⟨qe_one h.q,h.o⟩
theorem ce_and (ha:JE X C E Γ Δ m1 S1 a ta fa)(hb:JE X C E Γ Δ m S (.BoolOp .And (b::rest) pos) tb fb):JE X C E Γ Δ m S (.BoolOp .And (a::b::rest) pos) (tAndV ta tb) (Dl.fAnd fa fb):=⟨qe_and ha.q hb.q,eok_and ha.o hb.o⟩
theorem ct_val (h:JE X C E Γ Δ m S e te fe)(he:∀whole,isTrue e X.env whole=(do let v ← whole;standAt e.pos;holding [v] (truthy v)):=by intro _;rfl):JT X C E Γ Δ e (tB te) (Dl.cE fe):=⟨qt_val h.q he,tok_B h.o⟩
theorem ct_not {tA:TT}{fA:FT}(ha:JT X C E Γ Δ a tA fA):JT X C E Γ Δ (.UnaryOp .Not a pos) (tNot tA) (Dl.cNot fA):=⟨qt_not ha.q,tok_not ha.o⟩
theorem cw_and1 {tA:TT}{fA:FT}(ha:JT X C E Γ Δ a tA fA):JW X C E Γ Δ (.BoolOp .And [a] pos) tA fA:=⟨qw_and1 ha.q,ha.o⟩
theorem cw_or1 {tA:TT}{fA:FT}(ha:JT X C E Γ Δ a tA fA):JW X C E Γ Δ (.BoolOp .Or [a] pos) tA fA:=⟨qw_or1 ha.q,ha.o⟩
theorem cw_and {tA tB':TT}{fA fB:FT}(ha:JT X C E Γ Δ a tA fA)(hb:JW X C E Γ Δ (.BoolOp .And (b::rest) pos) tB' fB):JW X C E Γ Δ (.BoolOp .And (a::b::rest) pos) (tAnd tA tB') (Dl.cAnd fA fB):=⟨qw_and ha.q hb.q,tok_and ha.o hb.o⟩
theorem cw_or {tA tB':TT}{fA fB:FT}(ha:JT X C E Γ Δ a tA fA)(hb:JW X C E Γ Δ (.BoolOp .Or (b::rest) pos) tB' fB):JW X C E Γ Δ (.BoolOp .Or (a::b::rest) pos) (tOr tA tB') (Dl.cOr fA fB):=⟨qw_or ha.q hb.q,tok_or ha.o hb.o⟩
theorem ct_w {tA:TT}{fA:FT}(h:JW X C E Γ Δ a tA fA):JT X C E Γ Δ a tA fA:=⟨qt_w h.q,h.o⟩
theorem ca_nil:JA X C E Γ Δ 2 [] [] 0 tNil Dl.aNil:=⟨qa_nil,aok_nil,len_nil⟩
theorem ca_cons (ha:JE X C E Γ Δ m1 S1 e te fe)(hr:JA X C E Γ Δ m2 S2 es n t f)(hs:starEach (e::es) X.env=(false,eval e X.env)::starEach es X.env):JA X C E Γ Δ 0 (S1++S2) (e::es) (n+1) (tCons te t) (Dl.aCons fe f):=⟨qa_cons ha.q hr.q hs,aok_cons ha.o hr.o,len_cons hr.n⟩
theorem ca_cons2 (ha:JE X C E Γ Δ 2 [] e te fe)(hr:JA X C E Γ Δ 2 [] es n t f)(hs:starEach (e::es) X.env=(false,eval e X.env)::starEach es X.env):JA X C E Γ Δ 2 [] (e::es) (n+1) (tCons te t) (Dl.aCons fe f):=
 ⟨qa_cons ha.q hr.q hs,aok_consD (S1:=[]) (S2:=[]) ha.o hr.o (fun _ h=>nomatch h) (fun _ h=>nomatch h),len_cons hr.n⟩
theorem ce_tup {x1:Nat}(h:JA X C E Γ Δ 2 S es n t f):JE X C E Γ Δ 2 S (.Tuple es x1 pos) (tTup t) (Dl.fA Dl.gTup f):=⟨qe_tup h.q,eok_tup (.inr rfl) h.o⟩
theorem ce_lst (h:JA X C E Γ Δ 2 S es n t f):JE X C E Γ Δ 2 S (.List es pos) (tLst t) (Dl.fA Dl.gLst f):=⟨qe_lst h.q,eok_lst h.o⟩
theorem ce_lst1 (h:JA X C E Γ Δ m S es n t f):JE X C E Γ Δ 1 S (.List es pos) (tLst t) (Dl.fA Dl.gLst f):=⟨qe_lst h.q,eok_lst1 h.o⟩
theorem ce_ix (K:Frag)(ha:JE X C E Γ Δ m1 S1 a ta fa)(hb:JE X C E Γ Δ m2 S2 b tb fb)(hs:PlainIx b)(hK:X.K=K:=by rfl):JE X C E Γ Δ 0 S1 (.Subscript a b pos) (tOp (rIx K) ta tb) (Dl.f2 Dl.gIx fa fb):=by
 subst hK
 exact ⟨qe_ix ix_seq ha.q hb.q hs,eok_ix ha.o hb.o⟩
theorem co_none:JO X C E Γ Δ none tNoPart Dl.oNone:=⟨qo_none,ook_none⟩
theorem co_some (h:JE X C E Γ Δ m S e te fe):JO X C E Γ Δ (some e) (tPart te) (Dl.oSome fe):=⟨qo_some h.q,ook_some h.o⟩
theorem ce_sl (K:Frag){lo hi:Option Expr}{tl th:TO}{fl fh:FO}(he:JE X C E Γ Δ m S e te fe)(hl:JO X C E Γ Δ lo tl fl)(hu:JO X C E Γ Δ hi th fh)(hK:X.K=K:=by rfl):JE X C E Γ Δ 2 [] (.Subscript e (.Slice lo hi none p2) pos) (tSl (rSlL K) te tl th) (Dl.fSl Dl.gSl fe fl fh):=by
 subst hK
 exact ⟨qe_slice sl_list he.q hl.q hu.q,eok_sl he.o hl.o hu.o⟩
theorem ce_rev (K:Frag)(he:JE X C E Γ Δ m S e te fe)(hst:JE X C E Γ Δ m2 S2 st ts fs)(hK:X.K=K:=by rfl):JE X C E Γ Δ 2 [] (.Subscript e (.Slice none none (some st) p2) pos) (tRev K te ts) (Dl.f2 Dl.gRev fe fs):=by
 subst hK
 exact ⟨qe_rev he.q hst.q,eok_rev he.o hst.o⟩
theorem ce_call {K:Frag}{CX:CXT}{k:Nat}{ps:List Str}{F:List D→R D}{x:Str}(Df:Def X.prog X.w X.K X.mg X.base CX k x ps (spD K C n mr F))(hr:Room k X.A)(hg:Gl X x)(hx:Passes CX X E)
  (ha:JA X C E Γ Δ m S (e::es) n t f) (hdb:(x==("__debug__":Str))=false:=by decide) (he:starEach (e::es) X.env=(false,eval e X.env)::starEach es X.env:=by rfl) (hpl:(backTo pos (starEach es X.env)).any (·.1)=false:=by rfl) (hK:X.K=K:=by rfl) :
  JE X C E Γ Δ mr [] (.Call (.Name x p) (e::es) [] pos) (tCall (spD K C n mr F) [] E t) (Dl.fCall F f):=by
 subst hK
 exact ⟨qe_callD Df hr hg hx ha.q hdb he hpl,eok_call ha.o ha.n⟩
theorem ce_callB {x:Str}{id:String}{r:List V→Hp→VK→Prop}{g:List D→Option D}(hc:CallR X (.builtin id) r)(hgk:GAk X.K C r g)(hg:Gl X x)(hm:X.mg x=none)(hv:bootBuiltins x=some (.builtin id))(ha:JA X C E Γ Δ m S (e::es) n t f)(hn:x≠"__name__":=by decide)(hdb:(x==("__debug__":Str))=false:=by decide)
  (he:starEach (e::es) X.env=(false,eval e X.env)::starEach es X.env:=by rfl) (hpl:(backTo pos (starEach es X.env)).any (·.1)=false:=by rfl):JE X C E Γ Δ 2 [] (.Call (.Name x p) (e::es) [] pos) (tCB r t) (Dl.fA g f):=⟨qe_callB hc hg hm hv ha.q hn hdb he hpl,eok_cb hgk ha.o⟩
theorem ce_callTy {x:Str}{T:String}{r:List V→Hp→VK→Prop}{g:List D→Option D}(hc:CallR X (.type T) r)(hgk:GAk X.K C r g)(hg:Gl X x)(hm:X.mg x=none)(hv:bootBuiltins x=some (.type T))(ha:JA X C E Γ Δ m S (e::es) n t f)(hn:x≠"__name__":=by decide)(hdb:(x==("__debug__":Str))=false:=by decide)
  (he:starEach (e::es) X.env=(false,eval e X.env)::starEach es X.env:=by rfl) (hpl:(backTo pos (starEach es X.env)).any (·.1)=false:=by rfl):JE X C E Γ Δ 2 [] (.Call (.Name x p) (e::es) [] pos) (tCB r t) (Dl.fA g f):=⟨qe_callTy hc hg hm hv ha.q hn hdb he hpl,eok_cb hgk ha.o⟩
theorem ci_list (h:JE X C E Γ Δ m S e te fe):JI X C E Γ Δ S tg e (iList X.K te) (Dl.jList fe):=⟨qi_list h.q,iok_list h.o⟩
theorem ci_rng1 (hg:Gl X "range")(hm:X.mg "range"=none)(ha:JA X C E Γ Δ m S [a] n t f)(hs:starEach [a] X.env=[(false,eval a X.env)]:=by rfl):JI X C E Γ Δ [] tg (.Call (.Name "range" p) [a] [] pos) (iRng1 t) (Dl.jRng1 f):=⟨qi_range1 hg hm ha.q hs,iok_rng1 ha.o⟩
theorem ci_rng2 (hg:Gl X "range")(hm:X.mg "range"=none)(ha:JA X C E Γ Δ m S [a,b] n t f)(hs:starEach [a,b] X.env=[(false,eval a X.env),(false,eval b X.env)]:=by rfl)(hs2:starEach [b] X.env=[(false,eval b X.env)]:=by rfl):JI X C E Γ Δ [] tg (.Call (.Name "range" p) [a,b] [] pos) (iRng2 t) (Dl.jRng2 f):=⟨qi_range2 hg hm ha.q hs hs2,iok_rng2 ha.o⟩
theorem cg_name {i:Nat}{x:Str}(h1:i∉Γ:=by decide)(h2:i∉Δ:=by decide)(hN:X.N.Nodup)(hi:X.N[i]?=some x)(hx:Loc X.env.scope x)(hf:autoParam (X.fn x=true∨X.env.scope.names.lookup x=some .local) aT0._auto_1):JG X C Γ Δ (.Name x pos) (gName i) (Dl.bName i):=⟨qg_name hN hi hx hf,bok_name h1 h2⟩
theorem cif_nil:JIf X C E Γ Δ [] tYes Dl.cYes:=⟨qif_nil,tok_yes⟩
theorem cif_one {tA:TT}{fA:FT}(h:JT X C E Γ Δ c tA fA):JIf X C E Γ Δ [c] tA fA:=⟨qif_one h.q,h.o⟩
structure JB (X:Cx)(C:String→Addr)(n k:Nat)(e:Expr)(t:TG)(f:FB):Prop where
 q:QG X e t
 o:NOk X.K C n k t f
structure JBs (X:Cx)(C:String→Addr)(n k:Nat)(es:List Expr)(l:Nat)(t:TGs)(f:List D→DEnv→R DEnv):Prop where
 q:QGs X es t
 o:NsOk X.K C n k t f
 n:∀ds ρ ρ',f ds ρ=.ok ρ'→ds.length=l
theorem cb_name {k:Nat}(i:Nat){x:Str}(hN:X.N.Nodup:=by decide +kernel)(hi:X.N[i]?=some x:=by rfl)(hx:Loc X.env.scope x:=by exact .inl rfl)(hf:X.fn x=true∨X.env.scope.names.lookup x=some .local:=by exact .inr rfl)(h1:n≤i:=by decide)(h2:i<n+k:=by decide):JB X C n k (.Name x pos) (gName i) (Dl.bName i):=⟨qg_name hN hi hx hf,nok_name i h1 h2⟩
theorem cbs_nil {k:Nat}:JBs X C n k [] 0 gNil Dl.bNil:=⟨qgs_nil,nok_nil,bn_nil⟩
theorem cbs_cons {k l:Nat}{tt:TG}{u:TGs}{fb:FB}{fu:List D→DEnv→R DEnv}(h1:JB X C n k e tt fb)(h2:JBs X C n k es l u fu)(hs:(assignEach (e::es) X.env).map (·.2)=assign e X.env::(assignEach es X.env).map (·.2):=by rfl):JBs X C n k (e::es) (l+1) (gCons tt u) (Dl.bCons fb fu):=⟨qgs_cons h1.q h2.q hs,nok_cons h1.o h2.o,bn_cons h2.n⟩
theorem cb_tup (K:Frag){k l kk:Nat}{u:TGs}{fu:List D→DEnv→R DEnv}(h:JBs X C n k es l u fu)(hc:X.calm=true:=by rfl)(hn:(assignEach es X.env).length=l:=by rfl)(hst:(assignEach es X.env).findIdx? (·.1)=none:=by rfl)(hK:X.K=K:=by rfl):JB X C n k (.Tuple es kk pos) (gTup K l u) (Dl.bTup fu):=by
 subst hK
 exact ⟨qg_tup hc h.q hn hst,nok_tup h.n h.o⟩
theorem ce_comp {elt:Expr}{ifs:List Expr}{sc:Scope}{wi:TI}{tc:TT}{gg:TG}{fi:FI}{fc:FT}{fg:FB}(esc:Scope)(N N2 xs:List Str)(B:BlkN sc esc xs N N2)(hi:JI X C E Γ Δ S tg iter wi fi)(hg:∀cl C' s0 H0 fp,JB (X.blkN N2 xs sc cl C' s0 H0 fp) C n xs.length tg gg fg)(ht:∀cl C' s0 H0 fp,JIf (X.blkN N2 xs sc cl C' s0 H0 fp) C E0 [] [] ifs tc fc)(he:∀cl C' s0 H0 fp,JE (X.blkN N2 xs sc cl C' s0 H0 fp) C E0 [] [] 2 [] elt te fe)
  (hesc:X.env.scope=esc:=by rfl) (hN:X.N=N:=by rfl) (hc:X.calm=true:=by rfl) (hs:∀v,foldedSetIterable iter X.env v=pure v:=by intro _;rfl):JE X C E Γ Δ 2 [] (.ListComp elt [⟨tg,iter,ifs,0⟩] sc pos) (tCompN xs.length gg wi tc te) (Dl.fComp n xs.length fi fg fc fe):=
 ⟨qe_compN esc N N2 xs B hi.q (fun cl C' s0 H0 fp=>(hg cl C' s0 H0 fp).q) (fun cl C' s0 H0 fp=>(ht cl C' s0 H0 fp).q) (fun cl C' s0 H0 fp=>(he cl C' s0 H0 fp).q) hesc hN hc hs,eok_comp hi.o (hg [] 0 X.s₀ X.H₀ []).o (ht [] 0 X.s₀ X.H₀ []).o (he [] 0 X.s₀ X.H₀ []).o⟩
variable {s1:Stmt}{ss body other:List Stmt}{u v:TS}{g h:FS}{pos':Pos}
theorem css_nil:JSs X C E mr Γl Δl Γ Δ Γ Δ [] tNext Dl.sNx:=⟨qss_nil,sok_nx⟩
theorem css_cons (Γ1 Δ1:List Nat)(h1:JS X C E mr Γl Δl Γ Δ Γ1 Δ1 s1 u g)(h2:JSs X C E mr Γl Δl Γ1 Δ1 Γ' Δ' ss v h):JSs X C E mr Γl Δl Γ Δ Γ' Δ' (s1::ss) (tSeq u v) (Dl.sSeq g h):=⟨qss_cons h1.q h2.q,sok_seq h1.o h2.o⟩
theorem css_one (h1:JS X C E mr Γl Δl Γ Δ Γ' Δ' s1 u g):JSs X C E mr Γl Δl Γ Δ Γ' Δ' [s1] u g:=⟨qss_one h1.q,h1.o⟩
theorem css_weak (Γ1 Δ1:List Nat)(h:JSs X C E mr Γl Δl Γ Δ Γ1 Δ1 ss u g)(h1:∀i∈Γ',i∈Γ1:=by decide)(h2:∀i∈Δ',i∈Δ1:=by decide):JSs X C E mr Γl Δl Γ Δ Γ' Δ' ss u g:=⟨h.q,sok_weak h.o h1 h2⟩
theorem cs_never:JS X C E mr Γl Δl Γ Δ Γ' Δ' s1 tNever Dl.sNever:=⟨qs_never,sok_never⟩
theorem cs_ret (he:JE X C E Γ Δ 2 S e te fe)(h0:∀p∈S,p.1∈Δ:=by decide):JS X C E 2 Γl Δl Γ Δ Γ' Δ' (.Return (some e) pos) (tRet te) (Dl.sRet fe):=⟨qs_ret he.q,sok_ret2 he.o h0⟩
theorem cs_ret0 (he:JE X C E Γ Δ m S e te fe)(h0:∀p∈S,p.1∈Γ:=by decide):JS X C E 0 Γl Δl Γ Δ Γ' Δ' (.Return (some e) pos) (tRet te) (Dl.sRet fe):=⟨qs_ret he.q,sok_ret0 he.o h0⟩
theorem cs_if {tA:TT}{fA:FT}(hc:JT X C E Γ Δ c tA fA)(ha:JSs X C E mr Γl Δl Γ Δ Γ' Δ' body u g)(hb:JSs X C E mr Γl Δl Γ Δ Γ' Δ' other v h):JS X C E mr Γl Δl Γ Δ Γ' Δ' (.If c body other pos) (tIfS tA u v) (Dl.sIf fA g h):=⟨qs_if hc.q ha.q hb.q,sok_if hc.o ha.o hb.o⟩
theorem cs_set {i:Nat}{x:Str}(hN:X.N.Nodup)(hi:X.N[i]?=some x)(hx:Loc X.env.scope x)(he:JE X C E Γ Δ 2 [] e te fe)(hs:swapsWith e (some (.Name x pos')) pos.line X.env=pure false:=by rfl)(hf:autoParam (X.fn x=true∨X.env.scope.names.lookup x=some .local) aT0._auto_1)
  (h1:∀j∈Γ',j=i∨j∈Γ:=by decide) (h2:∀j∈Δ',j=i∨j∈Δ:=by decide):JS X C E mr Γl Δl Γ Δ Γ' Δ' (.Assign [.Name x pos'] e pos) (tAsg te (gName i)) (Dl.sSet i fe):=⟨qs_set hN hi hx he.q hs hf,sok_set2 he.o h1 h2⟩
theorem cs_set1 {i:Nat}{x:Str}(hN:X.N.Nodup)(hi:X.N[i]?=some x)(hx:Loc X.env.scope x)(he:JE X C E Γ Δ 1 S e te fe)(hs:swapsWith e (some (.Name x pos')) pos.line X.env=pure false:=by rfl)(hf:autoParam (X.fn x=true∨X.env.scope.names.lookup x=some .local) aT0._auto_1)
  (h0:∀p∈S,p.1∈Γ:=by decide) (h1:∀j∈Γ',j=i∨(j∈Γ∧(j,false)∉S):=by decide) (h2:∀j∈Δ',j≠i∧j∈Δ∧∀p∈S,p.1≠j:=by decide):JS X C E mr Γl Δl Γ Δ Γ' Δ' (.Assign [.Name x pos'] e pos) (tAsg te (gName i)) (Dl.sSet i fe):=⟨qs_set hN hi hx he.q hs hf,sok_set1 he.o h0 h1 h2⟩
theorem cs_setC {elt:Expr}{y:Str}{py spos:Pos}{ifs:List Expr}{sc:Scope}{wi:TI}{tc:TT}{gg:TG}{fi:FI}{fc:FT}{fg:FB}{i:Nat}(esc:Scope)(N N2 xs:List Str)(B:BlkN sc esc xs N N2)(hy:N[i]?=some y)(hl:esc.names.lookup y=some .local)(hi:JI X C E Γ Δ S tg iter wi fi)(hg:∀cl C' s0 H0 fp,JB (X.blkN N2 xs sc cl C' s0 H0 fp) C n xs.length tg gg fg)(ht:∀cl C' s0 H0 fp,JIf (X.blkN N2 xs sc cl C' s0 H0 fp) C E0 [] [] ifs tc fc)(he:∀cl C' s0 H0 fp,JE (X.blkN N2 xs sc cl C' s0 H0 fp) C E0 [] [] 2 [] elt te fe)
  (hesc:X.env.scope=esc:=by rfl) (hN:X.N=N:=by rfl) (hc:X.calm=true:=by rfl) (hsw:swapsWith (.ListComp elt [⟨tg,iter,ifs,0⟩] sc pos) (some (.Name y py)) spos.line X.env=pure true:=by rfl) (hs:∀v,foldedSetIterable iter X.env v=pure v:=by intro _;rfl)
  (h1:∀j∈Γ',j=i∨j∈Γ:=by decide) (h2:∀j∈Δ',j=i∨j∈Δ:=by decide):JS X C E mr Γl Δl Γ Δ Γ' Δ' (.Assign [.Name y py] (.ListComp elt [⟨tg,iter,ifs,0⟩] sc pos) spos) (tAsg (tCompN xs.length gg wi tc te) (gName i)) (Dl.sSet i (Dl.fComp n xs.length fi fg fc fe)):=
 ⟨qs_compN esc N N2 xs B hy hl hi.q (fun cl C' s0 H0 fp=>(hg cl C' s0 H0 fp).q) (fun cl C' s0 H0 fp=>(ht cl C' s0 H0 fp).q) (fun cl C' s0 H0 fp=>(he cl C' s0 H0 fp).q) hesc hN hc hsw hs,sok_set2 (eok_comp hi.o (hg [] 0 X.s₀ X.H₀ []).o (ht [] 0 X.s₀ X.H₀ []).o (he [] 0 X.s₀ X.H₀ []).o) h1 h2⟩
theorem cs_app {i:Nat}{x:Str}(hi:i∈Γ:=by decide)(hN:X.N[i]?=some x:=by rfl)(hv:autoParam (Vis X.env.scope x) aT3._auto_1)(hd:(x==("__debug__":Str))=false:=by decide)(hcd:(x==("__classdict__":Str))=false:=by decide)
  (he:JE X C E Γ Δ 2 [] e te fe) (hse:starEach [e] X.env=(false,eval e X.env)::starEach [] X.env)
  (hbase:attributeBase (.Name x p) "append" X.env (eval (.Name x p) X.env)=eval (.Name x p) X.env:=by rfl)
  (hfew:((backTo cpos (starEach [e] X.env)).all (fun x=>!x.1)&&(backToKw cpos (keywordEach [] X.env)).all (fun x=>x.1.isSome)&&decide (([e]:List Expr).length+([]:List Keyword).length+(if ([]:List Keyword).isEmpty then 0 else 1)<30))=true:=by rfl)
  (hline:(apos.endLine==cpos.line)=true:=by rfl) (hplain:(backTo cpos (starEach ([]:List Expr) X.env)).any (·.1)=false:=by rfl) (hsw:swapsWith (.Call (.Attribute (.Name x p) "append" apos) [e] [] cpos) none pos.line X.env=pure false:=by rfl) :
  JS X C E mr Γl Δl Γ Δ Γ Δ (.Expr (.Call (.Attribute (.Name x p) "append" apos) [e] [] cpos) pos) (tDrop (tBM X.K "list" rAppend (tVar i) (tCons te tNil))) (Dl.sApp i fe):=
 ⟨qs_expr (qe_bm PySem.F.plainAttrs_list PySem.F.slot_list_append PySem.F.type_list_append mt_append (qv i hN hv hd hcd) (qa_cons he.q qa_nil hse) hbase hfew hline hse hplain) hsw,sok_app2 hi he.o⟩
theorem cs_for {wi:TI}{tt:TG}{fi:FI}{fb:FB}(Γl Δl:List Nat)(hp:PassesOwn (model X.prog X.w) X.A X.env X.xe)(hc:X.calm=true)(hi:JI X C E Γ Δ S tg iter wi fi)(hg:JG X C Γl Δl tg tt fb)(hb:JSs X C E mr Γl Δl Γl Δl Γl Δl body u g)(hs:∀x,foldedSetIterable iter X.env x=pure x:=by intro _;rfl)
  (h1:∀i∈Γl,i∈Γ:=by decide) (h2:∀i∈Δl,i∈Δ:=by decide) (h3:∀p∈S,p.1∉Γl∧p.1∉Δl:=by decide):JS X C E mr Γk Δk Γ Δ Γl Δl (.For tg iter body [] pos) (tFor wi tt u) (Dl.sFor fi fb g):=⟨qs_for hp hc hi.q hg.q hb.q hs,sok_for hi.o hg.o hb.o h1 h2 h3⟩
theorem cs_while {tA:TT}{fA:FT}(k:Nat)(hp:PassesOwn (model X.prog X.w) X.A X.env X.xe)(hc:JT X C E Γ Δ c tA fA)(hb:JSs X C E mr Γ Δ Γ Δ Γ Δ body u g):JS X C E mr Γk Δk Γ Δ Γ Δ (.While c body [] pos) (tWhile tA u) (Dl.sWhile k fA g):=⟨qs_while hp hc.q hb.q,sok_while hc.o hb.o⟩
end
theorem Fun.okC {P:Program}{w:World}{K:Frag}{C:String→Addr}{mg:Str→Option Value}{base:Heap}{x qual:Str}{st:Stmt}{f:Addr}{fd:FuncData}{N ps:List Str}{k n mr:Nat}{Γ' Δ':List Nat}{g:FS}(F:Fun K x qual st f fd)(S:FnScope N ps (defScope st))(hn:ps.length=n)
    (hbody:∀(cdv:Value) (A:Around) (outer:List Env) (s:Shared) (H:Hp) (E:XK),Room k (A.deeper (envOfC qual (defScope st) s.heap.objs.size f cdv))→
      ∃t,JSs (cxOf CX0 P w K mg base N qual (defScope st) f cdv A outer s H E).nox C E0 mr [] [] [] [] Γ' Δ' (defBody st) t g):FnOk P w K mg base CX0 (k+1) f fd ps (spD K C n mr fun ds=>(Dl.run N.length g ds).calm):=
  F.okQ S (fun vs H Q E h=>by
    obtain ⟨ds,B,h1,h2,_⟩:=h
    rw [h2.len,h1,hn]) fun cdv A outer s H vs Q E hr h=>by
    obtain ⟨ds,B,h1,h2,h3⟩:=h
    obtain ⟨t,ht⟩:=hbody cdv A outer s H E hr
    exact ⟨t,ht.q,run_post (K:=K) ht.o h2 (Post.imp (calm_of h3) (fun _ q=>q) fun _ _ z=>z.elim)⟩
section
variable {K:Frag}{C:String→Addr}{E:XK}{Γ Δ Γ' Δ' Γ1 Δ1 Γl Δl Γk Δk:List Nat}{m m1 m2 m3 mr:Nat}{S S1 S2 S3:List (Nat×Bool)}{H:Hp}{Q:VK}
def Kit (c:String):Prop:=∀(K:Frag) (d:D) (b:Bool),Dl.gIsI c d=some (.bl b)→kitOne K (.type (Dl.tyName d)) (.type c)=some b
theorem kit_int:Kit "int":=fun K d b h=>by cases d<;>cases h<;>rfl
theorem kit_bool:Kit "bool":=fun K d b h=>by cases d<;>cases h<;>rfl
theorem eok_isI {c:String}(hk:Kit c){ta:TE}{fa:FE}(ha:EOk K C E Γ Δ m S ta fa):EOk K C E Γ Δ 2 [] (tCB (rIsI K) (tCons ta (tCons (tC (.ty c)) tNil))) (Dl.f1 (Dl.gIsI c) fa):=fun H0 Hb H σ ρ A Q I p =>
  ha H0 Hb H σ ρ A _ I (p.bind.imp (fun x q v H1 g1 r=>by
    obtain ⟨d,e,q⟩:=oR_ok q
    obtain ⟨B,r,_⟩:=r
    have out:∀b t,d=.bl b→TyOf K H1 v t→t=.type (Dl.tyName x)→rIsI K [v,.ty c] H1 Q:=fun b t ed ty et=>by
      subst ed et
      exact rd_isI ty (hk K x b e) (q _ H1 g1 (Res.flat rpB))
    show rIsI K [v,.ty c] H1 Q
    cases x with
    | non=>cases e;exact out _ _ rfl (by rw [r.1];exact .non) rfl
    | bl b=>cases e;exact out _ _ rfl (by rw [r.1];exact .bl _) rfl
    | int i=>cases e;exact out _ _ rfl (by rw [r.1];exact .int _) rfl
    | str z=>cases e;exact out _ _ rfl (by rw [r.1];exact .str _) rfl
    | lst ds =>
      cases e
      obtain ⟨a,xs,B,rfl,e2,_⟩:=r
      exact out _ _ rfl (.lst e2) rfl
    | tup ds =>
      cases e
      obtain ⟨a,xs,rfl,e2,_⟩:=r
      exact out _ _ rfl (.tup e2) rfl
    | scr _=>cases e
    | rng _ _=>cases e
    | exc _ _=>cases e
    | obj _ _ _=>cases e
    | dct _ _=>cases e
    | dtt _ _=>cases e) fun c x q H' g'=>q H' g')
theorem EnvOk.rewrite {H0 Hb H H1:Hp}{σ:St}{ρ:DEnv}{A:Nat→List Addr}{i:Nat}{a:Addr}{l B':List Addr}{es:List D}{ys:List V}(I:EnvOk K C H0 Hb H Γ Δ σ ρ A)(g1:Same H H1)(hi:i∈Γ)(hA:A i=a::l)(hl:i<ρ.length)(s1:σ[i]?=some (some (.ref a)))(r:RpA K C H1 es ys B')
    (hB:∀b∈B',b∈l∨H b=none) (hD:i∈Δ→B'.Nodup):∃A',EnvOk K C H0 Hb (upd H1 a (.lst ys)) Γ Δ σ (ρ.set i (some (.lst es))) A':=by
  obtain ⟨tb,ta,tt⟩:=I.top i hi a l hA
  have ha:a∈A i:=by rw [hA];exact .head _
  have w1:∀b∈B',H0 b=none:=fun b hb=>(hB b hb).elim (fun z=>I.loc i hi b (by rw [hA];exact .tail _ z)) fun z=>I.s0.free (I.same.free z)
  have w0:a∉B':=fun z=>(hB a z).elim ta fun z=>I.ne ha z
  have w2:∀j∈Γ,j≠i→j∈Γ∧∀b l',A j=b::l'→b∉B':=fun j hj e=>⟨hj,fun b l' e' z=>(hB b z).elim
    (fun z=>(I.top j hj b l' e').2.2 i (fun w=>e w.symm) (by rw [hA];exact .tail _ z)) fun z=>I.ne (j:=j) (by rw [e'];exact .head _) z⟩
  have w3:∀j∈Δ,j≠i→j∈Δ∧∀b∈A j,b∉B':=fun j hj e=>⟨hj,fun b hb z=>(hB b z).elim
    (fun z=>(I.deep j hj).2.1 i (fun w=>e w.symm) b hb (by rw [hA];exact .tail _ z)) fun z=>I.ne hb z⟩
  have w4:i∈Δ→B'.Nodup∧(∀j,j≠i→∀b∈B',b∉A j)∧∀b∈B',Hb b=none:=fun hd=>by
    obtain ⟨d1,d2,d3⟩:=I.deep i hd
    rw [hA] at d2 d3
    exact ⟨hD hd,fun j hj b hb=>(hB b hb).elim (fun z=>d2 j hj b (.tail _ z)) fun z w=>I.ne w z,fun b hb=>(hB b hb).elim (fun z=>d3 b (.tail _ z)) fun z=>I.same.free z⟩
  exact (I.mono g1).write (Γ':=Γ) (Δ':=Δ) hi hA hl s1 r w1 w0 w2 w3 w4
theorem sok_ext {i:Nat}{te:TE}{fe:FE}(hi:i∈Γ:=by decide)(he:EOk K C E Γ Δ 2 [] te fe):SOk K C E mr Γl Δl Γ Δ Γ Δ (tDrop (tBM K "list" rExtend (tVar i) (tCons te tNil))) (Dl.sExt i fe):=fun H0 Hb H σ ρ A D I p=>by
 unfold Dl.sExt at p
 split at p
 ·rename_i ds e
  obtain ⟨a,xs,l,s1,h1,r1,hA,hl⟩:=slot_lst I e
  refine ⟨.ref a,s1,.inl ⟨rfl,xs,SqL.of h1⟩,he H0 Hb H σ ρ A _ I (Post.imp (Post.bind p) (fun d q v H1 g1 r=>?_) fun c x q H' g'=>q H' (Same.from0 I g'))⟩
  obtain ⟨B,r2,r3,_,r4⟩:=r
  have hn:∀a∈B,H a=none:=fun a ha=>(r3 a ha).elim id fun z=>z.none.elim
  cases d with
  | lst es =>
   simp only at q
   split at q
   ·rename_i hz
    obtain ⟨b,zs,B2,rfl,e2,e3,e4⟩:=r2
    subst e4
    have nd:=r4 rfl
    show rExtend (.ref a) [.ref b] H1 fun _ H3=>D.nx σ H3
    refine ⟨a,b,xs,zs,rfl,rfl,g1 _ _ h1,e2,by rw [r1.len,e3.len];exact limLine hz,?_⟩
    obtain ⟨A',I'⟩:=I.rewrite g1 hi hA hl s1 ((r1.same g1).app e3) (fun b hb=>(List.mem_append.mp hb).imp id fun z=>hn b (.tail _ z)) fun hd=>by
     obtain ⟨d1,_⟩:=I.deep i hd
     rw [hA] at d1
     refine List.nodup_append.mpr ⟨(List.nodup_cons.mp d1).2,(List.nodup_cons.mp nd).2,fun x hx y hy e=>?_⟩
     subst e
     exact I.ne (j:=i) (by rw [hA];exact .tail _ hx) (hn x (.tail _ hy))
    exact q _ _ A' I'
   ·exact q.elim
  | _=>exact q.elim
 ·exact p.elim
def BsN (K:Frag)(C:String→Addr)(Γ Δ Γ' Δ':List Nat)(g:TGs)(b:List D→DEnv→R DEnv):Prop:=∀(H0 Hb H:Hp) (σ:St) (ρ:DEnv) (A:Nat→List Addr) (d:List D) (v:List V) (B:List Addr) (Rr:St→Hp→Prop),EnvOk K C H0 Hb H Γ Δ σ ρ A→RpA K C H d v B→B.Nodup→(∀a∈B,Hb a=none∧∀j,a∉A j)→
 Post (b d ρ) (fun ρ'=>∀σ' A',EnvOk K C H0 Hb H Γ' Δ' σ' ρ' A'→Rr σ' H) (fun _ _=>False)→g v σ H Rr
theorem bsn_nil (h1:∀i∈Γ',i∈Γ)(h2:∀i∈Δ',i∈Δ):BsN K C Γ Δ Γ' Δ' gNil Dl.bNil:=fun H0 Hb H σ ρ A d v B Rr I r _ _ p=>by
 cases d with
 | nil=>exact ⟨r.1,p _ A (I.weak h1 h2)⟩
 | cons _ _=>exact p.elim
theorem bsn_cons {i:Nat}{gs:TGs}{bs:List D→DEnv→R DEnv}(h2:BsN K C (i::Γ) (i::Δ) Γ' Δ' gs bs):BsN K C Γ Δ Γ' Δ' (gCons (gName i) gs) (Dl.bCons (Dl.bName i) bs):=fun H0 Hb H σ ρ A d v B Rr I r nd hB p=>by
  cases d with
  | nil=>exact p.elim
  | cons d ds =>
    obtain ⟨x,l,B1,B2,e1,e2,e3,e4⟩:=r
    subst e1 e4
    obtain ⟨n1,n2,n3⟩:=List.nodup_append.mp nd
    have hB1:∀a∈B1,Hb a=none∧∀j,a∉A j:=fun a ha=>hB a (mem_append_left _ ha)
    obtain ⟨A',I',hA'⟩:=I.put (Γ':=i::Γ) (Δ':=i::Δ) (i:=i) e2
      (fun j hj e=>⟨(List.mem_cons.mp hj).elim (fun z=>absurd z e) id,fun a l' e' ha=>(hB1 a ha).2 j (by rw [e'];exact .head _)⟩)
      (fun _=>⟨fun a ha=>I.s0.free (hB1 a ha).1,fun a l' e=>by
        subst e
        exact ⟨(hB1 a (.head _)).1,(List.nodup_cons.mp n1).1,fun j _=>(hB1 a (.head _)).2 j⟩⟩)
      (fun j hj e=>⟨(List.mem_cons.mp hj).elim (fun z=>absurd z e) id,fun a ha hb=>(hB1 a hb).2 j ha⟩)
      (fun _=>⟨n1,fun j _ a ha=>(hB1 a ha).2 j,fun a ha=>(hB1 a ha).1⟩)
    exact ⟨x,l,rfl,h2 H0 Hb H _ _ A' ds l B2 Rr I' e3 n2 (fun a ha=>⟨(hB a (mem_append_right _ ha)).1,fun j h=>(hA' j a h).elim (fun z=>n3 a z a ha rfl) fun z=>(hB a (mem_append_right _ ha)).2 j z⟩) p⟩
theorem sok_unpack {te:TE}{gs:TGs}{fe:FE}{bs:List D→DEnv→R DEnv}{n:Nat}(hn:∀ds ρ ρ',bs ds ρ=.ok ρ'→ds.length=n)(he:EOk K C E Γ Δ 2 [] te fe)(hb:BsN K C Γ Δ Γ' Δ' gs bs):SOk K C E mr Γl Δl Γ Δ Γ' Δ' (tAsg te (gTup K n gs)) (Dl.sAsg fe (Dl.bTup bs)):=fun H0 Hb H σ ρ A D I p=>by
 refine he H0 Hb H σ ρ A _ I (Post.imp (Post.bind p) (fun d q v H1 g1 r=>?_) fun c x q H' g'=>q H' (Same.from0 I g'))
 obtain ⟨B,r1,r2,_,r4⟩:=r
 have hn':∀a∈B,H a=none:=fun a ha=>(r2 a ha).elim id fun z=>z.none.elim
 have q':=calm_of (Post.bind q)
 cases d with
 | tup ds =>
  obtain ⟨a,xs,rfl,e2,e3⟩:=r1
  have q'':Post (bs ds ρ) (fun ρ'=>∀σ' H' A',EnvOk K C H0 Hb H' Γ' Δ' σ' ρ' A'→D.nx σ' H') (fun _ _=>False):=q'
  have hl:xs.length=n:=by
   rw [e3.len]
   cases e:bs ds ρ with
   | ok ρ'=>exact hn ds ρ ρ' e
   | err _ _=>rw [e] at q'';exact q''.elim
   | bad=>rw [e] at q'';exact q''.elim
  exact ⟨a,xs,rfl,SqT.of e2,hl,hb H0 Hb H1 σ ρ A ds xs B D.nx (I.mono g1) e3 (r4 rfl) (fun a ha=>⟨I.same.free (hn' a ha),fun j z=>I.ne z (hn' a ha)⟩) (Post.imp q'' (fun ρ' q σ' A' I'=>q σ' H1 A' I') fun _ _ z=>z)⟩
 | _=>exact q'.elim
end
section
variable {X:Cx}{C:String→Addr}{E:XK}{Γ Δ Γ' Δ' Γ1 Δ1 Γl Δl Γk Δk:List Nat}{m m1 m2 m3 mr:Nat}{S S1 S2 S3:List (Nat×Bool)}{a b c e st o tg iter:Expr}{es rest:List Expr}{ta tb tc te ts:TE}{fa fb fc fe fs:FE}{t:TA}{f:FA}{pos p p2 apos cpos pos':Pos}{n:Nat}
theorem ce_isI (K:Frag){T:String}{ty:Str}(hk:Kit T)(hg:Gl X "isinstance")(hm:X.mg "isinstance"=none)(hgt:Gl X ty)(hmt:X.mg ty=none)(hvt:bootBuiltins ty=some (.type T))(ha:JE X C E Γ Δ m S e te fe)(hse:starEach (e::[.Name ty p2]) X.env=(false,eval e X.env)::starEach [.Name ty p2] X.env)
  (hn:ty≠"__name__":=by decide) (hd:(ty==("__debug__":Str))=false:=by decide) (hpl:(backTo pos (starEach [.Name ty p2] X.env)).any (·.1)=false:=by rfl) (hK:X.K=K:=by rfl) :
  JE X C E Γ Δ 2 [] (.Call (.Name "isinstance" p) [e,.Name ty p2] [] pos) (tCB (rIsI K) (tCons te (tCons (tC (.ty T)) tNil))) (Dl.f1 (Dl.gIsI T) fe):=by
 subst hK
 exact ⟨qe_callB call_isinst hg hm PyProof.Rows.boot_isinstance (qa_cons ha.q (qa_cons (qe_bltn (v:=.ty T) hgt hmt hvt rfl hn hd) qa_nil star_name) hse) (by decide) (by decide) hse hpl,eok_isI hk ha.o⟩
theorem cs_ext {i:Nat}{x:Str}(hi:i∈Γ:=by decide)(hN:X.N[i]?=some x:=by rfl)(hv:autoParam (Vis X.env.scope x) aT3._auto_1)(hd:(x==("__debug__":Str))=false:=by decide)(hcd:(x==("__classdict__":Str))=false:=by decide)
  (he:JE X C E Γ Δ 2 [] e te fe) (hse:starEach [e] X.env=(false,eval e X.env)::starEach [] X.env)
  (hbase:attributeBase (.Name x p) "extend" X.env (eval (.Name x p) X.env)=eval (.Name x p) X.env:=by rfl)
  (hfew:((backTo cpos (starEach [e] X.env)).all (fun x=>!x.1)&&(backToKw cpos (keywordEach [] X.env)).all (fun x=>x.1.isSome)&&decide (([e]:List Expr).length+([]:List Keyword).length+(if ([]:List Keyword).isEmpty then 0 else 1)<30))=true:=by rfl)
  (hline:(apos.endLine==cpos.line)=true:=by rfl) (hplain:(backTo cpos (starEach ([]:List Expr) X.env)).any (·.1)=false:=by rfl) (hsw:swapsWith (.Call (.Attribute (.Name x p) "extend" apos) [e] [] cpos) none pos.line X.env=pure false:=by rfl) :
  JS X C E mr Γl Δl Γ Δ Γ Δ (.Expr (.Call (.Attribute (.Name x p) "extend" apos) [e] [] cpos) pos) (tDrop (tBM X.K "list" rExtend (tVar i) (tCons te tNil))) (Dl.sExt i fe):=
 ⟨qs_expr (qe_bm PySem.F.plainAttrs_list PySem.F.slot_list_extend PySem.F.type_list_extend mt_extend (qv i hN hv hd hcd) (qa_cons he.q qa_nil hse) hbase hfew hline hse hplain) hsw,sok_ext hi he.o⟩
structure JN (X:Cx)(C:String→Addr)(Γ Δ Γ' Δ':List Nat)(es:List Expr)(n:Nat)(t:TGs)(f:List D→DEnv→R DEnv):Prop where
 q:QGs X es t
 o:BsN X.K C Γ Δ Γ' Δ' t f
 n:∀ds ρ ρ',f ds ρ=.ok ρ'→ds.length=n
theorem cn_nil (h1:∀i∈Γ',i∈Γ:=by decide)(h2:∀i∈Δ',i∈Δ:=by decide):JN X C Γ Δ Γ' Δ' [] 0 gNil Dl.bNil:=⟨qgs_nil,bsn_nil h1 h2,bn_nil⟩
theorem cn_cons {i:Nat}{x:Str}{u:TGs}{fu:List D→DEnv→R DEnv}(hN:X.N.Nodup)(hi:X.N[i]?=some x)(hx:Loc X.env.scope x)(h2:JN X C (i::Γ) (i::Δ) Γ' Δ' es n u fu)(hf:autoParam (X.fn x=true∨X.env.scope.names.lookup x=some .local) aT0._auto_1)
  (hs:(assignEach (.Name x p::es) X.env).map (·.2)=assign (.Name x p) X.env::(assignEach es X.env).map (·.2):=by rfl):JN X C Γ Δ Γ' Δ' (.Name x p::es) (n+1) (gCons (gName i) u) (Dl.bCons (Dl.bName i) fu):=⟨qgs_cons (qg_name hN hi hx hf) h2.q hs,bsn_cons h2.o,bn_cons h2.n⟩
theorem cs_unpack {k:Nat}{u:TGs}{fu:List D→DEnv→R DEnv}(hc:X.calm=true)(he:JE X C E Γ Δ 2 [] e te fe)(hb:JN X C Γ Δ Γ' Δ' es n u fu)(hn:(assignEach es X.env).length=n:=by rfl)(hst:(assignEach es X.env).findIdx? (·.1)=none:=by rfl)
  (hs:swapsWithSole [.Tuple es k p] e pos.line X.env=pure false:=by rfl) (hw:swappedStores [.Tuple es k p] e X.env=pure none:=by rfl) (h1:(assignEach [.Tuple es k p] X.env).map (·.2)=[assign (.Tuple es k p) X.env]:=by rfl) :
  JS X C E mr Γl Δl Γ Δ Γ' Δ' (.Assign [.Tuple es k p] e pos) (tAsg te (gTup X.K n u)) (Dl.sAsg fe (Dl.bTup fu)):=⟨qs_asg he.q (qg_tup hc hb.q hn hst) hs hw h1,sok_unpack hb.n he.o hb.o⟩
end
section
variable {K:Frag}{C:String→Addr}{E:XK}{Γ Δ Γ' Δ' Γ1 Δ1 Γl Δl Γk Δk:List Nat}{m m1 m2 m3 mr:Nat}{S S1 S2 S3:List (Nat×Bool)}{H:Hp}{Q:VK}
theorem eok_ixN {i:Nat}{tb:TE}{fb:FE}(hb:EOk K C E Γ Δ m2 S2 tb fb):EOk K C E Γ Δ 0 [(i,true)] (tOp (rIx K) (tVar i) tb) (Dl.f2 Dl.gIxL (Dl.fV i) fb):=fun H0 Hb H σ ρ A Q I p=>by
 obtain ⟨x,e,p⟩:=fV_ok (Post.bind p)
 obtain ⟨vx,e1,r1⟩:=I.rep i x e
 refine ⟨vx,e1,hb H0 Hb H σ ρ A _ I (Post.imp (Post.bind p) (fun y q vy H2 g2 r2=>?_) fun c x q H' g'=>q H' g')⟩
 obtain ⟨d,e',q2⟩:=oR_ok q
 obtain ⟨By,r2,_⟩:=r2
 unfold Dl.gIxL at e'
 split at e'
 ·exact gIx_ok (r1.same g2) r2 e' fun v B r3 _ h=>q2 v H2 g2 ⟨B,r3,fun a ha=>.inr ⟨(i,true),.head _,h ⟨_,rfl⟩ a ha⟩,(fun z=>nomatch z),(fun z=>nomatch z)⟩
 ·cases e'
theorem eok_listV {te:TE}{fe:FE}(he:EOk K C E Γ Δ m S te fe):EOk K C E Γ Δ 1 S (tCB (rList K) (tCons te tNil)) (Dl.fA Dl.gListV (Dl.aCons fe Dl.aNil)):=fun H0 Hb H σ ρ A Q I p =>
  he H0 Hb H σ ρ A _ I (by
    have p':=Post.bind (Post.bind p)
    refine Post.imp p' (fun d q v H1 g1 r=>?_) fun c x q H' g'=>q H' g'
    have q:Post (Dl.oR (Dl.gListV [d])) (fun d=>∀v H',Same H H'→Res K C 1 S H A d v H'→Q v H') (fun c x=>∀H',Same H H'→EC C E c x H'):=q
    obtain ⟨z,e,q⟩:=oR_ok q
    obtain ⟨B,r,r',_⟩:=r
    show rList K [v] H1 Q
    cases d with
    | lst ds =>
      cases e
      obtain ⟨a,xs,B',rfl,e2,e3,e4⟩:=r
      subst e4
      refine rd_listL (SqL.of e2) fun l hl=>?_
      have g2:=sameNew hl (.lst xs)
      refine q _ _ (g1.trans g2) ⟨l::B',⟨l,xs,B',rfl,upd_same,e3.same g2,rfl⟩,fun b hb=>?_,fun _ b r e=>?_,(fun z=>nomatch z)⟩
      · rcases List.mem_cons.mp hb with z | z
        · rw [z];exact .inl (g1.free hl)
        · exact r' b (.tail _ z)
      · cases e
        refine ⟨g1.free hl,fun h=>?_⟩
        obtain ⟨ys,w,_⟩:=e3.isl l h
        rw [w] at hl
        cases hl
    | _=>cases e)
theorem sok_appS {i:Nat}{te:TE}{fe:FE}(hi:i∈Γ:=by decide)(he:EOk K C E Γ Δ m S te fe)(h0:∀p∈S,p.1∈Γ:=by decide)(hS:∀p∈S,p.1≠i:=by decide)(h1:∀j∈Γ',j∈Γ∧(j=i∨(j,false)∉S):=by decide)(h2:∀j∈Δ',j≠i∧j∈Δ∧∀p∈S,p.1≠j:=by decide) :
  SOk K C E mr Γl Δl Γ Δ Γ' Δ' (tDrop (tBM K "list" rAppend (tVar i) (tCons te tNil))) (Dl.sApp i fe):=fun H0 Hb H σ ρ A D I p=>by
 unfold Dl.sApp at p
 split at p
 ·rename_i ds e
  obtain ⟨a,xs,l,s1,h1',r1,hA,hl⟩:=slot_lst I e
  refine ⟨.ref a,s1,.inl ⟨rfl,xs,SqL.of h1'⟩,he H0 Hb H σ ρ A _ I (Post.imp (Post.bind p) (fun d q v H1 g1 r=>?_) fun c x q H' g'=>q H' (Same.from0 I g'))⟩
  split at q
  ·rename_i hz
   obtain ⟨B,r2,r3,_⟩:=r
   show rAppend (.ref a) [v] H1 fun _ H3=>D.nx σ H3
   refine rd_app (g1 _ _ h1') (by rw [r1.len];exact limLine' hz) ?_
   obtain ⟨tb,ta,tt⟩:=I.top i hi a l hA
   have ha:a∈A i:=by rw [hA];exact .head _
   have w0:a∉l++B:=fun z=>(List.mem_append.mp z).elim ta fun z=>(r3 a z).elim (fun w=>I.ne ha w) fun w=>by
    obtain ⟨p,hp,w⟩:=w.mem
    exact tt p.1 (hS p hp) w
   have w1:∀b∈l++B,H0 b=none:=fun b hb=>(List.mem_append.mp hb).elim (fun z=>I.loc i hi b (by rw [hA];exact .tail _ z)) fun z=>(r3 b z).elim (fun w=>I.s0.free (I.same.free w)) fun w=>by
    obtain ⟨p,hp,w⟩:=w.mem
    exact I.loc p.1 (h0 p hp) b w
   have w2:∀j∈Γ',j≠i→j∈Γ∧∀b l',A j=b::l'→b∉l++B:=fun j hj e=>by
    obtain ⟨q1,q2⟩:=h1 j hj
    refine ⟨q1,fun b l' e' z=>(List.mem_append.mp z).elim (fun z=>(I.top j q1 b l' e').2.2 i (fun w=>e w.symm) (by rw [hA];exact .tail _ z)) fun z=>(r3 b z).elim (fun w=>I.ne (j:=j) (by rw [e'];exact .head _) w) ?_⟩
    exact I.top_out q1 (q2.elim (fun z=>absurd z e) id) e'
   have w3:∀j∈Δ',j≠i→j∈Δ∧∀b∈A j,b∉l++B:=fun j hj e=>⟨(h2 j hj).2.1,fun b hb z=>(List.mem_append.mp z).elim (fun z=>(I.deep j (h2 j hj).2.1).2.1 i (fun w=>e w.symm) b hb (by rw [hA];exact .tail _ z)) fun z=>(r3 b z).elim (fun w=>I.ne hb w) (I.deep_out (h2 j hj).2.1 (h2 j hj).2.2 hb)⟩
   obtain ⟨A',I'⟩:=(I.mono g1).write (Γ':=Γ') (Δ':=Δ') hi hA hl s1 ((r1.same g1).app (RpA.one r2)) w1 w0 w2 w3 (fun hd=>absurd rfl (h2 i hd).1)
   exact q _ _ A' I'
  ·exact q.elim
 ·exact p.elim
end
section
variable {X:Cx}{C:String→Addr}{E:XK}{Γ Δ Γ' Δ' Γ1 Δ1 Γl Δl Γk Δk:List Nat}{m m1 m2 m3 mr:Nat}{S S1 S2 S3:List (Nat×Bool)}{a b c e st o tg iter:Expr}{es rest:List Expr}{ta tb tc te ts:TE}{fa fb fc fe fs:FE}{t:TA}{f:FA}{pos p p2 apos cpos pos':Pos}{n:Nat}
theorem ce_ixN (K:Frag)(i:Nat){x:Str}(hb:JE X C E Γ Δ m2 S2 b tb fb)(hs:PlainIx b)(hN:X.N[i]?=some x:=by rfl)(hv:autoParam (Vis X.env.scope x) aT3._auto_1)(hd:(x==("__debug__":Str))=false:=by decide)
  (hcd:(x==("__classdict__":Str))=false:=by decide) (hK:X.K=K:=by rfl):JE X C E Γ Δ 0 [(i,true)] (.Subscript (.Name x p) b pos) (tOp (rIx K) (tVar i) tb) (Dl.f2 Dl.gIxL (Dl.fV i) fb):=by
 subst hK
 exact ⟨qe_ix ix_seq (qv i hN hv hd hcd) hb.q hs,eok_ixN hb.o⟩
theorem ce_listV (K:Frag)(hg:Gl X "list")(hm:X.mg "list"=none)(he:JE X C E Γ Δ m S e te fe)(hse:starEach [e] X.env=(false,eval e X.env)::starEach [] X.env)(hc:X.calm=true:=by rfl)(hpl:(backTo pos (starEach ([]:List Expr) X.env)).any (·.1)=false:=by rfl)(hK:X.K=K:=by rfl) :
  JE X C E Γ Δ 1 S (.Call (.Name "list" p) [e] [] pos) (tCB (rList K) (tCons te tNil)) (Dl.fA Dl.gListV (Dl.aCons fe Dl.aNil)):=by
 subst hK
 exact ⟨qe_callTy (call_listA hc) hg hm PyProof.Rows.boot_list (qa_cons he.q qa_nil hse) (by decide) (by decide) hse hpl,eok_listV he.o⟩
theorem cs_appS {i:Nat}{x:Str}(hi:i∈Γ:=by decide)(hN:X.N[i]?=some x:=by rfl)(hv:autoParam (Vis X.env.scope x) aT3._auto_1)(hd:(x==("__debug__":Str))=false:=by decide)(hcd:(x==("__classdict__":Str))=false:=by decide)
  (he:JE X C E Γ Δ m S e te fe) (hse:starEach [e] X.env=(false,eval e X.env)::starEach [] X.env)
  (hbase:attributeBase (.Name x p) "append" X.env (eval (.Name x p) X.env)=eval (.Name x p) X.env:=by rfl)
  (hfew:((backTo cpos (starEach [e] X.env)).all (fun x=>!x.1)&&(backToKw cpos (keywordEach [] X.env)).all (fun x=>x.1.isSome)&&decide (([e]:List Expr).length+([]:List Keyword).length+(if ([]:List Keyword).isEmpty then 0 else 1)<30))=true:=by rfl)
  (hline:(apos.endLine==cpos.line)=true:=by rfl) (hplain:(backTo cpos (starEach ([]:List Expr) X.env)).any (·.1)=false:=by rfl) (hsw:swapsWith (.Call (.Attribute (.Name x p) "append" apos) [e] [] cpos) none pos.line X.env=pure false:=by rfl)
  (h0:∀p∈S,p.1∈Γ:=by decide) (hS:∀p∈S,p.1≠i:=by decide) (h1:∀j∈Γ',j∈Γ∧(j=i∨(j,false)∉S):=by decide) (h2:∀j∈Δ',j≠i∧j∈Δ∧∀p∈S,p.1≠j:=by decide) :
  JS X C E mr Γl Δl Γ Δ Γ' Δ' (.Expr (.Call (.Attribute (.Name x p) "append" apos) [e] [] cpos) pos) (tDrop (tBM X.K "list" rAppend (tVar i) (tCons te tNil))) (Dl.sApp i fe):=
 ⟨qs_expr (qe_bm PySem.F.plainAttrs_list PySem.F.slot_list_append PySem.F.type_list_append mt_append (qv i hN hv hd hcd) (qa_cons he.q qa_nil hse) hbase hfew hline hse hplain) hsw,sok_appS hi he.o h0 hS h1 h2⟩
end
section
variable {K:Frag}{C:String→Addr}{E:XK}{Γ Δ Γ' Δ' Γ1 Δ1 Γl Δl Γk Δk:List Nat}{m m1 m2 m3 mr:Nat}{S S1 S2 S3:List (Nat×Bool)}{H:Hp}{Q:VK}
def JOk (K:Frag)(C:String→Addr)(E:XK)(Γ Δ:List Nat)(t:TJ)(f:FA):Prop:=∀(H0 Hb H:Hp) (σ:St) (ρ:DEnv) (A:Nat→List Addr) (Q:Hp→Prop),EnvOk K C H0 Hb H Γ Δ σ ρ A→
 Post (f ρ) (fun _=>∀H',Same H H'→Q H') (fun c x=>∀H',Same H H'→EC C E c x H')→t σ H Q
end
section
variable {X:Cx}{C:String→Addr}{E:XK}{Γ Δ Γ' Δ' Γ1 Δ1 Γl Δl Γk Δk:List Nat}{m n mr:Nat}{S:List (Nat×Bool)}{e:Expr}{es:List Expr}{t:TA}{f:FA}{np cpos pos hpos:Pos}
end
section
variable {K:Frag}{C:String→Addr}{E:XK}{Γ Δ Γ' Δ' Γ1 Δ1 Γl Δl Γk Δk:List Nat}{m m1 m2 m3 mr:Nat}{S S1 S2 S3:List (Nat×Bool)}{H:Hp}{Q:VK}
end
section
variable {X:Cx}{C:String→Addr}{E:XK}{Γ Δ Γ' Δ' Γ1 Δ1 Γl Δl Γk Δk:List Nat}{m m1 m2 m3 mr:Nat}{S S1 S2 S3:List (Nat×Bool)}{a b c e st o tg iter:Expr}{es rest:List Expr}{ta tb tc te ts:TE}{fa fb fc fe fs:FE}{t:TA}{f:FA}{pos p p2 apos cpos pos':Pos}{n:Nat}{body:List Stmt}{u:TS}{g:FS}
end
structure ClsIn (K:Frag)(C:Addr):Prop where
 ty:typeIn K (.ref C)=some (.type "type")
 cl:∃c,clsIn K C=some c
 se:subIn K (.ref C) (.ref C)=some true
section
variable {K:Frag}{C:String→Addr}{E:XK}{Γ Δ Γ' Δ' Γ1 Δ1 Γl Δl Γk Δk:List Nat}{m m1 m2 m3 mr:Nat}{S S1 S2 S3:List (Nat×Bool)}{H:Hp}{Q:VK}
end
structure JJ (X:Cx)(C:String→Addr)(E:XK)(Γ Δ:List Nat)(es:List Expr)(t:TJ)(f:FA):Prop where
 q:QJ X es t
 o:JOk X.K C E Γ Δ t f
section
variable {X:Cx}{C:String→Addr}{E:XK}{Γ Δ Γ' Δ' Γ1 Δ1 Γl Δl Γk Δk:List Nat}{m m1 m2 m3 mr:Nat}{S S1 S2 S3:List (Nat×Bool)}{a b c e st o tg iter:Expr}{es rest:List Expr}{ta tb tc te ts:TE}{fa fb fc fe fs:FE}{t:TA}{f:FA}{pos p p2 apos cpos pos' np jp:Pos}{n:Nat}{body:List Stmt}{s:Stmt}{u:TS}{g:FS}{tj:TJ}
end
section
variable {K:Frag}{C:String→Addr}{E:XK}{Γ Δ Γ' Δ' Γ1 Δ1 Γl Δl Γk Δk:List Nat}{m m1 m2 m3 mr:Nat}{S S1 S2 S3:List (Nat×Bool)}{H:Hp}{Q:VK}
end
section
variable {X:Cx}{C:String→Addr}{E:XK}{Γ Δ Γ' Δ' Γ1 Δ1 Γl Δl Γk Δk:List Nat}{m m1 m2 m3 mr:Nat}{S S1 S2 S3:List (Nat×Bool)}{a b c e st o tg iter:Expr}{es rest:List Expr}{ta tb tc te ts:TE}{fa fb fc fe fs:FE}{t:TA}{f:FA}{pos p p2 apos cpos pos' np jp:Pos}{n:Nat}{tj:TJ}
end
section
variable {K:Frag}{C:String→Addr}{E:XK}{Γ Δ Γ' Δ' Γ1 Δ1 Γl Δl Γk Δk:List Nat}{m m1 m2 m3 mr:Nat}{S S1 S2 S3:List (Nat×Bool)}{H:Hp}{Q:VK}
end
section
variable {X:Cx}{C:String→Addr}{E:XK}{Γ Δ:List Nat}{m:Nat}{S:List (Nat×Bool)}{e:Expr}{es:List Expr}{te:TE}{fe:FE}{f:FA}{pos:Pos}{tj:TJ}
end
section
variable {K:Frag}{C:String→Addr}{E:XK}{Γ Δ Γ' Δ' Γ1 Δ1 Γl Δl Γk Δk:List Nat}{m m1 m2 m3 mr:Nat}{S S1 S2 S3:List (Nat×Bool)}{H:Hp}{Q:VK}
end
section
variable {X:Cx}{C:String→Addr}{E:XK}{Γ Δ Γ' Δ' Γ1 Δ1 Γl Δl Γk Δk:List Nat}{mr:Nat}{np pos hpos:Pos}
end
section
variable {K:Frag}{C:String→Addr}{E:XK}{Γ Δ Γ' Δ' Γ1 Δ1 Γl Δl Γk Δk:List Nat}{m m1 m2 m3 mr:Nat}{S S1 S2 S3:List (Nat×Bool)}{H:Hp}{Q:VK}
end
section
variable {X:Cx}{C:String→Addr}{E:XK}{Γ Δ Γ' Δ' Γ1 Δ1 Γl Δl Γk Δk:List Nat}{m m1 m2 m3 mr:Nat}{S S1 S2 S3:List (Nat×Bool)}{a b c e st o tg iter:Expr}{es rest:List Expr}{ta tb tc te ts:TE}{fa fb fc fe fs:FE}{pos p p2 apos cpos pos':Pos}
variable {pins:List (Addr×Obj)}{σ:St}{H:Hp}{s:Shared}{h':Heap}
end
section
variable {X:Cx}{a b e:Expr}{ta tb te:TE}{elts:List Expr}{x1:Nat}{tpos p pos:Pos}{tg:Expr}
variable {K:Frag}{C:String→Addr}{E:XK}{Γ Δ Γ' Δ':List Nat}{m m1 m2:Nat}{S S1 S2:List (Nat×Bool)}{H:Hp}
end
section
variable {X:Cx}{C:String→Addr}{E:XK}{Γ Δ Γ' Δ':List Nat}{m m1 m2:Nat}{S S1 S2:List (Nat×Bool)}{a b e:Expr}{ta tb te:TE}{fa fb fe:FE}{elts:List Expr}{x1:Nat}{tpos p pos:Pos}{tg:Expr}
end
section
variable {K:Frag}{C:String→Addr}{E:XK}{Γ Δ Γ' Δ' Γ1 Δ1 Γl Δl Γk Δk:List Nat}{m m1 m2 m3 mr:Nat}{S S1 S2 S3:List (Nat×Bool)}{H:Hp}{Q:VK}
theorem sortI_eq {ns ns':List Int}(h:ns'.Perm ns)(o:ns'.Pairwise (·≤·)):ns'=Dl.sortI ns:=by
 refine PySem.W.ksm_same (h.trans (List.mergeSort_perm ns _).symm) o ?_
 have:=List.pairwise_mergeSort (le:=fun a b:Int=>decide (a≤b)) (fun a b c h1 h2=>by simp at *;omega) (fun a b=>by simp;omega) ns
 exact this.imp fun h=>by simpa using h
variable {X:Cx}{kx e:Expr}{tk te:TE}{p p2 pos:Pos}{x:Str}{i:Nat}
end
section
variable {X:Cx}{C:String→Addr}{E:XK}{Γ Δ Γ' Δ' Γ1 Δ1 Γl Δl Γk Δk:List Nat}{m m1 m2 m3 mr:Nat}{S S1 S2 S3:List (Nat×Bool)}{a b c e st o tg iter:Expr}{es rest:List Expr}{ta tb tc te ts tk:TE}{fa fb fc fe fs fk:FE}{t:TA}{f:FA}{pos p p2 apos cpos pos' bpos:Pos}{n:Nat}
end
section
variable {X:Cx}{e:Expr}{te:TE}{p pos cp kp:Pos}{k:Nat}
variable {K:Frag}{C:String→Addr}{E:XK}{Γ Δ Γ' Δ' Γ1 Δ1 Γl Δl Γk Δk:List Nat}{m m1 m2 m3 mr:Nat}{S S1 S2 S3:List (Nat×Bool)}{H:Hp}{Q:VK}
end
section
variable {X:Cx}{C:String→Addr}{E:XK}{Γ Δ Γ' Δ' Γ1 Δ1 Γl Δl Γk Δk:List Nat}{m m1 m2 m3 mr:Nat}{S S1 S2 S3:List (Nat×Bool)}{a b c e st o tg iter:Expr}{es rest:List Expr}{ta tb tc te ts:TE}{fa fb fc fe fs:FE}{pos p p2 apos cpos pos' cp kp:Pos}{k:Nat}
variable {pins:List (Addr×Obj)}{σ:St}{H:Hp}{s:Shared}
end
section
variable {X:Cx}{C:String→Addr}{E:XK}{Γ Δ Γ' Δ' Γk Δk:List Nat}{m mr:Nat}{S:List (Nat×Bool)}{c tg iter:Expr}{body:List Stmt}{u:TS}{g:FS}{pos:Pos}
end
section
variable {K:Frag}{C:String→Addr}{E:XK}{Γ Δ Γ' Δ' Γ1 Δ1 Γl Δl:List Nat}{m m1 m2 mr:Nat}{S S1 S2:List (Nat×Bool)}{H:Hp}
end
section
variable {X:Cx}{C:String→Addr}{E:XK}{Γ Δ Γ' Δ' Γl Δl:List Nat}{m mr:Nat}{a b:Expr}{t:TA}{f:FA}{p p1 p2 pos pt2:Pos}{x y:Str}{i j k k2:Nat}
end
section
variable {K:Frag}{C:String→Addr}{E:XK}{Γ Δ Γ' Δ' Γ1 Δ1 Γl Δl Γk Δk:List Nat}{m m1 m2 m3 mr:Nat}{S S1 S2 S3:List (Nat×Bool)}{H:Hp}{Q:VK}
noncomputable def AtP (K:Frag)(H:Hp):V→List Int→Addr→Prop
 | v,[],b=>v=.ref b
 | v,n::r,b=>∃p xs u,v=.ref p∧(H p=some (.lst xs)∨H p=some (.tup xs))∧atI xs n=some u∧AtP K H u r b
end
section
variable {X:Cx}{C:String→Addr}{E:XK}{Γ Δ Γ' Δ' Γ1 Δ1 Γl Δl Γk Δk:List Nat}{m m1 m2 m3 mr:Nat}{S S1 S2 S3:List (Nat×Bool)}{a b c e st o tg iter kx lx:Expr}{es rest:List Expr}{ta tb tc te ts tk tl:TE}{fa fb fc fe fs fk fl:FE}{pos p p1 p2 apos cpos pos':Pos}{n:Nat}
end
section
variable {K:Frag}{C:String→Addr}{E:XK}{Γ Δ Γ' Δ' Γ1 Δ1 Γl Δl Γk Δk:List Nat}{m m1 m2 m3 mr:Nat}{H:Hp}{Q:VK}
end
section
variable {X:Cx}{C:String→Addr}{E:XK}{Γ Δ Γ' Δ' Γl Δl:List Nat}{mr:Nat}{pos p p2 apos cpos:Pos}
end
section
variable {prog:Program}{w:World}{A:Around}{E:Value→Shared→Prop}{s:Shared}{a₀:Array Keyed}
variable {X:Cx}
variable {K:Frag}{C:String→Addr}
end
section
variable {K:Frag}{C:String→Addr}{E:XK}{Γ Δ Γ' Δ' Γl Δl:List Nat}{m mr:Nat}{S:List (Nat×Bool)}
end
section
variable {X:Cx}{C:String→Addr}{E:XK}{Γ Δ Γ' Δ' Γl Δl:List Nat}{m mr:Nat}{S:List (Nat×Bool)}{e:Expr}{te:TE}{fe:FE}{p p1 p2 pos:Pos}{x y:Str}{i j k:Nat}
variable {tg:Expr}
end
section
variable {K:Frag}{C:String→Addr}{E:XK}{Γ Δ:List Nat}{m:Nat}{S:List (Nat×Bool)}{H:Hp}
end
section
variable {X:Cx}{C:String→Addr}{E:XK}{Γ Δ:List Nat}{m n:Nat}{S:List (Nat×Bool)}{tg a b c:Expr}{t:TA}{f:FA}{p pos:Pos}
end
section
variable {K:Frag}{C:String→Addr}
end
end L2
namespace L2
open PySem PySem.Spec PyProof.Rows
open Dl (D R FE FT FA FO FS FI FB Fl FM FMT)
section
variable {K:Frag}{C:String→Addr}{E:XK}{Γ Δ Γ' Δ' Γ1 Δ1 Γl Δl:List Nat}{m m1 m2 mr n:Nat}{S S1 S2:List (Nat×Bool)}{H:Hp}
def MOk (K:Frag)(C:String→Addr)(E:XK)(Γ Δ:List Nat)(t:TE)(f:FM):Prop:=∀(H0 Hb H:Hp) (σ:St) (ρ:DEnv) (A:Nat→List Addr) (Q:VK),EnvOk K C H0 Hb H Γ Δ σ ρ A→
 Post (f ρ) (fun p=>∀v H' A' B,EnvOk K C H0 Hb H' Γ Δ σ p.2 A'→Rp K C H' p.1 v B→B.Nodup→(∀a∈B,Hb a=none∧∀j,a∉A' j)→Q v H') (fun c x=>∀H',Same H0 H'→EC C E c x H')→t σ H Q
def MTOk (K:Frag)(C:String→Addr)(E:XK)(Γ Δ:List Nat)(t:TT)(f:FMT):Prop:=∀(H0 Hb H:Hp) (σ:St) (ρ:DEnv) (A:Nat→List Addr) (Q:Bool→Hp→Prop),EnvOk K C H0 Hb H Γ Δ σ ρ A→
 Post (f ρ) (fun p=>∀H' A',EnvOk K C H0 Hb H' Γ Δ σ p.2 A'→Q p.1 H') (fun c x=>∀H',Same H0 H'→EC C E c x H')→t σ H Q
def SOkP (K:Frag)(C:String→Addr)(E:XK)(Γ Δ Γ' Δ':List Nat)(t:TS)(f:FS):Prop:=∀(H0 Hb H:Hp) (σ:St) (ρ:DEnv) (A:Nat→List Addr) (D:Ends),EnvOk K C H0 Hb H Γ Δ σ ρ A→
  Post (f ρ) (fun fl=>match fl with
    | .nx ρ'=>∀σ' H' A',σ'[0]?=σ[0]?→EnvOk K C H0 Hb H' Γ' Δ' σ' ρ' A'→D.nx σ' H'
    | _=>False) (fun c x=>∀H',Same H0 H'→EC C E c x H')→t D σ H
def MBOk (K:Frag)(C:String→Addr)(E:XK)(Γ Δ:List Nat)(t:TS)(G:FM):Prop:=∀(H0 Hb H:Hp) (σ:St) (ρ:DEnv) (A:Nat→List Addr) (D:Ends) (Q:VK),EnvOk K C H0 Hb H Γ Δ σ ρ A→D.rt=Q→(D.nx=fun _ H'=>Q .non H')→
 Post (G ρ) (fun p=>∀v H' σ' A' B,σ'[0]?=σ[0]?→EnvOk K C H0 Hb H' [0] [0] σ' p.2 A'→Rp K C H' p.1 v B→B.Nodup→(∀a∈B,Hb a=none∧∀j,a∉A' j)→Q v H') (fun c x=>∀H',Same H0 H'→EC C E c x H')→t D σ H
end
structure JM (X:Cx)(C:String→Addr)(E:XK)(Γ Δ:List Nat)(e:Expr)(t:TE)(f:FM):Prop where
 q:QE X e t
 o:MOk X.K C E Γ Δ t f
structure JMT (X:Cx)(C:String→Addr)(E:XK)(Γ Δ:List Nat)(e:Expr)(t:TT)(f:FMT):Prop where
 q:QT X e t
 o:MTOk X.K C E Γ Δ t f
structure JMW (X:Cx)(C:String→Addr)(E:XK)(Γ Δ:List Nat)(e:Expr)(t:TT)(f:FMT):Prop where
 q:QW X e t
 o:MTOk X.K C E Γ Δ t f
structure JP (X:Cx)(C:String→Addr)(E:XK)(Γ Δ Γ' Δ':List Nat)(s:Stmt)(t:TS)(f:FS):Prop where
 q:QS X s t
 o:SOkP X.K C E Γ Δ Γ' Δ' t f
structure JMB (X:Cx)(C:String→Addr)(E:XK)(Γ Δ:List Nat)(s:List Stmt)(t:TS)(f:FM):Prop where
 q:QSs X s t
 o:MBOk X.K C E Γ Δ t f
structure MDef (P:Program)(w:World)(K:Frag)(mg:Str→Option Value)(base:Heap)(CX:CXT)(k:Nat)(C:Addr)(x:Str)(ps:List Str)(sp:Sp):Prop where
 ex:∃f fd,Meth K C x f∧Binds K fd ps []∧FnOk P w K mg base CX k f fd ps sp
structure MkDef (P:Program)(w:World)(K:Frag)(mg:Str→Option Value)(base:Heap)(CX:CXT)(k:Nat)(C:Addr)(ps:List Str)(sp:Sp):Prop where
 ex:∃f fd,Mk K C f∧Binds K fd ps []∧FnOk P w K mg base CX k f fd ps sp
section
variable {X:Cx}{C:String→Addr}{E:XK}{Γ Δ Γ' Δ' Γ1 Δ1 Γl Δl:List Nat}{m m1 m2 mr n:Nat}{S S1 S2:List (Nat×Bool)}{a b e o:Expr}{es rest:List Expr}{te:TE}{fe:FE}{t:TA}{fa:FA}{pos p p2 apos cpos:Pos}{c:String}{f md x:Str}{CX:CXT}{k:Nat}{ps:List Str}{s:Stmt}{ss:List Stmt}{tm:TE}{fm:FM}{u:TS}{g:FS}
end
section
variable {K:Frag}{C:String→Addr}{E:XK}{Γ Δ Γ' Δ' Γ1 Δ1 Γl Δl:List Nat}{m m1 m2 mr n:Nat}{S S1 S2:List (Nat×Bool)}{H:Hp}
end
section
variable {X:Cx}{C:String→Addr}{E:XK}{Γ Δ Γ' Δ' Γl Δl:List Nat}{m1 m2 n:Nat}{S2:List (Nat×Bool)}{a b e:Expr}{es:List Expr}{ta tb:TE}{fa fb:FE}{t:TA}{ff:FA}{pos p p2 cpos:Pos}{x y:Str}{CX:CXT}{k:Nat}{ps:List Str}
end
theorem allN0 {P:List Value→Prop}(h:P []):∀us:List Value,us.length=0→P us
 | [],_=>h
theorem allN1 {P:List Value→Prop}(h:∀a0,P [a0])(us:List Value)(hl:us.length=1):P us:=by
 cases us with
 | nil=>exact absurd hl (by decide)
 | cons a us=>exact allN0 (P:=fun z=>P (a::z)) (h a) us (Nat.succ.inj hl)
theorem allN2 {P:List Value→Prop}(h:∀a0 a1,P [a0,a1])(us:List Value)(hl:us.length=2):P us:=by
 cases us with
 | nil=>exact absurd hl (by decide)
 | cons a us=>exact allN1 (P:=fun z=>P (a::z)) (h a) us (Nat.succ.inj hl)
theorem allN3 {P:List Value→Prop}(h:∀a0 a1 a2,P [a0,a1,a2])(us:List Value)(hl:us.length=3):P us:=by
 cases us with
 | nil=>exact absurd hl (by decide)
 | cons a us=>exact allN2 (P:=fun z=>P (a::z)) (h a) us (Nat.succ.inj hl)
theorem allN4 {P:List Value→Prop}(h:∀a0 a1 a2 a3,P [a0,a1,a2,a3])(us:List Value)(hl:us.length=4):P us:=by
 cases us with
 | nil=>exact absurd hl (by decide)
 | cons a us=>exact allN3 (P:=fun z=>P (a::z)) (h a) us (Nat.succ.inj hl)
theorem walkX_of {q:Program}{loose:List Str}{XP:(Str→Option Value)→Heap→Prop}{K:Params→Frag}{as:List Addr}{n t:Nat}{r:PySem.W.RowW}{d:DefRec}{kwd:List (Str×Expr)}{run:Value→List Value→Sem Value}
  (e:∀P,as=(K P).map (·.1)) (W:PySem.W.WalkO q loose XP (PySem.W.InK K) r d kwd run):PySem.W.WalkX q loose XP (PySem.W.X.obsZ as) (PySem.W.X.valZ K n t) r d kwd run:=
 fun w s₀ s₁ mg mb G y a o pm cd doc dV kV ho hd hcd hD hmg hg args vals as' L hpre hlay hrd hwl hlo =>
  W w s₀ s₁ mg mb G (PySem.W.InK.keeps w _ _ (PySem.W.X.z_facts e y).2.1 (PySem.W.Laid.keeps L)) a o pm cd doc dV kV ho hd hcd hD hmg hg args vals as' hpre hlay hrd hwl hlo
end L2
namespace L2
open PySem PySem.Spec PyProof.Rows
open Dl (D R FE FT FA FO FS FI FB Fl)
section
variable {K:Frag}{C:String→Addr}{E:XK}{Γ Δ Γ' Δ' Γl Δl:List Nat}{mr:Nat}
end
section
variable {X:Cx}{C:String→Addr}{E:XK}{Γ Δ Γl Δl:List Nat}{m2 mr n k:Nat}{S2:List (Nat×Bool)}{es:List Expr}{t:TA}{ff:FA}{pos p p2 p3 cpos:Pos}{x y:Str}{CX:CXT}{ps:List Str}
end
end L2
namespace L2
open PySem PySem.Spec PyProof.Rows
noncomputable def excInI (K:Frag)(C:Addr)(bmB:List Value)(newId:String)(fI:Addr):Bool:=match K.lookup C with
  | some ⟨.type "type",_,.cls cd,sl⟩=>(match cd.mro,sl.toList with
    | .ref C'::bm,[_,_,_,_,some (.builtin n),_]=>C'==C&&n==newId&&!cd.hasDel&&cd.hasDict&&PySem.W.tailIn K bmB bm&&PySem.W.nsOkIn K cd.ns&&nsIn K cd.ns "__init__"==some (some (.ref fI))
    | _,_=>false)
  | _=>false
section
variable {prog:Program}{w:World}{A:Around}{E:Value→Shared→Prop}{h:Heap}{g:Array GenState}{d:Drawn}{t:Nat}{os:OsState}
variable {nm q:Str}{C N:Addr}{bs bm bmB:List Value}{hdct:Bool}{sn:List Str}{sub:List Value}{ab:Bool}{col:Option Bool}{dd:Option Addr}{k0 k1 k2 k3 k5:Option Value}{B newId initId:String}
end
section
variable {prog:Program}{w:World}{A:Around}{E:Value→Shared→Prop}{s:Shared}{env:Env}
variable {nm q:Str}{C N:Addr}{bs bm bmB:List Value}{hdct:Bool}{sn:List Str}{sub:List Value}{ab:Bool}{col:Option Bool}{dd:Option Addr}{k0 k1 k2 k3 k5:Option Value}{B newId initId:String}
end
end L2
namespace L2
open PySem PySem.Spec PyProof.Rows
open PySem.W (Looks)
open Builtin Builtin.ObjectAttr
section
variable {prog:Program}{w:World}{A:Around}{E:Value→Shared→Prop}{h:Heap}{g:Array GenState}{d:Drawn}{t:Nat}{os:OsState}
variable {nm q:Str}{C N x:Addr}{bs bm bmB:List Value}{sn:List Str}{sub:List Value}{ab:Bool}{col:Option Bool}{dd:Option Addr}{k0 k1 k2 k3 k5:Option Value}{B newId sa owner:String}
 {name:Str} {v:Value} {fs:Array Value} {sl:Array (Option Value)}
end
end L2
namespace L2
open PySem PySem.Spec PyProof.Rows
open PySem.W (Looks)
section
variable {prog:Program}{w:World}{A:Around}{E:Value→Shared→Prop}{h:Heap}{g:Array GenState}{d:Drawn}{t:Nat}{os:OsState}
variable {nm q:Str}{C N x:Addr}{bs bm bmB:List Value}{hdct:Bool}{sn:List Str}{sub:List Value}{ab:Bool}{col:Option Bool}{dd:Option Addr}{k0 k1 k2 k3 k5:Option Value}{B newId initId:String}
end
section
variable {prog:Program}{w:World}{A:Around}{E:Value→Shared→Prop}{h:Heap}{g:Array GenState}{d:Drawn}{t:Nat}{os:OsState}{a C dx:Addr}{o:Obj}{vs:Array Value}{mA:Str→Option Value}{v:Value}{name:Str}
end
end L2
namespace L2
open PySem PySem.Spec PyProof.Rows
open Dl (D R FE FT FA FO FS FI FB Fl)
structure ErrF (K:Frag)(C:Addr)(nm:Str)(fI:Addr):Prop where
 exc:excInI K C bmV "ValueError.__new__" fI=true
 sa:findIn K (.ref C) "__setattr__"=some (some (.builtin "object.__setattr__"))
 nf:findIn K (.ref C) nm=some none
 hd:PySem.W.hasDictIn K C=true
noncomputable def exA (e C:Addr)(dx:Option Addr):HO:=.ext fun h=>∃t sl,h.get? e=some {cls:=.ref C,dict:=dx,data:=.fields #[.ref t,.none,.none,.none,.bool false,.none],slots:=sl}
section
variable {X:Cx}{pins:List (Addr×Obj)}{σ:St}{H:Hp}{s:Shared}
end
structure BaseI (K:Frag)(B:Addr):Prop where
 sp:specialIn K (.ref B) "__getattribute__"=some (some (.builtin "type.__getattribute__"))
 rd:PySem.W.readsIn K B (.type "type")=true
 fc:PySem.W.findCls K (.ref B) (.type "type") "__init__"=some (.val (.builtin "ValueError.__init__"))
section
variable {X:Cx}{e o value:Expr}{es:List Expr}{t:TA}{ta tv:TE}{pos pos' apos np:Pos}{b f:Str}{B:Addr}
end
noncomputable def spInit (K:Frag)(nm:Str):Sp:=fun vs H Q _=>∃e C i fI,vs=[.ref e,.int i]∧H e=some (exA e C none)∧ErrF K C nm fI∧i.natAbs.log2<1920∧∀d,H d=none→Q .non (upd (upd H d (.xd [(nm,.int i)])) e (exA e C (some d)))
section
variable {P:Program}{w:World}{K:Frag}{mg:Str→Option Value}{base:Heap}
structure IDef (P:Program)(w:World)(K:Frag)(mg:Str→Option Value)(base:Heap)(C:Addr)(nm:Str):Prop where
 ex:∃fI fd ps,ErrF K C nm fI∧typeIn K (.ref fI)=some (.type "function")∧ps.length=2∧Binds K fd ps []∧FnOk P w K mg base CX0 1 fI fd ps (spInit K nm)
variable {C:String→Addr}{E:XK}{Γ Δ Γ' Δ' Γl Δl:List Nat}{m mr:Nat}{S:List (Nat×Bool)}
end
section
variable {X:Cx}{C:String→Addr}{E:XK}{Γ Δ Γ' Δ' Γl Δl:List Nat}{m mr:Nat}{S:List (Nat×Bool)}{e:Expr}{te:TE}{fe:FE}{np cpos pos:Pos}
end
section
variable {K:Frag}{C:String→Addr}{E:XK}{Γ Δ Γ' Δ' Γl Δl:List Nat}{m mr:Nat}{S:List (Nat×Bool)}
end
section
variable {X:Cx}{C:String→Addr}{E:XK}{Γ Δ Γ' Δ' Γl Δl:List Nat}{m m1 m2 mr:Nat}{S S1 S2:List (Nat×Bool)}{a b e:Expr}{ta tb te:TE}{fa fb fe:FE}{pos pos':Pos}
end
section
variable {K:Frag}{C:String→Addr}{E:XK}{Γ Δ Γ' Δ' Γk Δk:List Nat}{mr:Nat}{S:List (Nat×Bool)}
end
section
variable {X:Cx}{C:String→Addr}{E:XK}{Γ Δ Γk Δk:List Nat}{mr:Nat}{S:List (Nat×Bool)}{c iter:Expr}{ret:List Stmt}{u:TS}{g:FS}{pos p ip:Pos}{x:Str}{k:Nat}
end
structure Clz where
 c:Value
 i:Option Nat
 th:TS
noncomputable def tClz (K:Frag)(N:Nat)(D:Ends)(e:Addr)(cls:Value)(dx:Option Addr)(H':Hp):List Clz→Prop
  | []=>False
  | z::r=>∃b,exmOne K cls z.c=some b∧if b=true then (match z.i with
      | some i=>∀σ':St,σ'.length=N→z.th {nx:=fun _ H2=>D.nx (List.replicate N none) H2,rt:=D.rt,bk:=fun _ H2=>D.bk (List.replicate N none) H2,ct:=fun _ H2=>D.ct (List.replicate N none) H2} (σ'.set i (some (.ref e))) (upd H' e (exO e cls dx))
      | none=>∀σ':St,σ'.length=N→z.th D σ' H')
    else tClz K N D e cls dx H' r
inductive PClz (X:Cx):List ExceptHandler→List Clz→Prop
 | nil:PClz X [] []
 | named {c n:Str} {np hpos:Pos} {C:Addr} {b₀:Stmt} {suite:List Stmt} {i:Nat} {th:TS} {hs:List ExceptHandler} {zs:List Clz} (hm:X.mg c=some (.ref C)) (hg:Gl X c) (hdb:(c==("__debug__":Str))=false) (hi:X.N[i]?=some n) (hl:X.env.scope.names.lookup n=some .local)
   (hh:∀e:Addr,PSs (X.hand e) (b₀::suite) th) (hr:PClz X hs zs):PClz X (.ExceptHandler (some (.Name c np)) (some n) (b₀::suite) hpos::hs) (⟨.ref C,some i,th⟩::zs)
 | plain {c:Str} {np hpos:Pos} {C:Addr} {b₀:Stmt} {suite:List Stmt} {th:TS} {hs:List ExceptHandler} {zs:List Clz} (hm:X.mg c=some (.ref C)) (hg:Gl X c) (hdb:(c==("__debug__":Str))=false)
   (hh:∀e:Addr,PSs (X.hand e) (b₀::suite) th) (hr:PClz X hs zs):PClz X (.ExceptHandler (some (.Name c np)) none (b₀::suite) hpos::hs) (⟨.ref C,none,th⟩::zs)
section
variable {K:Frag}{C:String→Addr}{E:XK}{Γ Δ Γ1 Δ1 Γl Δl:List Nat}{mr:Nat}
inductive OClz (K:Frag)(C:String→Addr)(N mr:Nat)(Γl Δl Γ1 Δ1:List Nat):List Clz→List (List (String×Bool)×Option Nat×FS)→Prop
 | nil:OClz K C N mr Γl Δl Γ1 Δ1 [] []
 | named {c:Addr} {i:Nat} {th:TS} {fh:FS} {tb:List (String×Bool)} {Γ2 Δ2:List Nat} {Eh:XK} {zs:List Clz} {ds:List (List (String×Bool)×Option Nat×FS)} (ht:∀p∈tb,exmOne K (.ref (C p.1)) (.ref c)=some p.2) (hi:i<N) (hh:SOk K C Eh mr [] [] [] [] Γ2 Δ2 th fh)
   (hr:OClz K C N mr Γl Δl Γ1 Δ1 zs ds):OClz K C N mr Γl Δl Γ1 Δ1 (⟨.ref c,some i,th⟩::zs) ((tb,some i,fh)::ds)
 | plain {c:Addr} {th:TS} {fh:FS} {tb:List (String×Bool)} {Eh:XK} {zs:List Clz} {ds:List (List (String×Bool)×Option Nat×FS)} (ht:∀p∈tb,exmOne K (.ref (C p.1)) (.ref c)=some p.2) (hh:SOk K C Eh mr Γl Δl [] [] Γ1 Δ1 th fh)
   (hr:OClz K C N mr Γl Δl Γ1 Δ1 zs ds):OClz K C N mr Γl Δl Γ1 Δ1 (⟨.ref c,none,th⟩::zs) ((tb,none,fh)::ds)
end
inductive JClz (X:Cx)(C:String→Addr)(mr:Nat)(Γl Δl Γ1 Δ1:List Nat):List ExceptHandler→List Clz→List (List (String×Bool)×Option Nat×FS)→Prop
 | mk {hs:List ExceptHandler} {zs:List Clz} {ds:List (List (String×Bool)×Option Nat×FS)} (p:PClz X hs zs) (o:OClz X.K C X.N.length mr Γl Δl Γ1 Δ1 zs ds):JClz X C mr Γl Δl Γ1 Δ1 hs zs ds
section
variable {X:Cx}{C:String→Addr}{E:XK}{Γ Δ Γ1 Δ1 Γl Δl:List Nat}{mr:Nat}{np hpos pos:Pos}{hs:List ExceptHandler}{zs:List Clz}{ds:List (List (String×Bool)×Option Nat×FS)}{b₀:Stmt}{suite:List Stmt}{th:TS}{fh:FS}
end
section
variable {X:Cx}{C:String→Addr}{E:XK}{Γ Δ Γl Δl:List Nat}{mr:Nat}{e:Expr}{te:TE}{fe:FE}{pos p apos cpos:Pos}
theorem cs_extK (K:Frag){i:Nat}{x:Str}(he:JE X C E Γ Δ 2 [] e te fe)(hse:starEach [e] X.env=(false,eval e X.env)::starEach [] X.env)(hK:X.K=K:=by rfl)
  (hi:i∈Γ:=by decide) (hN:X.N[i]?=some x:=by rfl) (hv:autoParam (Vis X.env.scope x) aT3._auto_1) (hd:(x==("__debug__":Str))=false:=by decide) (hcd:(x==("__classdict__":Str))=false:=by decide)
  (hbase:attributeBase (.Name x p) "extend" X.env (eval (.Name x p) X.env)=eval (.Name x p) X.env:=by rfl)
  (hfew:((backTo cpos (starEach [e] X.env)).all (fun x=>!x.1)&&(backToKw cpos (keywordEach [] X.env)).all (fun x=>x.1.isSome)&&decide (([e]:List Expr).length+([]:List Keyword).length+(if ([]:List Keyword).isEmpty then 0 else 1)<30))=true:=by rfl)
  (hline:(apos.endLine==cpos.line)=true:=by rfl) (hplain:(backTo cpos (starEach ([]:List Expr) X.env)).any (·.1)=false:=by rfl) (hsw:swapsWith (.Call (.Attribute (.Name x p) "extend" apos) [e] [] cpos) none pos.line X.env=pure false:=by rfl) :
  JS X C E mr Γl Δl Γ Δ Γ Δ (.Expr (.Call (.Attribute (.Name x p) "extend" apos) [e] [] cpos) pos) (tDrop (tBM K "list" rExtend (tVar i) (tCons te tNil))) (Dl.sExt i fe):=by
 subst hK
 exact cs_ext hi hN hv hd hcd he hse hbase hfew hline hplain hsw
end
section
variable {K:Frag}{C:String→Addr}{E:XK}{Γ Δ Γl Δl:List Nat}{m m1 m2 mr:Nat}{S S1 S2:List (Nat×Bool)}{H:Hp}
end
section
variable {X:Cx}{C:String→Addr}{E:XK}{Γ Δ Γ' Δ' Γl Δl:List Nat}{m m1 m2 mr:Nat}{S S1 S2:List (Nat×Bool)}{a b e tg:Expr}{ta tb te:TE}{fa fb fe:FE}{p p2 pos:Pos}
noncomputable abbrev TX:=Str→St→Hp→VK→Prop
def PX (X:Cx)(es:List Expr)(t:TX):Prop:=
 ∀(out:Str) (pins:List (Addr×Obj)) (s:Shared) (σ:St) (H:Hp) (Q:VK),Inv X pins σ H s→out.length+2000*es.length≤sizeLine→t out σ H Q→
  wpAny (model X.prog X.w) X.A (joinParts out (evalEach es X.env)) (EP X pins σ Q) X.xe s
end
section
variable {K:Frag}{C:String→Addr}{E:XK}{Γ Δ:List Nat}{m m1 m2:Nat}{S S1 S2:List (Nat×Bool)}{H:Hp}
noncomputable def joinL (c:Nat):List (List Nat)→List Nat
 | []=>[]
 | [w]=>w
 | w::v::r=>w++32::c::32::joinL c (v::r)
def XOk (K:Frag)(C:String→Addr)(E:XK)(Γ Δ:List Nat)(t:TX)(f:FA):Prop:=∀(H0 Hb H:Hp) (σ:St) (ρ:Dl.Env) (A:Nat→List Addr) (Q:VK) (out:Str),PyData.strOk out=true→EnvOk K C H0 Hb H Γ Δ σ ρ A→
 Post ((f ρ).bind fun xs=>Dl.oR (Dl.catO out xs)) (fun d=>∀v H',Same H H'→Res K C 2 [] H A d v H'→Q v H') (fun c x=>∀H',Same H H'→EC C E c x H')→t out σ H Q
end
structure JX (X:Cx)(C:String→Addr)(E:XK)(Γ Δ:List Nat)(es:List Expr)(t:TX)(f:FA):Prop where
 q:PX X es t
 o:XOk X.K C E Γ Δ t f
section
variable {X:Cx}{C:String→Addr}{E:XK}{Γ Δ:List Nat}{m m1 m2:Nat}{S S1 S2:List (Nat×Bool)}{a b e o:Expr}{es:List Expr}{ta tb te:TE}{tx:TX}{fa fb fe:FE}{f:FA}{pos p apos cpos:Pos}
end
section
variable {K:Frag}{C:String→Addr}{E:XK}{Γ Δ Γl Δl:List Nat}{m m1 m2 m3 mr:Nat}{S S1 S2 S3:List (Nat×Bool)}{H:Hp}
end
section
variable {X:Cx}{C:String→Addr}{E:XK}{Γ Δ Γ' Δ' Γl Δl:List Nat}{m m1 m2 m3 mr:Nat}{S S1 S2 S3:List (Nat×Bool)}{a b c e o:Expr}{ta tb tc te:TE}{fa fb fc fe:FE}{p p2 pos apos cpos:Pos}
end
section
variable {K:Frag}{C:String→Addr}{E:XK}{Γ Δ:List Nat}
end
section
variable {X:Cx}{C:String→Addr}{E:XK}{mr:Nat}{Γ Δ Γ' Δ' Γl Δl:List Nat}{n:Nat}{pos:Pos}
end
end L2
namespace L2
open PySem PyProof.Rows
structure Ask (prog:Program)(w:World)(A:Around)(s:Shared)(κ:SortKind)(P:Keyed→Prop)(r:Keyed→Keyed→Bool):Prop where
 run:∀{x y:Keyed} {Q:Bool→Shared→Prop} {E:Value→Shared→Prop},P x→P y→Q (r x y) s→wpAny (model prog w) A (keyLt' κ x.1 y.1) Q E s
 tr:∀{x y z:Keyed},P x→P y→P z→r y x=false→r z y=false→r z x=false
 as:∀{x y:Keyed},P x→P y→r x y=true→r y x=false
section
variable {prog:Program}{w:World}{A:Around}{E:Value→Shared→Prop}{s:Shared}{κ:SortKind}{P:Keyed→Prop}{r:Keyed→Keyed→Bool}{st:SortSt}
end
section
variable {r:Keyed→Keyed→Bool}
def Up (r:Keyed→Keyed→Bool)(l:List Keyed):Prop:=l.Pairwise fun x y=>r y x=false
structure MI (r:Keyed→Keyed→Bool)(a b out:List Keyed)(ia ib:Nat):Prop where
 pm:out.Perm (a.take ia++b.take ib)
 so:Up r out
 le:∀x∈out,∀y,(y∈a.drop ia∨y∈b.drop ib)→r y x=false
variable {a b out:List Keyed}{ia ib:Nat}{x:Keyed}
structure MJ (r:Keyed→Keyed→Bool)(a b out:List Keyed)(na nb:Nat):Prop where
 pm:out.Perm (a.drop na++b.drop nb)
 so:Up r out
 le:∀x∈out,∀y,(y∈a.take na∨y∈b.take nb)→r x y=false
end
structure SG (st st':SortSt):Prop where
 k:kindOf st'=kindOf st
 a:arrOf st'=arrOf st
 p:pendingOf st'=pendingOf st
 f:failedOf st'=failedOf st
section
variable {prog:Program}{w:World}{A:Around}{E:Value→Shared→Prop}{s:Shared}{κ:SortKind}{P:Keyed→Prop}{r:Keyed→Keyed→Bool}{st:SortSt}
variable {α:Type}
end
section
variable {prog:Program}{w:World}{A:Around}{E:Value→Shared→Prop}{s:Shared}{κ:SortKind}{P:Keyed→Prop}{r:Keyed→Keyed→Bool}{st:SortSt}
structure SC (κ:SortKind)(lo:Nat)(st st':SortSt):Prop where
 k:kindOf st'=κ
 f:failedOf st'=none
 p:pendingOf st'=pendingOf st
 m:(arrOf st').Perm (arrOf st)
 o:∀i,i<lo→(arrOf st')[i]?=(arrOf st)[i]?
variable {d0:Keyed}{lo nrem:Nat}
variable {d0:Keyed}{lo nrem:Nat}
end
noncomputable abbrev Pn:=Nat×Nat×Nat
noncomputable def Pend:Nat→List (List Keyed)→List Pn→Prop
 | _,[],[]=>True
 | off,R::Rs,p::ps=>p.1=off∧p.2.1=R.length∧Pend (off+R.length) Rs ps
 | _,_,_=>False
structure RI (κ:SortKind)(r:Keyed→Keyed→Bool)(a0:List Keyed)(st:SortSt)(Rs:List (List Keyed))(Z:List Keyed):Prop where
 k:kindOf st=κ
 f:failedOf st=none
 m:(arrOf st).toList.Perm a0
 l:(arrOf st).toList=Rs.flatten++Z
 p:Pend 0 Rs (pendingOf st).toList
 u:∀R∈Rs,Up r R∧1≤R.length
section
variable {prog:Program}{w:World}{A:Around}{E:Value→Shared→Prop}{s:Shared}{κ:SortKind}{P:Keyed→Prop}{r:Keyed→Keyed→Bool}{st:SortSt}{d0:Keyed}{a0 Z:List Keyed}{Rs:List (List Keyed)}
end
end L2
namespace L2
open PySem PySem.SeqAt PySem.MeetsSeq PySem.MeetsSeq3
open AutoSeq1 (wpAny_loadPart')
noncomputable def lexI (e l:Nat→Bool)(m n:Nat):List Nat→Bool
 | []=>decide (m<n)
 | j::js=>if e j=true then lexI e l m n js else l j
end L2
namespace L2
open PySem PySem.SeqAt PyProof.Rows
open Dl (Pc sLt pcLt ctLt)
noncomputable def pP (p:Pc):PyData:=.tuple [.int p.1,.str p.2]
noncomputable def cP (c:List Pc):PyData:=.list (c.map pP)
section
variable {A:Around}{s:Shared}
end
noncomputable def cutOf (h:Heap)(v:Value):List Pc:=open Classical in if q:∃c as,Reads h v (cP c) as then q.choose else []
section
variable {prog:Program}{w:World}{A:Around}{E:Value→Shared→Prop}{s:Shared}
end
end L2
namespace L2
open PySem PySem.SeqAt PyProof.Rows
open Dl (sLt Pr kLt prLt)
section
variable {prog:Program}{w:World}{A:Around}{E:Value→Shared→Prop}{s:Shared}
end
end L2
namespace L2
open PySem PySem.Spec PyProof.Rows
open Dl (D R FE FT FA FO FS FI FB Fl Pc ctLt)
section
variable {K:Frag}{C:String→Addr}{E:XK}{Γ Δ Γl Δl:List Nat}{m m1 m2 m3 mr:Nat}{S S1 S2 S3:List (Nat×Bool)}{H:Hp}
variable {X:Cx}
end
section
variable {X:Cx}{C:String→Addr}{E:XK}{Γ Δ Γ' Δ' Γl Δl:List Nat}{m m1 m2 m3 mr:Nat}{S S1 S2 S3:List (Nat×Bool)}{a b c e o kx:Expr}{ta tb tc te tk:TE}{fa fb fc fe fk:FE}{p p1 p2 pos apos cpos:Pos}
end
end L2
namespace L2
open PySem PySem.Spec PyProof.Rows
open Dl (D R FE FT FA FO FS FI FB Fl)
structure RoomH (k:Nat)(A:Around):Prop where
 dp:A.depth+3*k+5<recursionLimit
 un:A.units+16*k+200<cLine
structure FnOkH (P:Program)(w:World)(K:Frag)(mg:Str→Option Value)(base:Heap)(k:Nat)(f:Addr)(fd:FuncData)(ps:List Str)(sp:Sp):Prop where
 len:∀vs H Q E,sp vs H Q E→vs.length=ps.length
 run:∀(A:Around) (outer:List Env) (s:Shared) (H:Hp) (args:Args) (us:List Value) (vs:List V) (Q:VK) (E:XK),RoomH k A→Env0 P w K mg base A outer s H→BindsTo s fd args (ps.zip us)→Vals vs us→sp vs H Q E→
  codeAny (model P w) A (.call (.ref f) args) (CR CX0 outer P w H s Q E) s
structure DefH (P:Program)(w:World)(K:Frag)(mg:Str→Option Value)(base:Heap)(k:Nat)(x:Str)(ps:List Str)(sp:Sp):Prop where
 ex:∃f fd,mg x=some (.ref f)∧keepIn K (.ref f)=true∧Binds K fd ps []∧FnOkH P w K mg base k f fd ps sp
noncomputable abbrev Cx.wild (X:Cx):Cx:={X with calm:=false,xe:=fun _ _=>False}
section
variable {X:Cx}{C:String→Addr}{E:XK}{Γ Δ:List Nat}{m n mr k:Nat}{S:List (Nat×Bool)}{x:Str}{p pos:Pos}{e:Expr}{es:List Expr}{t:TA}
end
end L2
namespace L2
open PySem PySem.Spec PyProof.Rows
open Dl (D R FE FT FA FO FS FI FB Fl Pc ctLt)
section
variable {K:Frag}{C:String→Addr}{E:XK}{Γ Δ Γl Δl:List Nat}{m m1 m2 m3 mr:Nat}{S S1 S2 S3:List (Nat×Bool)}{H:Hp}
variable {X:Cx}
end
section
variable {X:Cx}{C:String→Addr}{E:XK}{Γ Δ Γ' Δ' Γl Δl:List Nat}{m m1 m2 m3 mr:Nat}{S S1 S2 S3:List (Nat×Bool)}{a b c e o kx:Expr}{ta tb tc te tk:TE}{fa fb fc fe fk:FE}{p p1 p2 pos apos cpos:Pos}
end
end L2
namespace L2
open PySem PySem.Spec PyProof.Rows
open Dl (D R FE FT FA FO FS FI FB Fl)
section
variable {prog:Program}{w:World}{K:Type}[DecidableEq K]{knd:HeapKind prog w K}{A:Around}{E:Value→Shared→Prop}{s:Shared}
end
section
variable {X:Cx}
variable {K:Frag}{C:String→Addr}{E:XK}{Γ Δ:List Nat}{m:Nat}{S:List (Nat×Bool)}{H:Hp}
variable {e:Expr}{te:TE}{fe:FE}{p pos:Pos}
variable {tg:Expr}
end
section
variable {X:Cx}{C:String→Addr}{E:XK}{Γ Δ:List Nat}{m n:Nat}{S:List (Nat×Bool)}{tg a b c:Expr}{t:TA}{f:FA}{p pos:Pos}
end
end L2
namespace L2
open PySem PySem.Spec PyProof.Rows
structure LamSc (X:Cx)(N:List Str)(p:Str)(sc:Scope)(cl:List (Str×Addr)):Prop where
 kind:sc.kind=.function
 co:sc.isCoroutine=false
 gen:sc.isGenerator=false
 nocell:∀x∈sc.names,x.2≠.cell
 par:sc.names.lookup p=some .local
 nd:N.Nodup
 hd:N.head?=some p
 tl:∀x∈N.tail,sc.names.lookup x=some .free
 fr:∀x,sc.names.lookup x=some .free→∃c,cl.lookup x=some c
 cls:∀x c,cl.lookup x=some c→X.env.cells.lookup x=some c
section
variable {X:Cx}{pins:List (Addr×Obj)}{σ:St}{H:Hp}{s:Shared}
end
def BMod (base:Heap)(mg:Str→Option Value):Prop:=∃bm ob,mg "__builtins__"=some (.ref bm)∧bm≠builtinsNs∧base.get? bm=some ob∧ob.cls=.type "module"∧ob.dict=some builtinsNs∧ob.data=.plain
section
variable {X:Cx}{pins:List (Addr×Obj)}{σ:St}{H:Hp}{s:Shared}{P c:Addr}{pos:Pos}{qual:Str}{params:Arguments}{body:Expr}{sc:Scope}{cl:List (Str×Addr)}{E:Value→Shared→Prop}
end
noncomputable def keysT (K:Frag)(a:Addr)(xs:List V)(tb:V→Hp→VK→Prop):List V→Hp→(List Int→Hp→Prop)→Prop
 | [],H,Q=>Q [] H
 | x::r,H,Q=>tb x H fun v H'=>∃k,v=.int k∧SqL K H' a xs∧keysT K a xs tb r H' fun ks H2=>Q (k::ks) H2
section
variable {X:Cx}{pins:List (Addr×Obj)}{σ:St}{H:Hp}{s:Shared}{a f I S:Addr}{xs:List V}{tb:V→Hp→VK→Prop}{R:Result→Shared→Prop}{Q:V→Hp→Prop}
end
section
variable {X:Cx}{pins:List (Addr×Obj)}{σ:St}{H:Hp}{s:Shared}{a f:Addr}{xs:List V}{tb:V→Hp→VK→Prop}{Q:VK}
end
structure LamOk (X:Cx)(N:List Str)(p qual:Str)(params:Arguments)(body:Expr)(sc:Scope)(cl:List (Str×Addr))(js:List Nat)(P c:Addr)(lpos:Pos):Prop where
 bm:BMod X.base X.mg
 tab:X.H₀ P=some (.tbl lpos qual)
 code:X.env.code=.ref c
 hd:PySem.W.CodeHd X.base c P
 clo:closureFor sc X.env=pure cl
 qu:X.env.qual++"<lambda>"=qual
 df:defaultsOf params X.env=([],[])
 lsc:LamSc X N p sc cl
 jsx:∀(i:Nat) (x:Str),N.tail[i]?=some x→∃j:Nat,js[i]?=some j∧X.N[j]?=some x∧Vis X.env.scope x∧X.env.kindOf x≠some .local
 len:js.length+1=N.length
 bind:∀(u pm ctv:Value) (c:Addr),bindArgs (PySem.W.kla_fn "<lambda>" qual params body sc cl pm (.ref c) ctv) ⟨[u],[]⟩=pure [(p,u)]
 dep:X.A.in1.depth<recursionLimit
 calm:X.calm=true
section
variable {X:Cx}{pins:List (Addr×Obj)}{σ:St}{H:Hp}{s:Shared}{N:List Str}{p qual:Str}{params:Arguments}{body:Expr}{sc:Scope}{cl:List (Str×Addr)}{js:List Nat}{P c:Addr}{lpos:Pos}
variable {np pos kp:Pos}{e:Expr}{te tb:TE}
end
end L2
namespace L2
open PySem PySem.Spec PyProof.Rows
open Dl (D R FE FT FA FO FS FI FB Fl)
section
variable {K:Frag}{C:String→Addr}{E:XK}{Γ Δ Γ' Δ':List Nat}{m m1 m2 mb:Nat}{S Sb:List (Nat×Bool)}{H:Hp}
end
section
variable {X:Cx}{C:String→Addr}{E:XK}{Γ Δ Γ' Δ' Γl Δl:List Nat}{m mb mr:Nat}{S Sb:List (Nat×Bool)}{N:List Str}{p qual:Str}{params:Arguments}{body:Expr}{sc:Scope}{cl:List (Str×Addr)}{js:List Nat}{P c:Addr}{lpos np pos kp p2:Pos}{e:Expr}{te tb:TE}{fe fb:FE}{x y:Str}{i j:Nat}
end
section
variable {K:Frag}{C:String→Addr}{E:XK}{Γ Δ Γ' Δ' Γl Δl:List Nat}{m mr:Nat}{S:List (Nat×Bool)}{H:Hp}
end
section
variable {X:Cx}{C:String→Addr}{E:XK}{Γ Δ Γ' Δ' Γl Δl:List Nat}{m mr:Nat}{e:Expr}{te:TE}{fe:FE}{pos pos':Pos}{x:Str}{i j:Nat}
end
structure FunL (K:Frag)(x qual:Str)(st:Stmt)(f:Addr)(fd:FuncData)(c:Addr):Prop where
 ex:∃(oc:Value) (od:Option Addr) (kV doc pm:Value) (an:Option Addr) (ct:Value) (osl:Array (Option Value)),
  fd=fnOf x qual (defArgs st) (defBody st) (defScope st) .none kV doc pm an (.ref c) ct∧K.lookup f=some ⟨oc,od,.func fd,osl⟩∧codeIn K (.ref c) qual=true
 kp:keepIn K (.ref f)=true
section
variable {P:Program}{w:World}{K:Frag}{C:String→Addr}{mg:Str→Option Value}{base:Heap}{x qual:Str}{st:Stmt}{f c:Addr}{fd:FuncData}{N ps:List Str}{k n mr:Nat}{Γ' Δ':List Nat}{g:FS}{ts:List (Addr×Pos×Str)}
end
section
variable {X:Cx}{C:String→Addr}{E:XK}{Γ Δ:List Nat}{m n mr k:Nat}{S:List (Nat×Bool)}{x:Str}{p pos:Pos}{e:Expr}{es:List Expr}{t:TA}{ts:List (Addr×Pos×Str)}
end
end L2
namespace L2
open PySem PySem.Spec PyProof.Rows
noncomputable def dropT (T:List Addr)(K:Frag):Frag:=K.filter fun p=>!T.contains p.1
theorem dropT_out {T:List Addr}{a:Addr}(h:T.contains a=true):∀K:Frag,(dropT T K).lookup a=none
 | []=>rfl
 | (b,o)::K=>by
  unfold dropT
  rw [List.filter_cons]
  split
  ·rename_i hb
   rw [lookup_cons]
   split
   ·rename_i e
    have e:=eq_of_beq e
    subst e
    have hb:(!T.contains a)=true:=hb
    rw [h] at hb
    cases hb
   ·exact dropT_out h K
  ·exact dropT_out h K
theorem dropT_get {T:List Addr}{a:Addr}(h:T.contains a=false):∀K:Frag,(dropT T K).lookup a=K.lookup a
 | []=>rfl
 | (b,o)::K=>by
  unfold dropT
  rw [List.filter_cons,lookup_cons]
  split
  ·rw [lookup_cons]
   split
   ·rfl
   ·exact dropT_get h K
  ·rename_i hb
   have hb:¬(!T.contains b)=true:=hb
   split
   ·rename_i e
    have e:=eq_of_beq e
    subst e
    rw [h] at hb
    exact absurd rfl hb
   ·exact dropT_get h K
theorem dropT_in {T:List Addr}{K:Frag}{h:Heap}(x:K.In h):(dropT T K).In h:=fun a o e=>by
 cases q:T.contains a with
 | true=>rw [dropT_out q] at e;cases e
 | false=>rw [dropT_get q] at e;exact x a o e
section
variable {T:List Addr}{K:Frag}{a f c:Addr}{n x qual:Str}{v:Option Value}
theorem dropT_ns (e:nsIn K a n=some v)(h:T.contains a=false:=by decide):nsIn (dropT T K) a n=some v:=by
 unfold nsIn at e ⊢
 rw [dropT_get h]
 exact e
theorem dropT_code (e:codeIn K (.ref c) qual=true)(h:T.contains c=false:=by decide):codeIn (dropT T K) (.ref c) qual=true:=by
 unfold codeIn at e ⊢
 simp only [dropT_get h]
 exact e
theorem dropT_hd {P:Addr}(e:codeHdIn K c P=true)(h:T.contains c=false:=by decide):codeHdIn (dropT T K) c P=true:=by
 unfold codeHdIn at e ⊢
 rw [dropT_get h]
 exact e
theorem dropT_keep {oc:Value}{od:Option Addr}{fd:FuncData}{osl:Array (Option Value)}(l:K.lookup f=some ⟨oc,od,.func fd,osl⟩)(h:T.contains f=false:=by decide):keepIn (dropT T K) (.ref f)=true:=by
 unfold keepIn
 simp only [dropT_get h,l]
theorem fun_mkT {st:Stmt}{oc:Value}{od an:Option Addr}{osl:Array (Option Value)}{kV doc pm ct:Value}(l:K.lookup f=some ⟨oc,od,.func (fnOf x qual (defArgs st) (defBody st) (defScope st) .none kV doc pm an (.ref c) ct),osl⟩)
  (cd:codeIn K (.ref c) qual=true) (hf:T.contains f=false:=by decide) (hc:T.contains c=false:=by decide):FunL (dropT T K) x qual st f (fnOf x qual (defArgs st) (defBody st) (defScope st) .none kV doc pm an (.ref c) ct) c:=
 ⟨⟨oc,od,kV,doc,pm,an,ct,osl,rfl,by rw [dropT_get hf];exact l,dropT_code cd hc⟩,dropT_keep l hf⟩
theorem dropT_look {o:Obj}(l:K.lookup a=some o)(h:T.contains a=false:=by decide):(dropT T K).lookup a=some o:=by
 rw [dropT_get h]
 exact l
end
end L2
namespace L2
open PySem PySem.Spec PyProof.Rows
open Dl (D R FE FT FA FO FS FI FB Fl)
section
variable {K:Frag}{C:String→Addr}{E:XK}{Γ Δ Γ' Δ' Γk Δk:List Nat}{m mr:Nat}{H H2:Hp}
end
section
variable {X:Cx}{C:String→Addr}{E:XK}{Γ Δ Γ' Δ' Γk Δk:List Nat}{m mr:Nat}{e:Expr}{te:TE}{fe:FE}{pos p p1 p2 pa pb pc pd apos cpos:Pos}
end
end L2
namespace L2
open PySem PySem.Spec PyProof.Rows
section
variable {P:Program}{w:World}{H H':Hp}{h h':Heap}{a:Addr}{o:HO}
end
section
variable {X:Cx}{pins:List (Addr×Obj)}{σ:St}{H H':Hp}{s:Shared}{a:Addr}{u u':HO}{o:Obj}
variable {tg:Expr}
end
end L2
namespace L2
open PySem PySem.Spec PyProof.Rows
open Dl (D R FE FT FA FO FS FI FB Fl)
section
variable {K:Frag}{C:String→Addr}{E:XK}{Γ Δ Γl Δl:List Nat}{m m1 m2 m3 mr:Nat}{S S1 S2 S3:List (Nat×Bool)}{H:Hp}
end
section
variable {X:Cx}{C:String→Addr}{E:XK}{Γ Δ Γ' Δ' Γl Δl:List Nat}{m m1 m2 m3 mr:Nat}{S S1 S2 S3:List (Nat×Bool)}{a b c e o:Expr}{ta tb tc te:TE}{fa fb fc fe:FE}{p p2 pos apos cpos:Pos}{n:Nat}
end
section
variable {K:Frag}{C:String→Addr}{E:XK}{Γ Δ Γ' Δ' Γ1 Δ1 Γl Δl Γk Δk:List Nat}{m m1 m2 m3 mr:Nat}{H:Hp}{Q:VK}
end
section
variable {X:Cx}{C:String→Addr}{E:XK}{Γ Δ Γ' Δ' Γl Δl:List Nat}{m1 m2 mr:Nat}{pos pos2 p1 p2:Pos}{e1 e2:Expr}{t1 t2:TE}{f1 f2:FE}{x y:Str}{ss:List Stmt}{v:TS}{h:FS}
end
end L2
namespace L2
open PySem PySem.Spec PyProof.Rows
open Dl (D R FE FT FA FO FS FI FB FM Fl)
section
variable {K:Frag}{C:String→Addr}{E:XK}{Γ Δ Γ' Δ' Γ1 Δ1 Γl Δl Γk Δk:List Nat}{m m1 m2 m3 mr n:Nat}{S:List (Nat×Bool)}{H:Hp}{Q:VK}
def MOkF (K:Frag)(C:String→Addr)(E:XK)(Γ Δ:List Nat)(i:Nat)(t:TE)(f:FM):Prop:=∀(H0 Hb H:Hp) (σ:St) (ρ:DEnv) (A:Nat→List Addr) (Q:VK),EnvOk K C H0 Hb H Γ Δ σ ρ A→
 Post (f ρ) (fun p=>∀v H' A' B,EnvOk K C H0 Hb H' Γ Δ σ p.2 A'→(∀b o,b∉A i→H b=some o→H' b=some o)→(∀j,j≠i→p.2[j]?=ρ[j]?∧A' j=A j)→Rp K C H' p.1 v B→B.Nodup→(∀a∈B,Hb a=none∧∀j,a∉A' j)→Q v H') (fun c x=>∀H',Same H0 H'→EC C E c x H')→t σ H Q
end
section
variable {X:Cx}{C:String→Addr}{E:XK}{Γ Δ Γ' Δ' Γl Δl:List Nat}{m m2 mr n:Nat}{S2:List (Nat×Bool)}{e:Expr}{es:List Expr}{t:TA}{fa:FA}{pos p p1 p2 p3 p4 p5 apos cpos mpos mapos:Pos}{c:String}{md x y kx:Str}{CX:CXT}{k:Nat}{ps:List Str}{tm:TE}{fm:FM}
structure JMF (X:Cx)(C:String→Addr)(E:XK)(Γ Δ:List Nat)(j:Nat)(e:Expr)(t:TE)(f:FM):Prop where
 q:QE X e t
 o:MOkF X.K C E Γ Δ j t f
end
end L2
namespace L2
open PySem PySem.Spec PyProof.Rows
@[reducible] noncomputable def Cx.blkC (X:Cx)(N2:List Str)(y:Str)(sc:Scope)(cl:List (Str×Addr))(C:Addr)(s0:Shared)(H0:Hp)(fp:List Addr):Cx:=
 {X with N:=N2++[y],s₀:=s0,H₀:=H0,env:=compEnvC sc cl C X.env,outer:=X.stack,ex:=fp,fn:=fun z=>z==y,pn:=[],xe:=fun _ _=>False}
structure BlkC (sc esc:Scope)(y:Str)(N N2:List Str):Prop where
 kind:sc.kind=.function
 cell:∀n acc,cellsFrom n sc.names acc=(y,n)::acc
 one:∀z∈sc.names,z.2=.cell→z.1=y
 nfree:∀z∈sc.names,z.2=.free→z.1≠y
 loc:∀z∈sc.names,z.2=.local→sc.names.lookup z.1=some .local
 free:∀z∈sc.names,z.2=.free→esc.names.lookup z.1=some .cell∨esc.names.lookup z.1=some .free
 out:∀z∈N2,sc.names.lookup z≠some .local∧z≠y
 nd:N.Nodup
 len:N2.length=N.length
 ren:∀p∈N.zip N2,p.2=p.1∨sc.names.lookup p.2=none
section
variable {X:Cx}{elt iter tg:Expr}{y:Str}{pos:Pos}{g:TG}{ifs:List Expr}{sc:Scope}{N2:List Str}{wi:TI}{tc:TT}{te:TE}
end
end L2
namespace L2
open PySem PySem.Spec PyProof.Rows
open Dl (D R FE FT FA FO FS FI FB FM Fl)
section
variable {K:Frag}{C:String→Addr}{E:XK}{Γ Δ:List Nat}{S:List (Nat×Bool)}
end
section
variable {X:Cx}{C:String→Addr}{E:XK}{mr:Nat}{Γ Δ Γ' Δ' Γl Δl:List Nat}{S:List (Nat×Bool)}{n:Nat}{pos:Pos}{elt iter:Expr}{ifs:List Expr}{sc:Scope}{wi:TI}{tc:TT}{te:TE}{gg:TG}{fi:FI}{fc:FT}{fg:FB}{fe:FE}
end
end L2
namespace L2
open PySem PySem.Spec PyProof.Rows
open Dl (D R FE FT FA FO FS FI FB FM FMT Fl)
section
variable {K:Frag}{C:String→Addr}{E:XK}{Γ Δ Γ' Δ' Γ1 Δ1 Γl Δl Γk Δk:List Nat}{m m1 m2 mr n:Nat}{S S1 S2:List (Nat×Bool)}
end
section
variable {X:Cx}{C:String→Addr}{E:XK}{Γ Δ Γ' Δ' Γ1 Δ1 Γk Δk Γl Δl:List Nat}{m m1 m2 mr n k:Nat}{S S1 S2:List (Nat×Bool)}{a b e:Expr}{es:List Expr}{te:TE}{fe:FE}{t:TA}{fa:FA}{tm:TE}{fm:FM}{pos p p1 p2 apos cpos q3:Pos}{x y:Str}{CX:CXT}{ps:List Str}
end
section
variable {K:Frag}{C:String→Addr}{E:XK}{Γ Δ Γ' Δ' Γ1 Δ1 Γl Δl:List Nat}{m mr n:Nat}{S:List (Nat×Bool)}{H:Hp}
end
section
variable {X:Cx}{C:String→Addr}{E:XK}{Γ Δ Γ' Δ' Γl Δl:List Nat}{m2 mr n k:Nat}{S2:List (Nat×Bool)}{es:List Expr}{t:TA}{ff:FA}{pos p p2 p3 cpos:Pos}{x y z:Str}{CX:CXT}{ps:List Str}
end
section
variable {X:Cx}{C:String→Addr}{E:XK}{Γ Δ:List Nat}{m2:Nat}{S2:List (Nat×Bool)}{a b:Expr}{tm te:TE}{fm:FM}{fe:FE}{pos:Pos}
end
section
variable {K:Frag}{C:String→Addr}{E:XK}{Γ Δ:List Nat}{m n:Nat}{S:List (Nat×Bool)}
def SOkT (K:Frag)(C:String→Addr)(E:XK)(t:TS)(f:FS):Prop:=∀(H0 Hb H:Hp) (σ:St) (ρ:DEnv) (A:Nat→List Addr) (D:Ends),EnvOk K C H0 Hb H [] [] σ ρ A→
  Post (f ρ) (fun fl=>match fl with
    | .ret d=>∀v H' Br,Same H H'→Rp K C H' d v Br→(∀a∈Br,(∃j,a∈A j)∨H a=none)→D.rt v H'
    | _=>False) (fun c x=>∀H',Same H H'→EC C E c x H')→t D σ H
end
structure JTs (X:Cx)(C:String→Addr)(E:XK)(ss:List Stmt)(t:TS)(f:FS):Prop where
 q:QSs X ss t
 o:SOkT X.K C E t f
 n:∀ρ ρ',f ρ≠.ok (.nx ρ')
section
variable {X:Cx}{C:String→Addr}{E:XK}{Γ Δ:List Nat}{m mr n k:Nat}{S:List (Nat×Bool)}{e:Expr}{es:List Expr}{ss:List Stmt}{t:TA}{f:FA}{te:TE}{fe:FE}{u:TS}{g:FS}{pos pos' p:Pos}{x:Str}{CX:CXT}{ps:List Str}
end
end L2
namespace L2
open PySem PySem.Spec PyProof.Rows
open Dl (D R FE FT FA FO FS FI FB FM FMT Fl Pr kLt prLt)
section
variable {X:Cx}
variable {K:Frag}{C:String→Addr}{H:Hp}
end
end L2
namespace L2
open PySem PySem.Spec PyProof.Rows
open Dl (D R FE FT FA FO FS FI FB FM FMT Fl)
section
variable {X:Cx}
variable {K:Frag}{C:String→Addr}
end
end L2
namespace L2
open PySem PySem.Spec PyProof.Rows
section
variable {prog:Program}{w:World}{A:Around}{E:Value→Shared→Prop}{s:Shared}
variable {X:Cx}{tg:Expr}
end
open Dl (D R FE FT FA FO FS FI FB FM FMT Fl) in
section
variable {K:Frag}{C:String→Addr}{E:XK}{Γ Δ Γ' Δ' Γk Δk:List Nat}{mr:Nat}
end
section
variable {X:Cx}{C:String→Addr}{E:XK}{Γ Δ Γ' Δ' Γk Δk:List Nat}{mr:Nat}{c e:Expr}{tA:TT}{fA:Dl.FT}{pos p p1 ip rp:Pos}{x y:Str}
end
end L2
namespace L2
open PySem
def UpP (a:Array Nat):Prop:=∀(i j x y:Nat),i<j→a[i]?=some x→a[j]?=some y→x<y
def AtS (a:Array Nat)(j p:Nat):Prop:=p≤a.size∧(∀i x,i<p→a[i]?=some x→x<j)∧∀i x,p≤i→a[i]?=some x→j≤x
theorem below_go {a:Array Nat}{j:Nat}(hu:UpP a):∀(f lo hi:Nat),hi≤a.size→lo≤hi→hi - lo≤f→(∀i x,i<lo→a[i]?=some x→x<j)→(∀i x,hi≤i→a[i]?=some x→j≤x)→AtS a j (SetTable.below.go a j f lo hi)
 | 0,lo,hi,h1,h2,h3,h4,h5=>by
  have:lo=hi:=by omega
  subst this
  exact ⟨h1,h4,h5⟩
 | f+1,lo,hi,h1,h2,h3,h4,h5=>by
  rw [SetTable.below.go]
  split
  ·rename_i hlt
   have hm:(lo+hi) / 2<a.size:=by omega
   have hg:a.getD ((lo+hi) / 2) j=a[(lo+hi) / 2]:=by simp [Array.getD,hm]
   have hs:a[(lo+hi) / 2]?=some a[(lo+hi) / 2]:=Array.getElem?_eq_getElem hm
   dsimp only
   rw [hg]
   split
   ·rename_i hx
    refine below_go hu f _ _ h1 (by omega) (by omega) (fun i x hi' e=>?_) h5
    by_cases z:i=(lo+hi) / 2
    ·subst z;rw [hs] at e;cases e;exact hx
    ·exact lt_trans (hu i ((lo+hi) / 2) x _ (by omega) e hs) hx
   ·rename_i hx
    refine below_go hu f _ _ (by omega) (by omega) (by omega) h4 (fun i x hi' e=>?_)
    by_cases z:i=(lo+hi) / 2
    ·subst z;rw [hs] at e;cases e;omega
    ·have:=hu ((lo+hi) / 2) i _ x (by omega) hs e
     omega
  ·have:lo=hi:=by omega
   subst this
   exact ⟨h1,h4,h5⟩
theorem below_at {a:Array Nat}(hu:UpP a)(j:Nat):AtS a j (SetTable.below a j):=
 below_go hu _ _ _ (le_refl _) (zero_le _) (by omega) (fun i x h=>absurd h (Nat.not_lt_zero _)) fun i x h e=>by
  have:=(Array.getElem?_eq_some_iff.mp e).1;omega
theorem ins_at {α:Type}{a:Array α}{p:Nat}(hp:p≤a.size)(x:α)(i:Nat):(SetTable.insertAt a p x)[i]?=if i<p then a[i]? else if i=p then some x else a[i - 1]?:=by
 rw [← getElem?_toList,SetTable.toList_insertAt]
 split
 ·rename_i h
  rw [getElem?_append_left (by rw [length_take,length_toList];omega),List.getElem?_take_of_lt h,getElem?_toList]
 ·rw [getElem?_append_right (by rw [length_take,length_toList];omega),length_take,length_toList,Nat.min_eq_left hp]
  split
  ·rename_i h;subst h;simp
  ·rename_i h1 h2
   obtain ⟨k,hk⟩:∃k,i - p=k+1:=⟨i - p - 1,by omega⟩
   rw [hk,List.getElem?_cons_succ,List.getElem?_drop,getElem?_toList]
   congr 1;omega
theorem UpP.ins {a:Array Nat}(hu:UpP a){j:Nat}(hn:a[SetTable.below a j]?≠some j):UpP (SetTable.insertAt a (SetTable.below a j) j):=by
 obtain ⟨h1,h2,h3⟩:=below_at hu j
 generalize SetTable.below a j=p at *
 have h3':∀i x,p≤i→a[i]?=some x→j<x:=fun i x hi e=>by
  have q:=h3 i x hi e
  by_cases z:i=p
  ·subst z;rcases Nat.lt_or_eq_of_le q with q | q
   ·exact q
   ·subst q;exact absurd e hn
  ·have hp:p<a.size:=by have:=(Array.getElem?_eq_some_iff.mp e).1;omega
   have:=hu p i _ x (by omega) (Array.getElem?_eq_getElem hp) e
   have:=h3 p _ (le_refl _) (Array.getElem?_eq_getElem hp)
   omega
 intro i k x y hik ex ey
 rw [ins_at h1] at ex ey
 split at ex
 ·split at ey
  ·exact hu _ _ _ _ hik ex ey
  ·split at ey
   ·cases ey;exact h2 _ _ (by assumption) ex
   ·exact lt_trans (h2 _ _ (by assumption) ex) (h3' _ _ (by omega) ey)
 ·rw [if_neg (by omega)] at ey
  split at ex
  ·cases ex
   rw [if_neg (by omega)] at ey
   exact h3' _ _ (by omega) ey
  ·rw [if_neg (by omega)] at ey
   exact hu _ _ _ _ (by omega) ex ey
theorem UpP.range (n:Nat):UpP (Array.range n):=fun i j x y h ex ey=>by
 rw [Array.getElem?_eq_some_iff] at ex ey
 obtain ⟨_,ex⟩:=ex
 obtain ⟨_,ey⟩:=ey
 simp at ex ey
 omega
theorem UpP.of_pairwise {l:List Nat}(h:l.Pairwise (·<·)):UpP l.toArray:=fun i j x y hij ex ey=>by
 simp at ex ey
 rw [List.getElem?_eq_some_iff] at ex ey
 obtain ⟨a,ex⟩:=ex
 obtain ⟨b,ey⟩:=ey
 subst ex;subst ey
 exact List.pairwise_iff_getElem.mp h i j a b hij
structure TabU (t:SetTable):Prop where
 no:t.dummies=#[]
 up:UpP t.place
theorem has_nil (j:Nat):SetTable.has #[] j=false:=by
 unfold SetTable.has
 simp
theorem probe_go {t:SetTable}(ht:t.dummies=#[]){f:Nat→Int}{h:Int}:∀(k:Nat) (p:SetTable.Probe) {j:Nat} {d:Option Nat},p.dummy=none→SetTable.probe.go t f h k p=some (.empty j d)→d=none∧t.slot j=.empty
 | 0,p,j,d,hp,e=>by rw [SetTable.probe.go] at e;cases e
 | k+1,p,j,d,hp,e=>by
  rw [SetTable.probe.go] at e
  split at e
  ·rename_i hs
   cases e
   exact ⟨hp,hs⟩
  ·rename_i hs
   exfalso
   unfold SetTable.slot at hs
   rw [ht] at hs
   dsimp only at hs
   split at hs
   ·cases hs
   ·rw [has_nil] at hs;cases hs
  ·split at e
   ·cases e
   ·refine probe_go ht k _ ?_ e
    unfold SetTable.advance
    split
    ·exact hp
    ·exact hp
theorem slot_empty {t:SetTable}{j:Nat}(h:t.slot j=.empty):t.place[SetTable.below t.place j]?≠some j:=fun e=>by
 unfold SetTable.slot at h
 dsimp only at h
 rw [if_pos (by rw [e];simp)] at h
 cases h
theorem free_ok {t:SetTable}(ht:TabU t){h:Int}{j:Nat}{b:Bool}(e:t.freeSlot h=some (j,b)):b=false∧t.place[SetTable.below t.place j]?≠some j:=by
 unfold SetTable.freeSlot at e
 split at e
 ·rename_i j' d hm
  cases e
  obtain ⟨rfl,z⟩:=probe_go ht.no _ _ rfl hm
  exact ⟨rfl,slot_empty z⟩
 ·cases e
theorem TabU.stand (t:SetTable)(n:Nat):TabU (t.standIn n):=⟨rfl,UpP.range n⟩
theorem TabU.putU {t:SetTable}(ht:TabU t){j:Nat}(hn:t.place[SetTable.below t.place j]?≠some j):TabU (t.put j).1:=by
 refine ⟨?_,ht.up.ins hn⟩
 show (if SetTable.has t.dummies j=true then _ else t.dummies)=#[]
 rw [ht.no,has_nil]
 rfl
theorem TabU.orStand {t:SetTable}(ht:TabU t)(n:Nat):TabU (t.orStandIn n):=by
 unfold SetTable.orStandIn
 split
 ·exact ht
 ·exact TabU.stand t n
theorem orStand_led (t:SetTable)(n:Nat):(t.orStandIn n).led=t.led:=by
 unfold SetTable.orStandIn
 split<;>rfl
theorem layNew_ok {t:SetTable}(ht:TabU t)(es:Array (Int×Value))(h:Int)(x:Value):TabU (layNew t es h x).2.1∧(layNew t es h x).2.1.led=t.led:=by
 unfold layNew
 split
 ·rename_i j b hm
  exact ⟨(ht.putU (free_ok ht hm).2).orStand _,orStand_led _ _⟩
 ·exact ⟨TabU.stand _ _,rfl⟩
theorem laid_ok {mask finger moves:Nat}{led plain:Bool}{hs:Array Int}{t:SetTable}{o:Array Nat}(e:SetTable.laid mask finger moves led plain hs=some (t,o)):TabU t∧t.led=led:=by
 unfold SetTable.laid at e
 obtain ⟨ow,_,e⟩:=Option.bind_eq_some_iff.mp e
 cases e
 refine ⟨⟨rfl,UpP.of_pairwise ?_⟩,rfl⟩
 have e1:∀l:List Nat,(List.map (·.1) (l.filterMap fun j=>(ow.getD j none).map (j,·))).Sublist l:=fun l=>by
  induction l with
  | nil=>exact .slnil
  | cons a r ih =>
   rw [filterMap_cons]
   cases ow.getD a none with
   | none=>exact ih.cons _
   | some k=>exact ih.cons₂ _
 exact (List.pairwise_lt_range).sublist (e1 _)
theorem relayAll_ok {t:SetTable}(ht:TabU t)(es:Array (Int×Value))(n:Nat):TabU (relayAll t es n).2.1∧(relayAll t es n).2.1.led=t.led:=by
 unfold relayAll
 split
 ·rename_i t' o hm
  dsimp only
  split
  ·exact laid_ok hm
  ·exact ⟨TabU.stand _ _,rfl⟩
 ·exact ⟨TabU.stand _ _,rfl⟩
end L2
namespace L2
open PySem PySem.Spec PyProof.Rows
open Dl (addKs addAll)
noncomputable def keyI:Value→Int
 | .int n _=>n
 | _=>0
noncomputable def keysOf (es:Array (Int×Value)):List Int:=es.toList.map fun e=>keyI e.2
def SW (prog:Program)(w:World)(h:Heap)(a:Addr)(ks:List Int):Prop:=
 ∃o es ep t,h.get? a=some o∧o.ExactSet∧o.data=.set es ep t∧ElemsOf (intKind prog w) es.toList∧(keysOf es).Perm ks∧es.size<scanBound∧t.fits es.size=true∧TabU t∧t.led=!(w.params.followText "set-order")
section
variable {prog:Program}{w:World}{A:Around}{E:Value→Shared→Prop}{s:Shared}{a:Addr}{ks:List Int}
theorem SW.keepS {h h':Heap}(x:SW prog w h a ks)(k:∀o,h.get? a=some o→h'.get? a=some o):SW prog w h' a ks:=by
 obtain ⟨o,es,ep,t,ho,r⟩:=x
 exact ⟨o,es,ep,t,k _ ho,r⟩
theorem is_int {v:Value}{k n:Int}(h:(intKind prog w).is n v=true):((intKind prog w).is k v=true)↔keyI v=k:=by
 obtain ⟨t,rfl⟩:=Value.isInt_shape h
 constructor
 ·intro z
  exact (intKind prog w).inj _ _ _ h z
 ·rintro rfl
  exact h
theorem SW.laid {o:Obj}{es es':Array (Int×Value)}{ep:Nat}{t t':SetTable}{h:Heap}(ho:h.get? a=some o)(hex:o.ExactSet)(hd:o.data=.set es ep t)(hel:ElemsOf (intKind prog w) es'.toList)(hk:(keysOf es').Perm ks)(hb:es'.size<scanBound)(hf:t'.fits es'.size=true)(ht:TabU t')(hl:t'.led=!(w.params.followText "set-order")) :
    (h.update a (Obj.putSet es' t')).get? a=some {o with data:=.set es' (ep+1) t'}∧SW prog w (h.update a (Obj.putSet es' t')) a ks:=by
  have e:=(SetOf_store (knd:=intKind prog w) (S':=fun k=>decide (k∈keysOf es')) ho hex hd hel (fun k=>by
    rw [decide_eq_true_eq]
    constructor
    · intro z
      obtain ⟨e,he,rfl⟩:=List.mem_map.mp z
      obtain ⟨⟨n,hn,_⟩,_⟩:=hel e he
      exact ⟨e,he,(is_int hn).mpr rfl⟩
    · rintro ⟨e,he,z⟩
      exact List.mem_map.mpr ⟨e,he,(is_int z).mp z⟩) hb hf).1
  exact ⟨e,_,es',ep+1,t',e,hex,rfl,hel,hk,hb,hf,ht,hl⟩
theorem add_tail {g:Bool→Sem Unit}(hg:∀(b:Bool) (s1:Shared) (Q':Unit→Shared→Prop),Q' () s1→wpAny (model prog w) A (g b) Q' E s1)
    {o:Obj} {es es1:Array (Int×Value)} {ep:Nat} {t t2:SetTable} (ho:s.heap.get? a=some o) (hex:o.ExactSet) (hd:o.data=.set es ep t) (hel:ElemsOf (intKind prog w) es1.toList) (hk:(keysOf es1).Perm ks) (hb:es1.size<scanBound) (hf:t2.fits es1.size=true) (ht:TabU t2) (hl:t2.led=!(w.params.followText "set-order")) {wd:Bool} {R:Option Bool→Shared→Prop}
    (h:∀h',Heap.SameBut a s.heap h'→SW prog w h' a ks→R (some true) {s with heap:=h'}) :
    wpAny (model prog w) A (do
        storeSet a es1 t2
        if (!wd&&t2.tooFull)=true then do
            g (relayAll t2 es1 (SetTable.grown es1.size)).2.2
            storeSet a (relayAll t2 es1 (SetTable.grown es1.size)).1 (relayAll t2 es1 (SetTable.grown es1.size)).2.1
            pure (some true)
          else pure (some true)) R E s:=by
  obtain ⟨ho1,hS1⟩:=SW.laid (prog:=prog) (w:=w) ho hex hd hel hk hb hf ht hl
  refine wpAny_bind (wpAny_storeSet_of ho hd ?_ (fits_of_scanBound hb))
  have sb:=Heap.SameBut.update s.heap a (Obj.putSet es1 t2)
  split
  · have hp:=relayAll_perm t2 es1 (SetTable.grown es1.size)
    have hfr:=relayAll_fits t2 es1 (SetTable.grown es1.size)
    obtain ⟨htr,hlr⟩:=relayAll_ok ht es1 (SetTable.grown es1.size)
    generalize relayAll t2 es1 (SetTable.grown es1.size)=Z at *
    have sz:Z.1.size=es1.size:=by rw [← length_toList,hp.length_eq,length_toList]
    have hb2:Z.1.size<scanBound:=sz▸hb
    obtain ⟨_,hS2⟩:=SW.laid (prog:=prog) (w:=w) (ks:=ks) ho1 hex rfl (hel.perm hp) ((hp.map _).trans hk) hb2 hfr htr (hlr.trans hl)
    exact wpAny_bind (hg _ _ _ (wpAny_bind (wpAny_storeSet_of ho1 rfl (wpAny_pure (h _ (sb.trans (Heap.SameBut.update _ a _)) hS2)) (fits_of_scanBound hb2))))
  · exact wpAny_pure (h _ sb hS1)
theorem way_ok {b:Bool}{s1:Shared}{Q':Unit→Shared→Prop}(hq:Q' () s1):wpAny (model prog w) A (match b with | true=>rule "set.scan.the-table-gave-way" | false=>pure ()) Q' E s1:=by
 cases b
 ·exact wpAny_pure hq
 ·exact wpAny_rule hq
theorem add_ok {k:Int}{u:Tok}{Q:Bool→Shared→Prop}(hS:SW prog w s.heap a ks)(hr:ks.length+1<scanBound)
  (h:∀h' b,Heap.SameBut a s.heap h'→SW prog w h' a (addKs ks k)→Q b {s with heap:=h'}):wpAny (model prog w) A (setAddHashed a (.int k u) (hashInt k)) Q E s:=by
 obtain ⟨o,es,ep,t,ho,hex,hd,hel,hk,hb,hf,ht,hl⟩:=hS
 have hkey:(intKind prog w).is k (.int k u)=true:=intKind_is prog w k u
 have hsc:(Value.int k u).scannable=true:=rfl
 have hlen:es.size=ks.length:=by rw [← hk.length_eq];simp [keysOf]
 unfold setAddHashed setAddHashedIn
 refine wpAny_holding (wpAny_bind (wpAny_setState_of ho hd hf ?_))
 dsimp only
 rw [byScan_of hsc hb hel]
 rw [if_pos rfl]
 unfold setAddByScan
 refine wpAny_bind (wpAny_bind (wpAny_rule (wpAny_bind (wpAny_setScan_of (knd:=intKind prog w) hkey ho hd hf hel ?_))))
 have hin:k∈ks↔∃e∈es.toList,(intKind prog w).is k e.2=true:=by
  rw [← hk.mem_iff]
  constructor
  ·intro z
   obtain ⟨e,he,z⟩:=List.mem_map.mp z
   obtain ⟨⟨n,hn,_⟩,_⟩:=hel e he
   exact ⟨e,he,(is_int hn).mpr z⟩
  ·rintro ⟨e,he,z⟩
   exact List.mem_map.mpr ⟨e,he,(is_int z).mp z⟩
 cases hr':es.toList.findIdx? (fun e=>(intKind prog w).is k e.2) with
 | some j =>
  obtain ⟨hj,hp,_⟩:=List.findIdx?_eq_some_iff_getElem.mp hr'
  have hm:k∈ks:=hin.mpr ⟨_,getElem_mem hj,hp⟩
  refine wpAny_pure (wpAny_pure ?_)
  refine h s.heap _ (Heap.SameBut.refl a s.heap) ?_
  unfold addKs
  rw [if_pos hm]
  exact ⟨o,es,ep,t,ho,hex,hd,hel,hk,hb,hf,ht,hl⟩
 | none =>
  have hm:k∉ks:=fun z=>by
   obtain ⟨e,he,q⟩:=hin.mp z
   have:=List.findIdx?_eq_none_iff.mp hr' e he
   rw [q] at this
   cases this
  have hp:=layNew_perm t es (hashInt k) (.int k u)
  have hfl:=layNew_fits t es (hashInt k) (.int k u)
  obtain ⟨htl,hll⟩:=layNew_ok ht es (hashInt k) (.int k u)
  dsimp only
  generalize hZ:layNew t es (hashInt k) (.int k u)=Z at *
  obtain ⟨es1,t1,wd,gv⟩:=Z
  dsimp only at *
  refine wpAny_bind (way_ok (b:=gv) ?_)
  rw [Array.toList_push] at hp
  have hsz:es1.size=ks.length+1:=by rw [← length_toList,hp.length_eq,length_append,length_toList,hlen];rfl
  have hk1:(keysOf es1).Perm (addKs ks k):=by
   unfold addKs
   rw [if_neg hm]
   refine (hp.map _).trans ?_
   rw [map_append]
   exact hk.append_right _
  have hel1:ElemsOf (intKind prog w) es1.toList:=(hel.push hkey hsc).perm hp
  split
  ·refine wpAny_bind ?_
   rw [hashByValue_scannable 8 hsc]
   refine wpAny_pure ?_
   refine add_tail (fun b s1 Q' hq=>way_ok (b:=b) hq) ho hex hd hel1 hk1 (by rw [hsz];exact hr) (t2:=t1) hfl htl (hll.trans hl) fun h' sb hS'=>wpAny_pure (h h' _ sb hS')
  ·refine wpAny_bind (wpAny_pure ?_)
   refine add_tail (fun b s1 Q' hq=>way_ok (b:=b) hq) ho hex hd hel1 hk1 (by rw [hsz];exact hr) (t2:=t1) hfl htl (hll.trans hl) fun h' sb hS'=>wpAny_pure (h h' _ sb hS')
end
end L2
namespace L2
open PySem PySem.Spec PyProof.Rows
theorem si_owner:Manifest.owners.lookup (String.ofList "rotareti_tes".toList.reverse)=some Manifest.sig_set_iterator:=by kernel_rfl
theorem si_next:Slot "set_iterator" "__next__" "set_iterator.__next__":=
 Slot.of (n:="__next__") (owner:="set_iterator") (by rw [typeLookup_type,builtinLookup_eq_fast];kernel_rfl) (by decide +kernel) (by decide +kernel) (by decide +kernel) (by first | exact .inl (by decide +kernel) | exact .inr (by decide +kernel)) (by rw [isSubtype_type];kernel_rfl)
theorem si_entry:entryFor table "set_iterator.__next__"=some Builtin.«set_iterator.__next__»:=entryFor_of_tree (by kernel_rfl)
theorem si_args (a:Value):argsOk "set_iterator.__next__" ⟨[a],[]⟩:=by
 unfold argsOk
 rw [signature?_of (n:="__txen__".toList) (o:="rotareti_tes".toList) (id:="set_iterator.__next__") (by kernel_rfl) si_owner]
 kernel_rfl
theorem set_iter_entry:entryFor table "set.__iter__"=some Builtin.«frozenset.__iter__»:=entryFor_alias (id':="frozenset.__iter__") (by kernel_rfl) rfl (by decide +kernel) (by kernel_rfl)
def SIt (h:Heap)(it a:Addr)(first:Value)(i n ep:Nat):Prop:=∃o,h.get? it=some o∧o.cls=.type "set_iterator"∧o.data=.fields #[first,.int i 0,.ref a,.int n 0,.int ep 0]
def SAt (h:Heap)(a:Addr)(es:Array (Int×Value))(ep:Nat)(t:SetTable):Prop:=∃o,h.get? a=some o∧o.ExactSet∧o.data=.set es ep t∧t.fits es.size=true
section
variable {prog:Program}{w:World}{A:Around}{E:Value→Shared→Prop}{s:Shared}{it a:Addr}{es:Array (Int×Value)}{ep i:Nat}{t:SetTable}
theorem SIt.T {first:Value}{n:Nat}(x:SIt s.heap it a first i n ep):s.TypeIs (.ref it) "set_iterator":=let ⟨o,ho,hc,_⟩:=x;⟨o,ho,hc⟩
theorem SIt.at {h h':Heap}{first:Value}{n:Nat}(x:SIt h it a first i n ep)(k:∀o,h.get? it=some o→h'.get? it=some o):SIt h' it a first i n ep:=let ⟨o,ho,r⟩:=x;⟨o,k o ho,r⟩
theorem SAt.at {h h':Heap}(x:SAt h a es ep t)(k:∀o,h.get? a=some o→h'.get? a=some o):SAt h' a es ep t:=let ⟨o,ho,r⟩:=x;⟨o,k o ho,r⟩
theorem si_set {h:Heap}{o:Obj}{vs:Array Value}{k:Nat}{x:Value}(ho:h.get? it=some o)(hc:o.cls=.type "set_iterator")(hd:o.data=.fields vs) :
  ∃o',(h.update it (Obj.mapFields (·.setIfInBounds k x))).get? it=some o'∧o'.cls=.type "set_iterator"∧o'.data=.fields (vs.setIfInBounds k x):=
 ⟨_,Heap.get?_update_self _ ho (Obj.isFreed_of_fields (Obj.data_mapFields hd _)),(Obj.cls_mapFields ..).trans hc,Obj.data_mapFields hd _⟩
theorem stop_next {h:Heap}{Q:Option Value→Shared→Prop}(hh:A.handled=none)(q:∀h',(∀b o,h.get? b=some o→h'.get? b=some o)→Q none {s with heap:=h'}) :
  wpAny (model prog w) A.in1 (newExc (.type "StopIteration") [] >>= fun e=>(raiseNew e:Sem Fin)) (fun fin s'=>∃r,fin=.done (.ret r)∧Q (some r) s') (fun e s'=>wpAny (model prog w) A (isInstance e (.type "StopIteration") >>= fun b=>if b=true then pure none else throw e) Q E s') {s with heap:=h}:=by
 refine wpAny_bind ?_
 simp only [newExc,newTuple]
 refine wpAny_bind (wpAny_newObj_type (wpAny_bind (m:=firstArgMember _ _) (wpAny_of_eq (a:=Value.none) (by first | rfl | (simp only [firstArgMember];rfl)) (wpAny_newObj_type ?_ (by size_fits)))) (by size_fits))
 simp only [raiseNew]
 apply wpAny_bind
 refine wpAny_handled ?_
 have h9:A.in1.handled=none:=hh
 rw [h9]
 refine wpAny_bind (wpAny_pure (wpAny_throw ?_))
 refine wpAny_bind (wpAny_isInstance (T:="StopIteration") (b:=true) ⟨_,get?_push_size _ rfl,rfl⟩ isSubtype_stop (wpAny_pure (q _ fun b o e=>get?_push_of_some _ (get?_push_of_some _ e))))
theorem next_item {slot nx:Nat}{x:Value}{Q:Option Value→Shared→Prop}(hit:SIt s.heap it a (.int slot 0) i es.size ep)(hS:SAt s.heap a es ep t)(hne:a≠it)
  (hN:∀(Q':Option (Value×Nat)→Shared→Prop) (E':Value→Shared→Prop),Q' (some (x,nx)) s→wpAny (model prog w) A.in1 (setNext a slot i ep) Q' E' s)
  (q:∀h',SIt h' it a (.int nx 0) (i+1) es.size ep→Heap.SameBut it s.heap h'→Q (some x) {s with heap:=h'}):wpAny (model prog w) A (pyNext (.ref it)) Q E s:=by
 obtain ⟨o,ho,hc,hd⟩:=id hit
 obtain ⟨oa,hoa,hx,hda,hf⟩:=id hS
 have T:=hit.T
 obtain ⟨o1,e1,c1,d1⟩:=si_set (k:=0) (x:=rawInt nx) ho hc hd
 obtain ⟨o2,e2,c2,d2⟩:=si_set (k:=1) (x:=rawInt ((i:Int)+1)) e1 c1 d1
 unfold pyNext
 refine wpAny_bind (wpAny_attempt (wpAny_callSpecial?_slot (name:=Str.ofString "__next__") T si_next (wpAny_call_entry si_next T si_entry ?_ (si_args _))))
 unfold Builtin.«set_iterator.__next__»
 refine wpAny_bind (wpAny_pure (wpAny_bind (wpAny_fieldsOf ho hd ?_)))
 refine wpAny_bind (wpAny_setEntries_of hoa hda hf ?_)
 rw [if_neg (by simp)]
 refine wpAny_bind (hN _ _ ?_)
 refine wpAny_bind (wpAny_setField ho hd (by simp) (wpAny_bind (wpAny_setField e1 d1 (by simp) ?_)))
 exact wpAny_pure ⟨_,rfl,wpAny_pure (q _ ⟨o2,e2,c2,by rw [d2];simp [rawInt]⟩ ((Heap.SameBut.update ..).trans (Heap.SameBut.update ..)))⟩
theorem next_end {slot:Nat}{Q:Option Value→Shared→Prop}(hh:A.handled=none)(hit:SIt s.heap it a (.int slot 0) i es.size ep)(hS:SAt s.heap a es ep t)
  (hN:∀(Q':Option (Value×Nat)→Shared→Prop) (E':Value→Shared→Prop),Q' none s→wpAny (model prog w) A.in1 (setNext a slot i ep) Q' E' s)
  (q:∀h',Heap.ExtBut it s.heap h'→Q none {s with heap:=h'}):wpAny (model prog w) A (pyNext (.ref it)) Q E s:=by
 obtain ⟨o,ho,hc,hd⟩:=id hit
 obtain ⟨oa,hoa,hx,hda,hf⟩:=id hS
 have T:=hit.T
 unfold pyNext
 refine wpAny_bind (wpAny_attempt (wpAny_callSpecial?_slot (name:=Str.ofString "__next__") T si_next (wpAny_call_entry si_next T si_entry ?_ (si_args _))))
 unfold Builtin.«set_iterator.__next__»
 refine wpAny_bind (wpAny_pure (wpAny_bind (wpAny_fieldsOf ho hd ?_)))
 refine wpAny_bind (wpAny_setEntries_of hoa hda hf ?_)
 rw [if_neg (by simp)]
 refine wpAny_bind (hN _ _ ?_)
 refine wpAny_bind (wpAny_setField ho hd (by simp) ?_)
 refine wpAny_mono (stop_next hh (Q:=Q) (E:=E) fun h' k=>q h' fun b o' hb e=>k b o' ((get?_update_other _ _ (Ne.symm hb)).trans e)) ?_ ?_
 ·rintro fin s' ⟨r,e,z⟩
  exact ⟨r,e,wpAny_pure z⟩
 ·intro e s' z
  exact z
theorem next_itemD {tp:Addr}{ps:Array Value}{p:Nat}{x:Int×Value}{Q:Option Value→Shared→Prop}(hit:SIt s.heap it a (.ref tp) i es.size ep)(hS:SAt s.heap a es ep t)(htp:∃o n,s.heap.get? tp=some o∧o.data=.seq ps n)(hp:ps[i]?=some (.int p 0))(hx:es[p]?=some x)
  (q:∀h',SIt h' it a (.ref tp) (i+1) es.size ep→Heap.SameBut it s.heap h'→Q (some x.2) {s with heap:=h'}):wpAny (model prog w) A (pyNext (.ref it)) Q E s:=by
 obtain ⟨o,ho,hc,hd⟩:=id hit
 obtain ⟨oa,hoa,_,hda,hf⟩:=id hS
 obtain ⟨ot,nt,hot,hdt⟩:=htp
 have T:=hit.T
 obtain ⟨o1,e1,c1,d1⟩:=si_set (k:=1) (x:=rawInt ((i:Int)+1)) ho hc hd
 unfold pyNext
 refine wpAny_bind (wpAny_attempt (wpAny_callSpecial?_slot (name:=Str.ofString "__next__") T si_next (wpAny_call_entry si_next T si_entry ?_ (si_args _))))
 unfold Builtin.«set_iterator.__next__»
 refine wpAny_bind (wpAny_pure (wpAny_bind (wpAny_fieldsOf ho hd ?_)))
 refine wpAny_bind (wpAny_setEntries_of hoa hda hf ?_)
 rw [if_neg (by simp)]
 unfold seqItems?
 refine wpAny_bind (wpAny_bind (wpAny_load hot ?_))
 rw [hdt]
 refine wpAny_pure ?_
 dsimp only
 rw [show ((i:Int)).toNat=i from rfl,hp]
 dsimp only
 unfold setNextDrawn
 refine wpAny_bind (wpAny_bind (wpAny_setState_of hoa hda hf ?_))
 dsimp only
 rw [show ((p:Int)).toNat=p from rfl,hx]
 rw [if_neg (by simp)]
 refine wpAny_pure (wpAny_bind (wpAny_setField ho hd (by simp) ?_))
 exact wpAny_pure ⟨_,rfl,wpAny_pure (q _ ⟨o1,e1,c1,by rw [d1];simp [rawInt]⟩ (Heap.SameBut.update ..))⟩
theorem next_endD {tp:Addr}{ps:Array Value}{Q:Option Value→Shared→Prop}(hh:A.handled=none)(hit:SIt s.heap it a (.ref tp) i es.size ep)(hS:SAt s.heap a es ep t)(htp:∃o n,s.heap.get? tp=some o∧o.data=.seq ps n)(hp:ps[i]?=none)
  (q:∀h',Heap.ExtBut it s.heap h'→Q none {s with heap:=h'}):wpAny (model prog w) A (pyNext (.ref it)) Q E s:=by
 obtain ⟨o,ho,hc,hd⟩:=id hit
 obtain ⟨oa,hoa,_,hda,hf⟩:=id hS
 obtain ⟨ot,nt,hot,hdt⟩:=htp
 have T:=hit.T
 obtain ⟨o1,e1,c1,d1⟩:=si_set (k:=0) (x:=rawInt 0) ho hc hd
 unfold pyNext
 refine wpAny_bind (wpAny_attempt (wpAny_callSpecial?_slot (name:=Str.ofString "__next__") T si_next (wpAny_call_entry si_next T si_entry ?_ (si_args _))))
 unfold Builtin.«set_iterator.__next__»
 refine wpAny_bind (wpAny_pure (wpAny_bind (wpAny_fieldsOf ho hd ?_)))
 refine wpAny_bind (wpAny_setEntries_of hoa hda hf ?_)
 rw [if_neg (by simp)]
 unfold seqItems?
 refine wpAny_bind (wpAny_bind (wpAny_load hot ?_))
 rw [hdt]
 refine wpAny_pure ?_
 dsimp only
 rw [show ((i:Int)).toNat=i from rfl,hp]
 dsimp only
 refine wpAny_bind (wpAny_setField ho hd (by simp) (wpAny_bind (wpAny_setField e1 d1 (by simp) ?_)))
 refine wpAny_mono (stop_next hh (Q:=Q) (E:=E) fun h' k=>q h' fun b o' hb e=>k b o' ((get?_update_other _ _ (Ne.symm hb)).trans ((get?_update_other _ _ (Ne.symm hb)).trans e))) ?_ ?_
 ·rintro fin s' ⟨r,e,z⟩
  exact ⟨r,e,wpAny_pure z⟩
 ·intro e s' z
  exact z
noncomputable def slotAt (t:SetTable):Nat→Nat
 | 0=>0
 | i+1=>t.place.getD i 0+1
theorem below_slot {t:SetTable}(hu:UpP t.place):∀{i:Nat},i≤t.place.size→SetTable.below t.place (slotAt t i)=i
 | 0,_=>by
  obtain ⟨h1,h2,h3⟩:=below_at hu (slotAt t 0)
  rcases Nat.eq_zero_or_pos (SetTable.below t.place (slotAt t 0)) with z | z
  ·exact z
  ·exact absurd (h2 0 _ z (Array.getElem?_eq_getElem (by omega))) (Nat.not_lt_zero _)
 | i+1,hi=>by
  obtain ⟨h1,h2,h3⟩:=below_at hu (slotAt t (i+1))
  generalize SetTable.below t.place (slotAt t (i+1))=p at *
  have hg:t.place.getD i 0=t.place[i]:=by simp [Array.getD,show i<t.place.size by omega]
  have hs:slotAt t (i+1)=t.place[i]+1:=by show t.place.getD i 0+1=_;rw [hg]
  rw [hs] at h2 h3
  rcases Nat.lt_trichotomy p (i+1) with z | z | z
  ·have:=h3 i _ (by omega) (Array.getElem?_eq_getElem (by omega))
   omega
  ·exact z
  ·have a1:=h2 (i+1) _ z (Array.getElem?_eq_getElem (by omega))
   have a2:=hu i (i+1) _ _ (by omega) (Array.getElem?_eq_getElem (by omega)) (Array.getElem?_eq_getElem (by omega))
   omega
theorem fits_size {t:SetTable}{n:Nat}(h:t.fits n=true):t.place.size=n:=by
 simp only [SetTable.fits,Bool.and_eq_true,beq_iff_eq] at h
 exact h.1
theorem setNext_led (hS:SAt s.heap a es ep t)(ht:UpP t.place)(hl:t.led=true)(hb:w.params.followText "set-order"=false)(hd:(!t.plain&&decide (es.size > 1))=false)(hi:i≤es.size){Q':Option (Value×Nat)→Shared→Prop}
  (q:Q' (match es[i]? with | some e=>some (e.2,slotAt t (i+1)) | none=>none) s):wpAny (model prog w) A (setNext a (slotAt t i) i ep) Q' E s:=by
 obtain ⟨oa,hoa,_,hda,hf⟩:=id hS
 have hz:=fits_size hf
 unfold setNext setsByText
 refine wpAny_bind (wpAny_setState_of hoa hda hf ?_)
 dsimp only
 refine wpAny_bind (wpAny_bind (wpAny_askSetting (wpAny_pure ?_)))
 show wpAny _ _ (if w.params.followText "set-order"=true then _ else _) _ _ _
 rw [hb,if_neg Bool.false_ne_true]
 show wpAny _ _ (if (!t.plain&&decide (es.size > 1))=true then _ else _) _ _ _
 rw [hd,if_neg Bool.false_ne_true]
 show wpAny _ _ ((if (!t.led&&!es.isEmpty)=true then _ else _) >>= _) _ _ _
 rw [hl]
 rw [if_neg (by simp)]
 refine wpAny_bind (wpAny_pure ?_)
 rw [below_slot ht (by omega)]
 refine wpAny_pure ?_
 cases hc:es[i]? with
 | none=>rw [hc] at q;exact q
 | some e =>
  rw [hc] at q
  have hlt:=(Array.getElem?_eq_some_iff.mp hc).1
  have:t.place[i]?=some (t.place.getD i 0):=by
   rw [Array.getElem?_eq_getElem (by omega)]
   simp [Array.getD,show i<t.place.size by omega]
  rw [this]
  exact q
theorem erase_perm {α:Type}:∀(l:List α) (i:Nat) (h:i<l.length),(l[i]::l.eraseIdx i).Perm l
 | a::r,0,h=>List.Perm.refl _
 | a::r,i+1,h=>by
  have:=erase_perm r i (by simpa using h)
  exact (List.Perm.swap a _ _).trans (this.cons a)
theorem pick_go {α:Type}{f:Nat→Nat}:∀(n k:Nat) (left:List α) (out:Array α),left.length=n→(pickOrder.go f n k left out).toList.Perm (out.toList++left)
 | 0,k,left,out,h=>by
  rw [pickOrder.go]
  have:left=[]:=List.eq_nil_of_length_eq_zero h
  subst this
  simp
 | n+1,k,left,out,h=>by
  rw [pickOrder.go]
  have hlt:f k % left.length<left.length:=Nat.mod_lt _ (by omega)
  rw [getElem?_eq_getElem hlt]
  dsimp only
  refine (pick_go n (k+1) _ _ (by rw [List.length_eraseIdx,if_pos hlt];omega)).trans ?_
  rw [Array.toList_push,append_assoc]
  refine List.Perm.append_left _ ?_
  exact erase_perm left _ hlt
theorem setNext_text (hS:SAt s.heap a es ep t)(hb:w.params.followText "set-order"=true){Q':Option (Value×Nat)→Shared→Prop}
  (q:Q' ((pickOrder (w.params.setOrder a ep) es)[i]?.map fun e=>(e.2,0)) s):wpAny (model prog w) A (setNext a 0 i ep) Q' E s:=by
 obtain ⟨oa,hoa,_,hda,hf⟩:=id hS
 unfold setNext setsByText
 refine wpAny_bind (wpAny_setState_of hoa hda hf ?_)
 dsimp only
 refine wpAny_bind (wpAny_bind (wpAny_askSetting (wpAny_pure ?_)))
 show wpAny _ _ (if w.params.followText "set-order"=true then _ else _) _ _ _
 rw [hb,if_pos rfl,if_neg (by simp)]
 unfold setWalk setsByText
 refine wpAny_bind (wpAny_bind (wpAny_setState_of hoa hda hf ?_))
 dsimp only
 refine wpAny_bind (wpAny_bind (wpAny_askSetting (wpAny_pure ?_)))
 show wpAny _ _ (if w.params.followText "set-order"=true then _ else _) _ _ _
 rw [hb,if_pos rfl]
 refine wpAny_bind (wpAny_askSetting (wpAny_pure ?_))
 exact wpAny_pure q
theorem choose_ok {src:Source}{n:Nat}{Q:Nat→Shared→Prop}(hn:n≠0)(q:∀k d,k<n→Q k {s with drawn:=d}):wpAny (model prog w) A (choose src n) Q E s:=by
 intro Γ p hΓ
 refine ⟨hn,?_⟩
 exact q _ _ (Nat.mod_lt _ (Nat.pos_of_ne_zero hn))
theorem draw_ok {α:Type}:∀(n:Nat) (xs:List α) {s:Shared} {Q:List α→Shared→Prop},xs.length=n→(∀ys d,ys.Perm xs→Q ys {s with drawn:=d})→wpAny (model prog w) A (drawOrder n xs) Q E s
 | 0,xs,s,Q,h,q=>by
  have:xs=[]:=List.eq_nil_of_length_eq_zero h
  subst this
  unfold drawOrder
  exact wpAny_pure (q [] s.drawn (List.Perm.refl _))
 | n+1,[],s,Q,h,q=>by simp at h
 | n+1,x::xs,s,Q,h,q=>by
  unfold drawOrder
  refine wpAny_bind (choose_ok (by simp) fun k d hk=>?_)
  rw [getElem?_eq_getElem hk]
  refine wpAny_bind (draw_ok n _ (by rw [List.length_eraseIdx,if_pos hk];simp at h ⊢;exact h) fun ys d' hp=>?_)
  exact wpAny_pure (q _ d' ((hp.cons _).trans (erase_perm _ k hk)))
end
theorem si_iter:Slot "set_iterator" "__iter__" "set_iterator.__iter__":=
 Slot.of (n:="__iter__") (owner:="set_iterator") (by rw [typeLookup_type,builtinLookup_eq_fast];kernel_rfl) (by decide +kernel) (by decide +kernel) (by decide +kernel) (by first | exact .inl (by decide +kernel) | exact .inr (by decide +kernel)) (by rw [isSubtype_type];kernel_rfl)
theorem si_iter_entry:entryFor table "set_iterator.__iter__"=some Builtin.«dict_keyiterator.__iter__»:=entryFor_alias (id':="dict_keyiterator.__iter__") (by kernel_rfl) rfl (by decide +kernel) (by kernel_rfl)
theorem si_iter_args (a:Value):argsOk "set_iterator.__iter__" ⟨[a],[]⟩:=by
 unfold argsOk
 rw [signature?_of (n:="__reti__".toList) (o:="rotareti_tes".toList) (id:="set_iterator.__iter__") (by kernel_rfl) si_owner]
 kernel_rfl
section
variable {prog:Program}{w:World}{A:Around}{E:Value→Shared→Prop}{s:Shared}{it a:Addr}{es:Array (Int×Value)}{ep i:Nat}{t:SetTable}
theorem si_self {first:Value}{n:Nat}{Q:Value→Shared→Prop}(hit:SIt s.heap it a first i n ep)(h:Q (.ref it) s):wpAny (model prog w) A (pyIter (.ref it)) Q E s:=by
 refine wpAny_pyIter_slot hit.T si_iter (wpAny_call_entry si_iter hit.T si_iter_entry ?_ (si_iter_args _))
 change wpAny _ _ (ret (.ref it)) _ _ s
 exact wpAny_pure ⟨_,rfl,"set_iterator",_,hit.T,si_next.lookup,h⟩
theorem pick_perm {α:Type}(f:Nat→Nat)(xs:Array α):(pickOrder f xs).toList.Perm xs.toList:=by
 have:=pick_go (f:=f) xs.size 0 xs.toList #[] (by simp)
 rw [Array.toList_empty,List.nil_append] at this
 exact this
theorem pick_size {α:Type}(f:Nat→Nat)(xs:Array α):(pickOrder f xs).size=xs.size:=by
 have:=(pick_perm f xs).length_eq
 simpa using this
def OrdP (ord:List (Int×Value)):Nat→Value→Prop:=fun i v=>∃e,ord[i]?=some e∧v=e.2
theorem walk_led (hh:A.handled=none)(hne:a≠it)(ht:UpP t.place)(hl:t.led=true)(hb:w.params.followText "set-order"=false)(hd:(!t.plain&&decide (es.size > 1))=false) :
  Walks prog w A it [it,a] [it] es.size (OrdP es.toList) (fun i h=>SIt h it a (.int (slotAt t i) 0) i es.size ep∧SAt h a es ep t) where
 sub:=fun b hb=>by simp at hb;simp [hb]
 frame:=fun _ _ _ st hk=>⟨st.1.at fun o e=>hk it (by simp) o e,st.2.at fun o e=>hk a (by simp) o e⟩
 item:=fun i s Q E hi st hQ=>by
  refine next_item st.1 st.2 hne (x:=es[i].2) (nx:=slotAt t (i+1)) (fun Q' E' q=>setNext_led st.2 ht hl hb hd (le_of_lt hi) (by rw [Array.getElem?_eq_getElem hi];exact q)) fun h' x1 x2=>?_
  exact hQ _ h' s.toks ⟨es[i],by simp [hi],rfl⟩ ⟨x1,st.2.at fun o e=>x2.extBut a o hne e⟩ (fun b o hb e=>x2.extBut b o (fun z=>hb (by simp [z])) e)
 done:=fun s Q E st hQ=>next_end hh st.1 st.2 (fun Q' E' q=>setNext_led st.2 ht hl hb hd (le_refl _) (by rw [Array.getElem?_eq_none (le_refl _)];exact q)) fun h' x=>hQ h' s.toks fun b o hb e=>x b o (fun z=>hb (by simp [z])) e
 self:=fun _ _ _ _ st hQ=>si_self st.1 hQ
theorem walk_text (hh:A.handled=none)(hne:a≠it)(hb:w.params.followText "set-order"=true) :
  Walks prog w A it [it,a] [it] es.size (OrdP (pickOrder (w.params.setOrder a ep) es).toList) (fun i h=>SIt h it a (.int 0 0) i es.size ep∧SAt h a es ep t) where
 sub:=fun b hb=>by simp at hb;simp [hb]
 frame:=fun _ _ _ st hk=>⟨st.1.at fun o e=>hk it (by simp) o e,st.2.at fun o e=>hk a (by simp) o e⟩
 item:=fun i s Q E hi st hQ=>by
  have hz:=pick_size (w.params.setOrder a ep) es
  have hi':i<(pickOrder (w.params.setOrder a ep) es).size:=by omega
  refine next_item st.1 st.2 hne (x:=(pickOrder (w.params.setOrder a ep) es)[i].2) (nx:=0) (fun Q' E' q=>setNext_text st.2 hb (by rw [Array.getElem?_eq_getElem hi'];exact q)) fun h' x1 x2=>?_
  exact hQ _ h' s.toks ⟨(pickOrder (w.params.setOrder a ep) es)[i],by simp [hi'],rfl⟩ ⟨x1,st.2.at fun o e=>x2.extBut a o hne e⟩ (fun b o hb e=>x2.extBut b o (fun z=>hb (by simp [z])) e)
 done:=fun s Q E st hQ=>by
  have hz:=pick_size (w.params.setOrder a ep) es
  exact next_end hh st.1 st.2 (fun Q' E' q=>setNext_text st.2 hb (by rw [Array.getElem?_eq_none (by omega)];exact q)) fun h' x=>hQ h' s.toks fun b o hb e=>x b o (fun z=>hb (by simp [z])) e
 self:=fun _ _ _ _ st hQ=>si_self st.1 hQ
noncomputable def ordD (es:Array (Int×Value))(ps:List Nat):List (Int×Value):=ps.filterMap fun p=>es[p]?
theorem ordD_at {es:Array (Int×Value)}:∀{ps:List Nat} {i:Nat} {p:Nat},(∀p∈ps,p<es.size)→ps[i]?=some p→(ordD es ps)[i]?=es[p]?
 | [],i,p,h,e=>by simp at e
 | q::ps,i,p,h,e=>by
  have hq:=h q (mem_cons_self ..)
  have hc:ordD es (q::ps)=es[q]::ordD es ps:=by
   unfold ordD
   rw [filterMap_cons,Array.getElem?_eq_getElem hq]
  rw [hc]
  cases i with
  | zero =>
   simp at e
   subst e
   simp [hq]
  | succ i =>
   simp at e ⊢
   exact ordD_at (fun p hp=>h p (mem_cons_of_mem _ hp)) e
theorem walk_drawn {tp:Addr}{ps:List Nat}(hh:A.handled=none)(hne:a≠it)(hnt:tp≠it)(hps:ps.Perm (List.range es.size)) :
  Walks prog w A it [it,a,tp] [it] es.size (OrdP (ordD es ps)) (fun i h=>SIt h it a (.ref tp) i es.size ep∧SAt h a es ep t∧∃o n,h.get? tp=some o∧o.data=.seq (ps.map fun p:Nat=>Value.int p 0).toArray n) where
 sub:=fun b hb=>by simp at hb;simp [hb]
 frame:=fun _ _ _ st hk=>⟨st.1.at fun o e=>hk it (by simp) o e,st.2.1.at fun o e=>hk a (by simp) o e,let ⟨o,n,e,d⟩:=st.2.2;⟨o,n,hk tp (by simp) o e,d⟩⟩
 item:=fun i s Q E hi st hQ=>by
  have hl:ps.length=es.size:=by rw [hps.length_eq,length_range]
  have hmem:∀p∈ps,p<es.size:=fun p hp=>List.mem_range.mp (hps.mem_iff.mp hp)
  have hip:ps[i]?=some (ps[i]'(by omega)):=getElem?_eq_getElem (by omega)
  have hp:=hmem (ps[i]'(by omega)) (getElem_mem _)
  refine next_itemD st.1 st.2.1 st.2.2 (p:=ps[i]'(by omega)) (x:=es[ps[i]'(by omega)]) (by simp [hip]) (Array.getElem?_eq_getElem hp) fun h' x1 x2=>?_
  refine hQ _ h' s.toks ⟨_,(ordD_at hmem hip).trans (Array.getElem?_eq_getElem hp),rfl⟩ ⟨x1,st.2.1.at fun o e=>x2.extBut a o hne e,?_⟩ (fun b o hb e=>x2.extBut b o (fun z=>hb (by simp [z])) e)
  obtain ⟨o,n,e,d⟩:=st.2.2
  exact ⟨o,n,x2.extBut tp o hnt e,d⟩
 done:=fun s Q E st hQ=>by
  have hl:ps.length=es.size:=by rw [hps.length_eq,length_range]
  exact next_endD hh st.1 st.2.1 st.2.2 (by simp;omega) fun h' x=>hQ h' s.toks fun b o hb e=>x b o (fun z=>hb (by simp [z])) e
 self:=fun _ _ _ _ st hQ=>si_self st.1 hQ
theorem fp2 {b n a:Nat}(h:b∈[n,a]):b=a∨n≤b:=by
 simp at h
 omega
theorem fp3 {b n a:Nat}(h:b∈[n+1,a,n]):b=a∨n≤b:=by
 simp at h
 omega
theorem iter_set {Q:Value→Shared→Prop}(hS:SAt s.heap a es ep t)(hsz:es.size<scanBound)(ht:UpP t.place)(hl:t.led=!(w.params.followText "set-order"))
  (q:∀(I:Addr) (h':Heap) d (fp:List Addr) (St:Nat→Heap→Prop) (ord:List (Int×Value)),ord.Perm es.toList→(∀A',A'.handled=none→Walks prog w A' I fp [I] es.size (OrdP ord) St)→St 0 h'→(∀b o,s.heap.get? b=some o→h'.get? b=some o)→s.heap.objs.size≤I→(∀b∈fp,b=a∨s.heap.objs.size≤b)→Q (.ref I) {s with heap:=h',drawn:=d}) :
  wpAny (model prog w) A (pyIter (.ref a)) Q E s:=by
 obtain ⟨oa,hoa,hx,hda,hf⟩:=id hS
 have T:s.TypeIs (.ref a) "set":=⟨oa,hoa,hx.1⟩
 have hlt:a<s.heap.objs.size:=lt_size hoa
 refine wpAny_pyIter_slot T F.slot_set_iter (wpAny_call_entry F.slot_set_iter T set_iter_entry ?_ (F.args_set_iter_1 _))
 unfold Builtin.«frozenset.__iter__» Builtin.Frozenset.slot0 slotArgs
 simp only [List.isEmpty_nil,Bool.not_true,Bool.false_eq_true,↓reduceIte,bind_assoc,List.length_nil,bne_self_eq_false]
 unfold Builtin.Frozenset.addrOf Builtin.Frozenset.sizeOf
 refine wpAny_bind (wpAny_pure ?_)
 try dsimp only
 first | refine wpAny_bind (wpAny_pure (wpAny_bind (wpAny_bind (wpAny_setEntries_of hoa hda hf (wpAny_pure ?_))))) | refine wpAny_bind (wpAny_bind (wpAny_setEntries_of hoa hda hf (wpAny_pure ?_))) | refine wpAny_bind (wpAny_setEntries_of hoa hda hf (wpAny_pure ?_))
 unfold setDrawn setsByText
 refine wpAny_bind (wpAny_bind (wpAny_setState_of hoa hda hf ?_))
 dsimp only
 refine wpAny_bind (wpAny_bind (wpAny_askSetting (wpAny_pure (wpAny_pure ?_))))
 show wpAny _ _ (if (!w.params.followText "set-order"&&(!t.plain&&decide (es.size > 1)))=true then _ else _) _ _ _
 cases hb:w.params.followText "set-order" with
 | true =>
  rw [if_neg (by simp)]
  refine wpAny_bind (wpAny_pure (wpAny_bind (wpAny_setEpoch_of hoa hda hf (wpAny_bind (wpAny_newObj_type (wpAny_pure ⟨_,rfl,"set_iterator",_,⟨_,get?_push_size _ rfl,rfl⟩,si_next.lookup,?_⟩))))))
  refine q s.heap.objs.size _ s.drawn [s.heap.objs.size,a] _ _ ?_ (fun A' hh=>walk_text (t:=t) (ep:=ep) (es:=es) hh (ne_of_lt hlt) hb) ⟨⟨_,get?_push_size _ rfl,rfl,rfl⟩,hS.at fun o e=>get?_push_of_some _ e⟩ (fun b o e=>get?_push_of_some _ e) (le_refl _) (fun b hb=>fp2 hb)
  exact pick_perm _ _
 | false =>
  cases hd:(!t.plain&&decide (es.size > 1)) with
  | false =>
   rw [if_neg (by simp)]
   refine wpAny_bind (wpAny_pure (wpAny_bind (wpAny_setEpoch_of hoa hda hf (wpAny_bind (wpAny_newObj_type (wpAny_pure ⟨_,rfl,"set_iterator",_,⟨_,get?_push_size _ rfl,rfl⟩,si_next.lookup,?_⟩))))))
   exact q s.heap.objs.size _ s.drawn [s.heap.objs.size,a] _ _ (List.Perm.refl _) (fun A' hh=>walk_led (t:=t) (ep:=ep) (es:=es) hh (ne_of_lt hlt) ht (by rw [hl,hb];rfl) hb hd) ⟨⟨_,get?_push_size _ rfl,rfl,rfl⟩,hS.at fun o e=>get?_push_of_some _ e⟩ (fun b o e=>get?_push_of_some _ e) (le_refl _) (fun b hb=>fp2 hb)
  | true =>
   rw [if_pos (by simp)]
   refine wpAny_bind (draw_ok _ _ (by simp) fun ps d hps=>?_)
   refine wpAny_bind (wpAny_newTuple ?_ (hsz:=by rw [length_map,hps.length_eq,length_range];exact fits_of_scanBound hsz))
   have hoa':(s.heap.push (seqObj "tuple" (ps.map fun (p:Nat)=>rawInt p).toArray 0)).get? a=some oa:=get?_push_of_some _ hoa
   refine wpAny_bind (wpAny_setEpoch_of (s:={s with heap:=s.heap.push (seqObj "tuple" (ps.map fun (p:Nat)=>rawInt p).toArray 0),drawn:=d}) hoa' hda hf (wpAny_bind (wpAny_newObj_type (wpAny_pure ⟨_,rfl,"set_iterator",_,⟨_,get?_push_size _ rfl,rfl⟩,si_next.lookup,?_⟩))))
   have hz:(s.heap.push (seqObj "tuple" (ps.map fun (p:Nat)=>rawInt p).toArray 0)).objs.size=s.heap.objs.size+1:=size_push _ _
   refine q (s.heap.push (seqObj "tuple" (ps.map fun (p:Nat)=>rawInt p).toArray 0)).objs.size _ d [(s.heap.push (seqObj "tuple" (ps.map fun (p:Nat)=>rawInt p).toArray 0)).objs.size,a,s.heap.objs.size] _ (ordD es ps) ?_ (fun A' hh=>walk_drawn (t:=t) (ep:=ep) (es:=es) (tp:=s.heap.objs.size) (ps:=ps) hh (by rw [hz];exact ne_of_lt (Nat.lt_succ_of_lt hlt)) (by rw [hz];exact ne_of_lt (Nat.lt_succ_self _)) hps) ⟨⟨_,get?_push_size _ rfl,rfl,rfl⟩,hS.at fun o e=>get?_push_of_some _ (get?_push_of_some _ e),_,0,get?_push_of_some _ (get?_push_size _ rfl),rfl⟩ (fun b o e=>get?_push_of_some _ (get?_push_of_some _ e)) (by rw [hz];exact Nat.le_succ _) (fun b hb=>by rw [hz] at hb;exact fp3 hb)
   unfold ordD
   exact (hps.filterMap _).trans (by rw [filterMap_getElem?_range])
end
end L2
namespace L2
open PySem PySem.Spec PyProof.Rows
open Dl (addKs addAll)
noncomputable def nset (b:Bool):Obj:={cls:=.type "set",dict:=none,data:=.set #[] 0 (.fresh 0 0 b)}
theorem addKs_len (ks:List Int)(n:Int):(addKs ks n).length≤ks.length+1:=by
 unfold addKs
 split
 ·exact Nat.le_succ _
 ·rw [length_append];exact le_refl _
theorem addAll_len:∀(ns ks:List Int),(addAll ks ns).length≤ks.length+ns.length
 | [],ks=>le_refl _
 | n::ns,ks=>by
  have h1:=addAll_len ns (addKs ks n)
  have h2:=addKs_len ks n
  show (addAll (addKs ks n) ns).length≤_
  rw [length_cons]
  omega
section
variable {prog:Program}{w:World}{A:Around}{E:Value→Shared→Prop}{s:Shared}
theorem SW.newS (h:Heap):SW prog w (h.push (nset !(w.params.followText "set-order"))) h.objs.size []:=
 ⟨_,#[],0,_,get?_push_size _ rfl,⟨rfl,rfl,rfl⟩,rfl,fun e he=>by simp at he,List.Perm.refl _,by decide,rfl,⟨rfl,fun i j x y _ e=>by simp [SetTable.fresh] at e⟩,rfl⟩
theorem set_new (v:Value){Q:Value→Shared→Prop}(q:Q (.ref s.heap.objs.size) {s with heap:=s.heap.push (nset !(w.params.followText "set-order"))}) :
  codeAny (model prog w) A (.call (.builtin "set.__new__") ⟨[.type "set",v],[]⟩) (wants Q E) s:=by
 refine codeAny_of_tree ?_
 change wpAny _ A.in1 (checkBuiltinCall "set.__new__" ⟨[.type "set",v],[]⟩ >>= fun _=>again (.builtin "set.__new__" ⟨[.type "set",v],[]⟩)) _ _ s
 refine wpAny_bind (wpAny_of_eq (F.newCall_set_1 v) ?_)
 refine wpAny_pure ⟨plainId_quiet F.plain_set_new _,?_⟩
 refine codeAny_builtin F.entry_set_new ?_
 rw [Around.under_plainId F.plain_set_new _]
 unfold Builtin.«set.__new__»
 unfold Builtin.Frozenset.newClass
 have:=sub_set_self
 obtain ⟨h,g,d,k,o⟩:=s
 dsimp only at q ⊢
 wp_walk
 refine wpAny_askSetting (wpAny_pure ?_)
 simp only [newObj]
 exact wpAny_bind (wpAny_alloc (wpAny_pure (wpAny_pure q)))
theorem set_loop {R:Result→Shared→Prop}{I S:Addr}{fp wr:List Addr}{ns:List Int}{P:Nat→Value→Prop}{St:Nat→Heap→Prop}(W:Walks prog w A.in1 I fp wr ns.length P St)(hS:S∉fp)(hP:∀i v,P i v→∃n t,ns[i]?=some n∧v=.int n t) :
  ∀(k i:Nat) (ks:List Int) (s:Shared),ns.length - i=k→i≤ns.length→St i s.heap→SW prog w s.heap S ks→ks.length+(ns.length - i)+1<scanBound→
   (∀h' tk,(∀b o,b≠S→b∉wr→s.heap.get? b=some o→h'.get? b=some o)→SW prog w h' S (addAll ks (ns.drop i))→R (.ok (.ret .none)) {s with heap:=h',toks:=tk})→
   codeAny (model prog w) A (.builtin "set.update.loop" ⟨[.ref S,.ref I],[]⟩) R s
 | 0,i,ks,s,hk,hi,st,hs,hb,hR=>by
  have e:i=ns.length:=by omega
  subst e
  refine codeAny_builtin F.entry_set_update_loop ?_
  rw [Around.under_plainId F.plain_set_update_loop _]
  change wpAny _ A.in1 (pyNext (.ref I) >>= _) _ _ s
  refine wpAny_bind (W.done s _ _ st fun h' tk kp=>?_)
  change wpAny _ A.in1 (ret Value.none) _ _ _
  refine wpAny_pure (hR h' tk (fun b o _ hb e=>kp b o hb e) ?_)
  rw [List.drop_length]
  exact hs.keepS fun o e=>kp S o (fun z=>hS (W.sub _ z)) e
 | k+1,i,ks,s,hk,hi,st,hs,hb,hR=>by
  have hlt:i<ns.length:=by omega
  refine codeAny_builtin F.entry_set_update_loop ?_
  rw [Around.under_plainId F.plain_set_update_loop _]
  change wpAny _ A.in1 (pyNext (.ref I) >>= _) _ _ s
  refine wpAny_bind (W.item i s _ _ hlt st fun v h1 tk1 hv st1 kp=>?_)
  obtain ⟨n,t,hn,rfl⟩:=hP i v hv
  have hs1:SW prog w h1 S ks:=hs.keepS fun o e=>kp S o (fun z=>hS (W.sub _ z)) e
  change wpAny _ A.in1 (holding [Value.int n t] (setAdd S (.int n t)) >>= _) _ _ _
  refine wpAny_bind (wpAny_holding ?_)
  unfold setAdd
  refine wpAny_holding (wpAny_bind ((intKind prog w).pyHash (intKind_is _ _ n t) ?_))
  refine add_ok (s:={s with heap:=h1,toks:=tk1+1}) hs1 (by omega) fun h2 b2 sb hs2=>?_
  have hne:∀b∈fp,b≠S:=fun b hb z=>hS (z▸hb)
  have hd:ns.drop i=n::ns.drop (i+1):=by
   rw [List.getElem?_eq_some_iff] at hn
   obtain ⟨h,rfl⟩:=hn
   exact List.drop_eq_getElem_cons h
  have hl:=addKs_len ks n
  refine wpAny_pure ⟨plainId_quiet F.plain_set_update_loop _,set_loop W hS hP k (i+1) (addKs ks n) _ (by omega) hlt (W.frame _ _ _ st1 fun b hb o e=>(sb.2 b (hne b hb)).trans e) hs2 (by omega) fun h3 tk3 kp3 hs3=>?_⟩
  refine hR h3 tk3 (fun b o hb hw e=>kp3 b o hb hw ((sb.2 b hb).trans (kp b o hw e))) ?_
  rw [hd]
  exact hs3
set_option maxHeartbeats 4000000 in
theorem set_call {l:Addr}{vs:List Value}{ns:List Int}{Q:Value→Shared→Prop}(hh:A.handled=none)(hl:s.heap.IsList l vs.toArray)(hi:IntsAre vs ns)(hb:ns.length+1<scanBound)
  (q:∀h' tk,SW prog w h' s.heap.objs.size (addAll [] ns)→(∀b o,s.heap.get? b=some o→h'.get? b=some o)→Q (.ref s.heap.objs.size) {s with heap:=h',toks:=tk}) :
  wpAny (model prog w) A (call (.type "set") [.ref l]) Q E s:=by
 obtain ⟨c0,tl0,x1⟩:=F.called_set.mro
 have x2:=F.called_set.made
 have x3:=F.called_set.sub
 have x4:=F.called_set.notType
 have x5:=F.called_set.canCreate
 have x6:=F.typeCall_set_1 (.ref l)
 refine wpAny_call (codeAny_of_tree ?_)
 change wpAny _ _ (callAny (.type "set") _) _ _ _
 refine wpAny_pure ⟨Code.quiet_builtin _ (by decide +kernel),?_⟩
 refine codeAny_builtin F.entry_type_call ?_
 rw [Around.under_plain (weight_type_call_type "set" [.ref l] []) rfl]
 repeat (any_goals (first | assumption | wp_step))
 have T0:∀h:Heap,(h.push (nset !(w.params.followText "set-order"))).get? h.objs.size=some (nset !(w.params.followText "set-order")):=fun h=>get?_push_size _ rfl
 refine codeAny_mono (set_new (.ref l) (E:=E) (Q:=fun v s1=>v=.ref s.heap.objs.size∧s1={s with heap:=s.heap.push (nset !(w.params.followText "set-order"))}) ⟨rfl,rfl⟩) fun r s1 hr=>?_
 cases r with
 | error e=>exact hr
 | ok fl =>
  cases fl with
  | ret obj =>
   obtain ⟨rfl,rfl⟩:=hr
   have hT:Shared.TypeIs {s with heap:=s.heap.push (nset !(w.params.followText "set-order"))} (.ref s.heap.objs.size) "set":=⟨_,T0 _,rfl⟩
   have x7:=F.called_set.init.lookup
   have x8:=F.called_set.init.bind (.ref s.heap.objs.size)
   repeat (any_goals (first | assumption | wp_step))
   refine codeAny_mono (codeAny_call_builtin (R:=wants (fun r s2=>r=.none∧∃h' tk,s2={s with heap:=h',toks:=tk}∧SW prog w h' s.heap.objs.size (addAll [] ns)∧∀b o,s.heap.get? b=some o→h'.get? b=some o) E) F.called_set.init.plain F.entry_set_init (check_set_init_1 hT ?_)) fun r2 s2 hr2=>?_
   ·obtain ⟨⟨oc,od,odt,osl⟩,hol,hcl,nl,hdl⟩:=id hl
    simp only at hcl hdl
    subst hcl hdl
    have y1:=get?_push_of_some (nset !(w.params.followText "set-order")) hol
    have y2:=F.sub_list_set
    have y3:=F.sub_list_frozenset
    have y4:(Value.type "list"==Value.type "dict")=false:=by decide
    have hl1:(s.heap.push (nset !(w.params.followText "set-order"))).IsList l vs.toArray:=hl.push _
    have hz:(s.heap.push (nset !(w.params.followText "set-order"))).objs.size=s.heap.objs.size+1:=size_push ..
    have hlt:l<s.heap.objs.size:=lt_size hol
    unfold Builtin.«set.__init__» noKeywords
    unfold Builtin.Frozenset.updateFrom
    generalize hPI:pyIter=PI
    wp_walk
    subst hPI
    refine wpAny_pyIter_list hl1 (wpAny_bind (wpAny_runValue ?_))
    have hn:=IntsAre.length hi
    have W:Walks prog w A.in1.in1.in1 (s.heap.push (nset !(w.params.followText "set-order"))).objs.size [(s.heap.push (nset !(w.params.followText "set-order"))).objs.size,l] [(s.heap.push (nset !(w.params.followText "set-order"))).objs.size] ns.length (fun i v=>vs.toArray[i]?=some v) (fun i h=>h.IsListIter (s.heap.push (nset !(w.params.followText "set-order"))).objs.size l i∧h.IsList l vs.toArray):=by
     have:=Walks.list (prog:=prog) (w:=w) (A:=A.in1.in1.in1) (by simp [hh]) (s.heap.push (nset !(w.params.followText "set-order"))).objs.size l (by rw [hz];exact ne_of_lt (Nat.lt_succ_of_lt hlt)) vs.toArray
     have e9:vs.toArray.size=ns.length:=List.size_toArray.trans hn
     rw [e9] at this
     exact this
    refine set_loop W (S:=s.heap.objs.size) ?_ (fun i v e=>?_) ns.length 0 [] _ (by simp) (zero_le _) ⟨⟨_,get?_push_size _ rfl,rfl,rfl⟩,hl1.push _⟩ ((SW.newS s.heap).keepS fun o e=>get?_push_of_some _ e) (by simpa using hb) fun h' tk kp hs=>?_
    ·rw [hz]
     intro z
     rcases List.mem_cons.mp z with z | z
     ·exact absurd z (ne_of_lt (Nat.lt_succ_self _))
     ·exact absurd (List.mem_singleton.mp z) (ne_of_gt hlt)
    ·obtain ⟨t,z⟩:=IntsAre.int_at hi i v (by simpa using e)
     have hiv:i<ns.length:=by
      rw [List.getElem?_toArray] at e
      have:=(List.getElem?_eq_some_iff.mp e).1
      omega
     exact ⟨_,t,getElem?_eq_getElem hiv,by rw [z];simp [getD_eq_getElem?_getD,hiv]⟩
    ·refine wpAny_pure ?_
     change wpAny _ _ (ret Value.none) _ _ _
     refine wpAny_pure ⟨rfl,h',tk,rfl,hs,fun b o e=>?_⟩
     have hbs:b<s.heap.objs.size:=lt_size e
     refine kp b o (ne_of_lt hbs) (fun z=>?_) (get?_push_of_some _ (get?_push_of_some _ e))
     rw [hz,List.mem_singleton] at z
     subst z
     exact absurd hbs (Nat.not_lt.mpr (Nat.le_succ _))
   ·cases r2 with
    | error e=>exact hr2
    | ok fl2 =>
     cases fl2 with
     | ret r =>
      obtain ⟨rfl,h',tk,rfl,hs,kp⟩:=hr2
      repeat (any_goals (first | assumption | wp_step))
      exact q _ _ hs kp
     | _=>exact hr2.elim
  | _=>exact hr.elim
end
end L2
namespace L2
open PySem PySem.Spec PyProof.Rows
section
variable {prog:Program}{w:World}{A:Around}{E:Value→Shared→Prop}{s:Shared}{a:Addr}{ks:List Int}
theorem ints_of:∀{vs:List Value},(∀v∈vs,∃n t,v=.int n t)→IntsAre vs (vs.map keyI)
 | [],_=>.nil
 | v::vs,h=>by
  obtain ⟨n,t,rfl⟩:=h v (mem_cons_self ..)
  exact .cons n t (ints_of fun x hx=>h x (mem_cons_of_mem _ hx))
theorem items_eq {ord:List (Int×Value)}{acc:Array Value}(h:ItemsOf (OrdP ord) acc ord.length):acc.toList=ord.map (·.2):=by
 obtain ⟨h1,h2⟩:=h
 refine List.ext_getElem? fun j=>?_
 by_cases hj:j<acc.size
 ·obtain ⟨e,e1,e2⟩:=h2 j acc[j] (Array.getElem?_eq_getElem hj)
  rw [getElem?_toList,Array.getElem?_eq_getElem hj,getElem?_map,e1,e2]
  rfl
 ·rw [List.getElem?_eq_none (by simp;omega),List.getElem?_eq_none (by simp;omega)]
theorem set_len_slot:typeLookup (.type "set") "__len__"=pure (some (.builtin "set.__len__")):=F.slot_set_len.lookup
theorem collect_set {Q:List Value→Shared→Prop}(hh:A.handled=none)(hS:SW prog w s.heap a ks)
  (q:∀(vs:List Value) (ks':List Int) h' d tk,IntsAre vs ks'→ks'.Perm ks→(∀b o,s.heap.get? b=some o→h'.get? b=some o)→s.heap.objs.size≤h'.objs.size→Q vs {s with heap:=h',drawn:=d,toks:=tk}):wpAny (model prog w) A (collect (.ref a)) Q E s:=by
 obtain ⟨o,es,ep,t,ho,hex,hd,hel,hk,hb,hf,ht,hl⟩:=id hS
 have hlt:a<s.heap.objs.size:=lt_size ho
 unfold collect
 refine wpAny_bind (wpAny_runValue (codeAny_builtin F.entry_proto_collect ?_))
 rw [Around.under_plainId F.plain_proto_collect _]
 change wpAny _ A.in1 (newList [] >>= fun l=>again (.builtin "list.__iadd__" ⟨[l,.ref a],[]⟩)) _ _ s
 refine wpAny_bind (wpAny_newObj_type (wpAny_pure ⟨plainId_quiet F.plain_list_iadd _,codeAny_builtin F.entry_list_iadd ?_⟩))
 rw [Around.under_plainId F.plain_list_iadd _]
 generalize hH:s.heap.push {cls:=.type "list",data:=.seq ([]:List Value).toArray}=H
 have hHs:H.objs.size=s.heap.objs.size+1:=by rw [← hH,size_push]
 have hHo:H.get? s.heap.objs.size=some {cls:=.type "list",data:=.seq ([]:List Value).toArray}:=hH▸get?_push_size _ rfl
 have hHk:∀b o,s.heap.get? b=some o→H.get? b=some o:=fun b o e=>hH▸get?_push_of_some _ e
 have hSA:SAt H a es ep t:=⟨o,hHk _ _ ho,hex,hd,hf⟩
 have T:Shared.TypeIs {s with heap:=H} (.ref a) "set":=⟨o,hHk _ _ ho,hex.1⟩
 change wpAny _ A.in1 (Builtin.List.listExtendWith (.ref s.heap.objs.size) (.ref a) (.ref s.heap.objs.size)) _ _ _
 unfold Builtin.List.listExtendWith
 refine wpAny_bind (wpAny_typeOf T ?_)
 have n1:Builtin.List.listSameRef (.ref s.heap.objs.size) (.ref a)=false:=by simp [Builtin.List.listSameRef,ne_of_gt hlt]
 rw [if_neg (by rw [n1];decide)]
 refine wpAny_bind (iter_set (s:={s with heap:=H}) hSA hb ht.up hl fun I h1 d fp St ord hp W st0 kp hI hfp=>?_)
 refine wpAny_bind (wpAny_holding ?_)
 have T1:Shared.TypeIs {s with heap:=h1,drawn:=d} (.ref a) "set":=⟨o,kp _ _ (hHk _ _ ho),hex.1⟩
 unfold Builtin.List.listLengthHint
 refine wpAny_bind (wpAny_specialOf T1 set_len_slot ?_)
 generalize hid:("set.__len__":String)=id0
 wp_delta
 rw [show splitId id0=some ("set","__len__") from by subst hid;decide +kernel]
 subst hid
 refine wpAny_bind (wpAny_isInstance (b:=true) T1 (by rw [isSubtype_type];kernel_rfl) ?_)
 change wpAny _ A.in1 (typeOf (Value.ref a) >>= _) _ _ _
 refine wpAny_bind (wpAny_typeOf T1 (wpAny_pure ?_))
 rw [if_pos (by decide)]
 refine wpAny_bind (wpAny_rule ?_)
 have hL:h1.get? s.heap.objs.size=some {cls:=.type "list",data:=.seq ([]:List Value).toArray}:=kp _ _ hHo
 have hI':s.heap.objs.size<I:=by
  have:H.objs.size≤I:=hI
  rw [hHs] at this
  exact this
 have hnf:s.heap.objs.size∉fp:=fun z=>by
  rcases hfp _ z with z | z
  ·exact absurd z (ne_of_gt hlt)
  ·have:H.objs.size≤s.heap.objs.size:=z
   rw [hHs] at this
   exact absurd this (Nat.not_succ_le_self _)
 refine wpAny_bind ?_
 change wpAny _ A.in1 (updateSeq s.heap.objs.size (·.push .none) >>= fun _=>updateSeq s.heap.objs.size (·.pop)) _ _ _
 refine wpAny_bind (wpAny_updateSeq hL rfl ?_)
 have g1:=Heap.get?_update_self (Obj.mapSeq (·.push Value.none)) hL rfl
 refine wpAny_updateSeq g1 rfl ?_
 have g2:=Heap.get?_update_self (Obj.mapSeq (·.pop)) g1 rfl
 have oth:∀b o,b≠s.heap.objs.size→h1.get? b=some o→((h1.update s.heap.objs.size (Obj.mapSeq (·.push Value.none))).update s.heap.objs.size (Obj.mapSeq (·.pop))).get? b=some o:=
  fun b o hb e=>(get?_update_other _ _ (Ne.symm hb)).trans ((get?_update_other _ _ (Ne.symm hb)).trans e)
 have hol:ord.length=es.size:=by rw [hp.length_eq,length_toList]
 refine wpAny_pure ⟨plainId_quiet F.plain_extend_loop _,codeAny_extend_loopS (n:=es.size) (W A.in1 hh).toS (fits_of_scanBound hb) _ hnf _ es.size 0 _ _ _ (by simp) (zero_le _) ((W A.in1 hh).frame 0 h1 _ st0 fun b hb o e=>oth b o (fun z=>hnf (z▸hb)) e) g2 (ItemsOf.nil _) fun s' acc c' hm hS' hacc=>?_⟩
 change wpAny _ A (load s.heap.objs.size >>= _) _ _ s'
 refine wpAny_bind (wpAny_load hS' (wpAny_pure ?_))
 obtain ⟨h2,gs2,d2,tk2,os2⟩:=s'
 have eg:gs2=s.gens:=hm.gens
 have ed:d2=d:=hm.drawn
 have eo:os2=s.os:=hm.os
 subst eg ed eo
 rw [← hol] at hacc
 have ea:=items_eq hacc
 have hkeep:∀b o,s.heap.get? b=some o→h2.get? b=some o:=fun b o e=>by
  have hbs:b<s.heap.objs.size:=lt_size e
  refine hm.heap b o (fun z=>?_) (oth b o (ne_of_lt hbs) (kp b o (hHk b o e)))
  rcases List.mem_cons.mp z with z | z
  ·exact absurd z (ne_of_lt hbs)
  ·exact absurd (List.mem_singleton.mp z) (ne_of_lt (lt_trans hbs hI'))
 have hints:∀v∈ord.map (·.2),∃n t,v=Value.int n t:=fun v hv=>by
  obtain ⟨e,he,rfl⟩:=List.mem_map.mp hv
  obtain ⟨⟨n,hn,_⟩,_⟩:=hel e (hp.mem_iff.mp he)
  obtain ⟨t,z⟩:=Value.isInt_shape hn
  exact ⟨n,t,z⟩
 rw [ea]
 refine q _ _ h2 d2 tk2 (ints_of hints) ?_ hkeep (le_of_lt (lt_size hS'))
 rw [map_map]
 exact (hp.map _).trans hk
theorem sorted_set {Q:Value→Shared→Prop}(hh:A.handled=none)(hS:SW prog w s.heap a ks)(h64:ks.length<64)
    (q:∀(r:Addr) (vs:List Value) (ks':List Int) h' d tk n,IntsAre vs ks'→ks'.Perm ks→ks'.Pairwise (·≤·)→(∀b o,s.heap.get? b=some o→h'.get? b=some o)→s.heap.objs.size≤r→h'.get? r=some (seqObj "list" vs.toArray n)→Q (.ref r) {s with heap:=h',drawn:=d,toks:=tk}) :
    wpAny (model prog w) A (call (.builtin "sorted") [.ref a]) Q E s:=by
  refine Calls.call_function_entry kind_sorted plain_sorted entry_sorted (args_sorted1 _) ?_
  unfold Builtin.«sorted»
  refine wpAny_bind (m:=checkCount "sorted" 1 1 _) (wpAny_pure (wpAny_bind (collect_set (A:=A.in1) hh hS fun vs ks' h1 d tk hi hp kp hsz=>wpAny_bind (wpAny_newList ?_ (by
    have e1:=IntsAre.length hi
    have e2:=hp.length_eq
    rw [sizeLine_eq]
    omega)))))
  have e1:=IntsAre.length hi
  have e2:=hp.length_eq
  have hl:(h1.push (seqObj "list" vs.toArray 0)).get? h1.objs.size=some (seqObj "list" vs.toArray 0):=get?_push_size _ rfl
  change wpAny _ _ _ _ _ {s with heap:=h1.push (seqObj "list" vs.toArray 0),drawn:=d,toks:=tk}
  refine wpAny_bind (wpAny_holding (wpAny_call_entry slot_list_sort ⟨_,hl,rfl⟩ entry_list_sort (list_sort_tree hl hi (by omega) fun out ns' a1 a2 a3=>⟨_,rfl,?_⟩) (args_list_sort _)))
  refine wpAny_pure ⟨_,rfl,?_⟩
  obtain ⟨n0,g0⟩:∃n0,((h1.push (seqObj "list" vs.toArray 0)).update h1.objs.size (Obj.mapSeq fun _=>#[])).get? h1.objs.size=some (seqObj "list" #[] n0):=⟨_,get?_update_seq hl (fun _=>#[])⟩
  have z1:((h1.push (seqObj "list" vs.toArray 0)).update h1.objs.size (Obj.mapSeq fun _=>#[])).objs.size=h1.objs.size+1:=by rw [Heap.size_update,size_push]
  have g1:((((h1.push (seqObj "list" vs.toArray 0)).update h1.objs.size (Obj.mapSeq fun _=>#[])).push (seqObj "tuple" vs.toArray 0)).push (seqObj "list" #[] 0)).get? h1.objs.size=some (seqObj "list" #[] n0):=
    get?_push_of_some _ (get?_push_of_some _ g0)
  obtain ⟨n,g2⟩:∃n,(sortedHeap (h1.push (seqObj "list" vs.toArray 0)) h1.objs.size vs out).get? h1.objs.size=some (seqObj "list" out n):=⟨_,get?_update_seq g1 (fun _=>out)⟩
  have g3:∀b o,s.heap.get? b=some o→(sortedHeap (h1.push (seqObj "list" vs.toArray 0)) h1.objs.size vs out).get? b=some o:=fun b o e=>by
    have hb:h1.objs.size≠b:=ne_of_gt (lt_size (kp b o e))
    unfold sortedHeap
    rw [get?_update_other _ _ hb]
    refine get?_push_of_some _ (get?_push_of_some _ ?_)
    rw [get?_update_other _ _ hb]
    exact get?_push_of_some _ (kp b o e)
  exact q h1.objs.size out.toList ns' _ d tk n a1 (a2.trans hp) a3 g3 hsz (by rw [Array.toArray_toList];exact g2)
end
end L2
namespace L2
open PySem PySem.Spec PyProof.Rows
open Dl (D R FE FT FA FO FS FI FB Fl)
section
variable {X:Cx}{pins:List (Addr×Obj)}{σ:St}{H:Hp}{s:Shared}{e:Expr}{te:TE}{p p' pos pos':Pos}
theorem Inv.redrawn (I:Inv X pins σ H s)(d:Drawn):Inv X pins σ H {s with drawn:=d}:=
 I.step (h':=s.heap) (H':=H) (g':=s.gens) (t':=s.toks) (d':=d) (ch:=[]) (fun _ z=>nomatch z) (fun _ _ _ _ _ e _=>e) (fun _ o _ _ _ e _=>⟨o.slots,e⟩) (fun _ _ _ _ n=>n) (fun _ o _ e=>⟨o,e⟩) (fun _ _ e=>e) (fun _ _ _ e=>e) (fun _ _ _ e=>e) (fun _ n=>n) I.hok I.bare
def tSortS (K:Frag)(te:TE):TE:=fun σ H Q=>tCons te tNil σ H fun vs H1=>∃a ns,vs=[.ref a]∧SqL K H1 a (ns.map V.int)∧ns.length<64∧∀r,H1 r=none→Q (.ref r) (upd H1 r (.lst ((Dl.sortI (Dl.addAll [] ns)).map V.int)))
theorem star_call1 {f:Expr}{as:List Expr}{q:Pos}{env:Env}:starEach [.Call f as [] q] env=(false,eval (.Call f as [] q) env)::starEach [] env:=rfl
theorem pe_sortS (hc:X.calm=true)(hg:Gl X "sorted")(hm:X.mg "sorted"=none)(hg':Gl X "set")(hm':X.mg "set"=none)(he:PE X e te)(hs2:starEach [e] X.env=(false,eval e X.env)::starEach [] X.env) :
    PE X (.Call (.Name "sorted" p) [.Call (.Name "set" p') [e] [] pos'] [] pos) (tSortS X.K te):=by
  intro pins s σ H Q I h
  refine wpAny_Call_Name_kw (ld_blt I hg hm boot_sorted ?_ (by decide) (by decide))
  refine PyProof.Rows.callWith_builtin1 ?_ star_call1 rfl
  rw [star_call1]
  change wpAny _ _ (spliced ((false,eval (.Call (.Name "set" p') [e] [] pos') X.env)::backTo pos (starEach [] X.env))) _ _ s
  refine Calls.spliced_cons ?_
  refine wpAny_Call_Name_kw (ld_blt I hg' hm' PyProof.Rows.boot_set ?_ (by decide) (by decide))
  refine PyProof.Rows.callWith_type1 (thn (pa_cons he pa_nil hs2 pos' pins s σ H _ I h) fun us s1 hz9=>?_) hs2 rfl
  obtain ⟨vs,H1,I1,r1,q1⟩:=hz9
  obtain ⟨a,ns,rfl,hq,hl,q⟩:=q1
  obtain ⟨u,rfl,rx⟩:=vals1 r1
  cases rx
  obtain ⟨its,rv,pl,hz⟩:=I1.list hq
  have hh:=I1.ok.hd hc
  have hal:=addAll_len ns []
  refine set_call hh pl.isList (intsAre_of rv) (lt_trans (Nat.add_lt_add_right hl 1) (by decide)) fun h2 tk2 hS k2=>Calls.spliced_nil ?_
  refine sorted_set (s:={s1 with heap:=h2,toks:=tk2}) hh hS (Nat.lt_of_le_of_lt hal (by simpa using hl)) fun r vs' ks' h3 d tk n hi hp ho k3 hr hL=>?_
  have e:=sortI_eq hp ho
  subst e
  have hlt:s1.heap.objs.size≤r:=le_trans (by
    obtain ⟨o,_,_,_,hO,_⟩:=hS
    exact le_of_lt (lt_size hO)) hr
  have hv:=vals_ints hi
  have hlen:=hp.length_eq
  have I2:=(I1.redrawn d).laid (a:=r) (t':=tk) (o:=.lst ((Dl.sortI (Dl.addAll [] ns)).map V.int)) (h':=h3) (fun b o z=>k3 b o (k2 b o z)) hlt ⟨by rw [length_map,hlen];exact le_trans hal (le_trans (by simpa using le_of_lt hl) (by decide:64≤_)),vs',n,hv,by simpa [seqObj] using hL⟩
  exact ⟨.ref r,_,I2,rfl,q r (I1.hok.fresh hlt)⟩
theorem qe_sortS (hg:Gl X "sorted")(hm:X.mg "sorted"=none)(hg':Gl X "set")(hm':X.mg "set"=none)(he:QE X e te)(hs2:starEach [e] X.env=(false,eval e X.env)::starEach [] X.env)(hc:X.calm=true:=by rfl) :
  QE X (.Call (.Name "sorted" p) [.Call (.Name "set" p') [e] [] pos'] [] pos) (tSortS X.K te):=⟨pe_sortS hc hg hm hg' hm' he.out hs2⟩
end
section
variable {K:Frag}{C:String→Addr}{E:XK}{Γ Δ:List Nat}{m1:Nat}{S1:List (Nat×Bool)}
theorem eok_sortS {ta:TE}{fa:FE}(ha:EOk K C E Γ Δ m1 S1 ta fa):EOk K C E Γ Δ 2 [] (tSortS K ta) (Dl.f1 Dl.gSortS fa):=
  fun H0 Hb H σ ρ A Q I p=>ha H0 Hb H σ ρ A _ I (p.bind.imp (fun x q vx H1 g1 r1=>by
    obtain ⟨d,e,q⟩:=oR_ok q
    obtain ⟨Bx,r1,_⟩:=r1
    have out:Out K C H1 d Q:=fun v H' B g4 r h1 h2=>q v H' (g1.trans g4) (Res.new r h1 fun a ha=>g1.free (h2 a ha))
    unfold Dl.gSortS at e
    split at e
    · obtain ⟨ns,h1,h2⟩:=Option.bind_eq_some_iff.mp e
      split at h2
      · rename_i hl
        cases h2
        obtain ⟨a,ys,B,rfl,e2,e3,_⟩:=r1
        have z:=RpA.ofInts e3 h1
        subst z
        exact ⟨a,ns,rfl,SqL.of e2,hl,fun r hr=>Out.lst out RpA.ints hr⟩
      · cases h2
    · cases e) fun c x q H' g'=>q H' g')
end
section
variable {X:Cx}{C:String→Addr}{E:XK}{Γ Δ:List Nat}{m:Nat}{S:List (Nat×Bool)}{e:Expr}{te:TE}{fe:FE}{p p2 apos cpos:Pos}
theorem ce_sortS (K:Frag)(hg:Gl X "sorted")(hm:X.mg "sorted"=none)(hg':Gl X "set")(hm':X.mg "set"=none)(he:JE X C E Γ Δ m S e te fe)(hs2:starEach [e] X.env=(false,eval e X.env)::starEach [] X.env)(hc:X.calm=true:=by rfl)(hK:X.K=K:=by rfl) :
  JE X C E Γ Δ 2 [] (.Call (.Name "sorted" p) [.Call (.Name "set" p2) [e] [] apos] [] cpos) (tSortS K te) (Dl.f1 Dl.gSortS fe):=by
 subst hK
 exact ⟨qe_sortS hg hm hg' hm' he.q hs2 hc,eok_sortS he.o⟩
end
end L2
namespace Dl
open PySem
noncomputable def q_spoilt:FS:=
  (sSeq (sIf (cOr (cE (f2 gLt (fV 1) (fC (.int 0)))) (cOr (cE (f2 gGt (fV 2) (fA gLen (aCons (fV 0) aNil)))) (cE (f2 gGt (fV 1) (fV 2))))) sNever sNx)
    (sRet (fA gSum (aCons (fSl gSl (fV 0) (oSome (fV 1)) (oSome (fV 2))) aNil))))
noncomputable def F_spoilt (ds:List D):R D:=(run 3 q_spoilt ds).calm
noncomputable def l__law_cell_4:FS:=
 (sSet 2 (f2 gMod (f2 gAdd (f2 gAdd (f2 gMul (fV 2) (fC (.int 48271))) (f2 gMod (fV 3) (fC (.int 1000003)))) (fC (.int 1))) (fC (.int 2147483647))))
noncomputable def q__law_cell:FS:=
  (sSeq (sIf (cE (f2 gLt (fV 1) (fA gLen (aCons (fV 0) aNil)))) (sRet (f1 gFlat (f2 gIx (fV 0) (fV 1)))) sNx)
    (sSeq (sSet 2 (fC (.int 5)))
    (sSeq (sFor (jList (fSl gSl (fV 0) oNone (oSome (fC (.int 63))))) (bName 3) l__law_cell_4)
    (sRet (f2 gMod (f2 gAdd (fV 2) (f2 gMul (fC (.int 7919)) (fV 1))) (fC (.int 1000003)))))))
noncomputable def F__law_cell (ds:List D):R D:=(run 4 q__law_cell ds).calm
noncomputable def q__law_mix:FS:=
  (sSeq (sSet 2 (f2 gMod (f2 gPow (f2 gAdd (f2 gAdd (f2 gMod (fV 0) (fC (.int 2147483629))) (f2 gMul (fC (.int 1013)) (fV 1))) (fC (.int 7919))) (fC (.int 3))) (fC (.int 2147483647))))
    (sSeq (sSet 3 (f2 gMod (f2 gAdd (f2 gAdd (f2 gMul (fV 2) (fC (.int 40699))) (f2 gMul (f2 gMul (fC (.int 3793)) (fV 1)) (fV 1))) (fC (.int 11))) (fC (.int 2147483399))))
    (sRet (f2 gDiv (fV 3) (fC (.int 101))))))
noncomputable def F__law_mix (ds:List D):R D:=(run 4 q__law_mix ds).calm
noncomputable def l__law_sums_2:FS:=
 (sApp 1 (f2 gAdd (f2 gIx (fV 1) (f1 gNeg (fC (.int 1)))) (fV 2)))
noncomputable def q__law_sums:FS:=
  (sSeq (sSet 1 (fA gLst (aCons (fC (.int 0)) aNil)))
    (sSeq (sFor (jList (fV 0)) (bName 2) l__law_sums_2)
    (sRet (fV 1))))
noncomputable def F__law_sums (ds:List D):R D:=(run 3 q__law_sums ds).calm
noncomputable def q__law_good:FS:=
  (sSeq (sSet 3 (f2 gAdd (fV 2) (f2 gIx (fV 1) (fC (.int 1)))))
    (sSeq (sIf (cOr (cE (f2 gLt (fV 2) (fC (.int 0)))) (cE (f2 gGe (fV 3) (fA gLen (aCons (fV 0) aNil))))) (sRet (fC (.bl false))) sNx)
    (sRet (f2 gLe (f2 gSub (f2 gIx (fV 0) (fV 3)) (f2 gIx (fV 0) (fV 2))) (f2 gIx (fV 1) (fC (.int 3)))))))
noncomputable def F__law_good (ds:List D):R D:=(run 4 q__law_good ds).calm
noncomputable def l__law_short_3:FS:=
  (sSeq (sSet 2 (f2 gMul (fV 2) (f2 gAdd (fA gLen (aCons (fV 1) aNil)) (fC (.int 1)))))
    (sSet 3 (f2 gAdd (fV 3) (fC (.int 1)))))
noncomputable def q__law_short:FS:=
  (sSeq (sSet 2 (fC (.int 1)))
    (sSeq (sSet 3 (fC (.int 0)))
    (sSeq (sWhile 100000 (cAnd (cE (f2 gLt (fV 3) (fA gLen (aCons (fV 0) aNil)))) (cE (f2 gLe (f2 gMul (fV 2) (f2 gAdd (fA gLen (aCons (fV 1) aNil)) (fC (.int 1)))) (fC (.int 4096))))) l__law_short_3)
    (sRet (fSl gSl (fV 0) oNone (oSome (fV 3)))))))
noncomputable def F__law_short (ds:List D):R D:=(run 4 q__law_short ds).calm
noncomputable def q_fits:FS:=
  (sSeq (sSet 3 (f2 gAdd (fV 2) (f2 gIx (fV 1) (fC (.int 1)))))
    (sSeq (sIf (cOr (cE (f2 gLt (fV 2) (fC (.int 0)))) (cE (f2 gGt (fV 3) (fA gLen (aCons (fV 0) aNil))))) (sRet (fC (.bl false))) sNx)
    (sRet (f2 gLe (fCall F_spoilt (aCons (fV 0) (aCons (fV 2) (aCons (fV 3) aNil)))) (f2 gIx (fV 1) (fC (.int 3)))))))
noncomputable def F_fits (ds:List D):R D:=(run 4 q_fits ds).calm
noncomputable def l__law_row_4:FS:=
  (sIf (cE (f2 gLt (fV 3) (f2 gPow (fC (.int 10)) (fC (.int 18))))) (sApp 5 (f2 gMod (fCall F__law_mix (aCons (fV 3) (aCons (fV 6) aNil))) (f2 gIx (fV 2) (fV 6)))) (sIf (cE (f2 gGt (fV 4) (fC (.int 0)))) (sSeq (sApp 5 (f2 gMod (fV 4) (f2 gIx (fV 2) (fV 6))))
    (sSet 4 (f2 gDiv (fV 4) (f2 gIx (fV 2) (fV 6))))) (sSeq (sSet 7 (fCall F__law_cell (aCons (fV 0) (aCons (f2 gMod (f2 gAdd (f2 gAdd (fV 1) (fC (.int 1))) (fV 6)) (fC (.int 63))) aNil))))
    (sApp 5 (f2 gMod (fCall F__law_mix (aCons (fV 7) (aCons (fV 6) aNil))) (f2 gIx (fV 2) (fV 6)))))))
noncomputable def q__law_row:FS:=
  (sSeq (sSet 3 (fCall F__law_cell (aCons (fV 0) (aCons (fV 1) aNil))))
    (sSeq (sSet 4 (f1 gFlat (fV 3)))
    (sSeq (sSet 5 (fA gLst aNil))
    (sSeq (sFor (jRng1 (aCons (fA gLen (aCons (fV 2) aNil)) aNil)) (bName 6) l__law_row_4)
    (sRet (fV 5))))))
noncomputable def F__law_row (ds:List D):R D:=(run 8 q__law_row ds).calm
noncomputable def l__law_all_5:FS:=
  (sSeq (sSet 7 (f2 gSub (fV 4) (f2 gIx (fV 6) (fC (.int 1)))))
    (sIf (cE (fCall F__law_good (aCons (fV 2) (aCons (fV 6) (aCons (fV 7) aNil))))) (sSeq (sSet 8 (fA gTup (aCons (f1 gFlat (fV 7)) (aCons (f1 gFlat (f2 gIx (fV 6) (fC (.int 0)))) aNil))))
    (sExt 5 (fComp 9 2 (jList (f2 gIxL (fV 3) (fV 7))) (bTup (bCons (bName 9) (bCons (bName 10) bNil))) cYes (fA gTup (aCons (f2 gAdd (fV 9) (fA gLst (aCons (fV 8) aNil))) (aCons (f2 gAdd (fV 10) (f2 gIx (fV 6) (fC (.int 2)))) aNil)))))) sNx))
noncomputable def l__law_all_3:FS:=
  (sSeq (sSet 5 (fA gListV (aCons (f2 gIxL (fV 3) (f2 gSub (fV 4) (fC (.int 1)))) aNil)))
    (sSeq (sFor (jList (fV 1)) (bName 6) l__law_all_5)
    (sApp 3 (fV 5))))
noncomputable def q__law_all:FS:=
  (sSeq (sSet 2 (fCall F__law_sums (aCons (fV 0) aNil)))
    (sSeq (sSet 3 (fA gLst (aCons (fA gLst (aCons (fA gTup (aCons (fA gLst aNil) (aCons (fC (.int 0)) aNil))) aNil)) aNil)))
    (sSeq (sFor (jRng2 (aCons (fC (.int 1)) (aCons (fA gLen (aCons (fV 2) aNil)) aNil))) (bName 4) l__law_all_3)
    (sRet (f2 gIxL (fV 3) (f1 gNeg (fC (.int 1))))))))
noncomputable def F__law_all (ds:List D):R D:=(run 9 q__law_all ds).calm
noncomputable def q_ending:FS:=
 (sRet (fComp 3 1 (jList (fV 1)) (bName 3) (cE (fCall F_fits (aCons (fV 0) (aCons (fV 3) (aCons (f2 gSub (fV 2) (f2 gIx (fV 3) (fC (.int 1)))) aNil))))) (f1 gFlat (fV 3))))
noncomputable def F_ending (ds:List D):R D:=(run 3 q_ending ds).calm
noncomputable def l__law_table_7:FS:=
  (sSeq (sSet 9 (f2 gAdd (f2 gMul (fC (.int 3)) (fV 8)) (fC (.int 6))))
    (sSeq (sSet 10 (f1 gFlat (f2 gIx (fA gLst (aCons (fC (.int 1)) (aCons (fC (.int 2)) (aCons (fC (.int 3)) (aCons (fC (.int 4)) (aCons (fC (.int 5)) (aCons (fC (.int 6)) (aCons (fC (.int 2)) (aCons (fC (.int 3)) (aCons (fC (.int 11)) (aCons (fC (.int 40)) (aCons (f2 gIx (fA gLst (aCons (fC (.int 150)) (aCons (fC (.int 200)) aNil))) (f2 gMod (fV 8) (fC (.int 2)))) aNil)))))))))))) (f2 gIx (fV 4) (fV 9)))))
    (sSeq (sSet 11 (f2 gAdd (fC (.int 1)) (f2 gIx (fV 4) (f2 gAdd (fV 9) (fC (.int 1))))))
    (sSeq (sIf (cE (f2 gEq (f2 gIx (fV 4) (fC (.int 3))) (fC (.int 1)))) (sSet 11 (f2 gAdd (f2 gMul (fC (.int 3)) (fV 10)) (f2 gMod (f2 gIx (fV 4) (f2 gAdd (fV 9) (fC (.int 1)))) (fC (.int 4))))) sNx)
    (sSeq (sIf (cE (f2 gEq (f2 gIx (fV 4) (fC (.int 3))) (fC (.int 2)))) (sSet 11 (f2 gAdd (fC (.int 1)) (f2 gMod (f2 gIx (fV 4) (f2 gAdd (fV 9) (fC (.int 1)))) (fC (.int 3))))) sNx)
    (sSeq (sIf (cE (f2 gEq (f2 gIx (fV 4) (fC (.int 3))) (fC (.int 3)))) (sSet 11 (f1 gFlat (fV 10))) sNx)
    (sSeq (sSet 12 (fA gMin (aCons (f2 gMul (f2 gIx (fA gLst (aCons (fC (.int 0)) (aCons (fC (.int 0)) (aCons (fC (.int 1)) (aCons (fC (.int 2)) (aCons (fC (.int 3)) (aCons (fC (.int 12)) aNil))))))) (f2 gIx (fV 4) (f2 gAdd (fV 9) (fC (.int 2))))) (fV 5)) (aCons (f2 gSub (f2 gPow (fC (.int 10)) (fC (.int 18))) (fC (.int 1))) aNil))))
    (sSeq (sSet 13 (f1 gFlat (f2 gIx (fV 3) (f2 gMod (f2 gAdd (f2 gIx (fV 4) (fC (.int 4))) (f2 gMul (f2 gAdd (f2 gMul (fC (.int 2)) (f2 gIx (fV 4) (fC (.int 5)))) (fC (.int 1))) (fV 8))) (fC (.int 16))))))
    (sApp 7 (fA gTup (aCons (f1 gFlat (fV 13)) (aCons (f1 gFlat (fV 10)) (aCons (fA gMin (aCons (f2 gMul (fV 11) (fV 6)) (aCons (f2 gPow (fC (.int 10)) (fC (.int 18))) aNil))) (aCons (f1 gFlat (fV 12)) aNil))))))))))))))
noncomputable def q__law_table:FS:=
  (sSeq (sSet 3 (fA gLst (aCons (fC (.str ("a":Str))) (aCons (fC (.str ("ab":Str))) (aCons (fC (.str ("abc":Str))) (aCons (fC (.str ("b":Str))) (aCons (fC (.str ("ba":Str))) (aCons (fC (.str ("z":Str))) (aCons (fC (.str ("zzzzzzzz":Str))) (aCons (fC (.str ("roll":Str))) (aCons (fC (.str ("cut":Str))) (aCons (fC (.str ("by":Str))) aNil))))))))))))
    (sSeq (sSet 3 (f2 gAdd (fV 3) (fA gLst (aCons (fC (.str ("aab":Str))) (aCons (fC (.str ("zz":Str))) (aCons (fC (.str ("kind":Str))) (aCons (fC (.str ("qsvw":Str))) (aCons (fC (.str ("fghjmp":Str))) (aCons (fC (.str ("x":Str))) aNil)))))))))
    (sSeq (sSet 4 (fCall F__law_row (aCons (fV 0) (aCons (fV 1) (aCons (f2 gAdd (fA gLst (aCons (f2 gAdd (fV 2) (fC (.int 1))) (aCons (fC (.int 4)) (aCons (fC (.int 4)) (aCons (fC (.int 4)) (aCons (fC (.int 16)) (aCons (fC (.int 4)) aNil))))))) (f2 gMul (fA gLst (aCons (fC (.int 11)) (aCons (fC (.int 40)) (aCons (fC (.int 6)) aNil)))) (fV 2))) aNil)))))
    (sSeq (sSet 5 (f1 gFlat (f2 gIx (fA gLst (aCons (fC (.int 1)) (aCons (fC (.int 1)) (aCons (fC (.int 7)) (aCons (f2 gPow (fC (.int 10)) (fC (.int 17))) aNil))))) (f2 gIx (fV 4) (fC (.int 1))))))
    (sSeq (sSet 6 (f1 gFlat (f2 gIx (fA gLst (aCons (fC (.int 1)) (aCons (fC (.int 1)) (aCons (f2 gPow (fC (.int 10)) (fC (.int 6))) (aCons (f2 gMul (fC (.int 25)) (f2 gPow (fC (.int 10)) (fC (.int 15)))) aNil))))) (f2 gIx (fV 4) (fC (.int 2))))))
    (sSeq (sSet 7 (fA gLst aNil))
    (sSeq (sFor (jRng1 (aCons (f2 gIx (fV 4) (fC (.int 0))) aNil)) (bName 8) l__law_table_7)
    (sRet (fV 7)))))))))
noncomputable def F__law_table (ds:List D):R D:=(run 14 q__law_table ds).calm
noncomputable def q__law_flaw:FS:=
 (sRet (f1 gFlat (f2 gIx (fA gLst (aCons (fC (.int 1)) (aCons (fC (.int 1)) (aCons (fC (.int 7)) (aCons (f2 gPow (fC (.int 10)) (fC (.int 17))) aNil))))) (f2 gIx (fCall F__law_row (aCons (fV 0) (aCons (fV 1) (aCons (fA gLst (aCons (f2 gAdd (fV 2) (fC (.int 1))) (aCons (fC (.int 4)) aNil))) aNil)))) (fC (.int 1))))))
noncomputable def F__law_flaw (ds:List D):R D:=(run 3 q__law_flaw ds).calm
noncomputable def l__law_roll_6:FS:=
  (sSeq (sSet 8 (f2 gAdd (f2 gMul (fC (.int 2)) (fV 7)) (fC (.int 3))))
    (sSeq (sSet 9 (fC (.int 0)))
    (sSeq (sIf (cE (f2 gLt (f2 gIx (fV 4) (fV 8)) (f2 gIx (fA gLst (aCons (fC (.int 0)) (aCons (fC (.int 1)) (aCons (fC (.int 3)) (aCons (fC (.int 6)) aNil))))) (f2 gIx (fV 4) (fC (.int 1)))))) (sSet 9 (f1 gFlat (f2 gIx (fA gLst (aCons (fV 3) (aCons (fV 3) (aCons (f2 gMul (fC (.int 2)) (fV 3)) (aCons (f2 gMul (fC (.int 3)) (fV 3)) (aCons (fV 5) aNil)))))) (f2 gIx (fV 4) (f2 gAdd (fV 8) (fC (.int 1))))))) sNx)
    (sApp 6 (f1 gFlat (fV 9))))))
noncomputable def q__law_roll:FS:=
  (sSeq (sSet 4 (fCall F__law_row (aCons (fV 0) (aCons (fV 1) (aCons (f2 gAdd (fA gLst (aCons (f2 gAdd (fV 2) (fC (.int 1))) (aCons (fC (.int 4)) (aCons (fC (.int 3)) aNil)))) (f2 gMul (fA gLst (aCons (fC (.int 8)) (aCons (fC (.int 5)) aNil))) (fV 2))) aNil)))))
    (sSeq (sSet 5 (f2 gMul (fC (.int 9)) (fV 3)))
    (sSeq (sIf (cE (f2 gEq (f2 gIx (fV 4) (fC (.int 2))) (fC (.int 0)))) (sSet 5 (f2 gPow (fC (.int 10)) (fC (.int 18)))) sNx)
    (sSeq (sSet 6 (fA gLst aNil))
    (sSeq (sFor (jRng1 (aCons (f2 gIx (fV 4) (fC (.int 0))) aNil)) (bName 7) l__law_roll_6)
    (sRet (fV 6)))))))
noncomputable def F__law_roll (ds:List D):R D:=(run 10 q__law_roll ds).calm
noncomputable def q__law_drawn:FS:=
  (sSeq (sSet 4 (fCall F__law_flaw (aCons (fV 0) (aCons (fV 1) (aCons (fV 3) aNil)))))
    (sRet (fA gTup (aCons (fCall F__law_roll (aCons (fV 0) (aCons (f2 gAdd (fV 1) (fC (.int 1))) (aCons (fV 2) (aCons (fV 4) aNil))))) (aCons (fCall F__law_table (aCons (fV 0) (aCons (fV 1) (aCons (fV 3) aNil)))) aNil)))))
noncomputable def F__law_drawn (ds:List D):R D:=(run 5 q__law_drawn ds).calm
@[simp] theorem ev_fC (d:D)(ρ:Env):fC d ρ=.ok d:=(rfl)
@[simp] theorem ev_f1 (g:D→Option D)(a:FE)(ρ:Env):f1 g a ρ=(a ρ).bind fun x=>oR (g x):=(rfl)
@[simp] theorem ev_f2 (g:D→D→Option D)(a b:FE)(ρ:Env):f2 g a b ρ=(a ρ).bind fun x=>(b ρ).bind fun y=>oR (g x y):=(rfl)
@[simp] theorem ev_aNil (ρ:Env):aNil ρ=.ok []:=(rfl)
@[simp] theorem ev_aCons (a:FE)(r:FA)(ρ:Env):aCons a r ρ=(a ρ).bind fun x=>(r ρ).bind fun xs=>.ok (x::xs):=(rfl)
@[simp] theorem ev_fA (g:List D→Option D)(a:FA)(ρ:Env):fA g a ρ=(a ρ).bind fun xs=>oR (g xs):=(rfl)
@[simp] theorem ev_fCall (F:List D→R D)(a:FA)(ρ:Env):fCall F a ρ=(a ρ).bind F:=(rfl)
@[simp] theorem ev_fV0 (d:D)(ρ:Env):fV 0 (some d::ρ)=.ok d:=(rfl)
@[simp] theorem ev_fVs (i:Nat)(o:Option D)(ρ:Env):fV (i+1) (o::ρ)=fV i ρ:=by simp [fV]
@[simp] theorem ev_cE (a:FE)(ρ:Env):cE a ρ=(a ρ).bind fun d=>match d with | .bl b=>.ok b | _=>.bad:=(rfl)
@[simp] theorem ev_cNot (a:FT)(ρ:Env):cNot a ρ=(a ρ).bind fun b=>.ok (!b):=(rfl)
@[simp] theorem ev_cAnd (a b:FT)(ρ:Env):cAnd a b ρ=(a ρ).bind fun x=>if x then b ρ else .ok false:=(rfl)
@[simp] theorem ev_cOr (a b:FT)(ρ:Env):cOr a b ρ=(a ρ).bind fun x=>if x then .ok true else b ρ:=(rfl)
@[simp] theorem ev_cYes (ρ:Env):cYes ρ=.ok true:=(rfl)
@[simp] theorem ev_fAnd (a b:FE)(ρ:Env):fAnd a b ρ=(a ρ).bind fun x=>match x with | .bl true=>b ρ | .bl false=>.ok (.bl false) | _=>.bad:=(rfl)
@[simp] theorem ev_fOr (a b:FE)(ρ:Env):fOr a b ρ=(a ρ).bind fun x=>match x with | .bl true=>.ok (.bl true) | .bl false=>b ρ | _=>.bad:=(rfl)
@[simp] theorem ev_fIf (c:FT)(a b:FE)(ρ:Env):fIf c a b ρ=(c ρ).bind fun x=>if x then a ρ else b ρ:=(rfl)
@[simp] theorem ev_fChain (g g':D→D→Option D)(a b c:FE)(ρ:Env):fChain g g' a b c ρ=(a ρ).bind fun x=>(b ρ).bind fun y=>(oR (g x y)).bind fun z=>match z with | .bl true=>(c ρ).bind fun w=>oR (g' y w) | .bl false=>.ok (.bl false) | _=>.bad:=(rfl)
@[simp] theorem ev_fSl (g:D→Option Int→Option Int→Option D)(a:FE)(l h:FO)(ρ:Env):fSl g a l h ρ=(a ρ).bind fun x=>(l ρ).bind fun lo=>(h ρ).bind fun hi=>oR (g x lo hi):=(rfl)
@[simp] theorem ev_oNone (ρ:Env):oNone ρ=.ok none:=(rfl)
@[simp] theorem ev_oSome (a:FE)(ρ:Env):oSome a ρ=(a ρ).bind fun d=>match d with | .int i=>.ok (some i) | _=>.bad:=(rfl)
@[simp] theorem ev_jList (a:FE)(ρ:Env):jList a ρ=(a ρ).bind fun d=>match d with | .lst xs=>if xs.length≤lim then .ok xs else .bad | .scr ns=>if ns.length≤lim then .ok (ns.map D.int) else .bad | _=>.bad:=(rfl)
@[simp] theorem ev_jTup (a:FE)(ρ:Env):jTup a ρ=(a ρ).bind fun d=>match d with | .tup xs=>if xs.length≤lim then .ok xs else .bad | _=>.bad:=(rfl)
@[simp] theorem ev_jRng1 (a:FA)(ρ:Env):jRng1 a ρ=(a ρ).bind fun ds=>match ds with | [.int j]=>if -1000000000≤j∧j≤1000000 then .ok (rngL 0 j.toNat) else .bad | _=>.bad:=(rfl)
noncomputable def rngOf2 (ds:List D):R (List D):=match ds with
 | [.int i,.int j]=>if -1000000000≤i∧i≤1000000000∧-1000000000≤j∧j≤1000000000∧(j - i).toNat≤lim then .ok (rngL i (j - i).toNat) else .bad
 | _=>.bad
@[simp] theorem ev_jRng2 (a:FA)(ρ:Env):jRng2 a ρ=(a ρ).bind rngOf2:=(rfl)
theorem rngOf2_ok {i j:Int}{n:Nat}(hn:n=(j - i).toNat)(h1:-1000000≤i)(h2:i≤1000000)(h3:-1000000≤j)(h4:j≤1000000)(h5:n≤1000000):rngOf2 [.int i,.int j]=.ok (rngL i n):=by
 subst hn
 unfold rngOf2
 simp only []
 rw [if_pos ⟨by omega,by omega,by omega,by omega,h5⟩]
@[simp] theorem ev_fComp (n k:Nat)(it:FI)(b:FB)(c:FT)(e:FE)(ρ:Env):fComp n k it b c e ρ=if ρ.length=n then (it ρ).bind fun xs=>(compN k b c e ρ xs).calm.bind fun ys=>.ok (.lst ys) else .bad:=(rfl)
@[simp] theorem ev_sNx (ρ:Env):sNx ρ=.ok (.nx ρ):=(rfl)
@[simp] theorem ev_sNever (ρ:Env):sNever ρ=.bad:=(rfl)
@[simp] theorem ev_sSeq (a b:FS)(ρ:Env):sSeq a b ρ=(a ρ).bind fun fl=>match fl with | .nx ρ'=>b ρ' | fl=>.ok fl:=(rfl)
@[simp] theorem ev_sSet (i:Nat)(e:FE)(ρ:Env):sSet i e ρ=(e ρ).bind fun d=>.ok (.nx (ρ.set i (some d))):=(rfl)
@[simp] theorem ev_sRet (e:FE)(ρ:Env):sRet e ρ=(e ρ).bind fun d=>.ok (.ret d):=(rfl)
@[simp] theorem ev_sIf (c:FT)(a b:FS)(ρ:Env):sIf c a b ρ=(c ρ).bind fun x=>if x then a ρ else b ρ:=(rfl)
@[simp] theorem ev_sApp (i:Nat)(e:FE)(ρ:Env):sApp i e ρ=(fV i ρ).bind fun v=>match v with | .lst xs=>(e ρ).bind fun d=>if xs.length<lim then .ok (.nx (ρ.set i (some (.lst (xs++[d]))))) else .bad | _=>.bad:=by
 unfold sApp fV
 split
 ·rename_i xs e;simp [e]
 ·rename_i h
  split
  ·rename_i d e
   cases d<;>simp
   rename_i xs
   exact absurd e (h xs)
  ·rfl
@[simp] theorem ev_sExt (i:Nat)(e:FE)(ρ:Env):sExt i e ρ=(fV i ρ).bind fun v=>match v with | .lst xs=>(e ρ).bind fun d=>(match d with | .lst ys=>if xs.length+ys.length≤lim then .ok (.nx (ρ.set i (some (.lst (xs++ys))))) else .bad | _=>.bad) | _=>.bad:=by
 unfold sExt fV
 split
 ·rename_i xs e;simp [e]<;>rfl
 ·rename_i h
  split
  ·rename_i d e
   cases d<;>simp
   rename_i xs
   exact absurd e (h xs)
  ·rfl
@[simp] theorem ev_sRaise (c:String)(f:FA)(ρ:Env):sRaise c f ρ=(f ρ).bind fun _=>.err c none:=(rfl)
@[simp] theorem ev_sFor (it:FI)(b:FB)(s:FS)(ρ:Env):sFor it b s ρ=(it ρ).bind fun xs=>forD b s xs ρ:=(rfl)
@[simp] theorem ev_sWhile (n:Nat)(c:FT)(s:FS)(ρ:Env):sWhile n c s ρ=whileD c s n ρ:=(rfl)
@[simp] theorem ev_sAsg (e:FE)(b:FB)(ρ:Env):sAsg e b ρ=(e ρ).bind fun d=>(b d ρ).calm.bind fun ρ'=>.ok (.nx ρ'):=(rfl)
@[simp] theorem ev_bName (i:Nat)(d:D)(ρ:Env):bName i d ρ=.ok (ρ.set i (some d)):=(rfl)
@[simp] theorem ev_bNil (ρ:Env):bNil [] ρ=.ok ρ:=(rfl)
@[simp] theorem ev_bCons (b:FB)(r:List D→Env→R Env)(d:D)(ds:List D)(ρ:Env):bCons b r (d::ds) ρ=(b d ρ).bind fun ρ'=>r ds ρ':=(rfl)
@[simp] theorem ev_bTup (r:List D→Env→R Env)(ds:List D)(ρ:Env):bTup r (.tup ds) ρ=r ds ρ:=(rfl)
@[simp] theorem ev_run (N:Nat)(b:FS)(ds:List D):run N b ds=(b (ds.map some++List.replicate (N - ds.length) none)).bind fun fl=>match fl with | .nx _=>.ok .non | .ret d=>.ok d | _=>.bad:=(rfl)
@[simp] theorem forD_nil (b:FB)(s:FS)(ρ:Env):forD b s [] ρ=.ok (.nx ρ):=(rfl)
theorem forD_cons (b:FB)(s:FS)(x:D)(xs:List D)(ρ:Env):forD b s (x::xs) ρ=(b x ρ).calm.bind fun ρ1=>(s ρ1).bind fun fl=>match fl with | .nx ρ2=>forD b s xs ρ2 | .cnt ρ2=>forD b s xs ρ2 | .brk ρ2=>.ok (.nx ρ2) | .ret d=>.ok (.ret d):=rfl
@[simp] theorem add_ii (i j:Int):gAdd (.int i) (.int j)=some (.int (i+j)):=rfl
@[simp] theorem addI_ii (i j:Int):gAddI (.int i) (.int j)=some (.int (i+j)):=rfl
@[simp] theorem sub_ii (i j:Int):gSub (.int i) (.int j)=some (.int (i - j)):=rfl
@[simp] theorem lt_ii (i j:Int):gLt (.int i) (.int j)=some (.bl (decide (i<j))):=rfl
@[simp] theorem le_ii (i j:Int):gLe (.int i) (.int j)=some (.bl (decide (i≤j))):=rfl
@[simp] theorem gt_ii (i j:Int):gGt (.int i) (.int j)=some (.bl (decide (j<i))):=rfl
@[simp] theorem ge_ii (i j:Int):gGe (.int i) (.int j)=some (.bl (decide (j≤i))):=rfl
@[simp] theorem neg_i (i:Int):gNeg (.int i)=some (.int (-i)):=rfl
@[simp] theorem not_b (b:Bool):gNot (.bl b)=some (.bl (!b)):=rfl
@[simp] theorem eq_ii (i j:Int):gEq (.int i) (.int j)=some (.bl (decide (i=j))):=show some (D.bl (i==j))=_ from congrArg (fun b=>some (D.bl b)) (by by_cases h:i=j<;>simp [h])
@[simp] theorem eq_bb (i j:Bool):gEq (.bl i) (.bl j)=some (.bl (i==j)):=rfl
@[simp] theorem ne_bb (i j:Bool):gNe (.bl i) (.bl j)=some (.bl (!(i==j))):=rfl
@[simp] theorem is_n (x:D):gIs x .non=some (.bl (isNon x)):=rfl
@[simp] theorem isNot_n (x:D):gIsNot x .non=some (.bl (!isNon x)):=rfl
@[simp] theorem is_b (b c:Bool):gIs (.bl b) (.bl c)=some (.bl (b==c)):=rfl
@[simp] theorem isNot_b (b c:Bool):gIsNot (.bl b) (.bl c)=some (.bl (!(b==c))):=rfl
@[simp] theorem isNon_non:isNon .non=true:=rfl
@[simp] theorem isNon_i (i:Int):isNon (.int i)=false:=rfl
@[simp] theorem isNon_b (i:Bool):isNon (.bl i)=false:=rfl
@[simp] theorem isNon_l (i:List D):isNon (.lst i)=false:=rfl
@[simp] theorem isNon_t (i:List D):isNon (.tup i)=false:=rfl
theorem mul_ii {i j:Int}(h:(-(2 ^ 64)<i∧i<2 ^ 64)∨(-(2 ^ 64)<j∧j<2 ^ 64)):gMul (.int i) (.int j)=some (.int (i*j)):=by
 have:(short i||short j)=true:=by simp [short];exact h
 simp [gMul,this]
theorem mod_ii {i j:Int}(h:0<j):gMod (.int i) (.int j)=some (.int (i % j)):=by simp [gMod,h]
theorem div_ii {i j:Int}(h:0<j)(h2:j<2 ^ 200):gDiv (.int i) (.int j)=some (.int (i / j)):=by simp only [gDiv];rw [if_pos ⟨h,h2⟩]
theorem pow_ii {i j:Int}(h:0≤j)(h2:j≤1000000)(h3:i.natAbs<2 ^ 64):gPow (.int i) (.int j)=some (.int (i ^ j.toNat)):=by simp only [gPow];rw [if_pos ⟨h,h2,h3⟩]
@[simp] theorem pow10_6:gPow (.int 10) (.int 6)=some (.int 1000000):=by
 rw [pow_ii (by omega) (by omega) (by decide)]
 rfl
@[simp] theorem pow10_15:gPow (.int 10) (.int 15)=some (.int 1000000000000000):=by
 rw [pow_ii (by omega) (by omega) (by decide)]
 rfl
@[simp] theorem pow10_17:gPow (.int 10) (.int 17)=some (.int 100000000000000000):=by
 rw [pow_ii (by omega) (by omega) (by decide)]
 rfl
@[simp] theorem pow10_18:gPow (.int 10) (.int 18)=some (.int 1000000000000000000):=by
 rw [pow_ii (by omega) (by omega) (by decide)]
 rfl
@[simp] theorem flat_i (i:Int):flat (.int i)=true:=rfl
@[simp] theorem flat_b (i:Bool):flat (.bl i)=true:=rfl
@[simp] theorem flat_s (i:Str):flat (.str i)=true:=rfl
@[simp] theorem flat_n:flat .non=true:=rfl
@[simp] theorem flat_t (xs:List D):flat (.tup xs)=flatA xs:=rfl
@[simp] theorem flatA_n:flatA []=true:=rfl
@[simp] theorem flatA_c (x:D)(xs:List D):flatA (x::xs)=(flat x&&flatA xs):=rfl
theorem flatA_map {α:Type}{f:α→D}(h:∀a,flat (f a)=true):∀xs:List α,flatA (xs.map f)=true
 | []=>rfl
 | x::xs=>by simp [h x,flatA_map h xs]
@[simp] theorem flatA_ints (ns:List Int):flatA (ns.map D.int)=true:=flatA_map (fun _=>rfl) ns
@[simp] theorem gFlat_i (i:Int):gFlat (.int i)=some (.int i):=rfl
@[simp] theorem gFlat_b (i:Bool):gFlat (.bl i)=some (.bl i):=rfl
@[simp] theorem gFlat_s (i:Str):gFlat (.str i)=some (.str i):=rfl
@[simp] theorem gFlat_n:gFlat .non=some .non:=rfl
@[simp] theorem ints_map (ns:List Int):intsOf (ns.map D.int)=some ns:=by
 induction ns with
 | nil=>rfl
 | cons n ns ih=>simp [intsOf,ih]
@[simp] theorem len_l (xs:List D):gLen [.lst xs]=some (.int xs.length):=(rfl)
@[simp] theorem len_t (xs:List D):gLen [.tup xs]=some (.int xs.length):=(rfl)
@[simp] theorem len_scr (xs:List Int):gLen [.scr xs]=some (.int xs.length):=(rfl)
@[simp] theorem sum_ints (ns:List Int):gSum [.lst (ns.map D.int)]=some (.int ns.sum):=by simp [gSum]
@[simp] theorem min_ii (i j:Int):gMin [.int i,.int j]=some (.int (min i j)):=by
 simp only [gMin]
 congr 2
 by_cases h:j<i
 ·rw [if_pos h];omega
 ·rw [if_neg h];omega
theorem max_ints {ns:List Int}(h:ns≠[]):gMax [.lst (ns.map D.int)]=some (.int (maxL ns)):=by simp [gMax,h]
@[simp] theorem isI_i (c:String)(i:Int):gIsI c (.int i)=some (.bl (c=="int")):=rfl
@[simp] theorem isI_b (c:String)(i:Bool):gIsI c (.bl i)=some (.bl (c=="bool"||c=="int")):=rfl
@[simp] theorem isI_l (c:String)(i:List D):gIsI c (.lst i)=some (.bl (c=="list")):=rfl
@[simp] theorem isI_t (c:String)(i:List D):gIsI c (.tup i)=some (.bl (c=="tuple")):=rfl
@[simp] theorem isI_s (c:String)(i:Str):gIsI c (.str i)=some (.bl (c=="str")):=rfl
@[simp] theorem isI_n (c:String):gIsI c .non=some (.bl false):=rfl
theorem atD_nat {α:Type}{xs:List α}{i:Int}{k:Nat}{x:α}(e:i=(k:Int))(h:xs[k]?=some x):atD xs i=some x:=by
 subst e
 have hk:=(List.getElem?_eq_some_iff.mp h).1
 unfold atD ixD
 rw [if_pos (by omega),if_pos (by omega)]
 simpa using h
theorem atD_last {α:Type}(xs:List α)(x:α):atD (xs++[x]) (-1)=some x:=by
 unfold atD ixD
 rw [if_neg (by omega),if_pos (by simp;omega)]
 simp only [Option.bind_some]
 have:(-1+(((xs++[x]).length:Nat):Int)).toNat=xs.length:=by simp;omega
 rw [this]
 simp
theorem ix_l {xs:List D}{i:Int}{k:Nat}{x:D}(e:i=(k:Int))(h:xs[k]?=some x):gIx (.lst xs) (.int i)=some x:=atD_nat e h
theorem ix_t {xs:List D}{i:Int}{k:Nat}{x:D}(e:i=(k:Int))(h:xs[k]?=some x):gIx (.tup xs) (.int i)=some x:=atD_nat e h
@[simp] theorem ixL_l (xs:List D)(y:D):gIxL (.lst xs) y=gIx (.lst xs) y:=(rfl)
@[simp] theorem listV_l (xs:List D):gListV [.lst xs]=some (.lst xs):=(rfl)
@[simp] theorem ix_last (xs:List D)(x:D):gIx (.lst (xs++[x])) (.int (-1))=some x:=atD_last xs x
theorem ix_ints {ns:List Int}{i:Int}{k:Nat}(e:i=(k:Int))(h:k<ns.length):gIx (.lst (ns.map D.int)) (.int i)=some (.int (ns.getD k 0)):=ix_l e (by simp [h,List.getD])
theorem cut_map {α β:Type}(f:α→β)(xs:List α)(lo hi:Option Int):cut (xs.map f) lo hi=(cut xs lo hi).map f:=by
 unfold cut
 rw [length_map,map_take,map_drop]
theorem cut_ab {α:Type}{xs:List α}{a b:Int}(h0:0≤a)(h1:a≤b)(h2:b≤xs.length):cut xs (some a) (some b)=(xs.drop a.toNat).take (b.toNat - a.toNat):=by
 unfold cut sixD
 simp only []
 rw [if_neg (by omega),if_neg (by omega),Nat.min_eq_left (by omega),Nat.min_eq_left (by omega)]
theorem cut_to {α:Type}{xs:List α}{b:Int}(h0:0≤b):cut xs none (some b)=xs.take b.toNat:=by
 unfold cut sixD
 simp only []
 rw [if_neg (by omega),List.drop_zero,Nat.sub_zero]
 by_cases h:b.toNat≤xs.length
 ·rw [Nat.min_eq_left h]
 ·rw [Nat.min_eq_right (by omega),take_of_length_le (le_refl _),take_of_length_le (by omega)]
@[simp] theorem sl_ints (ns:List Int)(lo hi:Option Int):gSl (.lst (ns.map D.int)) lo hi=some (.lst ((cut ns lo hi).map D.int)):=by
 simp [gSl,cut_map]
@[simp] theorem sl_scr (ns:List Int)(lo hi:Option Int):gSl (.scr ns) lo hi=some (.lst ((cut ns lo hi).map D.int)):=(rfl)
@[simp] theorem lst_lim (xs:List D)(h:xs.length≤lim):gLst xs=some (.lst xs):=by unfold gLst;rw [if_pos h]
@[simp] theorem gLst_0:gLst []=some (.lst []):=rfl
@[simp] theorem gLst_1 (a:D):gLst [a]=some (.lst [a]):=rfl
@[simp] theorem gLst_2 (a b:D):gLst [a,b]=some (.lst [a,b]):=rfl
@[simp] theorem gLst_3 (a b c:D):gLst [a,b,c]=some (.lst [a,b,c]):=rfl
@[simp] theorem gLst_4 (a0 a1 a2 a3:D):gLst [a0,a1,a2,a3]=some (.lst [a0,a1,a2,a3]):=rfl
@[simp] theorem gLst_5 (a0 a1 a2 a3 a4:D):gLst [a0,a1,a2,a3,a4]=some (.lst [a0,a1,a2,a3,a4]):=rfl
@[simp] theorem gLst_6 (a0 a1 a2 a3 a4 a5:D):gLst [a0,a1,a2,a3,a4,a5]=some (.lst [a0,a1,a2,a3,a4,a5]):=rfl
@[simp] theorem gLst_10 (a0 a1 a2 a3 a4 a5 a6 a7 a8 a9:D):gLst [a0,a1,a2,a3,a4,a5,a6,a7,a8,a9]=some (.lst [a0,a1,a2,a3,a4,a5,a6,a7,a8,a9]):=rfl
@[simp] theorem gLst_11 (a0 a1 a2 a3 a4 a5 a6 a7 a8 a9 a10:D):gLst [a0,a1,a2,a3,a4,a5,a6,a7,a8,a9,a10]=some (.lst [a0,a1,a2,a3,a4,a5,a6,a7,a8,a9,a10]):=rfl
@[simp] theorem gTup_2 (a b:D):gTup [a,b]=some (.tup [a,b]):=rfl
@[simp] theorem gTup_3 (a b c:D):gTup [a,b,c]=some (.tup [a,b,c]):=rfl
@[simp] theorem gTup_4 (a b c d:D):gTup [a,b,c,d]=some (.tup [a,b,c,d]):=rfl
@[simp] theorem calm_bind_ok {α β:Type}(a:α)(f:α→R β):((R.ok a).calm).bind f=f a:=(rfl)
theorem forD_inv {b:FB}{s:FS}{xs:List D}{P:Nat→Env→Prop}{Rr:R Fl→Prop}{ρ:Env}(h0:P 0 ρ)
  (hs:∀i x ρ,xs[i]?=some x→P i ρ→∃ρ1,b x ρ=.ok ρ1∧((∃ρ2,(s ρ1=.ok (.nx ρ2)∨s ρ1=.ok (.cnt ρ2))∧P (i+1) ρ2)∨(∃d,s ρ1=.ok (.ret d)∧Rr (.ok (.ret d)))∨∃ρ2,s ρ1=.ok (.brk ρ2)∧Rr (.ok (.nx ρ2))))
  (hd:∀ρ,P xs.length ρ→Rr (.ok (.nx ρ))):Rr (forD b s xs ρ):=by
 have key:∀n i ρ,n+i=xs.length→P i ρ→Rr (forD b s (xs.drop i) ρ):=by
  intro n
  induction n with
  | zero =>
   intro i ρ hn p
   rw [List.drop_of_length_le (by omega)]
   have e:i=xs.length:=by omega
   subst e
   exact hd ρ p
  | succ n ih =>
   intro i ρ hn p
   have hi:i<xs.length:=by omega
   rw [List.drop_eq_getElem_cons hi,forD_cons]
   obtain ⟨ρ1,e1,h⟩:=hs i xs[i] ρ (getElem?_eq_getElem hi) p
   rw [e1,calm_bind_ok]
   rcases h with ⟨ρ2,e2 | e2,p2⟩ | ⟨d,e2,p2⟩ | ⟨ρ2,e2,p2⟩
   ·rw [e2];exact ih (i+1) ρ2 (by omega) p2
   ·rw [e2];exact ih (i+1) ρ2 (by omega) p2
   ·rw [e2];exact p2
   ·rw [e2];exact p2
 have:=key xs.length 0 ρ (by omega) h0
 simpa using this
theorem forD_st {b:FB}{s:FS}{xs:List D}{ρ:Env}(st:Nat→Env)(h0:st 0=ρ)(hs:∀i x,xs[i]?=some x→∃ρ1,b x (st i)=.ok ρ1∧s ρ1=.ok (.nx (st (i+1)))):forD b s xs ρ=.ok (.nx (st xs.length)):=by
 refine forD_inv (P:=fun i ρ=>ρ=st i) (Rr:=fun r=>r=.ok (.nx (st xs.length))) h0.symm (fun i x ρ hx e=>?_) (fun ρ e=>by rw [e])
 subst e
 obtain ⟨ρ1,e1,e2⟩:=hs i x hx
 exact ⟨ρ1,e1,.inl ⟨_,.inl e2,rfl⟩⟩
theorem rngL_get {lo:Int}{n i:Nat}(h:i<n):(rngL lo n)[i]?=some (.int (lo+i)):=by simp [rngL,h]
theorem rngL_at {lo:Int}{n i:Nat}{x:D}(h:(rngL lo n)[i]?=some x):i<n∧x=.int (lo+i):=by
 have hi:=(List.getElem?_eq_some_iff.mp h).1
 have hn:i<n:=by simpa [rngL] using hi
 rw [rngL_get hn] at h
 exact ⟨hn,(Option.some.inj h).symm⟩
@[simp] theorem rngL_length (lo:Int)(n:Nat):(rngL lo n).length=n:=by simp [rngL]
theorem comp_eq {k:Nat}{b:FB}{c:FT}{e:FE}{ρ:Env}{α:Type}{enc:α→D}{ρ1:α→Env}{p:α→Bool}{v:α→D}{xs:List α}(h:∀x∈xs,b (enc x) (ρ++List.replicate k none)=.ok (ρ1 x)∧c (ρ1 x)=.ok (p x)∧(p x=true→e (ρ1 x)=.ok (v x))):compN k b c e ρ (xs.map enc)=.ok ((xs.filter p).map v):=by
 induction xs with
 | nil=>rfl
 | cons x xs ih =>
  obtain ⟨h0,h1,h2⟩:=h x (.head _)
  have ih:=ih fun y hy=>h y (.tail _ hy)
  rw [map_cons]
  unfold compN
  rw [h0,calm_bind_ok,h1]
  cases hp:p x with
  | false=>simp [ih,hp]
  | true=>simp [ih,hp,h2 hp]
theorem comp1 {n:Nat}{c:FT}{e:FE}{ρ:Env}{α:Type}{enc:α→D}{p:α→Bool}{v:α→D}{xs:List α}(hn:ρ.length=n)(h:∀x∈xs,c (ρ++[some (enc x)])=.ok (p x)∧(p x=true→e (ρ++[some (enc x)])=.ok (v x))):compN 1 (bName n) c e ρ (xs.map enc)=.ok ((xs.filter p).map v):=
  comp_eq (ρ1:=fun x=>ρ++[some (enc x)]) fun x hx=>⟨by
    show R.ok ((ρ++[none]).set n (some (enc x)))=_
    rw [← hn,List.set_append_right _ _ (le_refl _),sub_self]
    rfl,h x hx⟩
theorem comp1' {n:Nat}{e:FE}{ρ:Env}{α:Type}{enc:α→D}{v:α→D}{xs:List α}(hn:ρ.length=n)(h:∀x∈xs,e (ρ++[some (enc x)])=.ok (v x)):compN 1 (bName n) cYes e ρ (xs.map enc)=.ok (xs.map v):=by
 have:=comp1 (p:=fun _=>true) (c:=cYes) hn (xs:=xs) (enc:=enc) (e:=e) (v:=v) fun x hx=>⟨rfl,fun _=>h x hx⟩
 rw [this,List.filter_eq_self.mpr fun _ _=>rfl]
theorem comp2 {n:Nat}{c:FT}{e:FE}{ρ:Env}{α:Type}{f g:α→D}{p:α→Bool}{v:α→D}{xs:List α}(hn:ρ.length=n)(h:∀x∈xs,c (ρ++[some (f x),some (g x)])=.ok (p x)∧(p x=true→e (ρ++[some (f x),some (g x)])=.ok (v x))) :
    compN 2 (bTup (bCons (bName n) (bCons (bName (n+1)) bNil))) c e ρ (xs.map fun x=>.tup [f x,g x])=.ok ((xs.filter p).map v):=
  comp_eq (enc:=fun x=>D.tup [f x,g x]) (ρ1:=fun x=>ρ++[some (f x),some (g x)]) fun x hx=>⟨by
    show R.ok (((ρ++[none,none]).set n (some (f x))).set (n+1) (some (g x)))=_
    rw [← hn,List.set_append_right _ _ (le_refl _),sub_self,List.set_append_right _ _ (by omega)]
    simp,h x hx⟩
theorem comp2' {n:Nat}{e:FE}{ρ:Env}{α:Type}{f g:α→D}{v:α→D}{xs:List α}(hn:ρ.length=n)(h:∀x∈xs,e (ρ++[some (f x),some (g x)])=.ok (v x)) :
  compN 2 (bTup (bCons (bName n) (bCons (bName (n+1)) bNil))) cYes e ρ (xs.map fun x=>.tup [f x,g x])=.ok (xs.map v):=by
 have:=comp2 (p:=fun _=>true) (c:=cYes) hn (xs:=xs) (f:=f) (g:=g) (e:=e) (v:=v) fun x hx=>⟨rfl,fun _=>h x hx⟩
 rw [this,List.filter_eq_self.mpr fun _ _=>rfl]
theorem r_set {i:Nat}{e:FE}{ρ:Env}{d:D}(h:e ρ=.ok d):sSet i e ρ=.ok (.nx (ρ.set i (some d))):=by rw [ev_sSet,h];rfl
theorem r_seq {a b:FS}{ρ ρ':Env}{r:R Fl}(h:a ρ=.ok (.nx ρ'))(h2:b ρ'=r):sSeq a b ρ=r:=by rw [ev_sSeq,h];exact h2
theorem r_f1 {g:D→Option D}{a:FE}{ρ:Env}{x z:D}(ha:a ρ=.ok x)(h:g x=some z):f1 g a ρ=.ok z:=by rw [ev_f1,ha];show oR (g x)=_;rw [h];rfl
theorem r_f2 {g:D→D→Option D}{a b:FE}{ρ:Env}{x y z:D}(ha:a ρ=.ok x)(hb:b ρ=.ok y)(h:g x y=some z):f2 g a b ρ=.ok z:=by rw [ev_f2,ha,hb];show oR (g x y)=_;rw [h];rfl
theorem r_fA {g:List D→Option D}{a:FA}{ρ:Env}{xs:List D}{z:D}(ha:a ρ=.ok xs)(h:g xs=some z):fA g a ρ=.ok z:=by rw [ev_fA,ha];show oR (g xs)=_;rw [h];rfl
theorem r_cons {a:FE}{r:FA}{ρ:Env}{x:D}{xs:List D}(ha:a ρ=.ok x)(hr:r ρ=.ok xs):aCons a r ρ=.ok (x::xs):=by rw [ev_aCons,ha,hr];rfl
theorem r_call {F:List D→R D}{a:FA}{ρ:Env}{xs:List D}{d:D}(ha:a ρ=.ok xs)(h:F xs=.ok d):fCall F a ρ=.ok d:=by rw [ev_fCall,ha];exact h
theorem r_cE {a:FE}{ρ:Env}{b:Bool}(h:a ρ=.ok (.bl b)):cE a ρ=.ok b:=by rw [ev_cE,h];rfl
theorem r_ifT {c:FT}{a b:FS}{ρ:Env}{r:R Fl}(hc:c ρ=.ok true)(h:a ρ=r):sIf c a b ρ=r:=by rw [ev_sIf,hc];exact h
theorem r_ifF {c:FT}{a b:FS}{ρ:Env}{r:R Fl}(hc:c ρ=.ok false)(h:b ρ=r):sIf c a b ρ=r:=by rw [ev_sIf,hc];exact h
theorem r_app {i:Nat}{e:FE}{ρ:Env}{xs:List D}{d:D}(hv:fV i ρ=.ok (.lst xs))(h:e ρ=.ok d)(hl:xs.length<lim):sApp i e ρ=.ok (.nx (ρ.set i (some (.lst (xs++[d]))))):=by rw [ev_sApp,hv,h];exact if_pos hl
theorem r_ret {e:FE}{ρ:Env}{d:D}(h:e ρ=.ok d):sRet e ρ=.ok (.ret d):=by rw [ev_sRet,h];rfl
theorem r_rng {a:FA}{ρ:Env}{j:Int}(h:a ρ=.ok [.int j])(h1:-1000000000≤j∧j≤1000000):jRng1 a ρ=.ok (rngL 0 j.toNat):=by rw [ev_jRng1,h];exact if_pos h1
theorem r_for {it:FI}{b:FB}{s:FS}{ρ:Env}{xs:List D}{r:R Fl}(h:it ρ=.ok xs)(h2:forD b s xs ρ=r):sFor it b s ρ=r:=by rw [ev_sFor,h];exact h2
theorem r_run {N:Nat}{q:FS}{ds:List D}{d:D}(h:q (ds.map some++List.replicate (N - ds.length) none)=.ok (.ret d)):(run N q ds).calm=.ok d:=by unfold run;rw [h];rfl
theorem mulS {a b:Int}(h0:0≤a)(h1:a≤1000000):gMul (.int a) (.int b)=some (.int (a*b)):=mul_ii (.inl ⟨by omega,by omega⟩)
theorem r_seqR {a b:FS}{ρ:Env}{d:D}(h:a ρ=.ok (.ret d)):sSeq a b ρ=.ok (.ret d):=by rw [ev_sSeq,h];rfl
theorem mulR {a b:Int}(h0:0≤b)(h1:b≤1000000):gMul (.int a) (.int b)=some (.int (a*b)):=mul_ii (.inr ⟨by omega,by omega⟩)
theorem r_jList {a:FE}{ρ:Env}{xs:List D}(h:a ρ=.ok (.lst xs))(hl:xs.length≤lim):jList a ρ=.ok xs:=by rw [ev_jList,h];exact if_pos hl
theorem r_cAndT {a b:FT}{ρ:Env}{r:R Bool}(h:a ρ=.ok true)(h2:b ρ=r):cAnd a b ρ=r:=by rw [ev_cAnd,h];exact h2
theorem r_cAndF {a b:FT}{ρ:Env}(h:a ρ=.ok false):cAnd a b ρ=.ok false:=by rw [ev_cAnd,h];rfl
theorem r_fAndT {a b:FE}{ρ:Env}{r:R D}(h:a ρ=.ok (.bl true))(h2:b ρ=r):fAnd a b ρ=r:=by rw [ev_fAnd,h];exact h2
theorem bl_t {p:Prop}[Decidable p](h:p):some (D.bl (decide p))=some (D.bl true):=congrArg (fun b=>some (D.bl b)) (decide_eq_true h)
theorem bl_f {p:Prop}[Decidable p](h:¬p):some (D.bl (decide p))=some (D.bl false):=congrArg (fun b=>some (D.bl b)) (decide_eq_false h)
theorem r_cNot {a:FT}{ρ:Env}{b:Bool}(h:a ρ=.ok b):cNot a ρ=.ok (!b):=by rw [ev_cNot,h];rfl
theorem r_cOrF {a b:FT}{ρ:Env}{r:R Bool}(h:a ρ=.ok false)(h2:b ρ=r):cOr a b ρ=r:=by rw [ev_cOr,h];exact h2
theorem r_asg {e:FE}{b:FB}{ρ ρ':Env}{d:D}(h:e ρ=.ok d)(hb:b d ρ=.ok ρ'):sAsg e b ρ=.ok (.nx ρ'):=by
 unfold sAsg
 rw [h]
 show (b d ρ).calm.bind _=_
 rw [hb]
 rfl
theorem r_sl {g:D→Option Int→Option Int→Option D}{a:FE}{l h:FO}{ρ:Env}{x z:D}{lo hi:Option Int}(ha:a ρ=.ok x)(hl:l ρ=.ok lo)(hh:h ρ=.ok hi)(hg:g x lo hi=some z):fSl g a l h ρ=.ok z:=by
 rw [ev_fSl,ha]
 show (l ρ).bind _=_
 rw [hl]
 show (h ρ).bind _=_
 rw [hh]
 show oR (g x lo hi)=_
 rw [hg]
 rfl
theorem r_rng2 {a:FA}{ρ:Env}{ds xs:List D}(h:a ρ=.ok ds)(h1:rngOf2 ds=.ok xs):jRng2 a ρ=.ok xs:=by rw [ev_jRng2,h];exact h1
theorem r_comp {n k:Nat}{it:FI}{b:FB}{c:FT}{e:FE}{ρ:Env}{xs ys:List D}(hn:ρ.length=n)(h:it ρ=.ok xs)(h1:compN k b c e ρ xs=.ok ys):fComp n k it b c e ρ=.ok (.lst ys):=by
 rw [ev_fComp,if_pos hn,h]
 show (compN k b c e ρ xs).calm.bind _=_
 rw [h1]
 rfl
theorem r_cOrT {a b:FT}{ρ:Env}(h:a ρ=.ok true):cOr a b ρ=.ok true:=by rw [ev_cOr,h];rfl
theorem r_oSome {a:FE}{ρ:Env}{i:Int}(h:a ρ=.ok (.int i)):oSome a ρ=.ok (some i):=by rw [ev_oSome,h];rfl
set_option genInjectivity true in
structure Kd where
 name:Str
 w:Int
 wo:Int
 al:Int
noncomputable def kD (k:Kd):D:=.tup [.str k.name,.int k.w,.int k.wo,.int k.al]
noncomputable def iD (ns:List Int):D:=.lst (ns.map D.int)
noncomputable def tD (ks:List Kd):D:=.lst (ks.map kD)
noncomputable def pD (p:Int×Str):D:=.tup [.int p.1,.str p.2]
noncomputable def psD (ps:List (Int×Str)):D:=.lst (ps.map pD)
@[simp] theorem flat_kD (k:Kd):flat (kD k)=true:=rfl
@[simp] theorem flat_pD (k:Int×Str):flat (pD k)=true:=rfl
@[simp] theorem gFlat_kD (k:Kd):gFlat (kD k)=some (kD k):=rfl
@[simp] theorem gFlat_pD (k:Int×Str):gFlat (pD k)=some (pD k):=rfl
@[simp] theorem flatA_kD (ks:List Kd):flatA (ks.map kD)=true:=flatA_map (fun _=>rfl) ks
@[simp] theorem flatA_pD (ks:List (Int×Str)):flatA (ks.map pD)=true:=flatA_map (fun _=>rfl) ks
@[simp] theorem kD_0 (k:Kd):gIx (kD k) (.int 0)=some (.str k.name):=ix_t (k:=0) rfl rfl
@[simp] theorem kD_1 (k:Kd):gIx (kD k) (.int 1)=some (.int k.w):=ix_t (k:=1) rfl rfl
@[simp] theorem kD_2 (k:Kd):gIx (kD k) (.int 2)=some (.int k.wo):=ix_t (k:=2) rfl rfl
@[simp] theorem kD_3 (k:Kd):gIx (kD k) (.int 3)=some (.int k.al):=ix_t (k:=3) rfl rfl
noncomputable def pre (ns:List Int)(i:Nat):Int:=(ns.take i).sum
theorem pre_cut (ns:List Int)(a b:Nat)(h:a≤b):((ns.drop a).take (b - a)).sum=pre ns b - pre ns a:=by
 unfold pre
 have e:ns.take b=ns.take a++(ns.drop a).take (b - a):=by
  have:=List.take_add (l:=ns) (i:=a) (j:=b - a)
  rw [show a+(b - a)=b by omega] at this
  exact this
 rw [e,List.sum_append]
 omega
theorem pre_succ {ns:List Int}{i:Nat}{x:Int}(h:ns[i]?=some x):pre ns (i+1)=pre ns i+x:=by
 unfold pre
 rw [List.take_add_one,h,List.sum_append]
 simp
noncomputable def good (ns:List Int)(k:Kd)(p:Int):Bool:=decide (0≤p∧p+k.w≤ns.length∧pre ns (p+k.w).toNat - pre ns p.toNat≤k.al)
theorem spoilt_ok {ns:List Int}{b e:Int}(h0:0≤b)(h1:b≤e)(h2:e≤ns.length):F_spoilt [iD ns,.int b,.int e]=.ok (.int (pre ns e.toNat - pre ns b.toNat)):=by
 have a1:¬b<0:=by omega
 have a2:¬(ns.length:Int)<e:=by omega
 have a3:¬e<b:=by omega
 simp [-map_take,-map_drop,F_spoilt,q_spoilt,iD,a1,a2,a3,cut_ab h0 h1 h2,pre_cut _ _ _ (show b.toNat≤e.toNat by omega)]
theorem fits_ok (ns:List Int)(k:Kd)(p:Int)(hw:1≤k.w):F_fits [iD ns,kD k,.int p]=.ok (.bl (good ns k p)):=by
 have l1:gLen [iD ns]=some (.int ns.length):=by simp [iD]
 by_cases h0:p<0
 ·have e:good ns k p=false:=decide_eq_false (by omega)
  rw [e]
  exact r_run (r_seq (r_set (r_f2 rfl (r_f2 rfl rfl (kD_1 k)) rfl)) (r_seqR (r_ifT (r_cOrT (r_cE (r_f2 rfl rfl (bl_t h0)))) (r_ret rfl))))
 ·by_cases h1:(ns.length:Int)<p+k.w
  ·have e:good ns k p=false:=decide_eq_false (by omega)
   rw [e]
   exact r_run (r_seq (r_set (r_f2 rfl (r_f2 rfl rfl (kD_1 k)) rfl)) (r_seqR (r_ifT (r_cOrF (r_cE (r_f2 rfl rfl (bl_f h0))) (r_cE (r_f2 rfl (r_fA (r_cons rfl rfl) l1) (bl_t h1)))) (r_ret rfl))))
  ·have hs:=spoilt_ok (ns:=ns) (b:=p) (e:=p+k.w) (by omega) (by omega) (by omega)
   have e:good ns k p=decide (pre ns (p+k.w).toNat - pre ns p.toNat≤k.al):=by
    unfold good
    apply decide_eq_decide.mpr
    constructor
    ·exact fun z=>z.2.2
    ·exact fun z=>⟨by omega,by omega,z⟩
   rw [e]
   exact r_run (r_seq (r_set (r_f2 rfl (r_f2 rfl rfl (kD_1 k)) rfl)) (r_seq (r_ifF (r_cOrF (r_cE (r_f2 rfl rfl (bl_f h0))) (r_cE (r_f2 rfl (r_fA (r_cons rfl rfl) l1) (bl_f h1)))) rfl) (r_ret (r_f2 (r_call (r_cons rfl (r_cons rfl (r_cons rfl rfl))) hs) (r_f2 rfl rfl (kD_3 k)) rfl))))
noncomputable def sumsOf (ns:List Int):List Int:=(List.range (ns.length+1)).map (pre ns)
theorem sums_len (ns:List Int):(sumsOf ns).length=ns.length+1:=by simp [sumsOf]
theorem sums_at (ns:List Int){k:Nat}(h:k≤ns.length):(sumsOf ns).getD k 0=pre ns k:=by
 unfold sumsOf
 have h':k<ns.length+1:=by omega
 simp [List.getD,h']
theorem sums_ok (ns:List Int)(h:ns.length≤1000):F__law_sums [iD ns]=.ok (iD (sumsOf ns)):=by
  have hl:ns.length≤lim:=by show _≤1000000;omega
  have hf:=forD_st (b:=bName 2) (s:=l__law_sums_2) (xs:=ns.map D.int) (ρ:=[some (iD ns),some (.lst [.int 0]),none])
    (fun i=>[some (iD ns),some (.lst (((List.range i).map (pre ns)).map D.int++[.int (pre ns i)])),match i with | 0=>none | i+1=>some (.int (ns.getD i 0))]) rfl (fun i x hx=>by
      rw [getElem?_map] at hx
      obtain ⟨y,hy,rfl⟩:=Option.map_eq_some_iff.mp hx
      have hi:=(List.getElem?_eq_some_iff.mp hy).1
      refine ⟨_,rfl,?_⟩
      have hlen:i+1<1000000:=by omega
      simp [-map_map,l__law_sums_2,hlen,pre_succ hy,List.range_succ,hy])
  simp only [length_map] at hf
  simp [F__law_sums,q__law_sums,iD,hl] at hf ⊢
  simp [hf,sumsOf,List.range_succ]
theorem good_ok (ns:List Int)(k:Kd)(p:Int)(hw:1≤k.w):F__law_good [iD (sumsOf ns),kD k,.int p]=.ok (.bl (good ns k p)):=by
 have hsl:=sums_len ns
 have l1:gLen [iD (sumsOf ns)]=some (.int (sumsOf ns).length):=by simp [iD]
 by_cases h0:p<0
 ·have e:good ns k p=false:=decide_eq_false (by omega)
  rw [e]
  exact r_run (r_seq (r_set (r_f2 rfl (r_f2 rfl rfl (kD_1 k)) rfl)) (r_seqR (r_ifT (r_cOrT (r_cE (r_f2 rfl rfl (bl_t h0)))) (r_ret rfl))))
 ·by_cases h1:((sumsOf ns).length:Int)≤p+k.w
  ·have e:good ns k p=false:=decide_eq_false (by omega)
   rw [e]
   exact r_run (r_seq (r_set (r_f2 rfl (r_f2 rfl rfl (kD_1 k)) rfl)) (r_seqR (r_ifT (r_cOrF (r_cE (r_f2 rfl rfl (bl_f h0))) (r_cE (r_f2 rfl (r_fA (r_cons rfl rfl) l1) (bl_t h1)))) (r_ret rfl))))
  ·have e:good ns k p=decide (pre ns (p+k.w).toNat - pre ns p.toNat≤k.al):=by
    unfold good
    apply decide_eq_decide.mpr
    constructor
    ·exact fun z=>z.2.2
    ·exact fun z=>⟨by omega,by omega,z⟩
   have i1:=ix_ints (ns:=sumsOf ns) (i:=p+k.w) (k:=(p+k.w).toNat) (by omega) (by omega)
   have i2:=ix_ints (ns:=sumsOf ns) (i:=p) (k:=p.toNat) (by omega) (by omega)
   rw [sums_at ns (by omega)] at i1 i2
   rw [e]
   exact r_run (r_seq (r_set (r_f2 rfl (r_f2 rfl rfl (kD_1 k)) rfl)) (r_seq (r_ifF (r_cOrF (r_cE (r_f2 rfl rfl (bl_f h0))) (r_cE (r_f2 rfl (r_fA (r_cons rfl rfl) l1) (bl_f h1)))) rfl) (r_ret (r_f2 (r_f2 (r_f2 rfl rfl i1) (r_f2 rfl rfl i2) rfl) (r_f2 rfl rfl (kD_3 k)) rfl))))
theorem cell_ok (ns:List Int)(hn:ns.length≤63){i:Int}(h0:0≤i)(h1:i<1000000):∃n:Int,F__law_cell [.scr ns,.int i]=.ok (.int n):=by
 have c:(cE (f2 gLt (fV 1) (fA gLen (aCons (fV 0) aNil)))) [some (.scr ns),some (.int i),none,none]=.ok (decide (i<ns.length)):=r_cE (r_f2 rfl (r_fA (r_cons rfl rfl) rfl) rfl)
 by_cases h:i<ns.length
 ·have hi:i.toNat<ns.length:=(toNat_lt h0).mpr h
  have e:gIx (.scr ns) (.int i)=some (.int (ns.getD i.toNat 0)):=congrArg (Option.map D.int) (atD_nat (k:=i.toNat) (Int.toNat_of_nonneg h0).symm (by simp [List.getD,hi]))
  exact ⟨_,r_run (r_seqR (r_ifT (c.trans (congrArg Dl.R.ok (decide_eq_true h))) (r_ret (r_f1 (r_f2 rfl rfl e) rfl))))⟩
 ·have key:∃seed:Int,∃o,forD (bName 3) l__law_cell_4 ((ns.take 63).map D.int) [some (.scr ns),some (.int i),some (.int 5),none]=.ok (.nx [some (.scr ns),some (.int i),some (.int seed),o]):=by
   refine forD_inv (P:=fun _ ρ=>∃seed:Int,∃o,ρ=[some (.scr ns),some (.int i),some (.int seed),o]) (Rr:=fun r=>∃seed:Int,∃o,r=.ok (.nx [some (.scr ns),some (.int i),some (.int seed),o])) ⟨5,none,rfl⟩ ?_ ?_
   ·rintro j x ρ hx ⟨seed,o,rfl⟩
    rw [getElem?_map] at hx
    obtain ⟨y,hy,rfl⟩:=Option.map_eq_some_iff.mp hx
    exact ⟨_,rfl,.inl ⟨_,.inl (r_set (r_f2 (r_f2 (r_f2 (r_f2 rfl rfl (mulR (by decide) (by decide))) (r_f2 rfl rfl (mod_ii (by decide))) rfl) rfl rfl) rfl (mod_ii (by decide)))),_,_,rfl⟩⟩
   ·rintro ρ ⟨seed,o,rfl⟩
    exact ⟨seed,o,rfl⟩
  obtain ⟨seed,o,e⟩:=key
  have hc:cut ns none (some 63)=ns.take 63:=cut_to (by decide)
  have hl:(jList (fSl gSl (fV 0) oNone (oSome (fC (.int 63))))) [some (.scr ns),some (.int i),some (.int 5),none]=.ok ((ns.take 63).map D.int):=by
   have hm:min 63 ns.length≤lim:=by show _≤1000000;omega
   simp [-map_take,hc,hm]
  exact ⟨_,r_run (r_seq (r_ifF (c.trans (congrArg Dl.R.ok (decide_eq_false h))) rfl) (r_seq (r_set rfl) (r_seq (r_for hl e) (r_ret (r_f2 (r_f2 rfl (r_f2 rfl rfl (mulS (by decide) (by decide))) rfl) rfl (mod_ii (by decide)))))))⟩
theorem mix_ok (c:Int){k:Int}(h0:0≤k)(h1:k<1000000):∃n:Int,F__law_mix [.int c,.int k]=.ok (.int n):=by
 have n0:0≤c % 2147483629+1013*k+7919:=Int.add_nonneg (Int.add_nonneg (emod_nonneg _ (by decide)) (mul_nonneg (by decide) h0)) (by decide)
 have n1:c % 2147483629+1013*k+7919<2147483629+1013*1000000+7919:=Int.add_lt_add_right (Int.add_lt_add_of_lt_of_le (emod_lt_of_pos _ (by decide)) (Int.mul_le_mul_of_nonneg_left (Int.le_of_lt h1) (by decide))) _
 have b:(c % 2147483629+1013*k+7919).natAbs<2 ^ 64:=Int.ofNat_lt.mp (by rw [Int.natAbs_of_nonneg n0];exact Int.lt_trans n1 (by decide))
 have e1:=pow_ii (i:=c % 2147483629+1013*k+7919) (j:=3) (by decide) (by decide) b
 exact ⟨_,r_run (r_seq (r_set (r_f2 (r_f2 (r_f2 (r_f2 (r_f2 rfl rfl (mod_ii (by decide))) (r_f2 rfl rfl (mulS (by decide) (by decide))) rfl) rfl rfl) rfl e1) rfl (mod_ii (by decide)))) (r_seq (r_set (r_f2 (r_f2 (r_f2 (r_f2 rfl rfl (mulR (by decide) (by decide))) (r_f2 (r_f2 rfl rfl (mulS (by decide) (by decide))) rfl (mulR h0 (Int.le_of_lt h1))) rfl) rfl rfl) rfl (mod_ii (by decide)))) (r_ret (r_f2 rfl rfl (div_ii (by decide) (by decide))))))⟩
structure Row (ms os:List Int):Prop where
 len:os.length=ms.length
 at_:∀k,k<ms.length→0≤os.getD k 0∧os.getD k 0<ms.getD k 0
theorem Row.nil (ms:List Int):Row (ms.take 0) []:=⟨by simp,fun k hk=>by simp at hk⟩
theorem Row.all {ms os:List Int}(h:Row (ms.take ms.length) os):Row ms os:=by
 rw [List.take_length] at h
 exact h
theorem Row.push {ms os:List Int}{k:Nat}{v:Int}(h:Row (ms.take k) os)(hk:k<ms.length)(h0:0≤v)(h1:v<ms.getD k 0):Row (ms.take (k+1)) (os++[v]):=by
 have hl:=h.len
 rw [length_take] at hl
 have hm:min k ms.length=k:=by omega
 have hm':min (k+1) ms.length=k+1:=by omega
 refine ⟨by rw [length_append,length_take,hm',length_singleton];omega,fun j hj=>?_⟩
 rw [length_take,hm'] at hj
 by_cases e:j=k
 ·subst e
  have e1:(os++[v]).getD j 0=v:=by
   have:os.length=j:=by omega
   simp [List.getD,← this]
  have e2:(ms.take (j+1)).getD j 0=ms.getD j 0:=by simp [List.getD,List.getElem?_take]
  rw [e1,e2]
  exact ⟨h0,h1⟩
 ·have hj':j<k:=by omega
  have q:=h.at_ j (by rw [length_take];omega)
  have e1:(os++[v]).getD j 0=os.getD j 0:=by
   have:j<os.length:=by omega
   simp [List.getD,getElem?_append_left this]
  have e2:(ms.take (k+1)).getD j 0=(ms.take k).getD j 0:=by
   have h1:j<k+1:=by omega
   simp [List.getD,List.getElem?_take,hj',h1]
  rw [e1,e2]
  exact q
theorem getD_all {P:Int→Prop}{ws:List Int}{i:Nat}(h:∀w∈ws,P w)(hi:i<ws.length):P (ws.getD i 0):=by
 have e:ws.getD i 0=ws[i]:=by simp [List.getD,hi]
 rw [e]
 exact h _ (getElem_mem hi)
theorem row_okL (ns:List Int)(hn:ns.length≤63){i:Int}(h0:0≤i)(h1:i<1000)(ms:List Int)(hm:ms.length≤2000)(hms:∀m∈ms,0<m∧m<2 ^ 200):∃os,F__law_row [.scr ns,.int i,iD ms]=.ok (iD os)∧Row ms os:=by
 obtain ⟨c,hc⟩:=cell_ok ns hn h0 (show i<1000000 by omega)
 have key:=forD_inv (b:=bName 6) (s:=l__law_row_4) (xs:=rngL 0 ms.length) (ρ:=[some (.scr ns),some (.int i),some (iD ms),some (.int c),some (.int c),some (.lst []),none,none])
  (P:=fun k ρ=>∃(l:Int) (os:List Int) (o6 o7:Option D),Row (ms.take k) os∧ρ=[some (.scr ns),some (.int i),some (iD ms),some (.int c),some (.int l),some (iD os),o6,o7])
  (Rr:=fun r=>∃(l:Int) (os:List Int) (o6 o7:Option D),Row ms os∧r=.ok (.nx [some (.scr ns),some (.int i),some (iD ms),some (.int c),some (.int l),some (iD os),o6,o7]))
  ⟨c,[],none,none,Row.nil ms,rfl⟩ ?_ ?_
 ·obtain ⟨l,os,o6,o7,hr,e⟩:=key
  refine ⟨os,?_,hr⟩
  have b1:-1000000000≤(ms.length:Int)∧(ms.length:Int)≤1000000:=by omega
  have gl:gLen [iD ms]=some (.int ms.length):=by simp [iD]
  exact r_run (r_seq (r_set (r_call (r_cons rfl (r_cons rfl rfl)) hc)) (r_seq (r_set (r_f1 rfl rfl)) (r_seq (r_set rfl) (r_seq (r_for (r_rng (r_cons (r_fA (r_cons rfl rfl) gl) rfl) b1) e) (r_ret rfl)))))
 ·rintro k x ρ hx ⟨l,os,o6,o7,hr,rfl⟩
  obtain ⟨hk,rfl⟩:=rngL_at hx
  rw [zero_add]
  have hol:os.length=k:=by have:=hr.len;rw [length_take] at this;omega
  have hlim:(os.map D.int).length<lim:=by rw [length_map];show _<1000000;omega
  have c1:∀o5:Option D,(cE (f2 gLt (fV 3) (f2 gPow (fC (.int 10)) (fC (.int 18))))) [some (.scr ns),some (.int i),some (iD ms),some (.int c),some (.int l),o5,some (.int k),o7]=.ok (decide (c<1000000000000000000)):=fun _=>r_cE (r_f2 rfl (r_f2 rfl rfl pow10_18) rfl)
  have ap:∀v:Int,iD (os++[v])=.lst (os.map D.int++[.int v]):=fun v=>congrArg D.lst map_append
  have hmk:=getD_all hms hk
  have ix:=ix_ints (ns:=ms) (i:=(k:Int)) (k:=k) rfl hk
  have md:∀z:Int,gMod (.int z) (.int (ms.getD k 0))=some (.int (z % ms.getD k 0)):=fun z=>mod_ii hmk.1
  have nn:∀z:Int,0≤z % ms.getD k 0∧z % ms.getD k 0<ms.getD k 0:=fun z=>⟨emod_nonneg _ (Int.ne_of_gt hmk.1),emod_lt_of_pos _ hmk.1⟩
  have k0:0≤(k:Int)∧(k:Int)<1000000:=by omega
  obtain ⟨x1,hx1⟩:=mix_ok c k0.1 k0.2
  obtain ⟨c2,hc2⟩:=cell_ok ns hn (i:=(i+1+k) % 63) (emod_nonneg _ (by decide)) (Int.lt_trans (emod_lt_of_pos _ (by decide)) (by decide))
  obtain ⟨x2,hx2⟩:=mix_ok c2 k0.1 k0.2
  refine ⟨_,rfl,.inl ?_⟩
  by_cases a1:c<1000000000000000000
  ·refine ⟨[some (.scr ns),some (.int i),some (iD ms),some (.int c),some (.int l),some (iD (os++[x1 % ms.getD k 0])),some (.int k),o7],.inl ?_,l,_,_,o7,hr.push hk (nn x1).1 (nn x1).2,rfl⟩
   rw [ap]
   exact r_ifT ((c1 _).trans (congrArg Dl.R.ok (decide_eq_true a1))) (r_app rfl (r_f2 (r_call (r_cons rfl (r_cons rfl rfl)) hx1) (r_f2 rfl rfl ix) (md x1)) hlim)
  ·by_cases a2:0<l
   ·refine ⟨[some (.scr ns),some (.int i),some (iD ms),some (.int c),some (.int (l / ms.getD k 0)),some (iD (os++[l % ms.getD k 0])),some (.int k),o7],.inl ?_,_,_,_,o7,hr.push hk (nn l).1 (nn l).2,rfl⟩
    rw [ap]
    exact r_ifF ((c1 _).trans (congrArg Dl.R.ok (decide_eq_false a1))) (r_ifT (r_cE (r_f2 rfl rfl (congrArg (fun b=>some (D.bl b)) (decide_eq_true a2)))) (r_seq (r_app rfl (r_f2 rfl (r_f2 rfl rfl ix) (md l)) hlim) (r_set (r_f2 rfl (r_f2 rfl rfl ix) (div_ii hmk.1 hmk.2)))))
   ·refine ⟨[some (.scr ns),some (.int i),some (iD ms),some (.int c),some (.int l),some (iD (os++[x2 % ms.getD k 0])),some (.int k),some (.int c2)],.inl ?_,l,_,_,_,hr.push hk (nn x2).1 (nn x2).2,rfl⟩
    rw [ap]
    exact r_ifF ((c1 _).trans (congrArg Dl.R.ok (decide_eq_false a1))) (r_ifF (r_cE (r_f2 rfl rfl (congrArg (fun b=>some (D.bl b)) (decide_eq_false a2)))) (r_seq (r_set (r_call (r_cons rfl (r_cons (r_f2 (r_f2 (r_f2 rfl rfl rfl) rfl rfl) rfl (mod_ii (by decide))) rfl)) hc2)) (r_app rfl (r_f2 (r_call (r_cons rfl (r_cons rfl rfl)) hx2) (r_f2 rfl rfl ix) (md x2)) hlim)))
 ·rintro ρ ⟨l,os,o6,o7,hr,rfl⟩
  rw [rngL_length] at hr
  exact ⟨l,os,o6,o7,hr.all,rfl⟩
theorem row_ok (ns:List Int)(hn:ns.length≤63){i:Int}(h0:0≤i)(h1:i<1000)(ms:List Int)(hm:ms.length≤1000)(hms:∀m∈ms,0<m∧m<2 ^ 200):∃os,F__law_row [.scr ns,.int i,iD ms]=.ok (iD os)∧Row ms os:=row_okL ns hn h0 h1 ms (le_trans hm (by decide)) hms
theorem ix_lit (ws:List Int){i:Int}(h0:0≤i)(h1:i<ws.length):gIx (.lst (ws.map D.int)) (.int i)=some (.int (ws.getD i.toNat 0)):=ix_ints (by omega) (by omega)
theorem rep_len (l:List Int):∀n:Nat,(List.replicate n l).flatten.length=n*l.length
 | 0=>by simp
 | n+1=>by rw [replicate_succ,flatten_cons,length_append,rep_len l n,Nat.succ_mul,Nat.add_comm]
theorem rep_map (l:List Int)(n:Nat):(List.replicate n (l.map D.int)).flatten=(List.replicate n l).flatten.map D.int:=by
 rw [List.map_flatten,List.map_replicate]
theorem mul_rep {ws:List Int}{m:Int}(h0:0≤m)(h1:m≤200)(hl:ws.length≤1000):gMul (.lst (ws.map D.int)) (.int m)=some (iD (List.replicate m.toNat ws).flatten):=by
  simp only [gMul]
  rw [if_pos ⟨by omega,by
    rw [length_map]
    show ws.length*m.toNat≤1000000
    have:ws.length*m.toNat≤1000*200:=Nat.mul_le_mul hl (by omega)
    omega,by omega,flatA_ints ws⟩,rep_map]
  rfl
theorem add_ints {xs ys:List Int}(h:xs.length+ys.length≤1000000):gAdd (iD xs) (iD ys)=some (iD (xs++ys)):=by
 show (if (xs.map D.int).length+(ys.map D.int).length≤lim∧flatA (xs.map D.int)∧flatA (ys.map D.int) then some (D.lst (xs.map D.int++ys.map D.int)) else none)=_
 rw [if_pos ⟨by rw [length_map,length_map];exact h,flatA_ints _,flatA_ints _⟩,← map_append]
 rfl
theorem rep2_get (x y:Int):∀(n k:Nat),k<n→(List.replicate n [x,y]).flatten.getD (2*k) 0=x∧(List.replicate n [x,y]).flatten.getD (2*k+1) 0=y
 | 0,k,h=>by omega
 | n+1,0,_=>by simp [replicate_succ,flatten_cons,List.getD]
 | n+1,k+1,h=>by
  have q:=rep2_get x y n k (by omega)
  have e1:2*(k+1)=2*k+2:=by omega
  rw [replicate_succ,flatten_cons,e1]
  exact q
theorem rep3_get (x y z:Int):∀(n k:Nat),k<n→(List.replicate n [x,y,z]).flatten.getD (3*k) 0=x∧(List.replicate n [x,y,z]).flatten.getD (3*k+1) 0=y∧(List.replicate n [x,y,z]).flatten.getD (3*k+2) 0=z
 | 0,k,h=>by omega
 | n+1,0,_=>by simp [replicate_succ,flatten_cons,List.getD]
 | n+1,k+1,h=>by
  have q:=rep3_get x y z n k (by omega)
  have e1:3*(k+1)=3*k+3:=by omega
  rw [replicate_succ,flatten_cons,e1]
  exact q
theorem mem_rep {l:List Int}{n:Nat}{z:Int}(h:z∈(List.replicate n l).flatten):z∈l:=by
 obtain ⟨l',hl,hz⟩:=List.mem_flatten.mp h
 rwa [(List.mem_replicate.mp hl).2] at hz
noncomputable def poolL:List Str:=["a","ab","abc","b","ba","z","zzzzzzzz","roll","cut","by","aab","zz","kind","qsvw","fghjmp","x"]
theorem pool_inj:∀j:Nat,j<16→∀k:Nat,k<16→poolL.getD j ""=poolL.getD k ""→j=k:=by decide +kernel
noncomputable def nameAt (s4 s5:Int)(k:Nat):Str:=poolL.getD ((s4+(2*s5+1)*(k:Int)) % 16).toNat ""
theorem step_inj:∀t:Nat,t<4→∀j:Nat,j<8→∀k:Nat,k<8→((2*(t:Int)+1)*j - (2*(t:Int)+1)*k) % 16=0→j=k:=by decide +kernel
theorem nameAt_inj {s4 s5:Int}(h0:0≤s5)(h1:s5<4){j k:Nat}(hj:j<8)(hk:k<8)(e:nameAt s4 s5 j=nameAt s4 s5 k):j=k:=by
 have lt:∀x:Int,(x % 16).toNat<16:=fun x=>(toNat_lt (emod_nonneg x (by decide))).mpr (emod_lt_of_pos x (by decide))
 have q:=congrArg Int.ofNat (pool_inj _ (lt _) _ (lt _) e)
 have q1:(s4+(2*s5+1)*(j:Int)) % 16=(s4+(2*s5+1)*(k:Int)) % 16:=(Int.toNat_of_nonneg (emod_nonneg _ (by decide))).symm.trans (q.trans (Int.toNat_of_nonneg (emod_nonneg _ (by decide))))
 have q2:=Int.emod_eq_emod_iff_emod_sub_eq_zero.mp q1
 rw [Int.add_sub_add_left] at q2
 obtain ⟨t,rfl⟩:=Int.eq_ofNat_of_zero_le h0
 exact step_inj t (Int.ofNat_lt.mp h1) j hj k hk q2
theorem nameAt_mem (s4 s5:Int)(k:Nat):nameAt s4 s5 k∈poolL:=by
 unfold nameAt
 have h:((s4+(2*s5+1)*(k:Int)) % 16).toNat<poolL.length:=by show _<16;omega
 have e:poolL.getD ((s4+(2*s5+1)*(k:Int)) % 16).toNat ""=poolL[((s4+(2*s5+1)*(k:Int)) % 16).toNat]:=by simp [List.getD,h]
 rw [e]
 exact getElem_mem h
structure KindOk (k:Kd):Prop where
 nm:k.name∈poolL
 w1:1≤k.w
 w2:k.w≤200
 o1:1≤k.wo
 o2:k.wo≤1000000000000000000
 a1:0≤k.al
 a2:k.al<1000000000000000000
structure TabOk (ks:List Kd):Prop where
 ok:∀k∈ks,KindOk k
 nd:(ks.map (·.name)).Nodup
theorem pool_ix {i:Int}(h0:0≤i)(h1:i<16):gIx (.lst (poolL.map D.str)) (.int i)=some (.str (poolL.getD i.toNat "")):=ix_l (k:=i.toNat) (by omega) (by
  have h:i.toNat<poolL.length:=by show _<16;omega
  simp [List.getD,h])
theorem max_lit {ms:List Int}(h:∀m∈ms,0<m∧m≤1000000):∀m∈ms,0<m∧m<2 ^ 200:=fun m hm=>⟨(h m hm).1,Int.lt_of_le_of_lt (h m hm).2 (by decide)⟩
theorem four {x:Int}(h:0≤x∧x<4):x=0∨x=1∨x=2∨x=3:=by
 obtain ⟨n,rfl⟩:=Int.eq_ofNat_of_zero_le h.1
 match n,Int.ofNat_lt.mp h.2 with
 | 0,_=>exact .inl rfl
 | 1,_=>exact .inr (.inl rfl)
 | 2,_=>exact .inr (.inr (.inl rfl))
 | 3,_=>exact .inr (.inr (.inr rfl))
theorem mod_bd {x m:Int}(hm:0<m):0≤x % m∧x % m<m:=⟨emod_nonneg _ (Int.ne_of_gt hm),emod_lt_of_pos _ hm⟩
theorem tab_turn {d0 d1 d2 o9 o10 o11 o12 o13:Option D}{O:D}{T:List D}{fl gn bw wd am x3 x4 x5 x6 x7 x8:Int}{k:Nat}{nm:Str}
    (j0:gIx O (.int (3*(k:Int)+6))=some (.int x6)) (j1:gIx O (.int (3*(k:Int)+6+1))=some (.int x7)) (j2:gIx O (.int (3*(k:Int)+6+2))=some (.int x8))
    (j3:gIx O (.int 3)=some (.int x3)) (j4:gIx O (.int 4)=some (.int x4)) (j5:gIx O (.int 5)=some (.int x5))
    (ib:gIx (.lst [.int 150,.int 200]) (.int ((k:Int) % 2))=some (.int bw))
    (iw:gIx (.lst [.int 1,.int 2,.int 3,.int 4,.int 5,.int 6,.int 2,.int 3,.int 11,.int 40,.int bw]) (.int x6)=some (.int wd))
    (ia:gIx (.lst [.int 0,.int 0,.int 1,.int 2,.int 3,.int 12]) (.int x8)=some (.int am))
    (iN:gIx (.lst (poolL.map D.str)) (.int ((x4+(2*x5+1)*(k:Int)) % 16))=some (.str nm))
    (w1:1≤wd∧wd≤200) (c7:0≤x7∧x7<40) (c3:0≤x3∧x3<4) (c5:0≤x5∧x5<4) (m1:0≤am∧am≤12) (sl:T.length<lim) :
    ∃wo:Int,(1≤wo∧wo≤1000)∧l__law_table_7 [d0,d1,d2,some (.lst (poolL.map D.str)),some O,some (.int fl),some (.int gn),some (.lst T),some (.int k),o9,o10,o11,o12,o13] =
      .ok (.nx [d0,d1,d2,some (.lst (poolL.map D.str)),some O,some (.int fl),some (.int gn),some (.lst (T++[.tup [.str nm,.int wd,.int (min (wo*gn) 1000000000000000000),.int (min (am*fl) 999999999999999999)]])),some (.int k),some (.int (3*(k:Int)+6)),some (.int wd),some (.int wo),some (.int (min (am*fl) 999999999999999999)),some (.str nm)]):=by
  obtain ⟨wo,hb,mid⟩:∃wo:Int,(1≤wo∧wo≤1000)∧∀Q:FS,(sSeq (sIf (cE (f2 gEq (f2 gIx (fV 4) (fC (.int 3))) (fC (.int 1)))) (sSet 11 (f2 gAdd (f2 gMul (fC (.int 3)) (fV 10)) (f2 gMod (f2 gIx (fV 4) (f2 gAdd (fV 9) (fC (.int 1)))) (fC (.int 4))))) sNx)
    (sSeq (sIf (cE (f2 gEq (f2 gIx (fV 4) (fC (.int 3))) (fC (.int 2)))) (sSet 11 (f2 gAdd (fC (.int 1)) (f2 gMod (f2 gIx (fV 4) (f2 gAdd (fV 9) (fC (.int 1)))) (fC (.int 3))))) sNx)
    (sSeq (sIf (cE (f2 gEq (f2 gIx (fV 4) (fC (.int 3))) (fC (.int 3)))) (sSet 11 (f1 gFlat (fV 10))) sNx) Q))) [d0,d1,d2,some (.lst (poolL.map D.str)),some O,some (.int fl),some (.int gn),some (.lst T),some (.int k),some (.int (3*(k:Int)+6)),some (.int wd),some (.int (1+x7)),o12,o13] =
      Q [d0,d1,d2,some (.lst (poolL.map D.str)),some O,some (.int fl),some (.int gn),some (.lst T),some (.int k),some (.int (3*(k:Int)+6)),some (.int wd),some (.int wo),o12,o13]:=by
    rcases four c3 with rfl | rfl | rfl | rfl
    · exact ⟨1+x7,⟨Int.le_add_of_nonneg_right c7.1,Int.le_trans (Int.add_le_add_left (Int.le_of_lt c7.2) 1) (by decide)⟩,fun Q=>r_seq (r_ifF (r_cE (r_f2 (r_f2 rfl rfl j3) rfl rfl)) rfl) (r_seq (r_ifF (r_cE (r_f2 (r_f2 rfl rfl j3) rfl rfl)) rfl) (r_seq (r_ifF (r_cE (r_f2 (r_f2 rfl rfl j3) rfl rfl)) rfl) rfl))⟩
    · exact ⟨3*wd+x7 % 4,⟨Int.le_trans (show (1:Int)≤3*1+0 by decide) (Int.add_le_add (Int.mul_le_mul_of_nonneg_left w1.1 (by decide)) (mod_bd (by decide)).1),Int.le_trans (Int.add_le_add (Int.mul_le_mul_of_nonneg_left w1.2 (by decide)) (Int.le_of_lt (mod_bd (by decide)).2)) (by decide)⟩,fun Q=>r_seq (r_ifT (r_cE (r_f2 (r_f2 rfl rfl j3) rfl rfl)) (r_set (r_f2 (r_f2 rfl rfl (mulS (by decide) (by decide))) (r_f2 (r_f2 rfl (r_f2 rfl rfl rfl) j1) rfl (mod_ii (by decide))) rfl))) (r_seq (r_ifF (r_cE (r_f2 (r_f2 rfl rfl j3) rfl rfl)) rfl) (r_seq (r_ifF (r_cE (r_f2 (r_f2 rfl rfl j3) rfl rfl)) rfl) rfl))⟩
    · exact ⟨1+x7 % 3,⟨Int.le_add_of_nonneg_right (mod_bd (by decide)).1,Int.le_trans (Int.add_le_add_left (Int.le_of_lt (mod_bd (by decide)).2) 1) (by decide)⟩,fun Q=>r_seq (r_ifF (r_cE (r_f2 (r_f2 rfl rfl j3) rfl rfl)) rfl) (r_seq (r_ifT (r_cE (r_f2 (r_f2 rfl rfl j3) rfl rfl)) (r_set (r_f2 rfl (r_f2 (r_f2 rfl (r_f2 rfl rfl rfl) j1) rfl (mod_ii (by decide))) rfl))) (r_seq (r_ifF (r_cE (r_f2 (r_f2 rfl rfl j3) rfl rfl)) rfl) rfl))⟩
    · exact ⟨wd,⟨w1.1,Int.le_trans w1.2 (by decide)⟩,fun Q=>r_seq (r_ifF (r_cE (r_f2 (r_f2 rfl rfl j3) rfl rfl)) rfl) (r_seq (r_ifF (r_cE (r_f2 (r_f2 rfl rfl j3) rfl rfl)) rfl) (r_seq (r_ifT (r_cE (r_f2 (r_f2 rfl rfl j3) rfl rfl)) (r_set (r_f1 rfl rfl))) rfl))⟩
  exact ⟨wo,hb,r_seq (r_set (r_f2 (r_f2 rfl rfl (mulS (by decide) (by decide))) rfl rfl)) (r_seq (r_set (r_f1 (r_f2 (r_fA (r_cons rfl (r_cons rfl (r_cons rfl (r_cons rfl (r_cons rfl (r_cons rfl (r_cons rfl (r_cons rfl (r_cons rfl (r_cons rfl (r_cons (r_f2 rfl (r_f2 rfl rfl (mod_ii (by decide))) ib) rfl))))))))))) rfl) (r_f2 rfl rfl j0) iw) rfl)) (r_seq (r_set (r_f2 rfl (r_f2 rfl (r_f2 rfl rfl rfl) j1) rfl)) ((mid _).trans
    (r_seq (r_set (r_fA (r_cons (r_f2 (r_f2 rfl (r_f2 rfl (r_f2 rfl rfl rfl) j2) ia) rfl (mulS m1.1 (Int.le_trans m1.2 (by decide)))) (r_cons (r_f2 (r_f2 rfl rfl pow10_18) rfl (show gSub (.int 1000000000000000000) (.int 1)=some (.int 999999999999999999) from rfl)) rfl)) (min_ii _ _)))
    (r_seq (r_set (r_f1 (r_f2 rfl (r_f2 (r_f2 (r_f2 rfl rfl j4) (r_f2 (r_f2 (r_f2 rfl (r_f2 rfl rfl j5) (mulS (by decide) (by decide))) rfl rfl) rfl (mulS (Int.add_nonneg (mul_nonneg (by decide) c5.1) (by decide)) (Int.le_trans (Int.add_le_add_right (Int.mul_le_mul_of_nonneg_left (Int.le_of_lt c5.2) (by decide)) 1) (by decide)))) rfl) rfl (mod_ii (by decide))) iN) rfl))
    (r_app rfl (r_fA (r_cons (r_f1 rfl rfl) (r_cons (r_f1 rfl rfl) (r_cons (r_fA (r_cons (r_f2 rfl rfl (mulS (Int.le_trans (by decide) hb.1) (Int.le_trans hb.2 (by decide)))) (r_cons (r_f2 rfl rfl pow10_18) rfl)) (min_ii _ _)) (r_cons (r_f1 rfl rfl) rfl)))) rfl) sl))))))⟩
theorem under {x m:Int}{k:Nat}(h:k<x.toNat)(hx:x<m+1):k<m.toNat:=by omega
theorem lits_and {P:Int→Prop}{l:List Int}{b:Int}(h:∀z∈l,P z)(hb:P b):∀z∈l++[b],P z:=List.forall_mem_append.mpr ⟨h,fun _ hz=>List.mem_singleton.mp hz▸hb⟩
theorem tri_lt {k j m:Nat}(h:k<m)(hj:j<3):3*k+(j+6)<6+m*3:=by omega
theorem table_ok (ns:List Int)(hn:ns.length≤63){i m:Int}(h0:0≤i)(h1:i<1000)(m0:0≤m)(m1:m≤8):∃ks,F__law_table [.scr ns,.int i,.int m]=.ok (tD ks)∧(ks.length:Int)≤m∧TabOk ks:=by
  have m8:m.toNat≤8:=Int.toNat_le.mpr m1
  have m24:6+m.toNat*3≤30:=Nat.add_le_add_left (Nat.mul_le_mul_right 3 m8) 6
  have ms_eq:gAdd (iD [m+1,4,4,4,16,4]) (iD (List.replicate m.toNat [11,40,6]).flatten)=some (iD ([m+1,4,4,4,16,4]++(List.replicate m.toNat [11,40,6]).flatten)):=add_ints (by
    rw [rep_len]
    exact le_trans m24 (by decide))
  have mr:=mul_rep (ws:=[11,40,6]) m0 (Int.le_trans m1 (by decide)) (by decide)
  have hml:([m+1,4,4,4,16,4]++(List.replicate m.toNat [(11:Int),40,6]).flatten).length=6+m.toNat*3:=by rw [length_append,rep_len];rfl
  obtain ⟨os,hos,R⟩:=row_ok ns hn h0 h1 ([m+1,4,4,4,16,4]++(List.replicate m.toNat [11,40,6]).flatten) (by rw [hml];exact le_trans m24 (by decide)) (max_lit (List.forall_mem_append.mpr ⟨List.forall_mem_cons.mpr ⟨⟨Int.lt_add_one_of_le m0,Int.le_trans (Int.add_le_add_right m1 1) (by decide)⟩,by decide⟩,fun z hz=>(by decide:∀z∈[(11:Int),40,6],0<z∧z≤1000000) z (mem_rep hz)⟩))
  have hol:os.length=6+m.toNat*3:=by rw [R.len,hml]
  have hlt:∀{j:Nat},j<6→j<([m+1,4,4,4,16,4]++(List.replicate m.toNat [(11:Int),40,6]).flatten).length:=fun h=>by rw [hml];exact lt_of_lt_of_le h (Nat.le_add_right _ _)
  have hlo:∀{j:Nat},j<6→j<os.length:=fun h=>by rw [hol];exact lt_of_lt_of_le h (Nat.le_add_right _ _)
  have tri:∀k j:Nat,k<m.toNat→j<3→3*k+(j+6)<6+m.toNat*3:=fun _ _ h hj=>tri_lt h hj
  have a0:0≤os.getD 0 0∧os.getD 0 0<m+1:=R.at_ 0 (hlt (by decide))
  have a1:0≤os.getD 1 0∧os.getD 1 0<4:=R.at_ 1 (hlt (by decide))
  have a2:0≤os.getD 2 0∧os.getD 2 0<4:=R.at_ 2 (hlt (by decide))
  have a3:0≤os.getD 3 0∧os.getD 3 0<4:=R.at_ 3 (hlt (by decide))
  have a4:0≤os.getD 4 0∧os.getD 4 0<16:=R.at_ 4 (hlt (by decide))
  have a5:0≤os.getD 5 0∧os.getD 5 0<4:=R.at_ 5 (hlt (by decide))
  have b3:∀k:Nat,k<m.toNat→(0≤os.getD (3*k+6) 0∧os.getD (3*k+6) 0<11)∧(0≤os.getD (3*k+7) 0∧os.getD (3*k+7) 0<40)∧(0≤os.getD (3*k+8) 0∧os.getD (3*k+8) 0<6):=fun k hk=>by
    obtain ⟨g1,g2,g3⟩:=rep3_get 11 40 6 m.toNat k hk
    have e:∀j:Nat,([m+1,4,4,4,16,4]++(List.replicate m.toNat [(11:Int),40,6]).flatten).getD (j+6) 0=(List.replicate m.toNat [(11:Int),40,6]).flatten.getD j 0:=fun j=>rfl
    have r1:=R.at_ (3*k+6) (by rw [hml];exact tri k 0 hk (by decide))
    have r2:=R.at_ (3*k+7) (by rw [hml];exact tri k 1 hk (by decide))
    have r3:=R.at_ (3*k+8) (by rw [hml];exact tri k 2 hk (by decide))
    rw [e (3*k),g1] at r1
    rw [show 3*k+7=(3*k+1)+6 from rfl,e (3*k+1),g2] at r2
    rw [show 3*k+8=(3*k+2)+6 from rfl,e (3*k+2),g3] at r3
    exact ⟨r1,r2,r3⟩
  have ix:∀k:Nat,k<os.length→∀j:Int,j=(k:Int)→gIx (.lst (os.map D.int)) (.int j)=some (.int (os.getD k 0)):=fun k hk j e=>ix_ints e hk
  obtain ⟨fl,hfl⟩:∃fl,fl=([1,1,7,100000000000000000]:List Int).getD (os.getD 1 0).toNat 0:=⟨_,rfl⟩
  obtain ⟨gn,hgn⟩:∃gn,gn=([1,1,1000000,25000000000000000]:List Int).getD (os.getD 2 0).toNat 0:=⟨_,rfl⟩
  have fl1:1≤fl∧fl≤100000000000000000:=by
    rw [hfl]
    exact getD_all (P:=fun z=>1≤z∧z≤100000000000000000) (by decide) (show _<4 from (toNat_lt a1.1).mpr a1.2)
  have gn1:1≤gn∧gn≤25000000000000000:=by
    rw [hgn]
    exact getD_all (P:=fun z=>1≤z∧z≤25000000000000000) (by decide) (show _<4 from (toNat_lt a2.1).mpr a2.2)
  have i1:gIx (.lst [.int 1,.int 1,.int 7,.int 100000000000000000]) (.int (os.getD 1 0))=some (.int fl):=by rw [hfl];exact ix_lit [1,1,7,100000000000000000] a1.1 a1.2
  have i2:gIx (.lst [.int 1,.int 1,.int 1000000,.int 25000000000000000]) (.int (os.getD 2 0))=some (.int gn):=by rw [hgn];exact ix_lit [1,1,1000000,25000000000000000] a2.1 a2.2
  have key:=forD_inv (b:=bName 8) (s:=l__law_table_7) (xs:=rngL 0 (os.getD 0 0).toNat) (ρ:=[some (.scr ns),some (.int i),some (.int m),some (.lst (poolL.map D.str)),some (iD os),some (.int fl),some (.int gn),some (.lst []),none,none,none,none,none,none])
    (P:=fun k ρ=>∃(ks:List Kd) (o8 o9 o10 o11 o12 o13:Option D),ks.length=k∧(∀x∈ks,KindOk x)∧ks.map (·.name)=(List.range k).map (nameAt (os.getD 4 0) (os.getD 5 0))∧ρ=[some (.scr ns),some (.int i),some (.int m),some (.lst (poolL.map D.str)),some (iD os),some (.int fl),some (.int gn),some (tD ks),o8,o9,o10,o11,o12,o13])
    (Rr:=fun r=>∃(ks:List Kd) (o8 o9 o10 o11 o12 o13:Option D),ks.length=(os.getD 0 0).toNat∧(∀x∈ks,KindOk x)∧ks.map (·.name)=(List.range ks.length).map (nameAt (os.getD 4 0) (os.getD 5 0))∧r=.ok (.nx [some (.scr ns),some (.int i),some (.int m),some (.lst (poolL.map D.str)),some (iD os),some (.int fl),some (.int gn),some (tD ks),o8,o9,o10,o11,o12,o13]))
    ⟨[],none,none,none,none,none,none,rfl,(fun _ h=>nomatch h),rfl,rfl⟩ ?_ ?_
  · obtain ⟨ks,o8,o9,o10,o11,o12,o13,kl,kok,knm,e⟩:=key
    have k8:ks.length≤8:=by rw [kl];exact Int.toNat_le.mpr (Int.le_trans (Int.lt_add_one_iff.mp a0.2) m1)
    refine ⟨ks,?_,by rw [kl,Int.toNat_of_nonneg a0.1];exact Int.lt_add_one_iff.mp a0.2,kok,?_⟩
    · have b1:-1000000000≤os.getD 0 0∧os.getD 0 0≤1000000:=⟨Int.le_trans (by decide) a0.1,Int.le_trans (Int.lt_add_one_iff.mp a0.2) (Int.le_trans m1 (by decide))⟩
      have hp:gAdd (.lst [.str ("a":Str),.str ("ab":Str),.str ("abc":Str),.str ("b":Str),.str ("ba":Str),.str ("z":Str),.str ("zzzzzzzz":Str),.str ("roll":Str),.str ("cut":Str),.str ("by":Str)]) (.lst [.str ("aab":Str),.str ("zz":Str),.str ("kind":Str),.str ("qsvw":Str),.str ("fghjmp":Str),.str ("x":Str)])=some (.lst (poolL.map D.str)):=rfl
      have mr':gMul (.lst [.int 11,.int 40,.int 6]) (.int m)=_:=mr
      have ms':gAdd (.lst [.int (m+1),.int 4,.int 4,.int 4,.int 16,.int 4]) (iD (List.replicate m.toNat [11,40,6]).flatten)=_:=ms_eq
      generalize iD ([m+1,4,4,4,16,4]++(List.replicate m.toNat [11,40,6]).flatten)=Mv at hos ms'
      generalize iD (List.replicate m.toNat [11,40,6]).flatten=Mw at mr' ms'
      exact r_run (r_seq (r_set rfl) (r_seq (r_set (r_f2 rfl rfl hp)) (r_seq (r_set (r_call (r_cons rfl (r_cons rfl (r_cons (r_f2 (r_fA (r_cons (r_f2 rfl rfl rfl) rfl) rfl) (r_f2 rfl rfl mr') ms') rfl))) hos))
        (r_seq (r_set (r_f1 (r_f2 (r_fA (r_cons rfl (r_cons rfl (r_cons rfl (r_cons (r_f2 rfl rfl pow10_17) rfl)))) rfl) (r_f2 rfl rfl (ix 1 (hlo (by decide)) 1 rfl)) i1) rfl))
        (r_seq (r_set (r_f1 (r_f2 (r_fA (r_cons rfl (r_cons rfl (r_cons (r_f2 rfl rfl (show gPow (.int 10) (.int 6)=some (.int 1000000) by simp)) (r_cons (r_f2 rfl (r_f2 rfl rfl pow10_15) (show gMul (.int 25) (.int 1000000000000000)=some (.int 25000000000000000) from mulS (by decide) (by decide))) rfl)))) rfl) (r_f2 rfl rfl (ix 2 (hlo (by decide)) 2 rfl)) i2) rfl))
        (r_seq (r_set rfl) (r_seq (r_for (r_rng (r_cons (r_f2 rfl rfl (ix 0 (hlo (by decide)) 0 rfl)) rfl) b1) e) (r_ret rfl))))))))
    · rw [knm,List.nodup_iff_pairwise_ne,List.pairwise_map]
      refine List.Pairwise.imp_of_mem ?_ (List.nodup_iff_pairwise_ne.mp List.nodup_range)
      intro i j hi hj hij e
      have hi:=List.mem_range.mp hi
      have hj:=List.mem_range.mp hj
      exact hij (nameAt_inj a5.1 a5.2 (lt_of_lt_of_le hi (le_trans k8 (by decide))) (lt_of_lt_of_le hj (le_trans k8 (by decide))) e)
  · rintro k x ρ hx ⟨ks,o8,o9,o10,o11,o12,o13,kl,kok,knm,rfl⟩
    obtain ⟨hk,rfl⟩:=rngL_at hx
    rw [zero_add]
    have hkm:k<m.toNat:=under hk a0.2
    obtain ⟨c1,c2,c3⟩:=b3 k hkm
    have j0:=ix (3*k+6) (by rw [hol];exact tri k 0 hkm (by decide)) (3*k+6) rfl
    have j1:=ix (3*k+7) (by rw [hol];exact tri k 1 hkm (by decide)) (3*k+6+1) (add_assoc _ 6 1)
    have j2:=ix (3*k+8) (by rw [hol];exact tri k 2 hkm (by decide)) (3*k+6+2) (add_assoc _ 6 2)
    have j3:=ix 3 (hlo (by decide)) 3 rfl
    have j4:=ix 4 (hlo (by decide)) 4 rfl
    have j5:=ix 5 (hlo (by decide)) 5 rfl
    obtain ⟨bw,hbw⟩:∃bw,bw=([150,200]:List Int).getD ((k:Int) % 2).toNat 0:=⟨_,rfl⟩
    have k2:0≤(k:Int) % 2∧(k:Int) % 2<2:=⟨emod_nonneg _ (by decide),emod_lt_of_pos _ (by decide)⟩
    have bw1:1≤bw∧bw≤200:=by
      rw [hbw]
      exact getD_all (P:=fun z=>1≤z∧z≤200) (by decide) (show _<2 from (toNat_lt k2.1).mpr k2.2)
    have ib:gIx (.lst [.int 150,.int 200]) (.int ((k:Int) % 2))=some (.int bw):=by rw [hbw];exact ix_lit [150,200] k2.1 k2.2
    obtain ⟨wd,hwd⟩:∃wd,wd=([1,2,3,4,5,6,2,3,11,40,bw]:List Int).getD (os.getD (3*k+6) 0).toNat 0:=⟨_,rfl⟩
    have wd1:1≤wd∧wd≤200:=by
      rw [hwd]
      exact getD_all (P:=fun z=>1≤z∧z≤200) (lits_and (l:=[1,2,3,4,5,6,2,3,11,40]) (by decide) bw1) (show _<11 from (toNat_lt c1.1).mpr c1.2)
    have iw:gIx (.lst [.int 1,.int 2,.int 3,.int 4,.int 5,.int 6,.int 2,.int 3,.int 11,.int 40,.int bw]) (.int (os.getD (3*k+6) 0))=some (.int wd):=by rw [hwd];exact ix_lit [1,2,3,4,5,6,2,3,11,40,bw] c1.1 c1.2
    obtain ⟨am,ham⟩:∃am,am=([0,0,1,2,3,12]:List Int).getD (os.getD (3*k+8) 0).toNat 0:=⟨_,rfl⟩
    have am1:0≤am∧am≤12:=by
      rw [ham]
      exact getD_all (P:=fun z=>0≤z∧z≤12) (by decide) (show _<6 from (toNat_lt c3.1).mpr c3.2)
    have ia:gIx (.lst [.int 0,.int 0,.int 1,.int 2,.int 3,.int 12]) (.int (os.getD (3*k+8) 0))=some (.int am):=by rw [ham];exact ix_lit [0,0,1,2,3,12] c3.1 c3.2
    have iN:=pool_ix (i:=(os.getD 4 0+(2*os.getD 5 0+1)*(k:Int)) % 16) (emod_nonneg _ (by decide)) (emod_lt_of_pos _ (by decide))
    have sl:(ks.map kD).length<lim:=by rw [length_map,kl];exact lt_of_lt_of_le hkm (le_trans m8 (by decide))
    obtain ⟨wo,wo1,turn⟩:=tab_turn (d0:=some (.scr ns)) (d1:=some (.int i)) (d2:=some (.int m)) (o9:=o9) (o10:=o10) (o11:=o11) (o12:=o12) (o13:=o13) (fl:=fl) (gn:=gn) j0 j1 j2 j3 j4 j5 ib iw ia iN wd1 c2 a3 a5 am1 sl
    have pr:0≤am*fl:=mul_nonneg am1.1 (Int.le_trans (by decide) fl1.1)
    have wg:1≤wo*gn:=Int.mul_le_mul wo1.1 gn1.1 (by decide) (Int.le_trans (by decide) wo1.1)
    have kd:KindOk ⟨nameAt (os.getD 4 0) (os.getD 5 0) k,wd,min (wo*gn) 1000000000000000000,min (am*fl) 999999999999999999⟩:=⟨nameAt_mem _ _ _,wd1.1,wd1.2,Int.le_min.mpr ⟨wg,by decide⟩,Int.min_le_right _ _,Int.le_min.mpr ⟨pr,by decide⟩,Int.lt_of_le_of_lt (Int.min_le_right _ _) (by decide)⟩
    refine ⟨_,rfl,.inl ⟨[some (.scr ns),some (.int i),some (.int m),some (.lst (poolL.map D.str)),some (iD os),some (.int fl),some (.int gn),some (tD (ks++[⟨nameAt (os.getD 4 0) (os.getD 5 0) k,wd,min (wo*gn) 1000000000000000000,min (am*fl) 999999999999999999⟩])),some (.int k),some (.int (3*k+6)),some (.int wd),some (.int wo),some (.int (min (am*fl) 999999999999999999)),some (.str (nameAt (os.getD 4 0) (os.getD 5 0) k))],.inl ?_,_,_,_,_,_,_,_,?_,?_,?_,rfl⟩⟩
    · rw [show tD (ks++[⟨nameAt (os.getD 4 0) (os.getD 5 0) k,wd,min (wo*gn) 1000000000000000000,min (am*fl) 999999999999999999⟩])=.lst (ks.map kD++[.tup [.str (nameAt (os.getD 4 0) (os.getD 5 0) k),.int wd,.int (min (wo*gn) 1000000000000000000),.int (min (am*fl) 999999999999999999)]]) from congrArg D.lst map_append]
      exact turn
    · rw [length_append,kl];rfl
    · intro x hx
      rcases List.mem_append.mp hx with h | h
      · exact kok x h
      · rw [List.mem_singleton.mp h];exact kd
    · rw [map_append,knm,List.range_succ,map_append]
      rfl
  · rintro ρ ⟨ks,o8,o9,o10,o11,o12,o13,kl,kok,knm,rfl⟩
    rw [rngL_length] at kl
    exact ⟨ks,o8,o9,o10,o11,o12,o13,kl,kok,by rw [kl];rw [rngL_length] at knm;exact knm,rfl⟩
theorem flaw_ok (ns:List Int)(hn:ns.length≤63){i m:Int}(h0:0≤i)(h1:i<1000)(m0:0≤m)(m1:m≤1000):∃fl:Int,F__law_flaw [.scr ns,.int i,.int m]=.ok (.int fl)∧1≤fl∧fl≤100000000000000000:=by
 obtain ⟨os,hos,R⟩:=row_ok ns hn h0 h1 [m+1,4] (by decide:2≤1000) (max_lit (List.forall_mem_cons.mpr ⟨⟨by omega,by omega⟩,by decide⟩))
 have hol:os.length=2:=R.len
 have a1:0≤os.getD 1 0∧os.getD 1 0<4:=R.at_ 1 (by decide:1<2)
 obtain ⟨fl,hfl⟩:∃fl,fl=([1,1,7,100000000000000000]:List Int).getD (os.getD 1 0).toNat 0:=⟨_,rfl⟩
 have fl1:1≤fl∧fl≤100000000000000000:=by
  rw [hfl]
  exact getD_all (P:=fun z=>1≤z∧z≤100000000000000000) (by decide) (show _<4 from (toNat_lt a1.1).mpr a1.2)
 have i1:gIx (.lst [.int 1,.int 1,.int 7,.int 100000000000000000]) (.int (os.getD 1 0))=some (.int fl):=by rw [hfl];exact ix_lit [1,1,7,100000000000000000] a1.1 a1.2
 have i0:=ix_ints (ns:=os) (i:=1) (k:=1) rfl (by rw [hol];decide)
 exact ⟨fl,r_run (r_ret (r_f1 (r_f2 (r_fA (r_cons rfl (r_cons rfl (r_cons rfl (r_cons (r_f2 rfl rfl pow10_17) rfl)))) rfl) (r_f2 (r_call (r_cons rfl (r_cons rfl (r_cons (r_fA (r_cons (r_f2 rfl rfl rfl) rfl) rfl) rfl))) hos) rfl i0) i1) rfl)),fl1⟩
theorem roll_ok (ns:List Int)(hn:ns.length≤63){i m fl:Int}(h0:0≤i)(h1:i<1000)(m0:0≤m)(m1:m≤200)(f0:1≤fl)(f1:fl≤100000000000000000):∃ws,F__law_roll [.scr ns,.int i,.int m,.int fl]=.ok (iD ws)∧(ws.length:Int)≤m∧∀w∈ws,0≤w∧w≤1000000000000000000:=by
  have ms_eq:gAdd (iD [m+1,4,3]) (iD (List.replicate m.toNat [8,5]).flatten)=some (iD ([m+1,4,3]++(List.replicate m.toNat [8,5]).flatten)):=add_ints (by
    rw [rep_len]
    show 3+m.toNat*2≤1000000
    omega)
  have mr:=mul_rep (ws:=[8,5]) m0 (show m≤200 by omega) (by decide)
  have hml:([m+1,4,3]++(List.replicate m.toNat [(8:Int),5]).flatten).length=3+m.toNat*2:=by rw [length_append,rep_len];rfl
  obtain ⟨os,hos,R⟩:=row_ok ns hn h0 h1 ([m+1,4,3]++(List.replicate m.toNat [8,5]).flatten) (by omega) (max_lit (List.forall_mem_append.mpr ⟨List.forall_mem_cons.mpr ⟨⟨by omega,by omega⟩,by decide⟩,fun z hz=>(by decide:∀z∈[(8:Int),5],0<z∧z≤1000000) z (mem_rep hz)⟩))
  have hol:os.length=3+m.toNat*2:=by rw [R.len,hml]
  have hlt:∀{j:Nat},j<3→j<([m+1,4,3]++(List.replicate m.toNat [(8:Int),5]).flatten).length:=fun h=>by rw [hml];exact lt_of_lt_of_le h (Nat.le_add_right _ _)
  have hlo:∀{j:Nat},j<3→j<os.length:=fun h=>by rw [hol];exact lt_of_lt_of_le h (Nat.le_add_right _ _)
  have tri:∀k j:Nat,k<m.toNat→j<2→2*k+(j+3)<3+m.toNat*2:=fun k j h hj=>by omega
  have a0:0≤os.getD 0 0∧os.getD 0 0<m+1:=R.at_ 0 (hlt (by decide))
  have a1:0≤os.getD 1 0∧os.getD 1 0<4:=R.at_ 1 (hlt (by decide))
  have a2:0≤os.getD 2 0∧os.getD 2 0<3:=R.at_ 2 (hlt (by decide))
  have b2:∀k:Nat,k<m.toNat→(0≤os.getD (2*k+3) 0∧os.getD (2*k+3) 0<8)∧(0≤os.getD (2*k+4) 0∧os.getD (2*k+4) 0<5):=fun k hk=>by
    obtain ⟨g1,g2⟩:=rep2_get 8 5 m.toNat k hk
    have e:∀j:Nat,([m+1,4,3]++(List.replicate m.toNat [(8:Int),5]).flatten).getD (j+3) 0=(List.replicate m.toNat [(8:Int),5]).flatten.getD j 0:=fun j=>rfl
    have r1:=R.at_ (2*k+3) (by rw [hml];exact tri k 0 hk (by decide))
    have r2:=R.at_ (2*k+4) (by rw [hml];exact tri k 1 hk (by decide))
    rw [e (2*k),g1] at r1
    rw [show 2*k+4=(2*k+1)+3 from rfl,e (2*k+1),g2] at r2
    exact ⟨r1,r2⟩
  have ix:∀k:Nat,k<os.length→∀j:Int,j=(k:Int)→gIx (.lst (os.map D.int)) (.int j)=some (.int (os.getD k 0)):=fun k hk j e=>ix_ints e hk
  obtain ⟨gr,hgr,gr1⟩:∃gr:Int,gr=(if os.getD 2 0=0 then 1000000000000000000 else 9*fl)∧0≤gr∧gr≤1000000000000000000:=by
    refine ⟨_,rfl,?_⟩
    split
    · exact ⟨by decide,by decide⟩
    · exact ⟨mul_nonneg (by decide) (Int.le_trans (by decide) f0),Int.le_trans (Int.mul_le_mul_of_nonneg_left f1 (by decide)) (by decide)⟩
  obtain ⟨th,hth⟩:∃th,th=([0,1,3,6]:List Int).getD (os.getD 1 0).toNat 0:=⟨_,rfl⟩
  have ith:gIx (.lst [.int 0,.int 1,.int 3,.int 6]) (.int (os.getD 1 0))=some (.int th):=by rw [hth];exact ix_lit [0,1,3,6] a1.1 a1.2
  have key:=forD_inv (b:=bName 7) (s:=l__law_roll_6) (xs:=rngL 0 (os.getD 0 0).toNat) (ρ:=[some (.scr ns),some (.int i),some (.int m),some (.int fl),some (iD os),some (.int gr),some (.lst []),none,none,none])
    (P:=fun k ρ=>∃(ws:List Int) (o7 o8 o9:Option D),ws.length=k∧(∀x∈ws,0≤x∧x≤1000000000000000000)∧ρ=[some (.scr ns),some (.int i),some (.int m),some (.int fl),some (iD os),some (.int gr),some (iD ws),o7,o8,o9])
    (Rr:=fun r=>∃(ws:List Int) (o7 o8 o9:Option D),ws.length=(os.getD 0 0).toNat∧(∀x∈ws,0≤x∧x≤1000000000000000000)∧r=.ok (.nx [some (.scr ns),some (.int i),some (.int m),some (.int fl),some (iD os),some (.int gr),some (iD ws),o7,o8,o9]))
    ⟨[],none,none,none,rfl,(fun _ h=>nomatch h),rfl⟩ ?_ ?_
  · obtain ⟨ws,o7,o8,o9,wl,wok,e⟩:=key
    refine ⟨ws,?_,by omega,wok⟩
    have b1:-1000000000≤os.getD 0 0∧os.getD 0 0≤1000000:=by omega
    have mr':gMul (.lst [.int 8,.int 5]) (.int m)=_:=mr
    have ms':gAdd (.lst [.int (m+1),.int 4,.int 3]) (iD (List.replicate m.toNat [8,5]).flatten)=_:=ms_eq
    generalize iD ([m+1,4,3]++(List.replicate m.toNat [8,5]).flatten)=Mv at hos ms'
    generalize iD (List.replicate m.toNat [8,5]).flatten=Mw at mr' ms'
    have t1:gMul (.int 9) (.int fl)=some (.int (9*fl)):=mulS (by decide) (by decide)
    have body:∀Q r,Q [some (.scr ns),some (.int i),some (.int m),some (.int fl),some (iD os),some (.int gr),none,none,none,none]=r→(sSeq (sSet 5 (f2 gMul (fC (.int 9)) (fV 3))) (sSeq (sIf (cE (f2 gEq (f2 gIx (fV 4) (fC (.int 2))) (fC (.int 0)))) (sSet 5 (f2 gPow (fC (.int 10)) (fC (.int 18)))) sNx) Q)) [some (.scr ns),some (.int i),some (.int m),some (.int fl),some (iD os),none,none,none,none,none]=r:=fun Q r h=>by
      have c:∀z:Option D,(cE (f2 gEq (f2 gIx (fV 4) (fC (.int 2))) (fC (.int 0)))) [some (.scr ns),some (.int i),some (.int m),some (.int fl),some (iD os),z,none,none,none,none]=.ok (os.getD 2 0==0):=fun z=>r_cE (r_f2 (r_f2 rfl rfl (ix 2 (hlo (by decide)) 2 rfl)) rfl rfl)
      by_cases d:os.getD 2 0=0
      · rw [if_pos d] at hgr
        exact r_seq (r_set (r_f2 rfl rfl t1)) (r_seq (r_ifT ((c _).trans (by rw [d];rfl)) (r_set (r_f2 rfl rfl pow10_18))) (by rw [hgr] at h;exact h))
      · rw [if_neg d] at hgr
        exact r_seq (r_set (r_f2 rfl rfl t1)) (r_seq (r_ifF ((c _).trans (congrArg Dl.R.ok (beq_false_of_ne d))) rfl) (by rw [hgr] at h;exact h))
    exact r_run (r_seq (r_set (r_call (r_cons rfl (r_cons rfl (r_cons (r_f2 (r_fA (r_cons (r_f2 rfl rfl rfl) rfl) rfl) (r_f2 rfl rfl mr') ms') rfl))) hos)) (body _ _ (r_seq (r_set rfl) (r_seq (r_for (r_rng (r_cons (r_f2 rfl rfl (ix 0 (hlo (by decide)) 0 rfl)) rfl) b1) e) (r_ret rfl)))))
  · rintro k x ρ hx ⟨ws,o7,o8,o9,wl,wok,rfl⟩
    obtain ⟨hk,rfl⟩:=rngL_at hx
    rw [zero_add]
    have hkm:k<m.toNat:=under hk a0.2
    obtain ⟨c1,c2⟩:=b2 k hkm
    have j0:=ix (2*k+3) (by rw [hol];exact tri k 0 hkm (by decide)) (2*k+3) rfl
    have j1:=ix (2*k+4) (by rw [hol];exact tri k 1 hkm (by decide)) (2*k+3+1) (add_assoc _ 3 1)
    have jj:=ix 1 (hlo (by decide)) 1 rfl
    have sl:ws.length<lim:=by show _<1000000;omega
    obtain ⟨wt,hwt⟩:∃wt,wt=([fl,fl,2*fl,3*fl,gr]:List Int).getD (os.getD (2*k+4) 0).toNat 0:=⟨_,rfl⟩
    have wt1:0≤wt∧wt≤1000000000000000000:=by
      rw [hwt]
      have g:∀n:Int,1≤n→n≤3→0≤n*fl∧n*fl≤1000000000000000000:=fun n n0 n1=>⟨mul_nonneg (Int.le_trans (by decide) n0) (Int.le_trans (by decide) f0),Int.le_trans (Int.mul_le_mul n1 f1 (Int.le_trans (by decide) f0) (by decide)) (by decide)⟩
      have g1:0≤fl∧fl≤1000000000000000000:=⟨Int.le_trans (by decide) f0,Int.le_trans f1 (by decide)⟩
      exact getD_all (P:=fun z=>0≤z∧z≤1000000000000000000) (List.forall_mem_cons.mpr ⟨g1,List.forall_mem_cons.mpr ⟨g1,List.forall_mem_cons.mpr ⟨g 2 (by decide) (by decide),List.forall_mem_cons.mpr ⟨g 3 (by decide) (by decide),List.forall_mem_cons.mpr ⟨gr1,fun _ h=>nomatch h⟩⟩⟩⟩⟩) (show _<5 from (toNat_lt c2.1).mpr c2.2)
    have iw:gIx (.lst [.int fl,.int fl,.int (2*fl),.int (3*fl),.int gr]) (.int (os.getD (2*k+4) 0))=some (.int wt):=by rw [hwt];exact ix_lit [fl,fl,2*fl,3*fl,gr] c2.1 c2.2
    have t1:gMul (.int 2) (.int fl)=some (.int (2*fl)):=mulS (by decide) (by decide)
    have t2:gMul (.int 3) (.int fl)=some (.int (3*fl)):=mulS (by decide) (by decide)
    have t3:gMul (.int 2) (.int (k:Int))=some (.int (2*k)):=mulS (by decide) (by decide)
    have c:(cE (f2 gLt (f2 gIx (fV 4) (fV 8)) (f2 gIx (fA gLst (aCons (fC (.int 0)) (aCons (fC (.int 1)) (aCons (fC (.int 3)) (aCons (fC (.int 6)) aNil))))) (f2 gIx (fV 4) (fC (.int 1)))))) [some (.scr ns),some (.int i),some (.int m),some (.int fl),some (iD os),some (.int gr),some (iD ws),some (.int k),some (.int (2*k+3)),some (.int 0)]=.ok (decide (os.getD (2*k+3) 0<th)):=r_cE (r_f2 (r_f2 rfl rfl j0) (r_f2 rfl (r_f2 rfl rfl jj) ith) (by simp))
    have sl':(ws.map D.int).length<lim:=by rw [length_map];exact sl
    have all:∀z:Int,0≤z∧z≤1000000000000000000→∀x∈ws++[z],0≤x∧x≤1000000000000000000:=fun z hz x hx=>by
      rcases List.mem_append.mp hx with h | h
      · exact wok x h
      · rw [List.mem_singleton.mp h];exact hz
    refine ⟨_,rfl,.inl ?_⟩
    by_cases d:os.getD (2*k+3) 0<th
    · refine ⟨[some (.scr ns),some (.int i),some (.int m),some (.int fl),some (iD os),some (.int gr),some (iD (ws++[wt])),some (.int k),some (.int (2*k+3)),some (.int wt)],.inl ?_,_,_,_,_,by rw [length_append,wl];rfl,all wt wt1,rfl⟩
      rw [show iD (ws++[wt])=.lst (ws.map D.int++[.int wt]) from congrArg D.lst map_append]
      exact r_seq (r_set (r_f2 (r_f2 rfl rfl t3) rfl rfl)) (r_seq (r_set rfl) (r_seq (r_ifT (c.trans (congrArg Dl.R.ok (decide_eq_true d))) (r_set (r_f1 (r_f2 (r_fA (r_cons rfl (r_cons rfl (r_cons (r_f2 rfl rfl t1) (r_cons (r_f2 rfl rfl t2) rfl)))) rfl) (r_f2 rfl (r_f2 rfl rfl rfl) j1) iw) rfl))) (r_app rfl (r_f1 rfl rfl) sl')))
    · refine ⟨[some (.scr ns),some (.int i),some (.int m),some (.int fl),some (iD os),some (.int gr),some (iD (ws++[0])),some (.int k),some (.int (2*k+3)),some (.int 0)],.inl ?_,_,_,_,_,by rw [length_append,wl];rfl,all 0 ⟨by decide,by decide⟩,rfl⟩
      rw [show iD (ws++[0])=.lst (ws.map D.int++[.int 0]) from congrArg D.lst map_append]
      exact r_seq (r_set (r_f2 (r_f2 rfl rfl t3) rfl rfl)) (r_seq (r_set rfl) (r_seq (r_ifF (c.trans (congrArg Dl.R.ok (decide_eq_false d))) rfl) (r_app rfl (r_f1 rfl rfl) sl')))
  · rintro ρ ⟨ws,o7,o8,o9,wl,wok,rfl⟩
    rw [rngL_length] at wl
    exact ⟨ws,o7,o8,o9,wl,wok,rfl⟩
theorem drawn_ok (ns:List Int)(hn:ns.length≤63){i m c:Int}(h0:0≤i)(h1:i<900)(m0:0≤m)(m1:m≤200)(c0:0≤c)(c1:c≤8):∃ws ks,F__law_drawn [.scr ns,.int i,.int m,.int c]=.ok (.tup [iD ws,tD ks])∧(ws.length:Int)≤m∧(∀w∈ws,0≤w∧w≤1000000000000000000)∧(ks.length:Int)≤c∧TabOk ks:=by
 obtain ⟨fl,e1,f0,f1⟩:=flaw_ok ns hn h0 (show i<1000 by omega) c0 (show c≤1000 by omega)
 obtain ⟨ws,e2,w1,w2⟩:=roll_ok ns hn (i:=i+1) (by omega) (by omega) m0 m1 f0 f1
 obtain ⟨ks,e3,k1,k2⟩:=table_ok ns hn h0 (show i<1000 by omega) c0 c1
 exact ⟨ws,ks,r_run (r_seq (r_set (r_call (r_cons rfl (r_cons rfl (r_cons rfl rfl))) e1)) (r_ret (r_fA (r_cons (r_call (r_cons rfl (r_cons (r_f2 rfl rfl rfl) (r_cons rfl (r_cons rfl rfl)))) e2) (r_cons (r_call (r_cons rfl (r_cons rfl (r_cons rfl rfl))) e3) rfl)) rfl))),w1,w2,k1,k2⟩
end Dl
namespace Dl
noncomputable def S:Nat→(Nat→Int)→Int
 | 0,_=>0
 | n+1,f=>S n f+f n
noncomputable def pth (e:Nat→Nat→Int)(a:Nat):Nat→List Int
 | 0=>[1]
 | d+1=>pth e a d++[S (d+1) fun i=>e (a+i) (a+d+1)*(pth e a d).getD i 0]
noncomputable def W (e:Nat→Nat→Int)(a d:Nat):Int:=(pth e a d).getD d 0
end Dl
namespace Dl
open PySem
theorem ending_ok (ns:List Int)(ks:List Kd)(e:Int)(hk:ks.length≤1000)(hw:∀k∈ks,1≤k.w):F_ending [iD ns,tD ks,.int e]=.ok (tD (ks.filter fun k=>good ns k (e - k.w))):=by
 have hl:ks.length≤lim:=by show _≤1000000;omega
 have hc:=comp1 (n:=3) (ρ:=[some (iD ns),some (tD ks),some (.int e)]) (enc:=kD) (p:=fun k=>good ns k (e - k.w)) (v:=kD) (xs:=ks)
  (c:=cE (fCall F_fits (aCons (fV 0) (aCons (fV 3) (aCons (f2 gSub (fV 2) (f2 gIx (fV 3) (fC (.int 1)))) aNil))))) (e:=f1 gFlat (fV 3)) rfl fun k hk=>by
   constructor
   ·simp [fits_ok ns k (e - k.w) (hw k hk)]
   ·intro _;simp
 simp [F_ending,q_ending,tD,hl] at hc ⊢
 simp [hc]
noncomputable def cntStep (ns:List Int)(ks:List Kd)(cs:List Int):Int:=cs.getD (cs.length - 1) 0+((ks.filter fun k=>good ns k ((cs.length:Int) - k.w)).map fun k=>cs.getD ((cs.length:Int) - k.w).toNat 0).sum
noncomputable def cnts (ns:List Int)(ks:List Kd):Nat→List Int
 | 0=>[1]
 | j+1=>cnts ns ks j++[cntStep ns ks (cnts ns ks j)]
noncomputable def cnt (ns:List Int)(ks:List Kd)(j:Nat):Int:=(cnts ns ks j).getD j 0
theorem good_bd {ns:List Int}{k:Kd}{p:Int}(h:good ns k p=true):0≤p∧p+k.w≤ns.length:=by
 have:=of_decide_eq_true h
 exact ⟨this.1,this.2.1⟩
theorem pre_rev (ns:List Int){i:Nat}(h:i≤ns.length):pre ns.reverse i=pre ns ns.length - pre ns (ns.length - i):=by
 unfold pre
 rw [List.take_reverse,List.sum_reverse,List.take_length]
 have e:=List.take_append_drop (ns.length - i) ns
 have:ns.sum=(ns.take (ns.length - i)).sum+(ns.drop (ns.length - i)).sum:=by rw [← List.sum_append,e]
 omega
theorem good_rev {ns:List Int}{k:Kd}{p:Int}(hw:1≤k.w):good ns.reverse k p=good ns k (ns.length - p - k.w):=by
 unfold good
 apply decide_eq_decide.mpr
 rw [length_reverse]
 constructor
 ·rintro ⟨h1,h2,h3⟩
  refine ⟨by omega,by omega,?_⟩
  rw [pre_rev ns (by omega),pre_rev ns (by omega)] at h3
  rw [show ns.length - (p+k.w).toNat=((ns.length:Int) - p - k.w).toNat by omega,show ns.length - p.toNat=((ns.length:Int) - p - k.w+k.w).toNat by omega] at h3
  omega
 ·rintro ⟨h1,h2,h3⟩
  refine ⟨by omega,by omega,?_⟩
  rw [pre_rev ns (by omega),pre_rev ns (by omega)]
  rw [show ns.length - (p+k.w).toNat=((ns.length:Int) - p - k.w).toNat by omega,show ns.length - p.toNat=((ns.length:Int) - p - k.w+k.w).toNat by omega]
  omega
noncomputable abbrev Cut:=List (Int×Str)×Int
noncomputable def cD (c:Cut):D:=.tup [psD c.1,.int c.2]
noncomputable def addK (ns:List Int)(rows:List (List Cut))(e:Nat)(k:Kd):List Cut:=if good ns k ((e:Int) - k.w)=true then (rows.getD ((e:Int) - k.w).toNat []).map fun c=>(c.1++[((e:Int) - k.w,k.name)],c.2+k.wo) else []
noncomputable def rowOf (ns:List Int)(ks:List Kd)(rows:List (List Cut)):List Cut:=rows.getD (rows.length - 1) []++(ks.map (addK ns rows rows.length)).flatten
noncomputable def rowsA (ns:List Int)(ks:List Kd):Nat→List (List Cut)
 | 0=>[[([],0)]]
 | j+1=>rowsA ns ks j++[rowOf ns ks (rowsA ns ks j)]
theorem rowsA_len (ns:List Int)(ks:List Kd):∀j,(rowsA ns ks j).length=j+1
 | 0=>rfl
 | j+1=>by rw [rowsA,length_append,rowsA_len ns ks j];rfl
noncomputable def rowA (ns:List Int)(ks:List Kd)(j:Nat):List Cut:=(rowsA ns ks j).getD j []
theorem rowsA_at (ns:List Int)(ks:List Kd):∀(j i:Nat),i≤j→(rowsA ns ks j).getD i []=rowA ns ks i
 | 0,i,h=>by
  have:i=0:=by omega
  subst this
  rfl
 | j+1,i,h=>by
  by_cases e:i=j+1
  ·subst e;rfl
  ·rw [rowsA]
   have hl:=rowsA_len ns ks j
   have hi:i<(rowsA ns ks j).length:=by omega
   have:∀x:List Cut,(rowsA ns ks j++[x]).getD i []=(rowsA ns ks j).getD i []:=fun x=>by simp [List.getD,getElem?_append_left hi]
   rw [this]
   exact rowsA_at ns ks j i (by omega)
theorem rowA_succ (ns:List Int)(ks:List Kd)(hw:∀k∈ks,1≤k.w)(j:Nat):rowA ns ks (j+1)=rowA ns ks j++(ks.map fun k=>if good ns k ((j+1:Nat) - k.w)=true then (rowA ns ks (((j+1:Nat):Int) - k.w).toNat).map fun c=>(c.1++[(((j+1:Nat):Int) - k.w,k.name)],c.2+k.wo) else []).flatten:=by
 have hl:=rowsA_len ns ks j
 have e:rowA ns ks (j+1)=rowOf ns ks (rowsA ns ks j):=by
  unfold rowA
  rw [rowsA]
  simp [List.getD,← hl]
 rw [e]
 unfold rowOf
 rw [hl,Nat.add_sub_cancel]
 congr 2
 refine List.map_congr_left fun k hk=>?_
 unfold addK
 split
 ·rename_i hg
  have:=good_bd hg
  have:=hw k hk
  rw [rowsA_at ns ks j _ (by omega)]
 ·rfl
theorem rowA_le (ns:List Int)(ks:List Kd)(hw:∀k∈ks,1≤k.w):∀j,(rowA ns ks j).length≤(ks.length+1) ^ j:=by
 intro j
 induction j using Nat.strongRecOn with
 | ind j ih =>
  cases j with
  | zero=>exact le_refl 1
  | succ j =>
   rw [rowA_succ ns ks hw,length_append]
   have h0:=ih j (by omega)
   have:∀l:List Kd,(∀k∈l,1≤k.w)→(l.map fun k=>if good ns k ((j+1:Nat) - k.w)=true then (rowA ns ks (((j+1:Nat):Int) - k.w).toNat).map fun c=>((c.1++[(((j+1:Nat):Int) - k.w,k.name)],c.2+k.wo):Cut) else []).flatten.length≤l.length*(ks.length+1) ^ j:=by
    intro l hl
    induction l with
    | nil=>simp
    | cons k l ihl =>
     have ihl:=ihl fun x hx=>hl x (.tail _ hx)
     have hk:=hl k (.head _)
     rw [map_cons,flatten_cons,length_append,length_cons,Nat.succ_mul]
     by_cases hg:good ns k ((j+1:Nat) - k.w)=true
     ·have b:=good_bd hg
      rw [if_pos hg,length_map]
      have h1:=ih (((j+1:Nat):Int) - k.w).toNat (by omega)
      have h2:(ks.length+1) ^ (((j+1:Nat):Int) - k.w).toNat≤(ks.length+1) ^ j:=Nat.pow_le_pow_right (by omega) (by omega)
      omega
     ·rw [if_neg hg,List.length_nil,Nat.zero_add];omega
   have h3:=this ks hw
   rw [Nat.pow_succ,Nat.mul_add,Nat.mul_comm]
   omega
theorem rowA_pieces (ns:List Int)(ks:List Kd)(hw:∀k∈ks,1≤k.w):∀j,∀c∈rowA ns ks j,c.1.length≤j:=by
 intro j
 induction j using Nat.strongRecOn with
 | ind j ih =>
  cases j with
  | zero =>
   intro c hc
   have:c=([],0):=by simpa [rowA,rowsA] using hc
   subst this
   simp
  | succ j =>
   intro c hc
   rw [rowA_succ ns ks hw] at hc
   rcases List.mem_append.mp hc with h | h
   ·have:=ih j (by omega) c h;omega
   ·obtain ⟨l,hl,hc⟩:=List.mem_flatten.mp h
    obtain ⟨k,hk,rfl⟩:=List.mem_map.mp hl
    split at hc
    ·rename_i hg
     have b:=good_bd hg
     have:=hw k hk
     obtain ⟨c0,h0,rfl⟩:=List.mem_map.mp hc
     have:=ih _ (by omega) c0 h0
     rw [length_append,length_singleton]
     omega
    ·cases hc
noncomputable def rD (rows:List (List Cut)):D:=.lst (rows.map fun r=>.lst (r.map cD))
theorem rD_at {rows:List (List Cut)}{i:Int}{k:Nat}(e:i=(k:Int))(h:k<rows.length):gIx (rD rows) (.int i)=some (.lst ((rows.getD k []).map cD)):=ix_l e (by simp [h,List.getD])
theorem take_flat {α:Type}(f:α→List Cut){l:List α}{i:Nat}{x:α}(h:l[i]?=some x):((l.take (i+1)).map f).flatten=((l.take i).map f).flatten++f x:=by
 rw [List.take_add_one,h]
 simp
theorem len_take_flat {α:Type}(f:α→List Cut)(l:List α)(i:Nat):((l.take i).map f).flatten.length≤(l.map f).flatten.length:=by
 have:(l.map f).flatten=((l.take i).map f).flatten++((l.drop i).map f).flatten:=by
  rw [← List.flatten_append,← map_append,List.take_append_drop]
 rw [this,length_append]
 omega
theorem inner_ok (ns:List Int)(ks:List Kd)(hw:∀k∈ks,1≤k.w)(rows:List (List Cut))(j:Nat)(hl:rows.length=j+1)(base:List Cut)(hb:(base++(ks.map (addK ns rows (j+1))).flatten).length≤5000)
  (hp:∀r∈rows,r.length≤5000∧∀c∈r,c.1.length≤1000) (o6 o7 o8:Option D) :
  ∃o6' o7' o8',forD (bName 6) l__law_all_5 (ks.map kD) [some (iD ns),some (tD ks),some (iD (sumsOf ns)),some (rD rows),some (.int ((j+1:Nat):Int)),some (.lst (base.map cD)),o6,o7,o8] =
   .ok (.nx [some (iD ns),some (tD ks),some (iD (sumsOf ns)),some (rD rows),some (.int ((j+1:Nat):Int)),some (.lst ((base++(ks.map (addK ns rows (j+1))).flatten).map cD)),o6',o7',o8']):=by
 refine forD_inv (P:=fun i ρ=>∃o6 o7 o8,ρ=[some (iD ns),some (tD ks),some (iD (sumsOf ns)),some (rD rows),some (.int ((j+1:Nat):Int)),some (.lst ((base++((ks.take i).map (addK ns rows (j+1))).flatten).map cD)),o6,o7,o8])
  (Rr:=fun r=>∃o6' o7' o8',r=.ok (.nx [some (iD ns),some (tD ks),some (iD (sumsOf ns)),some (rD rows),some (.int ((j+1:Nat):Int)),some (.lst ((base++(ks.map (addK ns rows (j+1))).flatten).map cD)),o6',o7',o8'])) ⟨o6,o7,o8,by simp⟩ ?_ ?_
 ·rintro i x ρ hx ⟨a6,a7,a8,rfl⟩
  rw [getElem?_map] at hx
  obtain ⟨k,hk,rfl⟩:=Option.map_eq_some_iff.mp hx
  have hkm:=mem_of_getElem? hk
  have hw1:=hw k hkm
  refine ⟨_,rfl,.inl ?_⟩
  rw [take_flat (addK ns rows (j+1)) hk]
  have hg:=good_ok ns k (((j+1:Nat):Int) - k.w) hw1
  have hlen:=len_take_flat (addK ns rows (j+1)) ks (i+1)
  rw [take_flat (addK ns rows (j+1)) hk,length_append] at hlen
  rw [length_append] at hb
  generalize hB:((ks.take i).map (addK ns rows (j+1))).flatten=B at hlen ⊢
  cases hgv:good ns k (((j+1:Nat):Int) - k.w) with
  | false =>
   rw [hgv] at hg
   have e:addK ns rows (j+1) k=[]:=by
    unfold addK
    rw [if_neg (by rw [hgv];simp)]
   rw [e,append_nil]
   generalize ((j+1:Nat):Int)=J at hg ⊢
   generalize (base++B).map cD=BB
   exact ⟨[some (iD ns),some (tD ks),some (iD (sumsOf ns)),some (rD rows),some (.int J),some (.lst BB),some (kD k),some (.int (J - k.w)),a8],.inl (by simp [l__law_all_5,hg]),_,_,_,rfl⟩
  | true =>
   rw [hgv] at hg
   have bd:=good_bd hgv
   obtain ⟨q,hq⟩:∃q:Nat,((j+1:Nat):Int) - k.w=(q:Int):=⟨(((j+1:Nat):Int) - k.w).toNat,by omega⟩
   have hqj:q<rows.length:=by omega
   have ea:addK ns rows (j+1) k=(rows.getD q []).map fun c=>(c.1++[((q:Int),k.name)],c.2+k.wo):=by
    unfold addK
    rw [if_pos hgv,hq,Int.toNat_natCast]
   have hat:=rD_at (rows:=rows) (i:=(q:Int)) (k:=q) rfl hqj
   have hrm:rows.getD q []∈rows:=by
    rw [List.getD,getElem?_eq_getElem hqj]
    exact getElem_mem hqj
   obtain ⟨hr1,hr2⟩:=hp _ hrm
   rw [ea,length_map] at hlen
   rw [ea]
   generalize rows.getD q []=r at hat hr1 hr2 hlen
   rw [hq] at hg
   have hJ:((j+1:Nat):Int)=q+k.w:=by omega
   generalize ((j+1:Nat):Int)=J at hJ hg ⊢
   have hrl:r.length≤lim:=by show _≤1000000;omega
   have hc:=comp2' (n:=9) (ρ:=[some (iD ns),some (tD ks),some (iD (sumsOf ns)),some (rD rows),some (.int J),some (.lst ((base++B).map cD)),some (kD k),some (.int q),some (pD ((q:Int),k.name))]) (f:=fun c:Cut=>psD c.1) (g:=fun c:Cut=>.int c.2) (v:=fun c:Cut=>cD (c.1++[((q:Int),k.name)],c.2+k.wo)) (xs:=r)
    (e:=fA gTup (aCons (f2 gAdd (fV 9) (fA gLst (aCons (fV 8) aNil))) (aCons (f2 gAdd (fV 10) (f2 gIx (fV 6) (fC (.int 2)))) aNil))) rfl fun c hc=>by
     have h1:(c.1.map pD).length+1≤lim:=by
      have:=hr2 c hc
      rw [length_map]
      show _≤1000000
      omega
     have ha:gAdd (psD c.1) (.lst [pD ((q:Int),k.name)])=some (psD (c.1++[((q:Int),k.name)])):=by
      unfold psD gAdd
      simp only []
      rw [if_pos ⟨h1,flatA_pD _,rfl⟩,map_append]
      rfl
     simp [ha,cD]
   have h3:((base++B).map cD).length+(r.map fun c:Cut=>cD (c.1++[((q:Int),k.name)],c.2+k.wo)).length≤lim:=by
    rw [length_map,length_map,length_append]
    show _≤1000000
    omega
   have e3:(base++(B++r.map fun c:Cut=>((c.1++[((q:Int),k.name)],c.2+k.wo):Cut))).map cD=(base++B).map cD++r.map fun c:Cut=>cD (c.1++[((q:Int),k.name)],c.2+k.wo):=by
    rw [← append_assoc,map_append,map_map]
    rfl
   rw [e3]
   have e4:(r.map fun c:Cut=>D.tup [psD c.1,.int c.2])=r.map cD:=rfl
   rw [e4] at hc
   have hJ2:J - k.w=q:=by omega
   generalize (base++B).map cD=BB at *
   generalize hVV:(r.map fun c:Cut=>cD (c.1++[((q:Int),k.name)],c.2+k.wo))=VV at *
   have hrl2:(r.map cD).length≤lim:=by rw [length_map];exact hrl
   generalize r.map cD=RR at *
   have hix:gIxL (rD rows) (.int q)=some (.lst RR):=hat
   have hp8:(D.tup [.int q,.str k.name])=pD ((q:Int),k.name):=rfl
   exact ⟨[some (iD ns),some (tD ks),some (iD (sumsOf ns)),some (rD rows),some (.int J),some (.lst (BB++VV)),some (kD k),some (.int q),some (pD ((q:Int),k.name))],.inl (by simp [l__law_all_5,hJ2,hg,hix,hrl2,hp8,hc,h3]),_,_,_,rfl⟩
 ·rintro ρ ⟨a6,a7,a8,rfl⟩
  rw [length_map,take_of_length_le (le_refl _)]
  exact ⟨_,_,_,rfl⟩
theorem rowsA_mem {ns:List Int}{ks:List Kd}{j:Nat}{r:List Cut}(h:r∈rowsA ns ks j):∃i,i≤j∧r=rowA ns ks i:=by
 obtain ⟨i,hi,e⟩:=List.getElem_of_mem h
 have hl:=rowsA_len ns ks j
 refine ⟨i,by omega,?_⟩
 rw [← rowsA_at ns ks j i (by omega),List.getD,getElem?_eq_getElem hi,e]
 rfl
theorem all_ok (ns:List Int)(ks:List Kd)(hn:ns.length≤900)(hk:ks.length≤1000)(hw:∀k∈ks,1≤k.w)(hp:(ks.length+1) ^ ns.length≤4096):F__law_all [iD ns,tD ks]=.ok (.lst ((rowA ns ks ns.length).map cD)):=by
  have hsum:=sums_ok ns (by omega)
  have hsl:=sums_len ns
  have hkl:ks.length≤lim:=by show _≤1000000;omega
  have hpw:∀i,i≤ns.length→(rowA ns ks i).length≤4096:=fun i hi=>le_trans (rowA_le ns ks hw i) (le_trans (Nat.pow_le_pow_right (by omega) hi) hp)
  have hf:=forD_inv (b:=bName 4) (s:=l__law_all_3) (xs:=rngL 1 ns.length) (ρ:=[some (iD ns),some (tD ks),some (iD (sumsOf ns)),some (rD (rowsA ns ks 0)),none,none,none,none,none])
    (P:=fun j ρ=>∃o4 o5 o6 o7 o8,ρ=[some (iD ns),some (tD ks),some (iD (sumsOf ns)),some (rD (rowsA ns ks j)),o4,o5,o6,o7,o8]) (Rr:=fun r=>∃o4 o5 o6 o7 o8,r=.ok (.nx [some (iD ns),some (tD ks),some (iD (sumsOf ns)),some (rD (rowsA ns ks ns.length)),o4,o5,o6,o7,o8])) ⟨none,none,none,none,none,rfl⟩ ?_ ?_
  · obtain ⟨o4,o5,o6,o7,o8,e⟩:=hf
    have hl:=rowsA_len ns ks ns.length
    have b:=rngOf2_ok (i:=1) (j:=((sumsOf ns).length:Int)) (n:=ns.length) (by omega) (by omega) (by omega) (by omega) (by omega) (by omega)
    have i1:gIxL (rD (rowsA ns ks ns.length)) (.int (-1))=some (.lst ((rowA ns ks ns.length).map cD)):=by
      show atD ((rowsA ns ks ns.length).map fun r=>D.lst (r.map cD)) (-1)=_
      have hne:rowsA ns ks ns.length≠[]:=fun h=>by rw [h] at hl;simp at hl
      have hla:(rowsA ns ks ns.length).getLast hne=rowA ns ks ns.length:=by
        rw [List.getLast_eq_getElem,rowA,List.getD,getElem?_eq_getElem (by omega)]
        simp [hl]
      rw [← List.dropLast_concat_getLast hne,hla,map_append,List.map_singleton]
      exact atD_last _ _
    have e0:rD (rowsA ns ks 0)=.lst [.lst [.tup [.lst [],.int 0]]]:=rfl
    rw [e0] at e
    simp only [iD] at e hsum
    simp [-getD_eq_getElem?_getD,F__law_all,q__law_all,iD,hsum,b,e,i1]
  · rintro j x ρ hx ⟨o4,o5,o6,o7,o8,rfl⟩
    obtain ⟨hj,rfl⟩:=rngL_at hx
    have hl:=rowsA_len ns ks j
    have hi:(1:Int)+j=((j+1:Nat):Int):=by omega
    rw [hi]
    have hro:rowOf ns ks (rowsA ns ks j)=rowA ns ks j++(ks.map (addK ns (rowsA ns ks j) (j+1))).flatten:=by
      unfold rowOf
      rw [hl,Nat.add_sub_cancel]
      rfl
    have hs1:rowA ns ks (j+1)=rowOf ns ks (rowsA ns ks j):=by
      rw [rowA,rowsA,List.getD,← hl,List.getElem?_concat_length]
      rfl
    have hb:=hpw (j+1) (by omega)
    rw [hs1,hro] at hb
    obtain ⟨o6',o7',o8',hin⟩:=inner_ok ns ks hw (rowsA ns ks j) j hl (rowA ns ks j) (by omega) (fun r hr=>by
      obtain ⟨i,hi,rfl⟩:=rowsA_mem hr
      refine ⟨by have:=hpw i (by omega);omega,fun c hc=>?_⟩
      have:=rowA_pieces ns ks hw i c hc
      omega) o6 o7 o8
    have i1:gIxL (rD (rowsA ns ks j)) (.int (((j+1:Nat):Int) - 1))=some (.lst ((rowA ns ks j).map cD)):=rD_at (by omega) (by omega)
    have sl:((rowsA ns ks j).map fun r=>D.lst (r.map cD)).length<lim:=by rw [length_map,hl];show _<1000000;omega
    have er:rD (rowsA ns ks (j+1))=.lst (((rowsA ns ks j).map fun r=>D.lst (r.map cD))++[.lst ((rowA ns ks j++(ks.map (addK ns (rowsA ns ks j) (j+1))).flatten).map cD)]):=by
      rw [← hro,rD,rowsA,map_append]
      rfl
    refine ⟨_,rfl,.inl ⟨[some (iD ns),some (tD ks),some (iD (sumsOf ns)),some (rD (rowsA ns ks (j+1))),some (.int ((j+1:Nat):Int)),some (.lst ((rowA ns ks j++(ks.map (addK ns (rowsA ns ks j) (j+1))).flatten).map cD)),o6',o7',o8'],.inl ?_,_,_,_,_,_,rfl⟩⟩
    rw [er]
    generalize (rowA ns ks j++(ks.map (addK ns (rowsA ns ks j) (j+1))).flatten).map cD=X at *
    generalize (rowA ns ks j).map cD=Y at *
    generalize ((j+1:Nat):Int)=J at *
    have ht:tD ks=.lst (ks.map kD):=rfl
    have hkl2:(ks.map kD).length≤lim:=by rw [length_map];exact hkl
    generalize ks.map kD=KK at *
    have hrr:rD (rowsA ns ks j)=.lst ((rowsA ns ks j).map fun r=>D.lst (r.map cD)):=rfl
    generalize ((rowsA ns ks j).map fun r=>D.lst (r.map cD))=ZZ at *
    rw [hrr] at i1 hin ⊢
    rw [ht] at hin ⊢
    simp only [ixL_l] at i1
    simp [l__law_all_3,i1,hkl2,hin,sl]
  · rintro ρ ⟨o4,o5,o6,o7,o8,rfl⟩
    rw [rngL_length]
    exact ⟨o4,o5,o6,o7,o8,rfl⟩
mutual
theorem eqv_self:∀d:D,dep d≤20→eqv d d=true
 | .non,_=>rfl
 | .bl b,_=>beq_self_eq_true b
 | .int b,_=>beq_self_eq_true b
 | .str b,_=>beq_self_eq_true b
 | .lst xs,h=>eqvA_self xs (Nat.le_of_succ_le h)
 | .tup xs,h=>eqvA_self xs (Nat.le_of_succ_le h)
 | .scr _,h=>absurd h (by decide:¬100≤20)
 | .rng _ _,h=>absurd h (by decide:¬100≤20)
 | .exc _ _,h=>absurd h (by decide:¬100≤20)
 | .obj _ _ _,h=>absurd h (by decide:¬100≤20)
 | .dct _ _,h=>absurd h (by decide:¬100≤20)
 | .dtt _ _,h=>absurd h (by decide:¬100≤20)
theorem eqvA_self:∀xs:List D,depA xs≤20→eqvA xs xs=true
 | [],_=>rfl
 | x::xs,h=>by
  have a:dep x≤20∧depA xs≤20:=Nat.max_le.mp h
  show (eqv x x&&eqvA xs xs)=true
  rw [eqv_self x a.1,eqvA_self xs a.2]
  rfl
end
theorem gEq_self {d:D}(h:dep d≤20):gEq d d=some (.bl true):=by
 unfold gEq
 rw [if_pos ⟨h,h⟩,eqv_self d h]
theorem depA_map {α:Type}{f:α→D}{n:Nat}(h:∀a,dep (f a)≤n):∀xs:List α,depA (xs.map f)≤n
 | []=>zero_le _
 | x::xs=>by
  rw [map_cons,depA]
  have:=h x
  have:=depA_map h xs
  omega
theorem dep_iD (ns:List Int):dep (iD ns)≤1:=by
 rw [iD,dep]
 have:=depA_map (f:=D.int) (n:=0) (fun _=>by simp [dep]) ns
 omega
theorem dep_kD (k:Kd):dep (kD k)≤1:=by simp [kD,dep,depA]
theorem dep_tD (ks:List Kd):dep (tD ks)≤2:=by
 rw [tD,dep]
 have:=depA_map (f:=kD) dep_kD ks
 omega
theorem foldl_max_ge:∀(r:List Int) (x:Int),x≤r.foldl max x∧∀y∈r,y≤r.foldl max x
 | [],x=>⟨Int.le_refl _,fun _ h=>nomatch h⟩
 | z::r,x=>by
  obtain ⟨h1,h2⟩:=foldl_max_ge r (max x z)
  rw [foldl_cons]
  refine ⟨by omega,fun y hy=>?_⟩
  rcases List.mem_cons.mp hy with e | e
  ·subst e;omega
  ·exact h2 y e
theorem foldl_max_mem:∀(r:List Int) (x:Int),r.foldl max x=x∨r.foldl max x∈r
 | [],x=>.inl rfl
 | z::r,x=>by
  rw [foldl_cons]
  rcases foldl_max_mem r (max x z) with h | h
  ·rw [h]
   by_cases hz:z≤x
   ·exact .inl (by omega)
   ·refine .inr ?_
    rw [show max x z=z by omega]
    exact .head _
  ·exact .inr (.tail _ h)
theorem maxL_ge {xs:List Int}{y:Int}(h:y∈xs):y≤maxL xs:=by
 cases xs with
 | nil=>cases h
 | cons x r =>
  obtain ⟨h1,h2⟩:=foldl_max_ge r x
  show y≤r.foldl max x
  rcases List.mem_cons.mp h with e | e
  ·subst e;exact h1
  ·exact h2 y e
theorem maxL_mem {xs:List Int}(h:xs≠[]):maxL xs∈xs:=by
 cases xs with
 | nil=>exact absurd rfl h
 | cons x r =>
  show r.foldl max x∈_
  rcases foldl_max_mem r x with e | e
  ·rw [e];exact .head _
  ·exact .tail _ e
noncomputable def hStep (ns:List Int)(ks:List Kd)(ts:List Int):Int:=maxL (ts.getD (ts.length - 1) 0::(ks.filter fun k=>good ns k ((ts.length:Int) - k.w)).map fun k=>ts.getD ((ts.length:Int) - k.w).toNat 0+k.wo)
noncomputable def hts (ns:List Int)(ks:List Kd):Nat→List Int
 | 0=>[0]
 | j+1=>hts ns ks j++[hStep ns ks (hts ns ks j)]
theorem hts_len (ns:List Int)(ks:List Kd):∀j,(hts ns ks j).length=j+1
 | 0=>rfl
 | j+1=>by rw [hts,length_append,hts_len ns ks j];rfl
noncomputable def ht (ns:List Int)(ks:List Kd)(j:Nat):Int:=(hts ns ks j).getD j 0
theorem hts_at (ns:List Int)(ks:List Kd):∀(j i:Nat),i≤j→(hts ns ks j).getD i 0=ht ns ks i
 | 0,i,h=>by
  have:i=0:=by omega
  subst this
  rfl
 | j+1,i,h=>by
  by_cases e:i=j+1
  ·subst e;rfl
  ·have:=hts_len ns ks j
   rw [← hts_at ns ks j i (by omega),hts]
   simp only [List.getD]
   rw [getElem?_append_left (by omega)]
theorem ht_succ (ns:List Int)(ks:List Kd)(hw:∀k∈ks,1≤k.w)(j:Nat):ht ns ks (j+1)=maxL (ht ns ks j::(ks.filter fun k=>good ns k ((j+1:Nat) - k.w)).map fun k=>ht ns ks (((j+1:Nat):Int) - k.w).toNat+k.wo):=by
 have hl:=hts_len ns ks j
 have e:ht ns ks (j+1)=hStep ns ks (hts ns ks j):=by
  unfold ht
  rw [hts]
  simp only [List.getD]
  rw [getElem?_append_right (by omega),hl]
  simp
 rw [e,hStep,hl,show j+1 - 1=j by omega,hts_at ns ks j j (le_refl _)]
 congr 2
 refine List.map_congr_left fun k hk=>?_
 obtain ⟨k1,k2⟩:=List.mem_filter.mp hk
 have:=good_bd k2
 have:=hw k k1
 rw [hts_at ns ks j _ (by omega)]
theorem ht_mono (ns:List Int)(ks:List Kd)(hw:∀k∈ks,1≤k.w)(j:Nat):ht ns ks j≤ht ns ks (j+1):=by
 rw [ht_succ ns ks hw j]
 exact maxL_ge (.head _)
theorem ht_step (ns:List Int)(ks:List Kd)(hw:∀k∈ks,1≤k.w){k:Kd}(hk:k∈ks){p:Int}(hg:good ns k p=true):ht ns ks p.toNat+k.wo≤ht ns ks (p+k.w).toNat:=by
 have bd:=good_bd hg
 have hw1:=hw k hk
 obtain ⟨j,hj⟩:∃j:Nat,p+k.w=((j+1:Nat):Int):=⟨(p+k.w - 1).toNat,by omega⟩
 have hp:p=((j+1:Nat):Int) - k.w:=by omega
 rw [hj,Int.toNat_natCast,ht_succ ns ks hw j,hp]
 refine maxL_ge (.tail _ (List.mem_map.mpr ⟨k,List.mem_filter.mpr ⟨hk,?_⟩,rfl⟩))
 rw [← hp]
 exact hg
theorem ht_is (ns:List Int)(ks:List Kd)(hw:∀k∈ks,1≤k.w)(j:Nat):ht ns ks (j+1)=ht ns ks j∨∃k∈ks,good ns k ((j+1:Nat) - k.w)=true∧ht ns ks (((j+1:Nat):Int) - k.w).toNat+k.wo=ht ns ks (j+1):=by
 have h:=maxL_mem (xs:=ht ns ks j::(ks.filter fun k=>good ns k ((j+1:Nat) - k.w)).map fun k=>ht ns ks (((j+1:Nat):Int) - k.w).toNat+k.wo) (fun e=>nomatch e)
 rw [← ht_succ ns ks hw j] at h
 rcases List.mem_cons.mp h with e | e
 ·exact .inl e
 ·obtain ⟨k,k1,k2⟩:=List.mem_map.mp e
  obtain ⟨k3,k4⟩:=List.mem_filter.mp k1
  exact .inr ⟨k,k3,k4,k2⟩
theorem eq_str (a b:Str):gEq (.str a) (.str b)=some (.bl (a==b)):=rfl
theorem eq_int (a b:Int):gEq (.int a) (.int b)=some (.bl (a==b)):=rfl
theorem ne_int (a b:Int):gNe (.int a) (.int b)=some (.bl (!(a==b))):=rfl
theorem rowA_zero (ns:List Int)(ks:List Kd):rowA ns ks 0=[([],0)]:=rfl
theorem mem_rowA (ns:List Int)(ks:List Kd)(hw:∀k∈ks,1≤k.w)(j:Nat)(c:Cut):c∈rowA ns ks (j+1)↔c∈rowA ns ks j∨∃k∈ks,good ns k ((j+1:Nat) - k.w)=true∧∃c'∈rowA ns ks (((j+1:Nat):Int) - k.w).toNat,c=(c'.1++[(((j+1:Nat):Int) - k.w,k.name)],c'.2+k.wo):=by
 rw [rowA_succ ns ks hw j,List.mem_append]
 refine or_congr Iff.rfl ?_
 rw [List.mem_flatten]
 constructor
 ·rintro ⟨l,hl,hc⟩
  obtain ⟨k,k1,rfl⟩:=List.mem_map.mp hl
  split at hc
  ·rename_i hg
   obtain ⟨c',c1,rfl⟩:=List.mem_map.mp hc
   exact ⟨k,k1,hg,c',c1,rfl⟩
  ·cases hc
 ·rintro ⟨k,k1,hg,c',c1,rfl⟩
  refine ⟨_,List.mem_map.mpr ⟨k,k1,rfl⟩,?_⟩
  rw [if_pos hg]
  exact List.mem_map.mpr ⟨c',c1,rfl⟩
theorem rowA_ht (ns:List Int)(ks:List Kd)(hw:∀k∈ks,1≤k.w):∀j,(∀c∈rowA ns ks j,c.2≤ht ns ks j)∧∃c∈rowA ns ks j,c.2=ht ns ks j:=by
 intro j
 induction j using Nat.strongRecOn with
 | _ j ih =>
  cases j with
  | zero =>
   refine ⟨fun c hc=>?_,([],0),.head _,rfl⟩
   rw [rowA_zero] at hc
   rw [List.mem_singleton.mp hc]
   exact Int.le_refl _
  | succ j =>
   refine ⟨fun c hc=>?_,?_⟩
   ·rcases (mem_rowA ns ks hw j c).mp hc with h | ⟨k,k1,hg,c',c1,rfl⟩
    ·have:=(ih j (by omega)).1 c h
     have:=ht_mono ns ks hw j
     omega
    ·have bd:=good_bd hg
     have hw1:=hw k k1
     have h1:=(ih (((j+1:Nat):Int) - k.w).toNat (by omega)).1 c' c1
     have h2:=ht_step ns ks hw k1 hg
     rw [show ((j+1:Nat):Int) - k.w+k.w=((j+1:Nat):Int) by omega,Int.toNat_natCast] at h2
     show c'.2+k.wo≤_
     omega
   ·rcases ht_is ns ks hw j with h | ⟨k,k1,hg,h⟩
    ·obtain ⟨c,c1,c2⟩:=(ih j (by omega)).2
     exact ⟨c,(mem_rowA ns ks hw j c).mpr (.inl c1),by rw [h,c2]⟩
    ·have bd:=good_bd hg
     have hw1:=hw k k1
     obtain ⟨c,c1,c2⟩:=(ih (((j+1:Nat):Int) - k.w).toNat (by omega)).2
     exact ⟨_,(mem_rowA ns ks hw j _).mpr (.inr ⟨k,k1,hg,c,c1,rfl⟩),by rw [← h,← c2]⟩
inductive Way (ns:List Int)(ks:List Kd):Nat→Nat→Int→Prop where
 | nil (a:Nat):Way ns ks a a 0
 | skip {a b:Nat} {w:Int}:Way ns ks a b w→b+1≤ns.length→Way ns ks a (b+1) w
 | piece {a b:Nat} {w:Int} {k:Kd}:Way ns ks a b w→k∈ks→good ns k (b:Int)=true→Way ns ks a (b+k.w.toNat) (w+k.wo)
section
variable {ns:List Int}{ks:List Kd}
theorem Way.trans {a b c:Nat}{w v:Int}(h:Way ns ks a b w)(g:Way ns ks b c v):Way ns ks a c (w+v):=by
 induction g with
 | nil=>rw [Int.add_zero];exact h
 | skip _ hb ih=>exact ih.skip hb
 | piece _ hk hg ih =>
  rw [← add_assoc]
  exact ih.piece hk hg
theorem Way.one {a:Nat}(h:a+1≤ns.length):Way ns ks a (a+1) 0:=(Way.nil a).skip h
theorem Way.pc {a:Nat}{k:Kd}(hk:k∈ks)(hg:good ns k (a:Int)=true):Way ns ks a (a+k.w.toNat) k.wo:=by
 have:=(Way.nil (ns:=ns) (ks:=ks) a).piece hk hg
 rwa [zero_add] at this
theorem Way.rev (hw:∀k∈ks,1≤k.w){a b:Nat}{w:Int}(h:Way ns ks a b w):a≤ns.length→Way ns.reverse ks (ns.length - b) (ns.length - a) w:=by
 induction h with
 | nil=>exact fun _=>.nil _
 | @skip b w h hb ih =>
  intro ha
  have i:=ih ha
  have o:=Way.one (ns:=ns.reverse) (ks:=ks) (a:=ns.length - (b+1)) (by rw [length_reverse];omega)
  rw [show ns.length - (b+1)+1=ns.length - b by omega] at o
  have:=o.trans i
  rwa [zero_add] at this
 | @piece b w k h hk hg ih =>
  intro ha
  have i:=ih ha
  have bd:=good_bd hg
  have h1:=hw k hk
  have hg':good ns.reverse k ((ns.length - (b+k.w.toNat):Nat):Int)=true:=by
   rw [good_rev h1,show (ns.length:Int) - ((ns.length - (b+k.w.toNat):Nat):Int) - k.w=(b:Int) by omega]
   exact hg
  have o:=Way.pc (ns:=ns.reverse) hk hg'
  rw [show ns.length - (b+k.w.toNat)+k.w.toNat=ns.length - b by omega] at o
  have:=o.trans i
  rwa [Int.add_comm] at this
end
noncomputable def V {α:Type}:R α→(α→Prop)→Prop
 | .ok a,Q=>Q a
 | .err _ _,_=>False
 | .bad,_=>False
@[simp] theorem V_ok {α:Type}(a:α)(Q:α→Prop):V (.ok a) Q=Q a:=(rfl)
noncomputable def turn (b:FB)(s:FS)(x:D)(ρ:Env):R Fl:=(b x ρ).calm.bind s
noncomputable def Tn (P:Env→Prop)(Q:Fl→Prop):Fl→Prop
 | .nx ρ=>P ρ
 | .cnt ρ=>P ρ
 | .brk ρ=>Q (.nx ρ)
 | .ret d=>Q (.ret d)
@[simp] theorem Tn_nx (P:Env→Prop)(Q:Fl→Prop)(ρ:Env):Tn P Q (.nx ρ)=P ρ:=(rfl)
@[simp] theorem Tn_cnt (P:Env→Prop)(Q:Fl→Prop)(ρ:Env):Tn P Q (.cnt ρ)=P ρ:=(rfl)
@[simp] theorem Tn_brk (P:Env→Prop)(Q:Fl→Prop)(ρ:Env):Tn P Q (.brk ρ)=Q (.nx ρ):=(rfl)
@[simp] theorem Tn_ret (P:Env→Prop)(Q:Fl→Prop)(d:D):Tn P Q (.ret d)=Q (.ret d):=(rfl)
@[simp] theorem turn_name (i:Nat)(s:FS)(x:D)(ρ:Env):turn (bName i) s x ρ=s (ρ.set i (some x)):=(rfl)
@[simp] theorem ev_fJoin (a b:FE)(ρ:Env):fJoin a b ρ=(a ρ).bind fun x=>match x with | .str s=>(b ρ).bind fun y=>oR (gJoin (.str s) y) | _=>.bad:=(rfl)
@[simp] theorem calm_bad {α:Type}:(R.bad:R α).calm=.bad:=(rfl)
@[simp] theorem gLst_7 (a0 a1 a2 a3 a4 a5 a6:D):gLst [a0,a1,a2,a3,a4,a5,a6]=some (.lst [a0,a1,a2,a3,a4,a5,a6]):=rfl
@[simp] theorem gLst_8 (a0 a1 a2 a3 a4 a5 a6 a7:D):gLst [a0,a1,a2,a3,a4,a5,a6,a7]=some (.lst [a0,a1,a2,a3,a4,a5,a6,a7]):=rfl
@[simp] theorem gLst_9 (a0 a1 a2 a3 a4 a5 a6 a7 a8:D):gLst [a0,a1,a2,a3,a4,a5,a6,a7,a8]=some (.lst [a0,a1,a2,a3,a4,a5,a6,a7,a8]):=rfl
noncomputable def eL:Nat→List Int→List D
 | _,[]=>[]
 | k,w::r=>.tup [.int (k:Int),.int w]::eL (k+1) r
theorem forD_step {b:FB}{s:FS}{x:D}{xs:List D}{ρ ρ1:Env}(hb:b x ρ=.ok ρ1):forD b s (x::xs) ρ=(s ρ1).bind fun fl=>match fl with
  | .nx ρ2=>forD b s xs ρ2
  | .cnt ρ2=>forD b s xs ρ2
  | .brk ρ2=>.ok (.nx ρ2)
  | .ret d=>.ok (.ret d):=by
 rw [forD_cons,hb]
 rfl
theorem short_ok (ns:List Int)(ks:List Kd)(hn:ns.length≤900)(hk:ks.length≤8):∃c,c≤ns.length∧(ks.length+1) ^ c≤4096∧F__law_short [iD ns,tD ks]=.ok (iD (ns.take c)):=by
 have key:∀m c n:Nat,m+c=ns.length→m<n→(ks.length+1) ^ c≤4096→∃c',c'≤ns.length∧(ks.length+1) ^ c'≤4096∧whileD (cAnd (cE (f2 gLt (fV 3) (fA gLen (aCons (fV 0) aNil)))) (cE (f2 gLe (f2 gMul (fV 2) (f2 gAdd (fA gLen (aCons (fV 1) aNil)) (fC (.int 1)))) (fC (.int 4096))))) l__law_short_3 n [some (iD ns),some (tD ks),some (.int (((ks.length+1) ^ c:Nat):Int)),some (.int c)]=.ok (.nx [some (iD ns),some (tD ks),some (.int (((ks.length+1) ^ c':Nat):Int)),some (.int c')]):=by
  intro m
  induction m with
  | zero =>
   intro c n hc hn' hp
   obtain ⟨n,rfl⟩:∃k,n=k+1:=⟨n - 1,by omega⟩
   refine ⟨c,by omega,hp,?_⟩
   have:¬(c:Int)<ns.length:=by omega
   simp [whileD,iD,tD,this]
  | succ m ih =>
   intro c n hc hn' hp
   obtain ⟨n,rfl⟩:∃k,n=k+1:=⟨n - 1,by omega⟩
   have h1:(c:Int)<ns.length:=by omega
   have t:gMul (.int (((ks.length+1) ^ c:Nat):Int)) (.int ((ks.length:Int)+1))=some (.int (((ks.length+1) ^ c:Nat)*((ks.length:Int)+1))):=mul_ii (.inr ⟨by omega,by omega⟩)
   have e:(((ks.length+1) ^ c:Nat):Int)*((ks.length:Int)+1)=(((ks.length+1) ^ (c+1):Nat):Int):=by rw [Nat.pow_succ];simp
   by_cases h2:(((ks.length+1) ^ (c+1):Nat):Int)≤4096
   ·obtain ⟨c',q1,q2,q3⟩:=ih (c+1) n (by omega) (by omega) (by omega)
    refine ⟨c',q1,q2,?_⟩
    rw [← q3]
    rw [e] at t
    generalize (((ks.length+1) ^ (c+1):Nat):Int)=B at *
    generalize (((ks.length+1) ^ c:Nat):Int)=A at *
    simp [whileD,iD,tD,h1,t,h2,l__law_short_3]
   ·refine ⟨c,by omega,hp,?_⟩
    rw [e] at t
    generalize (((ks.length+1) ^ (c+1):Nat):Int)=B at *
    generalize (((ks.length+1) ^ c:Nat):Int)=A at *
    simp [whileD,iD,tD,h1,t,h2]
 obtain ⟨c,q1,q2,q3⟩:=key ns.length 0 100000 (by omega) (by omega) (by simp)
 refine ⟨c,q1,q2,?_⟩
 have ct:cut ns none (some (c:Int))=ns.take c:=by rw [cut_to (by omega)];simp
 simp only [iD] at q3
 have q3':whileD _ _ _ [some (.lst (ns.map D.int)),some (tD ks),some (.int 1),some (.int 0)]=_:=q3
 simp [-map_take,F__law_short,q__law_short,iD,q3',ct]
structure T2 (S:Int→Prop)(m:Int)(o:Option Int):Prop where
 has:S m
 top:∀x,S x→x≤m
 non:o=none→∀x,S x→x=m
 som:∀b,o=some b→S b∧b<m∧∀x,S x→x<m→x≤b
theorem T2.same36 {S:Int→Prop}{m m':Int}{o o':Option Int}(a:T2 S m o)(b:T2 S m' o'):m=m'∧o=o':=by
 have e:m=m':=Int.le_antisymm (b.top _ a.has) (a.top _ b.has)
 subst e
 refine ⟨rfl,?_⟩
 cases o with
 | none =>
  cases o' with
  | none=>rfl
  | some y =>
   obtain ⟨h1,h2,-⟩:=b.som y rfl
   have:=a.non rfl y h1
   omega
 | some x =>
  obtain ⟨h1,h2,h3⟩:=a.som x rfl
  cases o' with
  | none =>
   have:=b.non rfl x h1
   omega
  | some y =>
   obtain ⟨g1,g2,g3⟩:=b.som y rfl
   have:=h3 y g1 g2
   have:=g3 x h1 h2
   rw [show x=y by omega]
theorem T2.upto {X S:Int→Prop}{m:Int}{o:Option Int}(h1:∀x,X x→S x)(h2:∀x,S x→X x∨∃b c,X b∧X c∧x<b∧b<c)(t:T2 X m o):T2 S m o where
 has:=h1 _ t.has
 top:=fun x hx=>by
  rcases h2 x hx with h | ⟨b,c,hb,hc,l1,l2⟩
  ·exact t.top x h
  ·have:=t.top c hc
   omega
 non:=fun e x hx=>by
  rcases h2 x hx with h | ⟨b,c,hb,hc,l1,l2⟩
  ·exact t.non e x h
  ·have:=t.non e b hb
   have:=t.non e c hc
   omega
 som:=fun y e=>by
  obtain ⟨g1,g2,g3⟩:=t.som y e
  refine ⟨h1 _ g1,g2,fun x hx hl=>?_⟩
  rcases h2 x hx with h | ⟨b,c,hb,hc,l1,l2⟩
  ·exact g3 x h hl
  ·have:=t.top c hc
   have:=g3 b hb (by omega)
   omega
theorem T2.congr {X S:Int→Prop}{m:Int}{o:Option Int}(h:∀x,X x↔S x)(t:T2 X m o):T2 S m o:=t.upto (fun x=>(h x).mp) fun x hx=>.inl ((h x).mpr hx)
noncomputable def asc (m:Int):Option Int→List Int
 | none=>[m]
 | some b=>[b,m]
noncomputable def dsc (m:Int):Option Int→List Int
 | none=>[m]
 | some b=>[m,b]
noncomputable def secD:Option Int→D
 | none=>.non
 | some b=>.int b
def Two (f:Int→Option Int→List Int):Prop:=∀m o,(∀y,y∈f m o↔y=m∨o=some y)∧(f m o).length≤2∧f m o≠[]
theorem two_asc:Two asc:=fun m o=>by
 cases o with
 | none=>exact ⟨fun y=>by simp [asc],by simp [asc],by simp [asc]⟩
 | some b=>exact ⟨fun y=>by simp [asc,or_comm,eq_comm],by simp [asc],by simp [asc]⟩
theorem two_dsc:Two dsc:=fun m o=>by
 cases o with
 | none=>exact ⟨fun y=>by simp [dsc],by simp [dsc],by simp [dsc]⟩
 | some b=>exact ⟨fun y=>by simp [dsc,eq_comm],by simp [dsc],by simp [dsc]⟩
theorem T2.near {S:Int→Prop}{m:Int}{o:Option Int}{f:Int→Option Int→List Int}(hf:Two f)(t:T2 S m o){y:Int}(hy:S y):y∈f m o∨∃b c,b∈f m o∧c∈f m o∧y<b∧b<c:=by
 have q:=(hf m o).1
 by_cases e:y=m
 ·exact .inl ((q y).mpr (.inl e))
 ·have hl:=t.top y hy
  cases o with
  | none=>exact absurd (t.non rfl y hy) e
  | some b =>
   obtain ⟨g1,g2,g3⟩:=t.som b rfl
   have:=g3 y hy (by omega)
   by_cases e2:y=b
   ·exact .inl ((q y).mpr (.inr (by rw [e2])))
   ·exact .inr ⟨b,m,(q b).mpr (.inr rfl),(q m).mpr (.inl rfl),by omega,g2⟩
def Wr (ns:List Int)(ks:List Kd)(j:Nat)(x:Int):Prop:=∃c∈rowA ns ks j,c.2=x
section
variable {ns:List Int}{ks:List Kd}
theorem Wr_zero {x:Int}:Wr ns ks 0 x↔x=0:=by
 unfold Wr
 rw [rowA_zero]
 constructor
 ·rintro ⟨c,hc,rfl⟩
  rw [List.mem_singleton.mp hc]
 ·rintro rfl
  exact ⟨_,List.mem_singleton.mpr rfl,rfl⟩
theorem Wr_succ (hw:∀k∈ks,1≤k.w){j:Nat}{x:Int}:Wr ns ks (j+1) x↔Wr ns ks j x∨∃k∈ks,good ns k ((j+1:Nat) - k.w)=true∧∃y,Wr ns ks (((j+1:Nat):Int) - k.w).toNat y∧x=y+k.wo:=by
 constructor
 ·rintro ⟨c,hc,rfl⟩
  rcases (mem_rowA ns ks hw j c).mp hc with h | ⟨k,k1,hg,c',h1,rfl⟩
  ·exact .inl ⟨c,h,rfl⟩
  ·exact .inr ⟨k,k1,hg,c'.2,⟨c',h1,rfl⟩,rfl⟩
 ·rintro (⟨c,hc,rfl⟩ | ⟨k,k1,hg,y,⟨c,hc,rfl⟩,rfl⟩)
  ·exact ⟨c,(mem_rowA ns ks hw j c).mpr (.inl hc),rfl⟩
  ·exact ⟨_,(mem_rowA ns ks hw j _).mpr (.inr ⟨k,k1,hg,c,hc,rfl⟩),rfl⟩
theorem Wr_way (hw:∀k∈ks,1≤k.w):∀(j:Nat),j≤ns.length→∀x,Wr ns ks j x↔Way ns ks 0 j x:=by
 intro j
 induction j using Nat.strongRecOn with
 | _ j ih =>
  intro hj x
  cases j with
  | zero =>
   rw [Wr_zero]
   constructor
   ·rintro rfl;exact .nil 0
   ·intro h
    generalize hz:(0:Nat)=z at h
    cases h with
    | nil=>rfl
    | skip=>cases hz
    | piece _ hk _=>have:=hw _ hk;omega
  | succ j =>
   rw [Wr_succ hw]
   constructor
   ·rintro (h | ⟨k,k1,hg,y,hy,rfl⟩)
    ·exact ((ih j (by omega) (by omega) x).mp h).skip hj
    ·have bd:=good_bd hg
     have h1:=hw k k1
     have p:=((ih _ (by omega) (by omega) y).mp hy).piece k1 (by rw [show (((((j+1:Nat):Int) - k.w).toNat:Nat):Int)=((j+1:Nat):Int) - k.w by omega];exact hg)
     rwa [show (((j+1:Nat):Int) - k.w).toNat+k.w.toNat=j+1 by omega] at p
   ·intro h
    generalize hz:j+1=z at h
    cases h with
    | nil=>cases hz
    | @skip b w h hb =>
     cases hz
     exact .inl ((ih j (by omega) (by omega) x).mpr h)
    | @piece b w k h hk hg =>
     have h1:=hw k hk
     have bd:=good_bd hg
     have hb:((b+k.w.toNat:Nat):Int) - k.w=(b:Int):=by omega
     refine .inr ⟨k,hk,by rw [hb];exact hg,w,?_,rfl⟩
     rw [hb,Int.toNat_natCast]
     exact (ih b (by omega) (by omega) w).mpr h
theorem Wr_rev (hw:∀k∈ks,1≤k.w)(x:Int):Wr ns.reverse ks ns.length x↔Wr ns ks ns.length x:=by
 rw [Wr_way hw _ (by simp),Wr_way hw _ (le_refl _)]
 constructor
 ·intro h
  have:=h.rev hw (zero_le _)
  rw [List.reverse_reverse,length_reverse,sub_self,Nat.sub_zero] at this
  exact this
 ·intro h
  have:=h.rev hw (zero_le _)
  rw [sub_self,Nat.sub_zero] at this
  exact this
noncomputable def stepX (ns:List Int)(ks:List Kd)(rows:List (List Int))(j:Nat):List Int:=rows.getD j []++((ks.filter fun k=>good ns k (((j+1:Nat):Int) - k.w)).map fun k=>(rows.getD (((j+1:Nat):Int) - k.w).toNat []).map (·+k.wo)).flatten
def RowsOk (ns:List Int)(ks:List Kd)(f:Int→Option Int→List Int)(rows:List (List Int)):Prop:=∀i,i<rows.length→∃m o,T2 (Wr ns ks i) m o∧rows.getD i []=f m o
theorem mem_stepX {rows:List (List Int)}{j:Nat}{x:Int}:x∈stepX ns ks rows j↔x∈rows.getD j []∨∃k∈ks,good ns k (((j+1:Nat):Int) - k.w)=true∧∃y∈rows.getD (((j+1:Nat):Int) - k.w).toNat [],x=y+k.wo:=by
 unfold stepX
 rw [List.mem_append,List.mem_flatten]
 constructor
 ·rintro (h | ⟨l,hl,hx⟩)
  ·exact .inl h
  ·obtain ⟨k,hk,rfl⟩:=List.mem_map.mp hl
   obtain ⟨k1,k2⟩:=List.mem_filter.mp hk
   obtain ⟨y,hy,rfl⟩:=List.mem_map.mp hx
   exact .inr ⟨k,k1,k2,y,hy,rfl⟩
 ·rintro (h | ⟨k,k1,k2,y,hy,rfl⟩)
  ·exact .inl h
  ·exact .inr ⟨_,List.mem_map.mpr ⟨k,List.mem_filter.mpr ⟨k1,k2⟩,rfl⟩,List.mem_map.mpr ⟨y,hy,rfl⟩⟩
theorem step_T2 (hw:∀k∈ks,1≤k.w){f:Int→Option Int→List Int}(hf:Two f){rows:List (List Int)}{j:Nat}(hl:rows.length=j+1)(hr:RowsOk ns ks f rows){m:Int}{o:Option Int}(t:T2 (·∈stepX ns ks rows j) m o):T2 (Wr ns ks (j+1)) m o:=by
 have sub:∀i,i<rows.length→∀y,y∈rows.getD i []→Wr ns ks i y:=fun i hi y hy=>by
  obtain ⟨m',o',t',e⟩:=hr i hi
  rw [e] at hy
  rcases ((hf m' o').1 y).mp hy with z | z
  ·rw [z];exact t'.has
  ·exact (t'.som y z).1
 have near:∀i,i<rows.length→∀y,Wr ns ks i y→y∈rows.getD i []∨∃b c,b∈rows.getD i []∧c∈rows.getD i []∧y<b∧b<c:=fun i hi y hy=>by
  obtain ⟨m',o',t',e⟩:=hr i hi
  rw [e]
  exact t'.near hf hy
 refine t.upto (fun x hx=>?_) fun x hx=>?_
 ·rcases mem_stepX.mp hx with h | ⟨k,k1,hg,y,hy,rfl⟩
  ·exact (Wr_succ hw).mpr (.inl (sub j (by omega) x h))
  ·have bd:=good_bd hg
   have h1:=hw k k1
   exact (Wr_succ hw).mpr (.inr ⟨k,k1,hg,y,sub _ (by omega) y hy,rfl⟩)
 ·rcases (Wr_succ hw).mp hx with h | ⟨k,k1,hg,y,hy,rfl⟩
  ·rcases near j (by omega) x h with z | ⟨b,c,hb,hc,l1,l2⟩
   ·exact .inl (mem_stepX.mpr (.inl z))
   ·exact .inr ⟨b,c,mem_stepX.mpr (.inl hb),mem_stepX.mpr (.inl hc),l1,l2⟩
  ·have bd:=good_bd hg
   have h1:=hw k k1
   rcases near _ (by omega) y hy with z | ⟨b,c,hb,hc,l1,l2⟩
   ·exact .inl (mem_stepX.mpr (.inr ⟨k,k1,hg,y,z,rfl⟩))
   ·exact .inr ⟨b+k.wo,c+k.wo,mem_stepX.mpr (.inr ⟨k,k1,hg,b,hb,rfl⟩),mem_stepX.mpr (.inr ⟨k,k1,hg,c,hc,rfl⟩),by omega,by omega⟩
theorem rows_len2 {f:Int→Option Int→List Int}(hf:Two f){rows:List (List Int)}(hr:RowsOk ns ks f rows)(i:Nat):(rows.getD i []).length≤2:=by
 by_cases hi:i<rows.length
 ·obtain ⟨m,o,-,e⟩:=hr i hi
  rw [e]
  exact (hf m o).2.1
 ·rw [getD_eq_getElem?_getD,List.getElem?_eq_none (by omega)]
  exact zero_le _
theorem flat_len2 {α:Type}(g:α→List Int)(hg:∀a,(g a).length≤2):∀l:List α,((l.map g).flatten).length≤2*l.length
 | []=>le_refl _
 | a::l=>by
  have:=flat_len2 g hg l
  have:=hg a
  rw [map_cons,flatten_cons,length_append,length_cons]
  omega
theorem stepX_len {f:Int→Option Int→List Int}(hf:Two f){rows:List (List Int)}(hr:RowsOk ns ks f rows)(hk:ks.length≤8)(j:Nat):(stepX ns ks rows j).length≤18:=by
 unfold stepX
 rw [length_append]
 have h1:=rows_len2 hf hr j
 have h2:=flat_len2 (fun k:Kd=>(rows.getD (((j+1:Nat):Int) - k.w).toNat []).map (·+k.wo)) (fun k=>by rw [length_map];exact rows_len2 hf hr _) (ks.filter fun k=>good ns k (((j+1:Nat):Int) - k.w))
 have h3:=List.length_filter_le (fun k=>good ns k (((j+1:Nat):Int) - k.w)) ks
 omega
theorem stepX_ne {f:Int→Option Int→List Int}(hf:Two f){rows:List (List Int)}{j:Nat}(hl:rows.length=j+1)(hr:RowsOk ns ks f rows):stepX ns ks rows j≠[]:=fun e=>by
 obtain ⟨m,o,-,e2⟩:=hr j (by omega)
 unfold stepX at e
 exact (hf m o).2.2 (e2▸(List.append_eq_nil_iff.mp e).1)
theorem rows_zero {f:Int→Option Int→List Int}(h0:f 0 none=[0]):RowsOk ns ks f [[0]]:=fun i hi=>by
 have:i=0:=by simp at hi;exact hi
 subst this
 refine ⟨0,none,⟨Wr_zero.mpr rfl,fun x hx=>by rw [Wr_zero.mp hx];exact Int.le_refl _,fun _ x hx=>Wr_zero.mp hx,fun b e=>(nomatch e)⟩,h0.symm⟩
theorem rows_add {f:Int→Option Int→List Int}{rows:List (List Int)}(hr:RowsOk ns ks f rows){m:Int}{o:Option Int}(t:T2 (Wr ns ks rows.length) m o):RowsOk ns ks f (rows++[f m o]):=fun i hi=>by
 rw [length_append,length_singleton] at hi
 by_cases h:i<rows.length
 ·obtain ⟨m',o',t',e⟩:=hr i h
  refine ⟨m',o',t',?_⟩
  rw [← e,getD_eq_getElem?_getD,getD_eq_getElem?_getD,getElem?_append_left h]
 ·have:i=rows.length:=by omega
  subst this
  exact ⟨m,o,t,by rw [getD_eq_getElem?_getD,getElem?_append_right (le_refl _)];simp⟩
end
theorem sec_T2 {X:List Int}(h:X≠[]):∃o,T2 (·∈X) (maxL X) o∧((o=none∧X.filter (fun x=>decide (x<maxL X))=[])∨(X.filter (fun x=>decide (x<maxL X))≠[]∧o=some (maxL (X.filter fun x=>decide (x<maxL X))))):=by
 by_cases e:X.filter (fun x=>decide (x<maxL X))=[]
 ·refine ⟨none,⟨maxL_mem h,fun x hx=>maxL_ge hx,fun _ x hx=>?_,fun b z=>(nomatch z)⟩,.inl ⟨rfl,e⟩⟩
  have h1:=maxL_ge hx
  have h2:=List.filter_eq_nil_iff.mp e x hx
  rw [decide_eq_true_eq] at h2
  omega
 ·refine ⟨some (maxL (X.filter fun x=>decide (x<maxL X))),⟨maxL_mem h,fun x hx=>maxL_ge hx,fun z=>(nomatch z),fun b z=>?_⟩,.inr ⟨e,rfl⟩⟩
  cases z
  have h1:=maxL_mem e
  obtain ⟨h2,h3⟩:=List.mem_filter.mp h1
  rw [decide_eq_true_eq] at h3
  exact ⟨h2,h3,fun x hx hl=>maxL_ge (List.mem_filter.mpr ⟨hx,by rw [decide_eq_true_eq];exact hl⟩)⟩
theorem addKs_mem (ks:List Int)(n x:Int):x∈addKs ks n↔x∈ks∨x=n:=by
 unfold addKs
 split
 ·rename_i h
  constructor
  ·exact .inl
  ·rintro (z | rfl)
   ·exact z
   ·exact h
 ·simp
theorem addAll_mem:∀(ns ks:List Int) (x:Int),x∈addAll ks ns↔x∈ks∨x∈ns
 | [],ks,x=>by simp [addAll]
 | n::ns,ks,x=>by
  rw [addAll,addAll_mem ns _ x,addKs_mem,List.mem_cons,or_assoc]
theorem addKs_nd {ks:List Int}(h:ks.Nodup)(n:Int):(addKs ks n).Nodup:=by
 unfold addKs
 split
 ·exact h
 ·rename_i hn
  refine List.nodup_append.mpr ⟨h,by simp,fun a ha b hb e=>?_⟩
  rw [List.mem_singleton] at hb
  subst hb e
  exact hn ha
theorem addAll_nd:∀(ns ks:List Int),ks.Nodup→(addAll ks ns).Nodup
 | [],ks,h=>h
 | n::ns,ks,h=>addAll_nd ns _ (addKs_nd h n)
theorem sortI_up (l:List Int):(sortI l).Pairwise (·≤·):=by
 have:=List.pairwise_mergeSort (le:=fun a b:Int=>decide (a≤b)) (fun a b c h1 h2=>by simp at *;omega) (fun a b=>by simp;omega) l
 exact this.imp fun h=>by simpa using h
theorem cut_last2 {α:Type}(l:List α):cut l (some (-2)) none=l.drop (l.length - 2):=by
 unfold cut
 have h1:sixD l.length 0 (some (-2))=l.length - 2:=by
  unfold sixD
  simp
  try omega
 have h2:sixD l.length l.length none=l.length:=rfl
 rw [h1,h2]
 exact take_of_length_le (by rw [List.length_drop];omega)
theorem last2:∀(Y:List Int),Y≠[]→Y.Pairwise (·<·)→∃m o,T2 (·∈Y) m o∧Y.drop (Y.length - 2)=asc m o
 | [],h,_=>absurd rfl h
 | [m],_,_=>⟨m,none,⟨List.mem_singleton.mpr rfl,fun x hx=>by rw [List.mem_singleton.mp hx];exact Int.le_refl _,fun _ x hx=>List.mem_singleton.mp hx,fun b z=>(nomatch z)⟩,rfl⟩
 | [b,m],_,hp=>by
  have hl:b<m:=by simp at hp;exact hp
  refine ⟨m,some b,⟨by simp,fun x hx=>?_,fun z=>(nomatch z),fun c z=>?_⟩,rfl⟩
  ·simp at hx
   omega
  ·cases z
   refine ⟨by simp,hl,fun x hx h=>?_⟩
   simp at hx
   omega
 | a::b::c::Y,_,hp=>by
  obtain ⟨h1,h2⟩:=List.pairwise_cons.mp hp
  obtain ⟨m,o,t,e⟩:=last2 (b::c::Y) (by simp) h2
  refine ⟨m,o,t.upto (fun x hx=>mem_cons_of_mem _ hx) fun x hx=>?_,?_⟩
  ·rcases List.mem_cons.mp hx with rfl | hx
   ·exact .inr ⟨b,c,by simp,by simp,h1 b (by simp),(List.pairwise_cons.mp h2).1 c (by simp)⟩
   ·exact .inl hx
  ·rw [← e]
   simp only [length_cons]
   rw [show Y.length+1+1+1 - 2=(Y.length+1+1 - 2)+1 by omega,List.drop_succ_cons]
theorem set_last2 (X:List Int)(h:X≠[]):∃m o,T2 (·∈X) m o∧cut (sortI (addAll [] X)) (some (-2)) none=asc m o:=by
 have hp:=List.mergeSort_perm (addAll [] X) (fun a b:Int=>decide (a≤b))
 have hm:∀x,x∈sortI (addAll [] X)↔x∈X:=fun x=>by
  rw [show sortI (addAll [] X)=(addAll [] X).mergeSort (fun a b:Int=>decide (a≤b)) from rfl,hp.mem_iff,addAll_mem]
  simp
 have nd:(sortI (addAll [] X)).Nodup:=hp.nodup_iff.mpr (addAll_nd X [] nodup_nil)
 have up:(sortI (addAll [] X)).Pairwise (·<·):=by
  have:=(sortI_up (addAll [] X)).and nd
  exact this.imp fun h=>by omega
 have hne:sortI (addAll [] X)≠[]:=fun e=>by
  obtain ⟨x,r,rfl⟩:=List.exists_cons_of_ne_nil h
  have:=(hm x).mpr (mem_cons_self ..)
  rw [e] at this
  cases this
 obtain ⟨m,o,t,e⟩:=last2 _ hne up
 exact ⟨m,o,t.congr hm,by rw [cut_last2];exact e⟩
noncomputable def q__law_second:FS:=
  (sSeq (sSet 1 (fA gMax (aCons (fV 0) aNil)))
    (sSeq (sSet 2 (fComp 3 1 (jList (fV 0)) (bName 3) (cE (f2 gLt (fV 3) (fV 1))) (f1 gFlat (fV 3))))
    (sSeq (sIf (cE (f2 gEq (fA gLen (aCons (fV 2) aNil)) (fC (.int 0)))) (sRet (fC .non)) sNx)
    (sRet (fA gMax (aCons (fV 2) aNil))))))
noncomputable def F__law_second (ds:List D):R D:=(run 3 q__law_second ds).calm
noncomputable def l__law_walked_5:FS:=
  (sSeq (sSet 7 (f2 gSub (fV 4) (f2 gIx (fV 6) (fC (.int 1)))))
    (sIf (cE (fCall F__law_good (aCons (fV 2) (aCons (fV 6) (aCons (fV 7) aNil))))) (sExt 5 (fComp 9 1 (jList (f2 gIx (fV 3) (fV 7))) (bName 9) cYes (f2 gAdd (fV 9) (f2 gIx (fV 6) (fC (.int 2)))))) sNx))
noncomputable def l__law_walked_3:FS:=
  (sSeq (sSet 5 (fA gList (aCons (f2 gIx (fV 3) (f1 gNeg (fC (.int 1)))) aNil)))
    (sSeq (sFor (jList (fV 1)) (bName 6) l__law_walked_5)
    (sSeq (sSet 8 (fCall F__law_second (aCons (fV 5) aNil)))
    (sIf (cE (f2 gIs (fV 8) (fC .non))) (sApp 3 (fA gLst (aCons (fA gMax (aCons (fV 5) aNil)) aNil))) (sApp 3 (fA gLst (aCons (fA gMax (aCons (fV 5) aNil)) (aCons (f1 gFlat (fV 8)) aNil))))))))
noncomputable def q__law_walked:FS:=
  (sSeq (sSet 2 (fCall F__law_sums (aCons (fV 0) aNil)))
    (sSeq (sSet 3 (fA gLst (aCons (fA gLst (aCons (fC (.int 0)) aNil)) aNil)))
    (sSeq (sFor (jRng2 (aCons (fC (.int 1)) (aCons (fA gLen (aCons (fV 2) aNil)) aNil))) (bName 4) l__law_walked_3)
    (sRet (fCall F__law_second (aCons (f2 gIx (fV 3) (f1 gNeg (fC (.int 1)))) aNil))))))
noncomputable def F__law_walked (ds:List D):R D:=(run 9 q__law_walked ds).calm
noncomputable def l_runner_up_4:FS:=
 (sExt 4 (fComp 6 1 (jList (f2 gIx (fV 2) (f2 gSub (fV 3) (f2 gIx (fV 5) (fC (.int 1)))))) (bName 6) cYes (f2 gAdd (fV 6) (f2 gIx (fV 5) (fC (.int 2))))))
noncomputable def l_runner_up_2:FS:=
  (sSeq (sSet 4 (fA gList (aCons (f2 gIx (fV 2) (f1 gNeg (fC (.int 1)))) aNil)))
    (sSeq (sFor (jList (fCall F_ending (aCons (fV 0) (aCons (fV 1) (aCons (fV 3) aNil))))) (bName 5) l_runner_up_4)
    (sApp 2 (fSl gSl (f1 gSortS (fV 4)) (oSome (f1 gNeg (fC (.int 2)))) oNone))))
noncomputable def q_runner_up:FS:=
  (sSeq (sSet 2 (fA gLst (aCons (fA gLst (aCons (fC (.int 0)) aNil)) aNil)))
    (sSeq (sFor (jRng2 (aCons (fC (.int 1)) (aCons (f2 gAdd (fA gLen (aCons (fV 0) aNil)) (fC (.int 1))) aNil))) (bName 3) l_runner_up_2)
    (sSeq (sIf (cE (f2 gEq (fA gLen (aCons (f2 gIx (fV 2) (f1 gNeg (fC (.int 1)))) aNil)) (fC (.int 1)))) (sRet (fC .non)) sNx)
    (sRet (f1 gFlat (f2 gIx (f2 gIx (fV 2) (f1 gNeg (fC (.int 1)))) (fC (.int 0))))))))
noncomputable def F_runner_up (ds:List D):R D:=(run 6 q_runner_up ds).calm
noncomputable def l__law_right_2:FS:=
  (sSeq (sSet 5 (fCall F_runner_up (aCons (f2 gIx (fV 3) (fC (.int 0))) (aCons (f2 gIx (fV 3) (fC (.int 1))) aNil))))
    (sSeq (sIf (cAnd (cE (f2 gIs (fV 2) (fC .non))) (cE (f2 gIsNot (fV 5) (fC .non)))) (sRet (fC (.bl false))) sNx)
    (sSeq (sIf (cAnd (cE (f2 gIsNot (fV 2) (fC .non))) (cOr (cE (f1 (gIsI "bool") (fV 5))) (cNot (cE (f1 (gIsI "int") (fV 5)))))) (sRet (fC (.bl false))) sNx)
    (sIf (cE (f2 gNe (fV 5) (fV 2))) (sRet (fC (.bl false))) sNx))))
noncomputable def q__law_right:FS:=
  (sSeq (sSet 3 (fA gLst (aCons (fA gList (aCons (fV 0) aNil)) (aCons (fA gList (aCons (fV 1) aNil)) aNil))))
    (sSeq (sFor (jRng1 (aCons (fC (.int 2)) aNil)) (bName 4) l__law_right_2)
    (sRet (f2 gEq (fV 3) (fA gLst (aCons (fV 0) (aCons (fV 1) aNil)))))))
noncomputable def F__law_right (ds:List D):R D:=(run 6 q__law_right ds).calm
noncomputable def q_law:FS:=
  (sSeq (sSet 1 (fC (.int 40)))
    (sSeq (sIf (cE (f2 gEq (f2 gIx (fCall F__law_row (aCons (fV 0) (aCons (fC (.int 2)) (aCons (fA gLst (aCons (fC (.int 8)) aNil)) aNil)))) (fC (.int 0))) (fC (.int 0)))) (sSet 1 (fC (.int 200))) sNx)
    (sSeq (sAsg (fCall F__law_drawn (aCons (fV 0) (aCons (fC (.int 0)) (aCons (fV 1) (aCons (fC (.int 8)) aNil))))) (bTup (bCons (bName 2) (bCons (bName 3) bNil))))
    (sSeq (sSet 4 (fCall F__law_short (aCons (fV 2) (aCons (fV 3) aNil))))
    (sSeq (sSet 5 (fCall F__law_second (aCons (fComp 6 2 (jList (fCall F__law_all (aCons (fV 4) (aCons (fV 3) aNil)))) (bTup (bCons (bName 6) (bCons (bName 7) bNil))) cYes (f1 gFlat (fV 7))) aNil)))
    (sSeq (sIf (cOr (cNot (cE (fCall F__law_right (aCons (fV 4) (aCons (fV 3) (aCons (fV 5) aNil)))))) (cNot (cE (fCall F__law_right (aCons (f2 gRev (fV 4) (f1 gNeg (fC (.int 1)))) (aCons (fV 3) (aCons (fV 5) aNil))))))) (sRet (fC (.bl false))) sNx)
    (sSeq (sSet 5 (fCall F__law_walked (aCons (fV 2) (aCons (fV 3) aNil))))
    (sRet (fAnd (fCall F__law_right (aCons (fV 2) (aCons (fV 3) (aCons (fV 5) aNil)))) (fCall F__law_right (aCons (f2 gRev (fV 2) (f1 gNeg (fC (.int 1)))) (aCons (fV 3) (aCons (fV 5) aNil)))))))))))))
noncomputable def F_law (ds:List D):R D:=(run 6 q_law ds).calm
noncomputable def rowsD (rows:List (List Int)):D:=.lst (rows.map iD)
theorem rowsD_at {rows:List (List Int)}{i:Int}{k:Nat}(e:i=(k:Int))(h:k<rows.length):gIx (rowsD rows) (.int i)=some (iD (rows.getD k [])):=ix_l e (by simp [h,List.getD])
theorem rowsD_last {rows:List (List Int)}{j:Nat}(h:rows.length=j+1):gIx (rowsD rows) (.int (-1))=some (iD (rows.getD j [])):=by
 show atD (rows.map iD) (-1)=_
 unfold atD ixD
 have e:((-1:Int)+((j:Int)+1)).toNat=j:=by omega
 have hj:rows[j]?=some rows[j]:=getElem?_eq_getElem (by omega)
 simp [h,List.getD,show (1:Int)≤(j:Int)+1 by omega,e,hj]
theorem r_ext36 {i:Nat}{e:FE}{ρ:Env}{xs ys:List D}(hv:ρ[i]?=some (some (.lst xs)))(h:e ρ=.ok (.lst ys))(hl:xs.length+ys.length≤1000000):sExt i e ρ=.ok (.nx (ρ.set i (some (.lst (xs++ys))))):=by
 simp [sExt,hv,h,show xs.length+ys.length≤lim from hl]
section
variable {ns:List Int}{ks:List Kd}
noncomputable def flatX (rows:List (List Int))(J:Nat)(g:List Kd):List Int:=(g.map fun k=>(rows.getD (((J:Nat):Int) - k.w).toNat []).map (·+k.wo)).flatten
theorem flatX_cons (rows:List (List Int))(J:Nat)(k:Kd)(g:List Kd):flatX rows J (k::g)=(rows.getD (((J:Nat):Int) - k.w).toNat []).map (·+k.wo)++flatX rows J g:=by
 unfold flatX
 rw [map_cons,flatten_cons]
theorem innerR {A B:D}{rows:List (List Int)}{J:Nat}(h2:∀i,(rows.getD i []).length≤2):∀(g:List Kd) (X:List Int) (o5:Option D),(∀k∈g,0≤(J:Int) - k.w∧(J:Int) - k.w<rows.length)→X.length+2*g.length≤1000→
  ∃o5',forD (bName 5) l_runner_up_4 (g.map kD) [some A,some B,some (rowsD rows),some (.int J),some (iD X),o5]=.ok (.nx [some A,some B,some (rowsD rows),some (.int J),some (iD (X++flatX rows J g)),o5'])
 | [],X,o5,_,_=>⟨o5,by rw [show flatX rows J []=[] from rfl,append_nil];rfl⟩
 | k::g,X,o5,hg,hl=>by
  obtain ⟨b0,b1⟩:=hg k (mem_cons_self ..)
  have hx:=rowsD_at (rows:=rows) (i:=(J:Int) - k.w) (k:=((J:Int) - k.w).toNat) (by omega) (by omega)
  have h3:=h2 ((J:Int) - k.w).toNat
  rw [flatX_cons,map_cons,← append_assoc]
  obtain ⟨L,eL⟩:∃L,rows.getD ((J:Int) - k.w).toNat []=L:=⟨_,rfl⟩
  rw [eL] at hx h3 ⊢
  obtain ⟨o5',e⟩:=innerR (A:=A) (B:=B) h2 g (X++L.map (·+k.wo)) (some (kD k)) (fun k' hk'=>hg k' (mem_cons_of_mem _ hk')) (by rw [length_append,length_map];rw [length_cons] at hl;omega)
  refine ⟨o5',?_⟩
  rw [forD_step rfl]
  have hc:=comp1' (n:=6) (ρ:=[some A,some B,some (rowsD rows),some (.int J),some (iD X),some (kD k)]) (enc:=D.int) (v:=fun x=>.int (x+k.wo)) (xs:=L) (e:=f2 gAdd (fV 6) (f2 gIx (fV 5) (fC (.int 2)))) rfl fun x _=>r_f2 rfl (r_f2 rfl rfl (kD_2 k)) rfl
  have hL:(L.map D.int).length≤lim:=by rw [length_map];exact le_trans h3 (by decide)
  have hs:l_runner_up_4 ([some A,some B,some (rowsD rows),some (.int J),some (iD X),o5].set 5 (some (kD k)))=.ok (.nx [some A,some B,some (rowsD rows),some (.int J),some (iD (X++L.map (·+k.wo))),some (kD k)]):=by
   unfold l_runner_up_4
   rw [show iD (X++L.map (·+k.wo))=.lst (X.map D.int++L.map fun x=>D.int (x+k.wo)) by simp [iD]]
   exact r_ext36 rfl (r_comp rfl (r_jList (r_f2 rfl (r_f2 rfl (r_f2 rfl rfl (kD_1 k)) rfl) hx) hL) hc) (by rw [length_map,length_map];rw [length_cons] at hl;omega)
  rw [hs]
  exact e
theorem runner_ok (ns:List Int)(ks:List Kd)(hn:ns.length≤900)(hk:ks.length≤8)(hw:∀k∈ks,1≤k.w):∃m o,T2 (Wr ns ks ns.length) m o∧F_runner_up [iD ns,tD ks]=.ok (secD o):=by
  have hf:=forD_inv (b:=bName 3) (s:=l_runner_up_2) (xs:=rngL 1 ns.length) (ρ:=[some (iD ns),some (tD ks),some (rowsD [[0]]),none,none,none])
    (P:=fun j ρ=>∃rows o3 o4 o5,rows.length=j+1∧RowsOk ns ks asc rows∧ρ=[some (iD ns),some (tD ks),some (rowsD rows),o3,o4,o5]) (Rr:=fun r=>∃rows o3 o4 o5,rows.length=ns.length+1∧RowsOk ns ks asc rows∧r=.ok (.nx [some (iD ns),some (tD ks),some (rowsD rows),o3,o4,o5])) ⟨[[0]],none,none,none,rfl,rows_zero rfl,rfl⟩ ?_ ?_
  · obtain ⟨rows,o3,o4,o5,hl,hr,e⟩:=hf
    obtain ⟨m,o,t,eo⟩:=hr ns.length (by omega)
    refine ⟨m,o,t,?_⟩
    have b:=rngOf2_ok (i:=1) (j:=(ns.length:Int)+1) (n:=ns.length) (by omega) (by omega) (by omega) (by omega) (by omega) (by omega)
    have hx:=rowsD_last hl
    rw [eo] at hx
    have hle:gLen [iD ns]=some (.int ns.length):=by simp [gLen,iD]
    have hlo:gLen [iD (asc m o)]=some (.int (asc m o).length):=by simp [gLen,iD]
    have head:∀{q:FS} {d:D},q [some (iD ns),some (tD ks),some (rowsD rows),o3,o4,o5]=.ok (.ret d)→(sSeq (sSet 2 (fA gLst (aCons (fA gLst (aCons (fC (.int 0)) aNil)) aNil))) (sSeq (sFor (jRng2 (aCons (fC (.int 1)) (aCons (f2 gAdd (fA gLen (aCons (fV 0) aNil)) (fC (.int 1))) aNil))) (bName 3) l_runner_up_2) q)) [some (iD ns),some (tD ks),none,none,none,none]=.ok (.ret d):=fun {q d} h =>
      r_seq (r_set rfl) (r_seq (r_for (r_rng2 (r_cons rfl (r_cons (r_f2 (r_fA (r_cons rfl rfl) hle) rfl rfl) rfl)) b) e) h)
    unfold F_runner_up q_runner_up
    cases o with
    | none=>exact r_run (head (r_seqR (r_ifT (r_cE (r_f2 (r_fA (r_cons (r_f2 rfl rfl hx) rfl) hlo) rfl rfl)) (r_ret rfl))))
    | some y=>exact r_run (head (r_seq (r_ifF (r_cE (r_f2 (r_fA (r_cons (r_f2 rfl rfl hx) rfl) hlo) rfl rfl)) rfl) (r_ret (r_f1 (r_f2 (r_f2 rfl rfl hx) rfl rfl) rfl))))
  · rintro j x ρ hx ⟨rows,o3,o4,o5,hl,hr,rfl⟩
    obtain ⟨hj,rfl⟩:=rngL_at hx
    rw [show (1:Int)+j=((j+1:Nat):Int) by omega]
    have he:=ending_ok ns ks ((j+1:Nat):Int) (by omega) hw
    have hxl:=rowsD_last hl
    have hle:=List.length_filter_le (fun k=>good ns k (((j+1:Nat):Int) - k.w)) ks
    have hr2:=rows_len2 two_asc hr
    obtain ⟨o5',e⟩:=innerR (A:=iD ns) (B:=tD ks) (J:=j+1) hr2 (ks.filter fun k=>good ns k (((j+1:Nat):Int) - k.w)) (rows.getD j []) o5 (fun k hkf=>by
      obtain ⟨k1,hg⟩:=List.mem_filter.mp hkf
      have:=good_bd hg
      have:=hw k k1
      omega) (by have:=hr2 j;omega)
    have hX:stepX ns ks rows j=rows.getD j []++flatX rows (j+1) (ks.filter fun k=>good ns k (((j+1:Nat):Int) - k.w)):=rfl
    rw [← hX] at e
    have hXl:=stepX_len two_asc hr hk j
    obtain ⟨m,o,t,ec⟩:=set_last2 (stepX ns ks rows j) (stepX_ne two_asc hl hr)
    have hls:gList [iD (rows.getD j [])]=some (iD (rows.getD j [])):=by simp [gList,iD]
    have hso:gSortS (iD (stepX ns ks rows j))=some (iD (sortI (addAll [] (stepX ns ks rows j)))):=by
      simp [gSortS,iD,show (stepX ns ks rows j).length<64 by omega]
    have hsl:gSl (iD (sortI (addAll [] (stepX ns ks rows j)))) (some (-2)) none=some (iD (asc m o)):=by rw [← ec];exact sl_ints _ _ _
    have hlim:((ks.filter fun k=>good ns k (((j+1:Nat):Int) - k.w)).map kD).length≤lim:=by rw [length_map];exact le_trans (le_trans hle hk) (by decide)
    refine ⟨_,rfl,.inl ⟨[some (iD ns),some (tD ks),some (rowsD (rows++[asc m o])),some (.int ((j+1:Nat):Int)),some (iD (stepX ns ks rows j)),o5'],.inl ?_,rows++[asc m o],_,_,_,by rw [length_append,length_singleton,hl],rows_add hr (by rw [hl];exact step_T2 hw two_asc hl hr t),rfl⟩⟩
    rw [show rowsD (rows++[asc m o])=.lst (rows.map iD++[iD (asc m o)]) by simp [rowsD]]
    have hrl:(rows.map iD).length<lim:=by rw [length_map,hl];show _<1000000;omega
    unfold l_runner_up_2
    exact r_seq (r_set (r_fA (r_cons (r_f2 rfl rfl hxl) rfl) hls)) (r_seq (r_for (r_jList (r_call (r_cons rfl (r_cons rfl (r_cons rfl rfl))) he) hlim) e) (r_app rfl (r_sl (r_f1 rfl hso) (r_oSome rfl) rfl hsl) hrl))
  · rintro ρ ⟨rows,o3,o4,o5,hl,hr,rfl⟩
    rw [rngL_length] at hl
    exact ⟨rows,o3,o4,o5,hl,hr,rfl⟩
end
theorem second_ok (X:List Int)(h:X≠[])(hl:X.length≤5000):∃o,T2 (·∈X) (maxL X) o∧F__law_second [iD X]=.ok (secD o):=by
 obtain ⟨o,t,ho⟩:=sec_T2 h
 refine ⟨o,t,?_⟩
 have hX:(X.map D.int).length≤lim:=by rw [length_map];exact le_trans hl (by decide)
 have hc:=comp1 (n:=3) (ρ:=[some (iD X),some (.int (maxL X)),none]) (c:=cE (f2 gLt (fV 3) (fV 1))) (e:=f1 gFlat (fV 3)) (enc:=D.int) (p:=fun x=>decide (x<maxL X)) (v:=D.int) (xs:=X) rfl fun x _=>⟨r_cE (r_f2 rfl rfl rfl),fun _=>r_f1 rfl rfl⟩
 have hfl:(X.filter fun x=>decide (x<maxL X)).length≤5000:=le_trans (List.length_filter_le _ _) hl
 generalize hF:(X.filter fun x=>decide (x<maxL X))=Fl at *
 have hlen:gLen [.lst (Fl.map D.int)]=some (.int Fl.length):=by simp [gLen]
 rcases ho with ⟨rfl,e⟩ | ⟨e,rfl⟩
 ·subst e
  exact r_run (r_seq (r_set (r_fA (r_cons rfl rfl) (max_ints h))) (r_seq (r_set (r_comp rfl (r_jList rfl hX) hc)) (r_seqR (r_ifT (r_cE (r_f2 (r_fA (r_cons rfl rfl) hlen) rfl rfl)) (r_ret rfl)))))
 ·have hz:gEq (.int Fl.length) (.int 0)=some (.bl false):=by
   rw [eq_int]
   have:Fl.length≠0:=fun z=>e (List.eq_nil_of_length_eq_zero z)
   simp [this]
  exact r_run (r_seq (r_set (r_fA (r_cons rfl rfl) (max_ints h))) (r_seq (r_set (r_comp rfl (r_jList rfl hX) hc)) (r_seq (r_ifF (r_cE (r_f2 (r_fA (r_cons rfl rfl) hlen) rfl hz)) rfl) (r_ret (r_fA (r_cons rfl rfl) (max_ints e))))))
section
variable {ns:List Int}{ks:List Kd}
theorem innerW {A B:D}{rows:List (List Int)}{J:Nat}(hw:∀k∈ks,1≤k.w)(hJ:J=rows.length)(h2:∀i,(rows.getD i []).length≤2)(o8:Option D):∀(g:List Kd) (X:List Int) (o6 o7:Option D),(∀k∈g,k∈ks)→X.length+2*g.length≤1000→
  ∃o6' o7',forD (bName 6) l__law_walked_5 (g.map kD) [some A,some B,some (iD (sumsOf ns)),some (rowsD rows),some (.int J),some (iD X),o6,o7,o8]=.ok (.nx [some A,some B,some (iD (sumsOf ns)),some (rowsD rows),some (.int J),some (iD (X++flatX rows J (g.filter fun k=>good ns k ((J:Int) - k.w)))),o6',o7',o8])
 | [],X,o6,o7,_,_=>⟨o6,o7,by rw [List.filter_nil,show flatX rows J []=[] from rfl,append_nil];rfl⟩
 | k::g,X,o6,o7,hg,hl=>by
  have k1:=hw k (hg k (mem_cons_self ..))
  have hgd:=good_ok ns k ((J:Int) - k.w) k1
  rw [map_cons,forD_step rfl,List.filter_cons]
  cases hgo:good ns k ((J:Int) - k.w) with
  | false =>
   rw [hgo] at hgd
   obtain ⟨o6',o7',e⟩:=innerW (A:=A) (B:=B) hw hJ h2 o8 g X (some (kD k)) (some (.int ((J:Int) - k.w))) (fun k' hk'=>hg k' (mem_cons_of_mem _ hk')) (by rw [length_cons] at hl;omega)
   refine ⟨o6',o7',?_⟩
   have hs:l__law_walked_5 ([some A,some B,some (iD (sumsOf ns)),some (rowsD rows),some (.int J),some (iD X),o6,o7,o8].set 6 (some (kD k)))=.ok (.nx [some A,some B,some (iD (sumsOf ns)),some (rowsD rows),some (.int J),some (iD X),some (kD k),some (.int ((J:Int) - k.w)),o8]):=by
    unfold l__law_walked_5
    exact r_seq (r_set (r_f2 rfl (r_f2 rfl rfl (kD_1 k)) rfl)) (r_ifF (r_cE (r_call (r_cons rfl (r_cons rfl (r_cons rfl rfl))) hgd)) rfl)
   rw [hs,if_neg Bool.false_ne_true]
   exact e
  | true =>
   rw [hgo] at hgd
   have bd:=good_bd hgo
   have hx:=rowsD_at (rows:=rows) (i:=(J:Int) - k.w) (k:=((J:Int) - k.w).toNat) (by omega) (by omega)
   have h3:=h2 ((J:Int) - k.w).toNat
   rw [if_pos rfl,flatX_cons,← append_assoc]
   obtain ⟨L,eL⟩:∃L,rows.getD ((J:Int) - k.w).toNat []=L:=⟨_,rfl⟩
   rw [eL] at hx h3 ⊢
   obtain ⟨o6',o7',e⟩:=innerW (A:=A) (B:=B) hw hJ h2 o8 g (X++L.map (·+k.wo)) (some (kD k)) (some (.int ((J:Int) - k.w))) (fun k' hk'=>hg k' (mem_cons_of_mem _ hk')) (by rw [length_append,length_map];rw [length_cons] at hl;omega)
   refine ⟨o6',o7',?_⟩
   have hc:=comp1' (n:=9) (ρ:=[some A,some B,some (iD (sumsOf ns)),some (rowsD rows),some (.int J),some (iD X),some (kD k),some (.int ((J:Int) - k.w)),o8]) (enc:=D.int) (v:=fun x=>.int (x+k.wo)) (xs:=L) (e:=f2 gAdd (fV 9) (f2 gIx (fV 6) (fC (.int 2)))) rfl fun x _=>r_f2 rfl (r_f2 rfl rfl (kD_2 k)) rfl
   have hL:(L.map D.int).length≤lim:=by rw [length_map];exact le_trans h3 (by decide)
   have hs:l__law_walked_5 ([some A,some B,some (iD (sumsOf ns)),some (rowsD rows),some (.int J),some (iD X),o6,o7,o8].set 6 (some (kD k)))=.ok (.nx [some A,some B,some (iD (sumsOf ns)),some (rowsD rows),some (.int J),some (iD (X++L.map (·+k.wo))),some (kD k),some (.int ((J:Int) - k.w)),o8]):=by
    unfold l__law_walked_5
    rw [show iD (X++L.map (·+k.wo))=.lst (X.map D.int++L.map fun x=>D.int (x+k.wo)) by simp [iD]]
    exact r_seq (r_set (r_f2 rfl (r_f2 rfl rfl (kD_1 k)) rfl)) (r_ifT (r_cE (r_call (r_cons rfl (r_cons rfl (r_cons rfl rfl))) hgd)) (r_ext36 rfl (r_comp rfl (r_jList (r_f2 rfl rfl hx) hL) hc) (by rw [length_map,length_map];rw [length_cons] at hl;omega)))
   rw [hs]
   exact e
theorem T2.self {S:Int→Prop}{m:Int}{o:Option Int}{f:Int→Option Int→List Int}(hf:Two f)(t:T2 S m o):T2 (·∈f m o) m o where
 has:=((hf m o).1 m).mpr (.inl rfl)
 top:=fun x hx=>by
  rcases ((hf m o).1 x).mp hx with z | z
  ·omega
  ·exact t.top x (t.som x z).1
 non:=fun e x hx=>by
  rcases ((hf m o).1 x).mp hx with z | z
  ·exact z
  ·rw [e] at z;cases z
 som:=fun b e=>by
  obtain ⟨g1,g2,g3⟩:=t.som b e
  refine ⟨((hf m o).1 b).mpr (.inr e),g2,fun x hx hl=>?_⟩
  rcases ((hf m o).1 x).mp hx with z | z
  ·omega
  ·rw [e] at z;cases z;exact Int.le_refl _
theorem walked_ok (ns:List Int)(ks:List Kd)(hn:ns.length≤900)(hk:ks.length≤8)(hw:∀k∈ks,1≤k.w):∃m o,T2 (Wr ns ks ns.length) m o∧F__law_walked [iD ns,tD ks]=.ok (secD o):=by
 have hsl:=sums_len ns
 have hf:=forD_inv (b:=bName 4) (s:=l__law_walked_3) (xs:=rngL 1 ns.length) (ρ:=[some (iD ns),some (tD ks),some (iD (sumsOf ns)),some (rowsD [[0]]),none,none,none,none,none])
  (P:=fun j ρ=>∃rows o4 o5 o6 o7 o8,rows.length=j+1∧RowsOk ns ks dsc rows∧ρ=[some (iD ns),some (tD ks),some (iD (sumsOf ns)),some (rowsD rows),o4,o5,o6,o7,o8]) (Rr:=fun r=>∃rows o4 o5 o6 o7 o8,rows.length=ns.length+1∧RowsOk ns ks dsc rows∧r=.ok (.nx [some (iD ns),some (tD ks),some (iD (sumsOf ns)),some (rowsD rows),o4,o5,o6,o7,o8])) ⟨[[0]],none,none,none,none,none,rfl,rows_zero rfl,rfl⟩ ?_ ?_
 ·obtain ⟨rows,o4,o5,o6,o7,o8,hl,hr,e⟩:=hf
  obtain ⟨m,o,t,eo⟩:=hr ns.length (by omega)
  refine ⟨m,o,t,?_⟩
  have b:=rngOf2_ok (i:=1) (j:=((ns.length+1:Nat):Int)) (n:=ns.length) (by omega) (by omega) (by omega) (by omega) (by omega) (by omega)
  have hx:=rowsD_last hl
  rw [eo] at hx
  obtain ⟨o',t',h2⟩:=second_ok (dsc m o) (two_dsc m o).2.2 (le_trans (two_dsc m o).2.1 (by decide))
  have:=(T2.same36 (t.self two_dsc) t').2
  subst this
  have hle:gLen [iD (sumsOf ns)]=some (.int ((ns.length+1:Nat):Int)):=by rw [← hsl];simp [gLen,iD]
  unfold F__law_walked q__law_walked
  exact r_run (r_seq (r_set (r_call (r_cons rfl rfl) (sums_ok ns (by omega)))) (r_seq (r_set rfl) (r_seq (r_for (r_rng2 (r_cons rfl (r_cons (r_fA (r_cons rfl rfl) hle) rfl)) b) e) (r_ret (r_call (r_cons (r_f2 rfl rfl hx) rfl) h2)))))
 ·rintro j x ρ hx ⟨rows,o4,o5,o6,o7,o8,hl,hr,rfl⟩
  obtain ⟨hj,rfl⟩:=rngL_at hx
  rw [show (1:Int)+j=((j+1:Nat):Int) by omega]
  have hxl:=rowsD_last hl
  have hr2:=rows_len2 two_dsc hr
  obtain ⟨o6',o7',e⟩:=innerW (ns:=ns) (ks:=ks) (A:=iD ns) (B:=tD ks) (J:=j+1) hw hl.symm hr2 o8 ks (rows.getD j []) o6 o7 (fun _ h=>h) (by have:=hr2 j;omega)
  have hX:stepX ns ks rows j=rows.getD j []++flatX rows (j+1) (ks.filter fun k=>good ns k (((j+1:Nat):Int) - k.w)):=rfl
  rw [← hX] at e
  have hXl:=stepX_len two_dsc hr hk j
  have hXn:=stepX_ne two_dsc hl hr
  obtain ⟨o,t,h2⟩:=second_ok (stepX ns ks rows j) hXn (by omega)
  have hls:gList [iD (rows.getD j [])]=some (iD (rows.getD j [])):=by simp [gList,iD]
  have hmx:=max_ints hXn
  have hlim:(ks.map kD).length≤lim:=by rw [length_map];exact le_trans hk (by decide)
  have hrl:(rows.map iD).length<lim:=by rw [length_map,hl];show _<1000000;omega
  refine ⟨_,rfl,.inl ⟨[some (iD ns),some (tD ks),some (iD (sumsOf ns)),some (rowsD (rows++[dsc (maxL (stepX ns ks rows j)) o])),some (.int ((j+1:Nat):Int)),some (iD (stepX ns ks rows j)),o6',o7',some (secD o)],.inl ?_,rows++[dsc (maxL (stepX ns ks rows j)) o],_,_,_,_,_,by rw [length_append,length_singleton,hl],rows_add hr (by rw [hl];exact step_T2 hw two_dsc hl hr t),rfl⟩⟩
  generalize maxL (stepX ns ks rows j)=M at *
  rw [show rowsD (rows++[dsc M o])=.lst (rows.map iD++[iD (dsc M o)]) by simp [rowsD]]
  unfold l__law_walked_3
  cases o with
  | none=>exact r_seq (r_set (r_fA (r_cons (r_f2 rfl rfl hxl) rfl) hls)) (r_seq (r_for (r_jList rfl hlim) e) (r_seq (r_set (r_call (r_cons rfl rfl) h2)) (r_ifT (r_cE (r_f2 rfl rfl rfl)) (r_app rfl (r_fA (r_cons (r_fA (r_cons rfl rfl) hmx) rfl) rfl) hrl))))
  | some y=>exact r_seq (r_set (r_fA (r_cons (r_f2 rfl rfl hxl) rfl) hls)) (r_seq (r_for (r_jList rfl hlim) e) (r_seq (r_set (r_call (r_cons rfl rfl) h2)) (r_ifF (r_cE (r_f2 rfl rfl rfl)) (r_app rfl (r_fA (r_cons (r_fA (r_cons rfl rfl) hmx) (r_cons (r_f1 rfl rfl) rfl)) rfl) hrl))))
 ·rintro ρ ⟨rows,o4,o5,o6,o7,o8,hl,hr,rfl⟩
  rw [rngL_length] at hl
  exact ⟨rows,o4,o5,o6,o7,o8,hl,hr,rfl⟩
end
theorem right36 (ns:List Int)(ks:List Kd)(hn:ns.length≤900)(hk:ks.length≤8)(hw:∀k∈ks,1≤k.w){m:Int}{o:Option Int}(t:T2 (Wr ns ks ns.length) m o):F__law_right [iD ns,tD ks,secD o]=.ok (.bl true):=by
  obtain ⟨m',o',t',hR⟩:=runner_ok ns ks hn hk hw
  obtain ⟨-,rfl⟩:=T2.same36 t t'
  have hg1:gList [iD ns]=some (iD ns):=by simp [gList,iD]
  have hg2:gList [tD ks]=some (tD ks):=by
    show (if flatA (ks.map kD)=true then _ else _)=_
    exact if_pos (flatA_kD ks)
  have hq:gEq (.lst [iD ns,tD ks]) (.lst [iD ns,tD ks])=some (.bl true):=gEq_self (by
    have:=dep_iD ns
    have:=dep_tD ks
    simp only [dep,depA]
    omega)
  have body:∀(e4 e5:Option D),∃e4' e5',forD (bName 4) l__law_right_2 (rngL 0 2) [some (iD ns),some (tD ks),some (secD o),some (.lst [iD ns,tD ks]),e4,e5]=.ok (.nx [some (iD ns),some (tD ks),some (secD o),some (.lst [iD ns,tD ks]),e4',e5']):=fun e4 e5=>by
    have one:∀(x:D) (e5:Option D),l__law_right_2 [some (iD ns),some (tD ks),some (secD o),some (.lst [iD ns,tD ks]),some x,e5]=.ok (.nx [some (iD ns),some (tD ks),some (secD o),some (.lst [iD ns,tD ks]),some x,some (secD o)]):=fun x e5=>by
      unfold l__law_right_2
      have hc:=r_set (i:=5) (ρ:=[some (iD ns),some (tD ks),some (secD o),some (.lst [iD ns,tD ks]),some x,e5]) (e:=fCall F_runner_up (aCons (f2 gIx (fV 3) (fC (.int 0))) (aCons (f2 gIx (fV 3) (fC (.int 1))) aNil))) (r_call (r_cons (r_f2 rfl rfl rfl) (r_cons (r_f2 rfl rfl rfl) rfl)) hR)
      cases o with
      | none=>exact r_seq hc (r_seq (r_ifF (r_cAndT (r_cE (r_f2 rfl rfl rfl)) (r_cE (r_f2 rfl rfl rfl))) rfl) (r_seq (r_ifF (r_cAndF (r_cE (r_f2 rfl rfl rfl))) rfl) (r_ifF (r_cE (r_f2 rfl rfl rfl)) rfl)))
      | some y=>exact r_seq hc (r_seq (r_ifF (r_cAndF (r_cE (r_f2 rfl rfl rfl))) rfl) (r_seq (r_ifF (r_cAndT (r_cE (r_f2 rfl rfl rfl)) (r_cOrF (r_cE (r_f1 rfl rfl)) (r_cNot (b:=true) (r_cE (r_f1 rfl rfl))))) rfl) (r_ifF (r_cE (r_f2 rfl rfl (by show gNe (.int y) (.int y)=_;rw [ne_int];simp))) rfl)))
    refine ⟨some (.int 1),some (secD o),?_⟩
    have st:∀(x:D) (xs:List D) (e4 e5:Option D),forD (bName 4) l__law_right_2 (x::xs) [some (iD ns),some (tD ks),some (secD o),some (.lst [iD ns,tD ks]),e4,e5]=forD (bName 4) l__law_right_2 xs [some (iD ns),some (tD ks),some (secD o),some (.lst [iD ns,tD ks]),some x,some (secD o)]:=fun x xs e4 e5=>by
      have e1:=forD_step (b:=bName 4) (s:=l__law_right_2) (x:=x) (xs:=xs) (ρ:=[some (iD ns),some (tD ks),some (secD o),some (.lst [iD ns,tD ks]),e4,e5]) (ρ1:=[some (iD ns),some (tD ks),some (secD o),some (.lst [iD ns,tD ks]),some x,e5]) rfl
      rw [one x e5] at e1
      exact e1
    have e0:rngL 0 2=[.int 0,.int 1]:=rfl
    rw [e0]
    exact (st _ _ _ _).trans ((st _ _ _ _).trans rfl)
  obtain ⟨e4,e5,hb⟩:=body none none
  unfold F__law_right q__law_right
  exact r_run (r_seq (r_set (r_fA (r_cons (r_fA (r_cons rfl rfl) hg1) (r_cons (r_fA (r_cons rfl rfl) hg2) rfl)) rfl)) (r_seq (r_for (r_rng rfl (by decide)) hb) (r_ret (r_f2 rfl (r_fA (r_cons rfl (r_cons rfl rfl)) rfl) hq))))
theorem law36_true (ns:List Int)(h:ns.length≤63):F_law [.scr ns]=.ok (.bl true):=by
  obtain ⟨os,hrow,hos⟩:=row_ok ns h (i:=2) (by omega) (by omega) [8] (by simp) (by simp)
  obtain ⟨v,rfl⟩:∃v,os=[v]:=by
    have:=hos.1
    match os,this with
    | [v],_=>exact ⟨v,rfl⟩
  have hrow':F__law_row [.scr ns,.int 2,.lst [.int 8]]=.ok (.lst [.int v]):=hrow
  have key:∀m:Int,0≤m→m≤200→∀{q:FS},q=(sSeq (sAsg (fCall F__law_drawn (aCons (fV 0) (aCons (fC (.int 0)) (aCons (fV 1) (aCons (fC (.int 8)) aNil))))) (bTup (bCons (bName 2) (bCons (bName 3) bNil))))
    (sSeq (sSet 4 (fCall F__law_short (aCons (fV 2) (aCons (fV 3) aNil))))
    (sSeq (sSet 5 (fCall F__law_second (aCons (fComp 6 2 (jList (fCall F__law_all (aCons (fV 4) (aCons (fV 3) aNil)))) (bTup (bCons (bName 6) (bCons (bName 7) bNil))) cYes (f1 gFlat (fV 7))) aNil)))
    (sSeq (sIf (cOr (cNot (cE (fCall F__law_right (aCons (fV 4) (aCons (fV 3) (aCons (fV 5) aNil)))))) (cNot (cE (fCall F__law_right (aCons (f2 gRev (fV 4) (f1 gNeg (fC (.int 1)))) (aCons (fV 3) (aCons (fV 5) aNil))))))) (sRet (fC (.bl false))) sNx)
    (sSeq (sSet 5 (fCall F__law_walked (aCons (fV 2) (aCons (fV 3) aNil))))
    (sRet (fAnd (fCall F__law_right (aCons (fV 2) (aCons (fV 3) (aCons (fV 5) aNil)))) (fCall F__law_right (aCons (f2 gRev (fV 2) (f1 gNeg (fC (.int 1)))) (aCons (fV 3) (aCons (fV 5) aNil)))))))))))→q [some (.scr ns),some (.int m),none,none,none,none]=.ok (.ret (.bl true)):=by
    rintro m m0 m1 q rfl
    obtain ⟨ws,ks,hd,hl,-,hk,ht_⟩:=drawn_ok ns h (i:=0) (m:=m) (c:=8) (by omega) (by omega) m0 m1 (by omega) (by omega)
    have hw:∀k∈ks,1≤k.w:=fun k hk=>(ht_.ok k hk).w1
    have hk8:ks.length≤8:=by omega
    obtain ⟨c,c1,c2,hsh⟩:=short_ok ws ks (by omega) hk8
    have hct:(ws.take c).length=c:=by rw [length_take];omega
    generalize ws.take c=W at *
    have hall:=all_ok W ks (by omega) (by omega) hw (by rw [hct];exact c2)
    have hrl:(rowA W ks W.length).length≤4096:=le_trans (rowA_le W ks hw W.length) (by rw [hct];exact c2)
    have hlim:((rowA W ks W.length).map cD).length≤lim:=by rw [length_map];show _≤1000000;omega
    have hne:(rowA W ks W.length).map (·.2)≠[]:=by
      obtain ⟨-,x,x1,-⟩:=rowA_ht W ks hw W.length
      intro e
      rw [List.map_eq_nil_iff.mp e] at x1
      cases x1
    obtain ⟨o,t,hsec⟩:=second_ok ((rowA W ks W.length).map (·.2)) hne (by rw [length_map];omega)
    have t1:T2 (Wr W ks W.length) _ o:=t.congr fun x=>by
      unfold Wr
      rw [List.mem_map]
    have hr1:=right36 W ks (by omega) hk8 hw t1
    have hr2:=right36 W.reverse ks (by rw [length_reverse];omega) hk8 hw (t1.congr fun x=>by rw [length_reverse];exact (Wr_rev hw x).symm)
    obtain ⟨m2,o2,t2,hwk⟩:=walked_ok ws ks (by omega) hk8 hw
    have hr3:=right36 ws ks (by omega) hk8 hw t2
    have hr4:=right36 ws.reverse ks (by rw [length_reverse];omega) hk8 hw (t2.congr fun x=>by rw [length_reverse];exact (Wr_rev hw x).symm)
    have rv:∀l:List Int,gRev (iD l) (.int (-1))=some (iD l.reverse):=fun l=>by simp [gRev,iD]
    have hc:=comp2' (n:=6) (ρ:=[some (.scr ns),some (.int m),some (iD ws),some (tD ks),some (iD W),none]) (f:=fun c:Cut=>psD c.1) (g:=fun c:Cut=>.int c.2) (v:=fun c:Cut=>.int c.2) (xs:=rowA W ks W.length) (e:=f1 gFlat (fV 7)) rfl fun c _=>r_f1 rfl rfl
    rw [show iD ((rowA W ks W.length).map (·.2))=.lst ((rowA W ks W.length).map fun c=>D.int c.2) by simp [iD]] at hsec
    exact r_seq (r_asg (r_call (r_cons rfl (r_cons rfl (r_cons rfl (r_cons rfl rfl)))) hd) rfl) (r_seq (r_set (r_call (r_cons rfl (r_cons rfl rfl)) hsh)) (r_seq (r_set (r_call (r_cons (r_comp rfl (r_jList (r_call (r_cons rfl (r_cons rfl rfl)) hall) hlim) hc) rfl) hsec)) (r_seq (r_ifF (r_cOrF (r_cNot (b:=true) (r_cE (r_call (r_cons rfl (r_cons rfl (r_cons rfl rfl))) hr1))) (r_cNot (b:=true) (r_cE (r_call (r_cons (r_f2 rfl (r_f1 rfl rfl) (rv _)) (r_cons rfl (r_cons rfl rfl))) hr2)))) rfl) (r_seq (r_set (r_call (r_cons rfl (r_cons rfl rfl)) hwk)) (r_ret (r_fAndT (r_call (r_cons rfl (r_cons rfl (r_cons rfl rfl))) hr3) (r_call (r_cons (r_f2 rfl (r_f1 rfl rfl) (rv _)) (r_cons rfl (r_cons rfl rfl))) hr4)))))))
  have hR:fCall F__law_row (aCons (fV 0) (aCons (fC (.int 2)) (aCons (fA gLst (aCons (fC (.int 8)) aNil)) aNil))) [some (.scr ns),some (.int 40),none,none,none,none]=.ok (.lst [.int v]):=r_call (r_cons rfl (r_cons rfl (r_cons (r_fA (r_cons rfl rfl) rfl) rfl))) hrow'
  unfold F_law q_law
  by_cases hv:v=0
  · subst hv
    exact r_run (r_seq (r_set rfl) (r_seq (r_ifT (r_cE (r_f2 (r_f2 hR rfl rfl) rfl rfl)) (r_set rfl)) (key 200 (by omega) (by omega) rfl)))
  · exact r_run (r_seq (r_set rfl) (r_seq (r_ifF (r_cE (r_f2 (r_f2 hR rfl rfl) rfl ((eq_ii _ _).trans (bl_f hv)))) rfl) (key 40 (by omega) (by omega) rfl)))
end Dl
set_option maxHeartbeats 4000000
namespace K36
open PySem PySem.Spec PyProof.Rows L2
open Dl (D R FE FT FA FO FS FI FB Fl)
noncomputable def top (i:Nat):Stmt:=PySem.Challenge.pw_selvage_k36_second_worth.main.body.getD i (.Pass ⟨0,0,0,0⟩)
noncomputable abbrev sspoilt:Stmt:=top 4
noncomputable abbrev sfits:Stmt:=top 6
noncomputable abbrev sending:Stmt:=top 8
noncomputable abbrev srunner_up:Stmt:=top 10
noncomputable abbrev s_law_cell:Stmt:=top 12
noncomputable abbrev s_law_mix:Stmt:=top 13
noncomputable abbrev s_law_row:Stmt:=top 14
noncomputable abbrev s_law_table:Stmt:=top 15
noncomputable abbrev s_law_flaw:Stmt:=top 16
noncomputable abbrev s_law_roll:Stmt:=top 17
noncomputable abbrev s_law_drawn:Stmt:=top 18
noncomputable abbrev s_law_sums:Stmt:=top 19
noncomputable abbrev s_law_good:Stmt:=top 20
noncomputable abbrev s_law_short:Stmt:=top 21
noncomputable abbrev s_law_all:Stmt:=top 22
noncomputable abbrev s_law_second:Stmt:=top 23
noncomputable abbrev s_law_walked:Stmt:=top 24
noncomputable abbrev s_law_right:Stmt:=top 25
noncomputable abbrev slaw:Stmt:=top 26
theorem scspoilt:FnScope ["roll","begin","end"] ["roll","begin","end"] (defScope sspoilt):=⟨rfl,rfl,rfl,by decide +kernel,rfl,by decide +kernel,by decide +kernel⟩
theorem scfits:FnScope ["roll","kind","place","end"] ["roll","kind","place"] (defScope sfits):=⟨rfl,rfl,rfl,by decide +kernel,rfl,by decide +kernel,by decide +kernel⟩
theorem scending:FnScope ["roll","table","end"] ["roll","table","end"] (defScope sending):=⟨rfl,rfl,rfl,by decide +kernel,rfl,by decide +kernel,by decide +kernel⟩
theorem scrunner_up:FnScope ["roll","table","greatest","end","worths","kind"] ["roll","table"] (defScope srunner_up):=⟨rfl,rfl,rfl,by decide +kernel,rfl,by decide +kernel,by decide +kernel⟩
theorem sc_law_cell:FnScope ["_law_script","_law_place","_law_seed","_law_cell_here"] ["_law_script","_law_place"] (defScope s_law_cell):=⟨rfl,rfl,rfl,by decide +kernel,rfl,by decide +kernel,by decide +kernel⟩
theorem sc_law_mix:FnScope ["_law_cell_here","_law_k","_law_one","_law_two"] ["_law_cell_here","_law_k"] (defScope s_law_mix):=⟨rfl,rfl,rfl,by decide +kernel,rfl,by decide +kernel,by decide +kernel⟩
theorem sc_law_row:FnScope ["_law_script","_law_place","_law_sizes","_law_cell_here","_law_left","_law_some","_law_k","_law_other"] ["_law_script","_law_place","_law_sizes"] (defScope s_law_row):=⟨rfl,rfl,rfl,by decide +kernel,rfl,by decide +kernel,by decide +kernel⟩
theorem sc_law_table:FnScope ["_law_script","_law_place","_law_most","_law_pool","_law_some","_law_flaw_here","_law_gain","_law_table_here","_law_k","_law_at","_law_width","_law_worth","_law_allowed","_law_name"] ["_law_script","_law_place","_law_most"] (defScope s_law_table):=⟨rfl,rfl,rfl,by decide +kernel,rfl,by decide +kernel,by decide +kernel⟩
theorem sc_law_flaw:FnScope ["_law_script","_law_place","_law_most"] ["_law_script","_law_place","_law_most"] (defScope s_law_flaw):=⟨rfl,rfl,rfl,by decide +kernel,rfl,by decide +kernel,by decide +kernel⟩
theorem sc_law_roll:FnScope ["_law_script","_law_place","_law_most","_law_flaw_here","_law_some","_law_great","_law_roll_here","_law_k","_law_at","_law_weight"] ["_law_script","_law_place","_law_most","_law_flaw_here"] (defScope s_law_roll):=⟨rfl,rfl,rfl,by decide +kernel,rfl,by decide +kernel,by decide +kernel⟩
theorem sc_law_drawn:FnScope ["_law_script","_law_place","_law_most","_law_kinds","_law_flaw_here"] ["_law_script","_law_place","_law_most","_law_kinds"] (defScope s_law_drawn):=⟨rfl,rfl,rfl,by decide +kernel,rfl,by decide +kernel,by decide +kernel⟩
theorem sc_law_sums:FnScope ["_law_roll_here","_law_sums_here","_law_weight"] ["_law_roll_here"] (defScope s_law_sums):=⟨rfl,rfl,rfl,by decide +kernel,rfl,by decide +kernel,by decide +kernel⟩
theorem sc_law_good:FnScope ["_law_sums_here","_law_kind","_law_at","_law_end"] ["_law_sums_here","_law_kind","_law_at"] (defScope s_law_good):=⟨rfl,rfl,rfl,by decide +kernel,rfl,by decide +kernel,by decide +kernel⟩
theorem sc_law_short:FnScope ["_law_roll_here","_law_table_here","_law_tries","_law_count"] ["_law_roll_here","_law_table_here"] (defScope s_law_short):=⟨rfl,rfl,rfl,by decide +kernel,rfl,by decide +kernel,by decide +kernel⟩
theorem sc_law_all:FnScope ["_law_roll_here","_law_table_here","_law_sums_here","_law_found","_law_end","_law_here","_law_kind","_law_at","_law_piece"] ["_law_roll_here","_law_table_here"] (defScope s_law_all):=⟨rfl,rfl,rfl,by decide +kernel,rfl,by decide +kernel,by decide +kernel⟩
theorem sc_law_second:FnScope ["_law_worths","_law_high","_law_lower"] ["_law_worths"] (defScope s_law_second):=⟨rfl,rfl,rfl,by decide +kernel,rfl,by decide +kernel,by decide +kernel⟩
theorem sc_law_walked:FnScope ["_law_roll_here","_law_table_here","_law_sums_here","_law_told","_law_end","_law_worths","_law_kind","_law_at","_law_second_here"] ["_law_roll_here","_law_table_here"] (defScope s_law_walked):=⟨rfl,rfl,rfl,by decide +kernel,rfl,by decide +kernel,by decide +kernel⟩
theorem sc_law_right:FnScope ["_law_roll_here","_law_table_here","_law_due","_law_handed","_law_turn","_law_found"] ["_law_roll_here","_law_table_here","_law_due"] (defScope s_law_right):=⟨rfl,rfl,rfl,by decide +kernel,rfl,by decide +kernel,by decide +kernel⟩
theorem sclaw:FnScope ["_law_script","_law_most","_law_roll_here","_law_table_here","_law_short_here","_law_due"] ["_law_script"] (defScope slaw):=⟨rfl,rfl,rfl,by decide +kernel,rfl,by decide +kernel,by decide +kernel⟩
structure Txt (mg:Str→Option Value):Prop where
 sum:mg "sum"=none
 len:mg "len"=none
 range:mg "range"=none
 list:mg "list"=none
 sorted:mg "sorted"=none
 set:mg "set"=none
 min:mg "min"=none
 max:mg "max"=none
 isinstance:mg "isinstance"=none
 bool:mg "bool"=none
 int:mg "int"=none
section
variable {P:Program}{w:World}{K:Frag}{C:String→Addr}{mg:Str→Option Value}{base:Heap}{f:Addr}{fd:FuncData}
theorem okspoilt (F:Fun K "spoilt" "spoilt" sspoilt f fd)(T:Txt mg):FnOk P w K mg base CX0 7 f fd ["roll","begin","end"] (spD K C 3 2 Dl.F_spoilt):=by
  refine F.okC scspoilt (Γ':=[]) (Δ':=[]) rfl fun cdv A outer s H E hr=>?_
  have sc:=scspoilt
  have hu:_+64<cLine:=hr.units
  exact ⟨_,(css_cons [] [] (cs_if (ct_w (cw_or (ct_cmp op_lt gok_lt (ce_v 1) ce_int (nomark _)) (cw_or (ct_cmp op_gt gok_gt (ce_v 2) (ce_callB (r:=rLenA K) call_lenA gak_len rfl T.len PySem.boot_len (ca_cons (ce_v 0) ca_nil star_name) (he:=star_name)) (nomark _)) (cw_or1 (ct_cmp op_gt gok_gt (ce_v 1) (ce_v 2) (nomark _)))))) (css_one cs_never) css_nil)
      (css_one (cs_ret (ce_callB (r:=rSum K) (call_sum rfl) gak_sum rfl T.sum PyProof.Rows.boot_sum (ca_cons (ce_sl K (ce_v 0) (co_some (ce_v 1)) (co_some (ce_v 2))) ca_nil star_sub) (he:=star_sub)))))⟩
theorem ok_law_cell (F:Fun K "_law_cell" "_law_cell" s_law_cell f fd)(T:Txt mg):FnOk P w K mg base CX0 7 f fd ["_law_script","_law_place"] (spD K C 2 2 Dl.F__law_cell):=by
  refine F.okC sc_law_cell (Γ':=[]) (Δ':=[]) rfl fun cdv A outer s H E hr=>?_
  have sc:=sc_law_cell
  have hu:_+64<cLine:=hr.units
  exact ⟨_,(css_cons [] [] (cs_if (ct_cmp op_lt gok_lt (ce_v 1) (ce_callB (r:=rLenA K) call_lenA gak_len rfl T.len PySem.boot_len (ca_cons (ce_v 0) ca_nil star_name) (he:=star_name)) (nomark _)) (css_one (cs_ret (ce_flat (ce_ix K (ce_v 0) (ce_v 1) plain_name)))) css_nil)
      (css_cons [2] [2] (cs_set (i:=2) sc.nd rfl (Or.inl rfl) ce_int)
      (css_cons [2] [2] (cs_for [2] [2] PassesOwn.never rfl (ci_list (ce_sl K (ce_v 0) co_none (co_some ce_int))) (cg_name (i:=3) (hN:=sc.nd) (hi:=rfl) (hx:=Or.inl rfl)) (css_one (cs_set (i:=2) sc.nd rfl (Or.inl rfl) (ce_op op_mod gok_mod (ce_op op_addA gok_add (ce_op op_addA gok_add (ce_op op_mulA gok_mul (ce_v 2) ce_int) (ce_op op_mod gok_mod (ce_v 3) ce_int)) ce_int) ce_int))))
      (css_one (cs_ret (ce_op op_mod gok_mod (ce_op op_addA gok_add (ce_v 2) (ce_op op_mulA gok_mul ce_int (ce_v 1))) ce_int))))))⟩
theorem ok_law_mix (F:Fun K "_law_mix" "_law_mix" s_law_mix f fd)(T:Txt mg):FnOk P w K mg base CX0 7 f fd ["_law_cell_here","_law_k"] (spD K C 2 2 Dl.F__law_mix):=by
  refine F.okC sc_law_mix (Γ':=[]) (Δ':=[]) rfl fun cdv A outer s H E hr=>?_
  have sc:=sc_law_mix
  have hu:_+64<cLine:=hr.units
  exact ⟨_,(css_cons [2] [2] (cs_set (i:=2) sc.nd rfl (Or.inl rfl) (ce_op op_mod gok_mod (ce_op op_pow gok_pow (ce_op op_addA gok_add (ce_op op_addA gok_add (ce_op op_mod gok_mod (ce_v 0) ce_int) (ce_op op_mulA gok_mul ce_int (ce_v 1))) ce_int) ce_int) ce_int))
      (css_cons [2,3] [2,3] (cs_set (i:=3) sc.nd rfl (Or.inl rfl) (ce_op op_mod gok_mod (ce_op op_addA gok_add (ce_op op_addA gok_add (ce_op op_mulA gok_mul (ce_v 2) ce_int) (ce_op op_mulA gok_mul (ce_op op_mulA gok_mul ce_int (ce_v 1)) (ce_v 1))) ce_int) ce_int))
      (css_one (cs_ret (ce_op op_fdivL gok_div (ce_v 3) ce_int)))))⟩
theorem ok_law_sums (F:Fun K "_law_sums" "_law_sums" s_law_sums f fd)(T:Txt mg):FnOk P w K mg base CX0 7 f fd ["_law_roll_here"] (spD K C 1 2 Dl.F__law_sums):=by
  refine F.okC sc_law_sums (Γ':=[]) (Δ':=[]) rfl fun cdv A outer s H E hr=>?_
  have sc:=sc_law_sums
  have hu:_+64<cLine:=hr.units
  exact ⟨_,(css_cons [1] [1] (cs_set (i:=1) sc.nd rfl (Or.inl rfl) (ce_lst (ca_cons2 ce_int ca_nil star_const)))
      (css_cons [1] [1] (cs_for [1] [1] PassesOwn.never rfl (ci_list (ce_v 0)) (cg_name (i:=2) (hN:=sc.nd) (hi:=rfl) (hx:=Or.inl rfl)) (css_one (cs_app (i:=1) (he:=(ce_op op_addA gok_add (ce_ix K (ce_v 1) (ce_neg ce_int) plain_un) (ce_v 2))) (hse:=star_bin))))
      (css_one (cs_ret (ce_vd 1)))))⟩
theorem ok_law_good (F:Fun K "_law_good" "_law_good" s_law_good f fd)(T:Txt mg):FnOk P w K mg base CX0 7 f fd ["_law_sums_here","_law_kind","_law_at"] (spD K C 3 2 Dl.F__law_good):=by
  refine F.okC sc_law_good (Γ':=[]) (Δ':=[]) rfl fun cdv A outer s H E hr=>?_
  have sc:=sc_law_good
  have hu:_+64<cLine:=hr.units
  exact ⟨_,(css_cons [3] [3] (cs_set (i:=3) sc.nd rfl (Or.inl rfl) (ce_op op_addA gok_add (ce_v 2) (ce_ix K (ce_v 1) ce_int plain_const)))
      (css_cons [3] [3] (cs_if (ct_w (cw_or (ct_cmp op_lt gok_lt (ce_v 2) ce_int (nomark _)) (cw_or1 (ct_cmp op_ge gok_ge (ce_v 3) (ce_callB (r:=rLenA K) call_lenA gak_len rfl T.len PySem.boot_len (ca_cons (ce_v 0) ca_nil star_name) (he:=star_name)) (nomark _))))) (css_one (cs_ret ce_bl)) css_nil)
      (css_one (cs_ret (ce_cmp op_le gok_le (ce_op op_sub gok_sub (ce_ix K (ce_v 0) (ce_v 3) plain_name) (ce_ix K (ce_v 0) (ce_v 2) plain_name)) (ce_ix K (ce_v 1) ce_int plain_const) (nomark _))))))⟩
theorem ok_law_short (F:Fun K "_law_short" "_law_short" s_law_short f fd)(T:Txt mg):FnOk P w K mg base CX0 7 f fd ["_law_roll_here","_law_table_here"] (spD K C 2 2 Dl.F__law_short):=by
  refine F.okC sc_law_short (Γ':=[]) (Δ':=[]) rfl fun cdv A outer s H E hr=>?_
  have sc:=sc_law_short
  have hu:_+64<cLine:=hr.units
  exact ⟨_,(css_cons [2] [2] (cs_set (i:=2) sc.nd rfl (Or.inl rfl) ce_int)
      (css_cons [2,3] [2,3] (cs_set (i:=3) sc.nd rfl (Or.inl rfl) ce_int)
      (css_cons [2,3] [2,3] (cs_while 100000 PassesOwn.never (ct_w (cw_and (ct_cmp op_lt gok_lt (ce_v 3) (ce_callB (r:=rLenA K) call_lenA gak_len rfl T.len PySem.boot_len (ca_cons (ce_v 0) ca_nil star_name) (he:=star_name)) (nomark _)) (cw_and1 (ct_cmp op_le gok_le (ce_op op_mulA gok_mul (ce_v 2) (ce_op op_addA gok_add (ce_callB (r:=rLenA K) call_lenA gak_len rfl T.len PySem.boot_len (ca_cons (ce_v 1) ca_nil star_name) (he:=star_name)) ce_int)) ce_int (nomark _))))) (css_cons [2,3] [2,3] (cs_set (i:=2) sc.nd rfl (Or.inl rfl) (ce_op op_mulA gok_mul (ce_v 2) (ce_op op_addA gok_add (ce_callB (r:=rLenA K) call_lenA gak_len rfl T.len PySem.boot_len (ca_cons (ce_v 1) ca_nil star_name) (he:=star_name)) ce_int)))
      (css_one (cs_set (i:=3) sc.nd rfl (Or.inl rfl) (ce_op op_addA gok_add (ce_v 3) ce_int)))))
      (css_one (cs_ret (ce_sl K (ce_v 0) co_none (co_some (ce_v 3))))))))⟩
theorem ok_law_second (F:Fun K "_law_second" "_law_second" s_law_second f fd)(T:Txt mg):FnOk P w K mg base CX0 7 f fd ["_law_worths"] (spD K C 1 2 Dl.F__law_second):=by
  refine F.okC sc_law_second (Γ':=[]) (Δ':=[]) rfl fun cdv A outer s H E hr=>?_
  have sc:=sc_law_second
  have hu:_+64<cLine:=hr.units
  exact ⟨_,(css_cons [1] [1] (cs_set (i:=1) sc.nd rfl (Or.inr rfl) (ce_callB (r:=rMaxA K) (call_maxA rfl) gak_max rfl T.max PyProof.Rows.boot_max (ca_cons (ce_v 0) ca_nil star_name) (he:=star_name)))
      (css_cons [1,2] [1,2] (cs_setC (i:=2) (n:=3) (defScope s_law_second) ["_law_worths","_law_high","_law_lower"] ["_law_worths","_law_high","_law_lower"] ["_law_worth"] ⟨rfl,by decide +kernel,by decide +kernel,by decide +kernel,by decide +kernel,by decide +kernel,rfl,by decide +kernel⟩ rfl rfl (ci_list (ce_v 0)) (fun _ _ _ _ _=>(cb_name 3 (hN:=(by decide +kernel:List.Nodup (["_law_worths","_law_high","_law_lower","_law_worth"]:List Str))))) (fun _ _ _ _ _=>cif_one (ct_cmp op_lt gok_lt (ce_v 3 (hv:=Or.inl rfl)) (ce_v 1 (hv:=Or.inr (Or.inl rfl))) (nomark _))) (fun _ _ _ _ _=>(ce_flat (ce_v 3 (hv:=Or.inl rfl)))))
      (css_cons [1,2] [1,2] (cs_if (ct_cmp (r:=rEqA K) (op_eqA hu) gok_eq (ce_callB (r:=rLenA K) call_lenA gak_len rfl T.len PySem.boot_len (ca_cons (ce_v 2) ca_nil star_name) (he:=star_name)) ce_int (nomark _)) (css_one (cs_ret ce_non)) css_nil)
      (css_one (cs_ret (ce_callB (r:=rMaxA K) (call_maxA rfl) gak_max rfl T.max PyProof.Rows.boot_max (ca_cons (ce_v 2) ca_nil star_name) (he:=star_name)))))))⟩
theorem okfits (F:Fun K "fits" "fits" sfits f fd)(T:Txt mg)(Dspoilt:Def P w K mg base CX0 7 "spoilt" ["roll","begin","end"] (spD K C 3 2 Dl.F_spoilt)):FnOk P w K mg base CX0 8 f fd ["roll","kind","place"] (spD K C 3 2 Dl.F_fits):=by
  refine F.okC scfits (Γ':=[]) (Δ':=[]) rfl fun cdv A outer s H E hr=>?_
  have sc:=scfits
  have hu:_+64<cLine:=hr.units
  exact ⟨_,(css_cons [3] [3] (cs_set (i:=3) sc.nd rfl (Or.inl rfl) (ce_op op_addA gok_add (ce_v 2) (ce_ix K (ce_v 1) ce_int plain_const)))
      (css_cons [3] [3] (cs_if (ct_w (cw_or (ct_cmp op_lt gok_lt (ce_v 2) ce_int (nomark _)) (cw_or1 (ct_cmp op_gt gok_gt (ce_v 3) (ce_callB (r:=rLenA K) call_lenA gak_len rfl T.len PySem.boot_len (ca_cons (ce_v 0) ca_nil star_name) (he:=star_name)) (nomark _))))) (css_one (cs_ret ce_bl)) css_nil)
      (css_one (cs_ret (ce_cmp op_le gok_le (ce_call Dspoilt (hr.mono (by decide)) rfl pass0 (ca_cons (ce_v 0) (ca_cons (ce_v 2) (ca_cons (ce_v 3) ca_nil star_name) star_name) star_name) (he:=star_name)) (ce_ix K (ce_v 1) ce_int plain_const) (nomark _))))))⟩
theorem ok_law_row (F:Fun K "_law_row" "_law_row" s_law_row f fd)(T:Txt mg)(D_law_cell:Def P w K mg base CX0 7 "_law_cell" ["_law_script","_law_place"] (spD K C 2 2 Dl.F__law_cell))(D_law_mix:Def P w K mg base CX0 7 "_law_mix" ["_law_cell_here","_law_k"] (spD K C 2 2 Dl.F__law_mix)):FnOk P w K mg base CX0 8 f fd ["_law_script","_law_place","_law_sizes"] (spD K C 3 2 Dl.F__law_row):=by
  refine F.okC sc_law_row (Γ':=[]) (Δ':=[]) rfl fun cdv A outer s H E hr=>?_
  have sc:=sc_law_row
  have hu:_+64<cLine:=hr.units
  exact ⟨_,(css_cons [3] [3] (cs_set (i:=3) sc.nd rfl (Or.inl rfl) (ce_call D_law_cell (hr.mono (by decide)) rfl pass0 (ca_cons (ce_v 0) (ca_cons (ce_v 1) ca_nil star_name) star_name) (he:=star_name)))
      (css_cons [3,4] [3,4] (cs_set (i:=4) sc.nd rfl (Or.inl rfl) (ce_flat (ce_v 3)))
      (css_cons [3,4,5] [3,4,5] (cs_set (i:=5) sc.nd rfl (Or.inl rfl) (ce_lst ca_nil))
      (css_cons [3,4,5] [3,4,5] (cs_for [3,4,5] [3,4,5] PassesOwn.never rfl (ci_rng1 rfl T.range (ca_cons (ce_callB (r:=rLenA K) call_lenA gak_len rfl T.len PySem.boot_len (ca_cons (ce_v 2) ca_nil star_name) (he:=star_name)) ca_nil star_call)) (cg_name (i:=6) (hN:=sc.nd) (hi:=rfl) (hx:=Or.inl rfl)) (css_one (cs_if (ct_cmp op_lt gok_lt (ce_v 3) (ce_op op_pow gok_pow ce_int ce_int) (nomark _)) (css_one (cs_app (i:=5) (he:=(ce_op op_mod gok_mod (ce_call D_law_mix (hr.mono (by decide)) rfl pass0 (ca_cons (ce_v 3) (ca_cons (ce_v 6) ca_nil star_name) star_name) (he:=star_name)) (ce_ix K (ce_v 2) (ce_v 6) plain_name))) (hse:=star_bin))) (css_one (cs_if (ct_cmp op_gt gok_gt (ce_v 4) ce_int (nomark _)) (css_cons [3,4,5] [3,4,5] (cs_app (i:=5) (he:=(ce_op op_mod gok_mod (ce_v 4) (ce_ix K (ce_v 2) (ce_v 6) plain_name))) (hse:=star_bin))
      (css_one (cs_set (i:=4) sc.nd rfl (Or.inl rfl) (ce_op op_fdivL gok_div (ce_v 4) (ce_ix K (ce_v 2) (ce_v 6) plain_name))))) (css_weak [3,4,5,7] [3,4,5,7] (css_cons [3,4,5,7] [3,4,5,7] (cs_set (i:=7) sc.nd rfl (Or.inl rfl) (ce_call D_law_cell (hr.mono (by decide)) rfl pass0 (ca_cons (ce_v 0) (ca_cons (ce_op op_mod gok_mod (ce_op op_addA gok_add (ce_op op_addA gok_add (ce_v 1) ce_int) (ce_v 6)) ce_int) ca_nil star_bin) star_name) (he:=star_name)))
      (css_one (cs_app (i:=5) (he:=(ce_op op_mod gok_mod (ce_call D_law_mix (hr.mono (by decide)) rfl pass0 (ca_cons (ce_v 7) (ca_cons (ce_v 6) ca_nil star_name) star_name) (he:=star_name)) (ce_ix K (ce_v 2) (ce_v 6) plain_name))) (hse:=star_bin))))))))))
      (css_one (cs_ret (ce_vd 5)))))))⟩
theorem ok_law_all (F:Fun K "_law_all" "_law_all" s_law_all f fd)(T:Txt mg)(D_law_sums:Def P w K mg base CX0 7 "_law_sums" ["_law_roll_here"] (spD K C 1 2 Dl.F__law_sums))(D_law_good:Def P w K mg base CX0 7 "_law_good" ["_law_sums_here","_law_kind","_law_at"] (spD K C 3 2 Dl.F__law_good)):FnOk P w K mg base CX0 8 f fd ["_law_roll_here","_law_table_here"] (spD K C 2 0 Dl.F__law_all):=by
  refine F.okC sc_law_all (Γ':=[]) (Δ':=[]) rfl fun cdv A outer s H E hr=>?_
  have sc:=sc_law_all
  have hu:_+64<cLine:=hr.units
  exact ⟨_,(css_cons [2] [2] (cs_set (i:=2) sc.nd rfl (Or.inl rfl) (ce_call D_law_sums (hr.mono (by decide)) rfl pass0 (ca_cons (ce_v 0) ca_nil star_name) (he:=star_name)))
      (css_cons [2,3] [2,3] (cs_set (i:=3) sc.nd rfl (Or.inl rfl) (ce_lst (ca_cons2 (ce_lst (ca_cons2 (ce_tup (ca_cons2 (ce_lst ca_nil) (ca_cons2 ce_int ca_nil star_const) star_list)) ca_nil star_tup)) ca_nil star_list)))
      (css_cons [2,3] [2] (cs_for [2,3] [2] PassesOwn.never rfl (ci_rng2 rfl T.range (ca_cons ce_int (ca_cons (ce_callB (r:=rLenA K) call_lenA gak_len rfl T.len PySem.boot_len (ca_cons (ce_v 2) ca_nil star_name) (he:=star_name)) ca_nil star_call) star_const)) (cg_name (i:=4) (hN:=sc.nd) (hi:=rfl) (hx:=Or.inl rfl)) (css_cons [2,3,5] [2] (cs_set1 (i:=5) sc.nd rfl (Or.inl rfl) (ce_listV K rfl T.list (ce_ixN K 3 (ce_op op_sub gok_sub (ce_v 4) ce_int) plain_bin) star_sub))
      (css_cons [2,3,5] [2] (cs_for [2,3,5] [2] PassesOwn.never rfl (ci_list (ce_v 1)) (cg_name (i:=6) (hN:=sc.nd) (hi:=rfl) (hx:=Or.inr rfl)) (css_weak [2,3,5,7] [2,7] (css_cons [2,3,5,7] [2,7] (cs_set (i:=7) sc.nd rfl (Or.inl rfl) (ce_op op_sub gok_sub (ce_v 4) (ce_ix K (ce_v 6) ce_int plain_const)))
      (css_one (cs_if (ct_val (ce_call D_law_good (hr.mono (by decide)) rfl pass0 (ca_cons (ce_v 2) (ca_cons (ce_v 6) (ca_cons (ce_v 7) ca_nil star_name) star_name) star_name) (he:=star_name))) (css_weak [2,3,5,7,8] [2,7,8] (css_cons [2,3,5,7,8] [2,7,8] (cs_set (i:=8) sc.nd rfl (Or.inr rfl) (ce_tup (ca_cons2 (ce_flat (ce_v 7)) (ca_cons2 (ce_flat (ce_ix K (ce_v 6) ce_int plain_const)) ca_nil star_sub) star_name)))
      (css_one (cs_extK K (i:=5) (ce_comp (n:=9) (defScope s_law_all) ["_law_roll_here","_law_table_here","_law_sums_here","_law_found","_law_end","_law_here","_law_kind","_law_at","_law_piece"] ["_law_roll_here","_law_table_here","_law_sums_here","_law_found","_law_end","_law_here","_law_kind","_law_at","_law_piece"] ["_law_some","_law_worth"] ⟨rfl,by decide +kernel,by decide +kernel,by decide +kernel,by decide +kernel,by decide +kernel,rfl,by decide +kernel⟩ (ci_list (ce_ixN K 3 (ce_v 7) plain_name)) (fun _ _ _ _ _=>(cb_tup K (cbs_cons (cb_name 9 (hN:=(by decide +kernel:List.Nodup (["_law_roll_here","_law_table_here","_law_sums_here","_law_found","_law_end","_law_here","_law_kind","_law_at","_law_piece","_law_some","_law_worth"]:List Str)))) (cbs_cons (cb_name 10 (hN:=(by decide +kernel:List.Nodup (["_law_roll_here","_law_table_here","_law_sums_here","_law_found","_law_end","_law_here","_law_kind","_law_at","_law_piece","_law_some","_law_worth"]:List Str)))) cbs_nil)))) (fun _ _ _ _ _=>cif_nil) (fun _ _ _ _ _=>(ce_tup (ca_cons2 (ce_op op_addA gok_add (ce_v 9 (hv:=Or.inl rfl)) (ce_lst1 (ca_cons (ce_v 8 (hv:=Or.inr (Or.inl rfl))) ca_nil star_name))) (ca_cons2 (ce_op op_addA gok_add (ce_v 10 (hv:=Or.inl rfl)) (ce_ix K (ce_v 6 (hv:=Or.inr (Or.inl rfl))) ce_int plain_const)) ca_nil star_bin) star_bin)))) star_comp)))) css_nil)))))
      (css_one (cs_appS (i:=3) (he:=(ce_v 5)) (hse:=star_name))))))
      (css_one (cs_ret0 (ce_ixN K 3 (ce_neg ce_int) plain_un))))))⟩
theorem ok_law_walked (F:Fun K "_law_walked" "_law_walked" s_law_walked f fd)(T:Txt mg)(D_law_sums:Def P w K mg base CX0 7 "_law_sums" ["_law_roll_here"] (spD K C 1 2 Dl.F__law_sums))(D_law_second:Def P w K mg base CX0 7 "_law_second" ["_law_worths"] (spD K C 1 2 Dl.F__law_second))(D_law_good:Def P w K mg base CX0 7 "_law_good" ["_law_sums_here","_law_kind","_law_at"] (spD K C 3 2 Dl.F__law_good)):FnOk P w K mg base CX0 8 f fd ["_law_roll_here","_law_table_here"] (spD K C 2 2 Dl.F__law_walked):=by
  refine F.okC sc_law_walked (Γ':=[]) (Δ':=[]) rfl fun cdv A outer s H E hr=>?_
  have sc:=sc_law_walked
  have hu:_+64<cLine:=hr.units
  exact ⟨_,(css_cons [2] [2] (cs_set (i:=2) sc.nd rfl (Or.inl rfl) (ce_call D_law_sums (hr.mono (by decide)) rfl pass0 (ca_cons (ce_v 0) ca_nil star_name) (he:=star_name)))
      (css_cons [2,3] [2,3] (cs_set (i:=3) sc.nd rfl (Or.inl rfl) (ce_lst (ca_cons2 (ce_lst (ca_cons2 ce_int ca_nil star_const)) ca_nil star_list)))
      (css_cons [2,3] [2,3] (cs_for [2,3] [2,3] PassesOwn.never rfl (ci_rng2 rfl T.range (ca_cons ce_int (ca_cons (ce_callB (r:=rLenA K) call_lenA gak_len rfl T.len PySem.boot_len (ca_cons (ce_v 2) ca_nil star_name) (he:=star_name)) ca_nil star_call) star_const)) (cg_name (i:=4) (hN:=sc.nd) (hi:=rfl) (hx:=Or.inl rfl)) (css_weak [2,3,5,8] [2,3,5,8] (css_cons [2,3,5] [2,3,5] (cs_set (i:=5) sc.nd rfl (Or.inl rfl) (ce_callTy (r:=rList K) (call_listA rfl) gak_list rfl T.list PyProof.Rows.boot_list (ca_cons (ce_ix K (ce_v 3) (ce_neg ce_int) plain_un) ca_nil star_sub) (he:=star_sub)))
      (css_cons [2,3,5] [2,3,5] (cs_for [2,3,5] [2,3,5] PassesOwn.never rfl (ci_list (ce_v 1)) (cg_name (i:=6) (hN:=sc.nd) (hi:=rfl) (hx:=Or.inr rfl)) (css_weak [2,3,5,7] [2,3,5,7] (css_cons [2,3,5,7] [2,3,5,7] (cs_set (i:=7) sc.nd rfl (Or.inl rfl) (ce_op op_sub gok_sub (ce_v 4) (ce_ix K (ce_v 6) ce_int plain_const)))
      (css_one (cs_if (ct_val (ce_call D_law_good (hr.mono (by decide)) rfl pass0 (ca_cons (ce_v 2) (ca_cons (ce_v 6) (ca_cons (ce_v 7) ca_nil star_name) star_name) star_name) (he:=star_name))) (css_one (cs_extK K (i:=5) (ce_comp (n:=9) (defScope s_law_walked) ["_law_roll_here","_law_table_here","_law_sums_here","_law_told","_law_end","_law_worths","_law_kind","_law_at","_law_second_here"] ["_law_roll_here","_law_table_here","_law_sums_here","_law_told","_law_end","_law_worths","_law_kind","_law_at","_law_second_here"] ["_law_worth"] ⟨rfl,by decide +kernel,by decide +kernel,by decide +kernel,by decide +kernel,by decide +kernel,rfl,by decide +kernel⟩ (ci_list (ce_ix K (ce_v 3) (ce_v 7) plain_name)) (fun _ _ _ _ _=>(cb_name 9 (hN:=(by decide +kernel:List.Nodup (["_law_roll_here","_law_table_here","_law_sums_here","_law_told","_law_end","_law_worths","_law_kind","_law_at","_law_second_here","_law_worth"]:List Str))))) (fun _ _ _ _ _=>cif_nil) (fun _ _ _ _ _=>(ce_op op_addA gok_add (ce_v 9 (hv:=Or.inl rfl)) (ce_ix K (ce_v 6 (hv:=Or.inr (Or.inl rfl))) ce_int plain_const)))) star_comp)) css_nil)))))
      (css_cons [2,3,5,8] [2,3,5,8] (cs_set (i:=8) sc.nd rfl (Or.inl rfl) (ce_call D_law_second (hr.mono (by decide)) rfl pass0 (ca_cons (ce_v 5) ca_nil star_name) (he:=star_name)))
      (css_one (cs_if (ct_cmp op_isA gok_is (ce_v 8) ce_non (nomark _)) (css_one (cs_app (i:=3) (he:=(ce_lst (ca_cons2 (ce_callB (r:=rMaxA K) (call_maxA rfl) gak_max rfl T.max PyProof.Rows.boot_max (ca_cons (ce_v 5) ca_nil star_name) (he:=star_name)) ca_nil star_call))) (hse:=star_list))) (css_one (cs_app (i:=3) (he:=(ce_lst (ca_cons2 (ce_callB (r:=rMaxA K) (call_maxA rfl) gak_max rfl T.max PyProof.Rows.boot_max (ca_cons (ce_v 5) ca_nil star_name) (he:=star_name)) (ca_cons2 (ce_flat (ce_v 8)) ca_nil star_name) star_call))) (hse:=star_list))))))))))
      (css_one (cs_ret (ce_call D_law_second (hr.mono (by decide)) rfl pass0 (ca_cons (ce_ix K (ce_v 3) (ce_neg ce_int) plain_un) ca_nil star_sub) (he:=star_sub)))))))⟩
theorem okending (F:Fun K "ending" "ending" sending f fd)(T:Txt mg)(Dfits:Def P w K mg base CX0 8 "fits" ["roll","kind","place"] (spD K C 3 2 Dl.F_fits)):FnOk P w K mg base CX0 9 f fd ["roll","table","end"] (spD K C 3 2 Dl.F_ending):=by
 refine F.okC scending (Γ':=[]) (Δ':=[]) rfl fun cdv A outer s H E hr=>?_
 have sc:=scending
 have hu:_+64<cLine:=hr.units
 exact ⟨_,(css_one (cs_ret (ce_comp (n:=3) (defScope sending) ["roll","table","end"] ["roll","table","end"] ["kind"] ⟨rfl,by decide +kernel,by decide +kernel,by decide +kernel,by decide +kernel,by decide +kernel,rfl,by decide +kernel⟩ (ci_list (ce_v 1)) (fun _ _ _ _ _=>(cb_name 3 (hN:=(by decide +kernel:List.Nodup (["roll","table","end","kind"]:List Str))))) (fun _ _ _ _ _=>cif_one (ct_val (ce_call Dfits (hr.mono (by decide)) rfl pass0 (ca_cons (ce_v 0 (hv:=Or.inr (Or.inl rfl))) (ca_cons (ce_v 3 (hv:=Or.inl rfl)) (ca_cons (ce_op op_sub gok_sub (ce_v 2 (hv:=Or.inr (Or.inl rfl))) (ce_ix K (ce_v 3 (hv:=Or.inl rfl)) ce_int plain_const)) ca_nil star_bin) star_name) star_name) (he:=star_name)))) (fun _ _ _ _ _=>(ce_flat (ce_v 3 (hv:=Or.inl rfl)))))))⟩
theorem ok_law_table (F:Fun K "_law_table" "_law_table" s_law_table f fd)(T:Txt mg)(D_law_row:Def P w K mg base CX0 8 "_law_row" ["_law_script","_law_place","_law_sizes"] (spD K C 3 2 Dl.F__law_row)):FnOk P w K mg base CX0 9 f fd ["_law_script","_law_place","_law_most"] (spD K C 3 2 Dl.F__law_table):=by
  refine F.okC sc_law_table (Γ':=[]) (Δ':=[]) rfl fun cdv A outer s H E hr=>?_
  have sc:=sc_law_table
  have hu:_+64<cLine:=hr.units
  exact ⟨_,(css_cons [3] [3] (cs_set (i:=3) sc.nd rfl (Or.inl rfl) (ce_lst (ca_cons2 ce_str (ca_cons2 ce_str (ca_cons2 ce_str (ca_cons2 ce_str (ca_cons2 ce_str (ca_cons2 ce_str (ca_cons2 ce_str (ca_cons2 ce_str (ca_cons2 ce_str (ca_cons2 ce_str ca_nil star_const) star_const) star_const) star_const) star_const) star_const) star_const) star_const) star_const) star_const)))
      (css_cons [3] [3] (cs_set (i:=3) sc.nd rfl (Or.inl rfl) (ce_op op_addA gok_add (ce_v 3) (ce_lst (ca_cons2 ce_str (ca_cons2 ce_str (ca_cons2 ce_str (ca_cons2 ce_str (ca_cons2 ce_str (ca_cons2 ce_str ca_nil star_const) star_const) star_const) star_const) star_const) star_const))))
      (css_cons [3,4] [3,4] (cs_set (i:=4) sc.nd rfl (Or.inl rfl) (ce_call D_law_row (hr.mono (by decide)) rfl pass0 (ca_cons (ce_v 0) (ca_cons (ce_v 1) (ca_cons (ce_op op_addA gok_add (ce_lst (ca_cons2 (ce_op op_addA gok_add (ce_v 2) ce_int) (ca_cons2 ce_int (ca_cons2 ce_int (ca_cons2 ce_int (ca_cons2 ce_int (ca_cons2 ce_int ca_nil star_const) star_const) star_const) star_const) star_const) star_bin)) (ce_op op_mulA gok_mul (ce_lst (ca_cons2 ce_int (ca_cons2 ce_int (ca_cons2 ce_int ca_nil star_const) star_const) star_const)) (ce_v 2))) ca_nil star_bin) star_name) star_name) (he:=star_name)))
      (css_cons [3,4,5] [3,4,5] (cs_set (i:=5) sc.nd rfl (Or.inl rfl) (ce_flat (ce_ix K (ce_lst (ca_cons2 ce_int (ca_cons2 ce_int (ca_cons2 ce_int (ca_cons2 (ce_op op_pow gok_pow ce_int ce_int) ca_nil star_bin) star_const) star_const) star_const)) (ce_ix K (ce_v 4) ce_int plain_const) plain_sub)))
      (css_cons [3,4,5,6] [3,4,5,6] (cs_set (i:=6) sc.nd rfl (Or.inl rfl) (ce_flat (ce_ix K (ce_lst (ca_cons2 ce_int (ca_cons2 ce_int (ca_cons2 (ce_op op_pow gok_pow ce_int ce_int) (ca_cons2 (ce_op op_mulA gok_mul ce_int (ce_op op_pow gok_pow ce_int ce_int)) ca_nil star_bin) star_bin) star_const) star_const)) (ce_ix K (ce_v 4) ce_int plain_const) plain_sub)))
      (css_cons [3,4,5,6,7] [3,4,5,6,7] (cs_set (i:=7) sc.nd rfl (Or.inl rfl) (ce_lst ca_nil))
      (css_cons [3,4,5,6,7] [3,4,5,6,7] (cs_for [3,4,5,6,7] [3,4,5,6,7] PassesOwn.never rfl (ci_rng1 rfl T.range (ca_cons (ce_ix K (ce_v 4) ce_int plain_const) ca_nil star_sub)) (cg_name (i:=8) (hN:=sc.nd) (hi:=rfl) (hx:=Or.inl rfl)) (css_weak [3,4,5,6,7,9,10,11,12,13] [3,4,5,6,7,9,10,11,12,13] (css_cons [3,4,5,6,7,9] [3,4,5,6,7,9] (cs_set (i:=9) sc.nd rfl (Or.inl rfl) (ce_op op_addA gok_add (ce_op op_mulA gok_mul ce_int (ce_v 8)) ce_int))
      (css_cons [3,4,5,6,7,9,10] [3,4,5,6,7,9,10] (cs_set (i:=10) sc.nd rfl (Or.inl rfl) (ce_flat (ce_ix K (ce_lst1 (ca_cons ce_int (ca_cons ce_int (ca_cons ce_int (ca_cons ce_int (ca_cons ce_int (ca_cons ce_int (ca_cons ce_int (ca_cons ce_int (ca_cons ce_int (ca_cons ce_int (ca_cons (ce_ix K (ce_lst (ca_cons2 ce_int (ca_cons2 ce_int ca_nil star_const) star_const)) (ce_op op_mod gok_mod (ce_v 8) ce_int) plain_bin) ca_nil star_sub) star_const) star_const) star_const) star_const) star_const) star_const) star_const) star_const) star_const) star_const)) (ce_ix K (ce_v 4) (ce_v 9) plain_name) plain_sub)))
      (css_cons [3,4,5,6,7,9,10,11] [3,4,5,6,7,9,10,11] (cs_set (i:=11) sc.nd rfl (Or.inl rfl) (ce_op op_addA gok_add ce_int (ce_ix K (ce_v 4) (ce_op op_addA gok_add (ce_v 9) ce_int) plain_bin)))
      (css_cons [3,4,5,6,7,9,10,11] [3,4,5,6,7,9,10,11] (cs_if (ct_cmp (r:=rEqA K) (op_eqA hu) gok_eq (ce_ix K (ce_v 4) ce_int plain_const) ce_int (nomark _)) (css_one (cs_set (i:=11) sc.nd rfl (Or.inl rfl) (ce_op op_addA gok_add (ce_op op_mulA gok_mul ce_int (ce_v 10)) (ce_op op_mod gok_mod (ce_ix K (ce_v 4) (ce_op op_addA gok_add (ce_v 9) ce_int) plain_bin) ce_int)))) css_nil)
      (css_cons [3,4,5,6,7,9,10,11] [3,4,5,6,7,9,10,11] (cs_if (ct_cmp (r:=rEqA K) (op_eqA hu) gok_eq (ce_ix K (ce_v 4) ce_int plain_const) ce_int (nomark _)) (css_one (cs_set (i:=11) sc.nd rfl (Or.inl rfl) (ce_op op_addA gok_add ce_int (ce_op op_mod gok_mod (ce_ix K (ce_v 4) (ce_op op_addA gok_add (ce_v 9) ce_int) plain_bin) ce_int)))) css_nil)
      (css_cons [3,4,5,6,7,9,10,11] [3,4,5,6,7,9,10,11] (cs_if (ct_cmp (r:=rEqA K) (op_eqA hu) gok_eq (ce_ix K (ce_v 4) ce_int plain_const) ce_int (nomark _)) (css_one (cs_set (i:=11) sc.nd rfl (Or.inl rfl) (ce_flat (ce_v 10)))) css_nil)
      (css_cons [3,4,5,6,7,9,10,11,12] [3,4,5,6,7,9,10,11,12] (cs_set (i:=12) sc.nd rfl (Or.inl rfl) (ce_callB (r:=rMin2) (call_minR rfl) gak_min rfl T.min PyProof.Rows.boot_min (ca_cons (ce_op op_mulA gok_mul (ce_ix K (ce_lst (ca_cons2 ce_int (ca_cons2 ce_int (ca_cons2 ce_int (ca_cons2 ce_int (ca_cons2 ce_int (ca_cons2 ce_int ca_nil star_const) star_const) star_const) star_const) star_const) star_const)) (ce_ix K (ce_v 4) (ce_op op_addA gok_add (ce_v 9) ce_int) plain_bin) plain_sub) (ce_v 5)) (ca_cons (ce_op op_sub gok_sub (ce_op op_pow gok_pow ce_int ce_int) ce_int) ca_nil star_bin) star_bin) (he:=star_bin)))
      (css_cons [3,4,5,6,7,9,10,11,12,13] [3,4,5,6,7,9,10,11,12,13] (cs_set (i:=13) sc.nd rfl (Or.inl rfl) (ce_flat (ce_ix K (ce_v 3) (ce_op op_mod gok_mod (ce_op op_addA gok_add (ce_ix K (ce_v 4) ce_int plain_const) (ce_op op_mulA gok_mul (ce_op op_addA gok_add (ce_op op_mulA gok_mul ce_int (ce_ix K (ce_v 4) ce_int plain_const)) ce_int) (ce_v 8))) ce_int) plain_bin)))
      (css_one (cs_app (i:=7) (he:=(ce_tup (ca_cons2 (ce_flat (ce_v 13)) (ca_cons2 (ce_flat (ce_v 10)) (ca_cons2 (ce_callB (r:=rMin2) (call_minR rfl) gak_min rfl T.min PyProof.Rows.boot_min (ca_cons (ce_op op_mulA gok_mul (ce_v 11) (ce_v 6)) (ca_cons (ce_op op_pow gok_pow ce_int ce_int) ca_nil star_bin) star_bin) (he:=star_bin)) (ca_cons2 (ce_flat (ce_v 12)) ca_nil star_name) star_call) star_name) star_name))) (hse:=star_tup)))))))))))))
      (css_one (cs_ret (ce_vd 7))))))))))⟩
theorem ok_law_flaw (F:Fun K "_law_flaw" "_law_flaw" s_law_flaw f fd)(T:Txt mg)(D_law_row:Def P w K mg base CX0 8 "_law_row" ["_law_script","_law_place","_law_sizes"] (spD K C 3 2 Dl.F__law_row)):FnOk P w K mg base CX0 9 f fd ["_law_script","_law_place","_law_most"] (spD K C 3 2 Dl.F__law_flaw):=by
 refine F.okC sc_law_flaw (Γ':=[]) (Δ':=[]) rfl fun cdv A outer s H E hr=>?_
 have sc:=sc_law_flaw
 have hu:_+64<cLine:=hr.units
 exact ⟨_,(css_one (cs_ret (ce_flat (ce_ix K (ce_lst (ca_cons2 ce_int (ca_cons2 ce_int (ca_cons2 ce_int (ca_cons2 (ce_op op_pow gok_pow ce_int ce_int) ca_nil star_bin) star_const) star_const) star_const)) (ce_ix K (ce_call D_law_row (hr.mono (by decide)) rfl pass0 (ca_cons (ce_v 0) (ca_cons (ce_v 1) (ca_cons (ce_lst (ca_cons2 (ce_op op_addA gok_add (ce_v 2) ce_int) (ca_cons2 ce_int ca_nil star_const) star_bin)) ca_nil star_list) star_name) star_name) (he:=star_name)) ce_int plain_const) plain_sub))))⟩
theorem ok_law_roll (F:Fun K "_law_roll" "_law_roll" s_law_roll f fd)(T:Txt mg)(D_law_row:Def P w K mg base CX0 8 "_law_row" ["_law_script","_law_place","_law_sizes"] (spD K C 3 2 Dl.F__law_row)):FnOk P w K mg base CX0 9 f fd ["_law_script","_law_place","_law_most","_law_flaw_here"] (spD K C 4 2 Dl.F__law_roll):=by
  refine F.okC sc_law_roll (Γ':=[]) (Δ':=[]) rfl fun cdv A outer s H E hr=>?_
  have sc:=sc_law_roll
  have hu:_+64<cLine:=hr.units
  exact ⟨_,(css_cons [4] [4] (cs_set (i:=4) sc.nd rfl (Or.inl rfl) (ce_call D_law_row (hr.mono (by decide)) rfl pass0 (ca_cons (ce_v 0) (ca_cons (ce_v 1) (ca_cons (ce_op op_addA gok_add (ce_lst (ca_cons2 (ce_op op_addA gok_add (ce_v 2) ce_int) (ca_cons2 ce_int (ca_cons2 ce_int ca_nil star_const) star_const) star_bin)) (ce_op op_mulA gok_mul (ce_lst (ca_cons2 ce_int (ca_cons2 ce_int ca_nil star_const) star_const)) (ce_v 2))) ca_nil star_bin) star_name) star_name) (he:=star_name)))
      (css_cons [4,5] [4,5] (cs_set (i:=5) sc.nd rfl (Or.inl rfl) (ce_op op_mulA gok_mul ce_int (ce_v 3)))
      (css_cons [4,5] [4,5] (cs_if (ct_cmp (r:=rEqA K) (op_eqA hu) gok_eq (ce_ix K (ce_v 4) ce_int plain_const) ce_int (nomark _)) (css_one (cs_set (i:=5) sc.nd rfl (Or.inl rfl) (ce_op op_pow gok_pow ce_int ce_int))) css_nil)
      (css_cons [4,5,6] [4,5,6] (cs_set (i:=6) sc.nd rfl (Or.inl rfl) (ce_lst ca_nil))
      (css_cons [4,5,6] [4,5,6] (cs_for [4,5,6] [4,5,6] PassesOwn.never rfl (ci_rng1 rfl T.range (ca_cons (ce_ix K (ce_v 4) ce_int plain_const) ca_nil star_sub)) (cg_name (i:=7) (hN:=sc.nd) (hi:=rfl) (hx:=Or.inl rfl)) (css_weak [4,5,6,8,9] [4,5,6,8,9] (css_cons [4,5,6,8] [4,5,6,8] (cs_set (i:=8) sc.nd rfl (Or.inl rfl) (ce_op op_addA gok_add (ce_op op_mulA gok_mul ce_int (ce_v 7)) ce_int))
      (css_cons [4,5,6,8,9] [4,5,6,8,9] (cs_set (i:=9) sc.nd rfl (Or.inl rfl) ce_int)
      (css_cons [4,5,6,8,9] [4,5,6,8,9] (cs_if (ct_cmp op_lt gok_lt (ce_ix K (ce_v 4) (ce_v 8) plain_name) (ce_ix K (ce_lst (ca_cons2 ce_int (ca_cons2 ce_int (ca_cons2 ce_int (ca_cons2 ce_int ca_nil star_const) star_const) star_const) star_const)) (ce_ix K (ce_v 4) ce_int plain_const) plain_sub) (nomark _)) (css_one (cs_set (i:=9) sc.nd rfl (Or.inl rfl) (ce_flat (ce_ix K (ce_lst1 (ca_cons (ce_v 3) (ca_cons (ce_v 3) (ca_cons (ce_op op_mulA gok_mul ce_int (ce_v 3)) (ca_cons (ce_op op_mulA gok_mul ce_int (ce_v 3)) (ca_cons (ce_v 5) ca_nil star_name) star_bin) star_bin) star_name) star_name)) (ce_ix K (ce_v 4) (ce_op op_addA gok_add (ce_v 8) ce_int) plain_bin) plain_sub)))) css_nil)
      (css_one (cs_app (i:=6) (he:=(ce_flat (ce_v 9))) (hse:=star_name))))))))
      (css_one (cs_ret (ce_vd 6))))))))⟩
theorem okrunner_up (F:Fun K "runner_up" "runner_up" srunner_up f fd)(T:Txt mg)(Dending:Def P w K mg base CX0 9 "ending" ["roll","table","end"] (spD K C 3 2 Dl.F_ending)):FnOk P w K mg base CX0 10 f fd ["roll","table"] (spD K C 2 2 Dl.F_runner_up):=by
  refine F.okC scrunner_up (Γ':=[]) (Δ':=[]) rfl fun cdv A outer s H E hr=>?_
  have sc:=scrunner_up
  have hu:_+64<cLine:=hr.units
  exact ⟨_,(css_cons [2] [2] (cs_set (i:=2) sc.nd rfl (Or.inl rfl) (ce_lst (ca_cons2 (ce_lst (ca_cons2 ce_int ca_nil star_const)) ca_nil star_list)))
      (css_cons [2] [2] (cs_for [2] [2] PassesOwn.never rfl (ci_rng2 rfl T.range (ca_cons ce_int (ca_cons (ce_op op_addA gok_add (ce_callB (r:=rLenA K) call_lenA gak_len rfl T.len PySem.boot_len (ca_cons (ce_v 0) ca_nil star_name) (he:=star_name)) ce_int) ca_nil star_bin) star_const)) (cg_name (i:=3) (hN:=sc.nd) (hi:=rfl) (hx:=Or.inl rfl)) (css_weak [2,4] [2,4] (css_cons [2,4] [2,4] (cs_set (i:=4) sc.nd rfl (Or.inl rfl) (ce_callTy (r:=rList K) (call_listA rfl) gak_list rfl T.list PyProof.Rows.boot_list (ca_cons (ce_ix K (ce_v 2) (ce_neg ce_int) plain_un) ca_nil star_sub) (he:=star_sub)))
      (css_cons [2,4] [2,4] (cs_for [2,4] [2,4] PassesOwn.never rfl (ci_list (ce_call Dending (hr.mono (by decide)) rfl pass0 (ca_cons (ce_v 0) (ca_cons (ce_v 1) (ca_cons (ce_v 3) ca_nil star_name) star_name) star_name) (he:=star_name))) (cg_name (i:=5) (hN:=sc.nd) (hi:=rfl) (hx:=Or.inr rfl)) (css_one (cs_extK K (i:=4) (ce_comp (n:=6) (defScope srunner_up) ["roll","table","greatest","end","worths","kind"] ["roll","table","greatest","end","worths","kind"] ["worth"] ⟨rfl,by decide +kernel,by decide +kernel,by decide +kernel,by decide +kernel,by decide +kernel,rfl,by decide +kernel⟩ (ci_list (ce_ix K (ce_v 2) (ce_op op_sub gok_sub (ce_v 3) (ce_ix K (ce_v 5) ce_int plain_const)) plain_bin)) (fun _ _ _ _ _=>(cb_name 6 (hN:=(by decide +kernel:List.Nodup (["roll","table","greatest","end","worths","kind","worth"]:List Str))))) (fun _ _ _ _ _=>cif_nil) (fun _ _ _ _ _=>(ce_op op_addA gok_add (ce_v 6 (hv:=Or.inl rfl)) (ce_ix K (ce_v 5 (hv:=Or.inr (Or.inl rfl))) ce_int plain_const)))) star_comp)))
      (css_one (cs_app (i:=2) (he:=(ce_sl K (ce_sortS K rfl T.sorted rfl T.set (ce_v 4) star_name) (co_some (ce_neg ce_int)) co_none)) (hse:=star_sub)))))))
      (css_cons [2] [2] (cs_if (ct_cmp (r:=rEqA K) (op_eqA hu) gok_eq (ce_callB (r:=rLenA K) call_lenA gak_len rfl T.len PySem.boot_len (ca_cons (ce_ix K (ce_v 2) (ce_neg ce_int) plain_un) ca_nil star_sub) (he:=star_sub)) ce_int (nomark _)) (css_one (cs_ret ce_non)) css_nil)
      (css_one (cs_ret (ce_flat (ce_ix K (ce_ix K (ce_v 2) (ce_neg ce_int) plain_un) ce_int plain_const)))))))⟩
theorem ok_law_drawn (F:Fun K "_law_drawn" "_law_drawn" s_law_drawn f fd)(T:Txt mg)(D_law_flaw:Def P w K mg base CX0 9 "_law_flaw" ["_law_script","_law_place","_law_most"] (spD K C 3 2 Dl.F__law_flaw))(D_law_roll:Def P w K mg base CX0 9 "_law_roll" ["_law_script","_law_place","_law_most","_law_flaw_here"] (spD K C 4 2 Dl.F__law_roll))(D_law_table:Def P w K mg base CX0 9 "_law_table" ["_law_script","_law_place","_law_most"] (spD K C 3 2 Dl.F__law_table)):FnOk P w K mg base CX0 10 f fd ["_law_script","_law_place","_law_most","_law_kinds"] (spD K C 4 2 Dl.F__law_drawn):=by
  refine F.okC sc_law_drawn (Γ':=[]) (Δ':=[]) rfl fun cdv A outer s H E hr=>?_
  have sc:=sc_law_drawn
  have hu:_+64<cLine:=hr.units
  exact ⟨_,(css_cons [4] [4] (cs_set (i:=4) sc.nd rfl (Or.inl rfl) (ce_call D_law_flaw (hr.mono (by decide)) rfl pass0 (ca_cons (ce_v 0) (ca_cons (ce_v 1) (ca_cons (ce_v 3) ca_nil star_name) star_name) star_name) (he:=star_name)))
      (css_one (cs_ret (ce_tup (ca_cons2 (ce_call D_law_roll (hr.mono (by decide)) rfl pass0 (ca_cons (ce_v 0) (ca_cons (ce_op op_addA gok_add (ce_v 1) ce_int) (ca_cons (ce_v 2) (ca_cons (ce_v 4) ca_nil star_name) star_name) star_bin) star_name) (he:=star_name)) (ca_cons2 (ce_call D_law_table (hr.mono (by decide)) rfl pass0 (ca_cons (ce_v 0) (ca_cons (ce_v 1) (ca_cons (ce_v 3) ca_nil star_name) star_name) star_name) (he:=star_name)) ca_nil star_call) star_call)))))⟩
theorem ok_law_right (F:Fun K "_law_right" "_law_right" s_law_right f fd)(T:Txt mg)(Drunner_up:Def P w K mg base CX0 10 "runner_up" ["roll","table"] (spD K C 2 2 Dl.F_runner_up)):FnOk P w K mg base CX0 11 f fd ["_law_roll_here","_law_table_here","_law_due"] (spD K C 3 2 Dl.F__law_right):=by
  refine F.okC sc_law_right (Γ':=[]) (Δ':=[]) rfl fun cdv A outer s H E hr=>?_
  have sc:=sc_law_right
  have hu:_+64<cLine:=hr.units
  exact ⟨_,(css_cons [3] [3] (cs_set (i:=3) sc.nd rfl (Or.inl rfl) (ce_lst (ca_cons2 (ce_callTy (r:=rList K) (call_listA rfl) gak_list rfl T.list PyProof.Rows.boot_list (ca_cons (ce_v 0) ca_nil star_name) (he:=star_name)) (ca_cons2 (ce_callTy (r:=rList K) (call_listA rfl) gak_list rfl T.list PyProof.Rows.boot_list (ca_cons (ce_v 1) ca_nil star_name) (he:=star_name)) ca_nil star_call) star_call)))
      (css_cons [3] [3] (cs_for [3] [3] PassesOwn.never rfl (ci_rng1 rfl T.range (ca_cons ce_int ca_nil star_const)) (cg_name (i:=4) (hN:=sc.nd) (hi:=rfl) (hx:=Or.inl rfl)) (css_weak [3,5] [3,5] (css_cons [3,5] [3,5] (cs_set (i:=5) sc.nd rfl (Or.inl rfl) (ce_call Drunner_up (hr.mono (by decide)) rfl pass0 (ca_cons (ce_ix K (ce_v 3) ce_int plain_const) (ca_cons (ce_ix K (ce_v 3) ce_int plain_const) ca_nil star_sub) star_sub) (he:=star_sub)))
      (css_cons [3,5] [3,5] (cs_if (ct_w (cw_and (ct_cmp op_isA gok_is (ce_v 2) ce_non (nomark _)) (cw_and1 (ct_cmp op_notA gok_isNot (ce_v 5) ce_non (nomark _))))) (css_one (cs_ret ce_bl)) css_nil)
      (css_cons [3,5] [3,5] (cs_if (ct_w (cw_and (ct_cmp op_notA gok_isNot (ce_v 2) ce_non (nomark _)) (cw_and1 (ct_w (cw_or (ct_val (ce_isI K (ty:="bool") kit_bool rfl T.isinstance rfl T.bool PyProof.Rows.boot_bool (ce_v 5) star_name)) (cw_or1 (ct_not (ct_val (ce_isI K (ty:="int") kit_int rfl T.isinstance rfl T.int PyProof.Rows.boot_int (ce_v 5) star_name))))))))) (css_one (cs_ret ce_bl)) css_nil)
      (css_one (cs_if (ct_cmp (r:=rNeA K) (op_neA hu) gok_ne (ce_v 5) (ce_v 2) (nomark _)) (css_one (cs_ret ce_bl)) css_nil)))))))
      (css_one (cs_ret (ce_cmp (r:=rEqA K) (op_eqA hu) gok_eq (ce_v 3) (ce_lst1 (ca_cons (ce_v 0) (ca_cons (ce_v 1) ca_nil star_name) star_name)) (nomark _))))))⟩
theorem oklaw (F:Fun K "law" "law" slaw f fd)(T:Txt mg)(D_law_drawn:Def P w K mg base CX0 10 "_law_drawn" ["_law_script","_law_place","_law_most","_law_kinds"] (spD K C 4 2 Dl.F__law_drawn))(D_law_short:Def P w K mg base CX0 7 "_law_short" ["_law_roll_here","_law_table_here"] (spD K C 2 2 Dl.F__law_short))(D_law_second:Def P w K mg base CX0 7 "_law_second" ["_law_worths"] (spD K C 1 2 Dl.F__law_second))(D_law_walked:Def P w K mg base CX0 8 "_law_walked" ["_law_roll_here","_law_table_here"] (spD K C 2 2 Dl.F__law_walked))(D_law_right:Def P w K mg base CX0 11 "_law_right" ["_law_roll_here","_law_table_here","_law_due"] (spD K C 3 2 Dl.F__law_right))(D_law_row:Def P w K mg base CX0 8 "_law_row" ["_law_script","_law_place","_law_sizes"] (spD K C 3 2 Dl.F__law_row))(D_law_all:Def P w K mg base CX0 8 "_law_all" ["_law_roll_here","_law_table_here"] (spD K C 2 0 Dl.F__law_all)):FnOk P w K mg base CX0 12 f fd ["_law_script"] (spD K C 1 2 Dl.F_law):=by
  refine F.okC sclaw (Γ':=[]) (Δ':=[]) rfl fun cdv A outer s H E hr=>?_
  have sc:=sclaw
  have hu:_+64<cLine:=hr.units
  exact ⟨_,(css_cons [1] [1] (cs_set (i:=1) sc.nd rfl (Or.inl rfl) ce_int)
      (css_cons [1] [1] (cs_if (ct_cmp (r:=rEqA K) (op_eqA hu) gok_eq (ce_ix K (ce_call D_law_row (hr.mono (by decide)) rfl pass0 (ca_cons (ce_v 0) (ca_cons ce_int (ca_cons (ce_lst (ca_cons2 ce_int ca_nil star_const)) ca_nil star_list) star_const) star_name) (he:=star_name)) ce_int plain_const) ce_int (nomark _)) (css_one (cs_set (i:=1) sc.nd rfl (Or.inl rfl) ce_int)) css_nil)
      (css_cons [1,2,3] [1,2,3] (cs_unpack rfl (ce_call D_law_drawn (hr.mono (by decide)) rfl pass0 (ca_cons (ce_v 0) (ca_cons ce_int (ca_cons (ce_v 1) (ca_cons ce_int ca_nil star_const) star_name) star_const) star_name) (he:=star_name)) (cn_cons (i:=2) sc.nd rfl (Or.inl rfl) (cn_cons (i:=3) sc.nd rfl (Or.inl rfl) cn_nil)))
      (css_cons [1,2,3,4] [1,2,3,4] (cs_set (i:=4) sc.nd rfl (Or.inl rfl) (ce_call D_law_short (hr.mono (by decide)) rfl pass0 (ca_cons (ce_v 2) (ca_cons (ce_v 3) ca_nil star_name) star_name) (he:=star_name)))
      (css_cons [1,2,3,4,5] [1,2,3,4,5] (cs_set (i:=5) sc.nd rfl (Or.inl rfl) (ce_call D_law_second (hr.mono (by decide)) rfl pass0 (ca_cons (ce_comp (n:=6) (defScope slaw) ["_law_script","_law_most","_law_roll_here","_law_table_here","_law_short_here","_law_due"] ["_law_script","_law_most","_law_roll_here","_law_table_here","_law_short_here","_law_due"] ["_law_cutting","_law_worth"] ⟨rfl,by decide +kernel,by decide +kernel,by decide +kernel,by decide +kernel,by decide +kernel,rfl,by decide +kernel⟩ (ci_list (ce_call D_law_all (hr.mono (by decide)) rfl pass0 (ca_cons (ce_v 4) (ca_cons (ce_v 3) ca_nil star_name) star_name) (he:=star_name))) (fun _ _ _ _ _=>(cb_tup K (cbs_cons (cb_name 6 (hN:=(by decide +kernel:List.Nodup (["_law_script","_law_most","_law_roll_here","_law_table_here","_law_short_here","_law_due","_law_cutting","_law_worth"]:List Str)))) (cbs_cons (cb_name 7 (hN:=(by decide +kernel:List.Nodup (["_law_script","_law_most","_law_roll_here","_law_table_here","_law_short_here","_law_due","_law_cutting","_law_worth"]:List Str)))) cbs_nil)))) (fun _ _ _ _ _=>cif_nil) (fun _ _ _ _ _=>(ce_flat (ce_v 7 (hv:=Or.inl rfl))))) ca_nil star_comp) (he:=star_comp)))
      (css_cons [1,2,3,4,5] [1,2,3,4,5] (cs_if (ct_w (cw_or (ct_not (ct_val (ce_call D_law_right (hr.mono (by decide)) rfl pass0 (ca_cons (ce_v 4) (ca_cons (ce_v 3) (ca_cons (ce_v 5) ca_nil star_name) star_name) star_name) (he:=star_name)))) (cw_or1 (ct_not (ct_val (ce_call D_law_right (hr.mono (by decide)) rfl pass0 (ca_cons (ce_rev K (ce_v 4) (ce_neg ce_int)) (ca_cons (ce_v 3) (ca_cons (ce_v 5) ca_nil star_name) star_name) star_sub) (he:=star_sub))))))) (css_one (cs_ret ce_bl)) css_nil)
      (css_cons [1,2,3,4,5] [1,2,3,4,5] (cs_set (i:=5) sc.nd rfl (Or.inl rfl) (ce_call D_law_walked (hr.mono (by decide)) rfl pass0 (ca_cons (ce_v 2) (ca_cons (ce_v 3) ca_nil star_name) star_name) (he:=star_name)))
      (css_one (cs_ret (ce_and (ce_call D_law_right (hr.mono (by decide)) rfl pass0 (ca_cons (ce_v 2) (ca_cons (ce_v 3) (ca_cons (ce_v 5) ca_nil star_name) star_name) star_name) (he:=star_name)) (ce_one (ce_call D_law_right (hr.mono (by decide)) rfl pass0 (ca_cons (ce_rev K (ce_v 2) (ce_neg ce_int)) (ca_cons (ce_v 3) (ca_cons (ce_v 5) ca_nil star_name) star_name) star_sub) (he:=star_sub)))))))))))))⟩
end
noncomputable def spLaw (K:Frag):Sp:=fun vs H Q _=>∃(a:Addr) (ns:List Int),vs=[.ref a]∧FzL K H a (ns.map V.int)∧ns.length≤63∧∀H',Q (.bl true) H'
theorem fz_of {K:Frag}{H:Hp}{a:Addr}{xs:List V}(hO:Only H)(h:SqL K H a xs):FzL K H a xs:=by
 rcases h with (h | h) | h
 ·rcases hO a with z | ⟨o,ys,z⟩
  ·rw [h] at z;cases z
  ·rw [h] at z;cases z
 ·exact .inl h
 ·exact .inr h
theorem law_true (ns:List Int)(h:ns.length≤63):Dl.F_law [.scr ns]=.ok (.bl true):=Dl.law36_true ns h
theorem all_mk {l:PySem.W.OpenLaw}{w:World}{K:Frag}{h:Heap}{mg:Str→Option Value}{fa f1 f2 f3 f4 f5 f6 f7 f8 f9 f10 f11 f12 f13 f14 f15 f16 f17 f18 f19:Addr}(X:K.In h)(G:h.Ns mainGlobals mg)(hfa:mg "law"=some (.ref fa))
  {fd1 fd2 fd3 fd4 fd5 fd6 fd7 fd8 fd9 fd10 fd11 fd12 fd13 fd14 fd15 fd16 fd17 fd18 fd19:FuncData}
  (a1:nsIn K mainGlobals "spoilt"=some (some (.ref f1))) (F1:Fun K "spoilt" "spoilt" sspoilt f1 fd1)
  (a2:nsIn K mainGlobals "fits"=some (some (.ref f2))) (F2:Fun K "fits" "fits" sfits f2 fd2)
  (a3:nsIn K mainGlobals "ending"=some (some (.ref f3))) (F3:Fun K "ending" "ending" sending f3 fd3)
  (a4:nsIn K mainGlobals "runner_up"=some (some (.ref f4))) (F4:Fun K "runner_up" "runner_up" srunner_up f4 fd4)
  (a5:nsIn K mainGlobals "_law_cell"=some (some (.ref f5))) (F5:Fun K "_law_cell" "_law_cell" s_law_cell f5 fd5)
  (a6:nsIn K mainGlobals "_law_mix"=some (some (.ref f6))) (F6:Fun K "_law_mix" "_law_mix" s_law_mix f6 fd6)
  (a7:nsIn K mainGlobals "_law_row"=some (some (.ref f7))) (F7:Fun K "_law_row" "_law_row" s_law_row f7 fd7)
  (a8:nsIn K mainGlobals "_law_table"=some (some (.ref f8))) (F8:Fun K "_law_table" "_law_table" s_law_table f8 fd8)
  (a9:nsIn K mainGlobals "_law_flaw"=some (some (.ref f9))) (F9:Fun K "_law_flaw" "_law_flaw" s_law_flaw f9 fd9)
  (a10:nsIn K mainGlobals "_law_roll"=some (some (.ref f10))) (F10:Fun K "_law_roll" "_law_roll" s_law_roll f10 fd10)
  (a11:nsIn K mainGlobals "_law_drawn"=some (some (.ref f11))) (F11:Fun K "_law_drawn" "_law_drawn" s_law_drawn f11 fd11)
  (a12:nsIn K mainGlobals "_law_sums"=some (some (.ref f12))) (F12:Fun K "_law_sums" "_law_sums" s_law_sums f12 fd12)
  (a13:nsIn K mainGlobals "_law_good"=some (some (.ref f13))) (F13:Fun K "_law_good" "_law_good" s_law_good f13 fd13)
  (a14:nsIn K mainGlobals "_law_short"=some (some (.ref f14))) (F14:Fun K "_law_short" "_law_short" s_law_short f14 fd14)
  (a15:nsIn K mainGlobals "_law_all"=some (some (.ref f15))) (F15:Fun K "_law_all" "_law_all" s_law_all f15 fd15)
  (a16:nsIn K mainGlobals "_law_second"=some (some (.ref f16))) (F16:Fun K "_law_second" "_law_second" s_law_second f16 fd16)
  (a17:nsIn K mainGlobals "_law_walked"=some (some (.ref f17))) (F17:Fun K "_law_walked" "_law_walked" s_law_walked f17 fd17)
  (a18:nsIn K mainGlobals "_law_right"=some (some (.ref f18))) (F18:Fun K "_law_right" "_law_right" s_law_right f18 fd18)
  (a19:nsIn K mainGlobals "law"=some (some (.ref f19))) (F19:Fun K "law" "law" slaw f19 fd19)
  (z1:nsIn K mainGlobals "sum"=some none)
  (z2:nsIn K mainGlobals "len"=some none)
  (z3:nsIn K mainGlobals "range"=some none)
  (z4:nsIn K mainGlobals "list"=some none)
  (z5:nsIn K mainGlobals "sorted"=some none)
  (z6:nsIn K mainGlobals "set"=some none)
  (z7:nsIn K mainGlobals "min"=some none)
  (z8:nsIn K mainGlobals "max"=some none)
  (z9:nsIn K mainGlobals "isinstance"=some none)
  (z10:nsIn K mainGlobals "bool"=some none)
  (z11:nsIn K mainGlobals "int"=some none)
  : ∃fd:FuncData,(∀(s:Shared) (v:Value),BindsTo s fd ⟨[v],[]⟩ [("_law_script",v)])∧∀base:Heap,K.In base→base.Ns mainGlobals mg→FnOk l.prog w K mg base CX0 12 fa fd ["_law_script"] (spLaw K):=by
 have e:=hfa.symm.trans (mg_of X G a19)
 cases e
 have T:Txt mg:=⟨mg_none_of X G z1,mg_none_of X G z2,mg_none_of X G z3,mg_none_of X G z4,mg_none_of X G z5,mg_none_of X G z6,mg_none_of X G z7,mg_none_of X G z8,mg_none_of X G z9,mg_none_of X G z10,mg_none_of X G z11⟩
 obtain ⟨oc,od,kV,doc,pm,an,cdv,ct,osl,rfl,lk,hcd⟩:=F19.ex
 refine ⟨fnOf "law" "law" (defArgs slaw) (defBody slaw) (defScope slaw) .none kV doc pm an cdv ct,fun s v=>.of_eq rfl,fun base _ _=>?_⟩
 have b1:=F1.binds (ps:=["roll","begin","end"]) fun _ _ _ _ _ _=>allN3 (fun _ _ _=>rfl)
 have Dspoilt:Def l.prog w K mg base CX0 7 "spoilt" ["roll","begin","end"] (spD K (fun _=>0) 3 2 Dl.F_spoilt):=⟨f1,_,mg_of X G a1,F1.kp,b1,okspoilt F1 T⟩
 have b5:=F5.binds (ps:=["_law_script","_law_place"]) fun _ _ _ _ _ _=>allN2 (fun _ _=>rfl)
 have D_law_cell:Def l.prog w K mg base CX0 7 "_law_cell" ["_law_script","_law_place"] (spD K (fun _=>0) 2 2 Dl.F__law_cell):=⟨f5,_,mg_of X G a5,F5.kp,b5,ok_law_cell F5 T⟩
 have b6:=F6.binds (ps:=["_law_cell_here","_law_k"]) fun _ _ _ _ _ _=>allN2 (fun _ _=>rfl)
 have D_law_mix:Def l.prog w K mg base CX0 7 "_law_mix" ["_law_cell_here","_law_k"] (spD K (fun _=>0) 2 2 Dl.F__law_mix):=⟨f6,_,mg_of X G a6,F6.kp,b6,ok_law_mix F6 T⟩
 have b12:=F12.binds (ps:=["_law_roll_here"]) fun _ _ _ _ _ _=>allN1 (fun _=>rfl)
 have D_law_sums:Def l.prog w K mg base CX0 7 "_law_sums" ["_law_roll_here"] (spD K (fun _=>0) 1 2 Dl.F__law_sums):=⟨f12,_,mg_of X G a12,F12.kp,b12,ok_law_sums F12 T⟩
 have b13:=F13.binds (ps:=["_law_sums_here","_law_kind","_law_at"]) fun _ _ _ _ _ _=>allN3 (fun _ _ _=>rfl)
 have D_law_good:Def l.prog w K mg base CX0 7 "_law_good" ["_law_sums_here","_law_kind","_law_at"] (spD K (fun _=>0) 3 2 Dl.F__law_good):=⟨f13,_,mg_of X G a13,F13.kp,b13,ok_law_good F13 T⟩
 have b14:=F14.binds (ps:=["_law_roll_here","_law_table_here"]) fun _ _ _ _ _ _=>allN2 (fun _ _=>rfl)
 have D_law_short:Def l.prog w K mg base CX0 7 "_law_short" ["_law_roll_here","_law_table_here"] (spD K (fun _=>0) 2 2 Dl.F__law_short):=⟨f14,_,mg_of X G a14,F14.kp,b14,ok_law_short F14 T⟩
 have b16:=F16.binds (ps:=["_law_worths"]) fun _ _ _ _ _ _=>allN1 (fun _=>rfl)
 have D_law_second:Def l.prog w K mg base CX0 7 "_law_second" ["_law_worths"] (spD K (fun _=>0) 1 2 Dl.F__law_second):=⟨f16,_,mg_of X G a16,F16.kp,b16,ok_law_second F16 T⟩
 have b2:=F2.binds (ps:=["roll","kind","place"]) fun _ _ _ _ _ _=>allN3 (fun _ _ _=>rfl)
 have Dfits:Def l.prog w K mg base CX0 8 "fits" ["roll","kind","place"] (spD K (fun _=>0) 3 2 Dl.F_fits):=⟨f2,_,mg_of X G a2,F2.kp,b2,okfits F2 T Dspoilt⟩
 have b7:=F7.binds (ps:=["_law_script","_law_place","_law_sizes"]) fun _ _ _ _ _ _=>allN3 (fun _ _ _=>rfl)
 have D_law_row:Def l.prog w K mg base CX0 8 "_law_row" ["_law_script","_law_place","_law_sizes"] (spD K (fun _=>0) 3 2 Dl.F__law_row):=⟨f7,_,mg_of X G a7,F7.kp,b7,ok_law_row F7 T D_law_cell D_law_mix⟩
 have b15:=F15.binds (ps:=["_law_roll_here","_law_table_here"]) fun _ _ _ _ _ _=>allN2 (fun _ _=>rfl)
 have D_law_all:Def l.prog w K mg base CX0 8 "_law_all" ["_law_roll_here","_law_table_here"] (spD K (fun _=>0) 2 0 Dl.F__law_all):=⟨f15,_,mg_of X G a15,F15.kp,b15,ok_law_all F15 T D_law_sums D_law_good⟩
 have b17:=F17.binds (ps:=["_law_roll_here","_law_table_here"]) fun _ _ _ _ _ _=>allN2 (fun _ _=>rfl)
 have D_law_walked:Def l.prog w K mg base CX0 8 "_law_walked" ["_law_roll_here","_law_table_here"] (spD K (fun _=>0) 2 2 Dl.F__law_walked):=⟨f17,_,mg_of X G a17,F17.kp,b17,ok_law_walked F17 T D_law_sums D_law_second D_law_good⟩
 have b3:=F3.binds (ps:=["roll","table","end"]) fun _ _ _ _ _ _=>allN3 (fun _ _ _=>rfl)
 have Dending:Def l.prog w K mg base CX0 9 "ending" ["roll","table","end"] (spD K (fun _=>0) 3 2 Dl.F_ending):=⟨f3,_,mg_of X G a3,F3.kp,b3,okending F3 T Dfits⟩
 have b8:=F8.binds (ps:=["_law_script","_law_place","_law_most"]) fun _ _ _ _ _ _=>allN3 (fun _ _ _=>rfl)
 have D_law_table:Def l.prog w K mg base CX0 9 "_law_table" ["_law_script","_law_place","_law_most"] (spD K (fun _=>0) 3 2 Dl.F__law_table):=⟨f8,_,mg_of X G a8,F8.kp,b8,ok_law_table F8 T D_law_row⟩
 have b9:=F9.binds (ps:=["_law_script","_law_place","_law_most"]) fun _ _ _ _ _ _=>allN3 (fun _ _ _=>rfl)
 have D_law_flaw:Def l.prog w K mg base CX0 9 "_law_flaw" ["_law_script","_law_place","_law_most"] (spD K (fun _=>0) 3 2 Dl.F__law_flaw):=⟨f9,_,mg_of X G a9,F9.kp,b9,ok_law_flaw F9 T D_law_row⟩
 have b10:=F10.binds (ps:=["_law_script","_law_place","_law_most","_law_flaw_here"]) fun _ _ _ _ _ _=>allN4 (fun _ _ _ _=>rfl)
 have D_law_roll:Def l.prog w K mg base CX0 9 "_law_roll" ["_law_script","_law_place","_law_most","_law_flaw_here"] (spD K (fun _=>0) 4 2 Dl.F__law_roll):=⟨f10,_,mg_of X G a10,F10.kp,b10,ok_law_roll F10 T D_law_row⟩
 have b4:=F4.binds (ps:=["roll","table"]) fun _ _ _ _ _ _=>allN2 (fun _ _=>rfl)
 have Drunner_up:Def l.prog w K mg base CX0 10 "runner_up" ["roll","table"] (spD K (fun _=>0) 2 2 Dl.F_runner_up):=⟨f4,_,mg_of X G a4,F4.kp,b4,okrunner_up F4 T Dending⟩
 have b11:=F11.binds (ps:=["_law_script","_law_place","_law_most","_law_kinds"]) fun _ _ _ _ _ _=>allN4 (fun _ _ _ _=>rfl)
 have D_law_drawn:Def l.prog w K mg base CX0 10 "_law_drawn" ["_law_script","_law_place","_law_most","_law_kinds"] (spD K (fun _=>0) 4 2 Dl.F__law_drawn):=⟨f11,_,mg_of X G a11,F11.kp,b11,ok_law_drawn F11 T D_law_flaw D_law_roll D_law_table⟩
 have b18:=F18.binds (ps:=["_law_roll_here","_law_table_here","_law_due"]) fun _ _ _ _ _ _=>allN3 (fun _ _ _=>rfl)
 have D_law_right:Def l.prog w K mg base CX0 11 "_law_right" ["_law_roll_here","_law_table_here","_law_due"] (spD K (fun _=>0) 3 2 Dl.F__law_right):=⟨f18,_,mg_of X G a18,F18.kp,b18,ok_law_right F18 T Drunner_up⟩
 exact (oklaw (C:=fun _=>0) F19 T D_law_drawn D_law_short D_law_second D_law_walked D_law_right D_law_row D_law_all).imp fun vs H Q E h=>by
  obtain ⟨a,ns,rfl,hz,hl,q⟩:=h
  refine ⟨[.scr ns],[],rfl,⟨.ref a,[],[],[],rfl,⟨a,rfl,hz,rfl⟩,⟨rfl,rfl⟩,rfl⟩,?_⟩
  rw [law_true ns hl]
  rintro v H' _ ⟨B,r,_⟩
  obtain ⟨rfl,_⟩:=r
  exact q H'
theorem walk {l:PySem.W.OpenLaw}{q:Program}{loose:List Str}{XP:(Str→Option Value)→Heap→Prop}{YP:World→Heap→Prop}{d:DefRec}{K:Params→Frag}(hn:l.most=some 63)(hdf:d.params.defaults=[])
    (hY:∀(w:World) (h:Heap),YP w h→(K w.params).In h)
    (F:∀(w:World) (mg:Str→Option Value) (fa:Addr) (h:Heap),(K w.params).In h→h.Ns mainGlobals mg→mg d.name=some (.ref fa)→
      ∃fd:FuncData,(∀(s:Shared) (u:Value),BindsTo s fd ⟨[u],[]⟩ [("_law_script",u)])∧∀base:Heap,(K w.params).In base→base.Ns mainGlobals mg→FnOk l.prog w (K w.params) mg base CX0 12 fa fd ["_law_script"] (spLaw (K w.params))) :
    PySem.W.WalkO q loose XP YP l.row.toRowW d [] (fun f vs=>PySem.call f vs):=
  L2.walk_of (n:=63) (k:=12) (x:="_law_script") (CX:=fun _=>CX0) (sp:=fun w=>spLaw (K w.params)) hn (by decide) hdf ⟨rfl,by decide,by decide,rfl⟩ hY F (fun _ H a ns hl hO hS=>⟨a,ns,rfl,fz_of hO hS,hl,fun _=>rfl⟩) fun _ _ _ _ _ z=>z
end K36
open PySem PySem.W PyProof.Rows
set_option maxRecDepth 100000 in
set_option maxHeartbeats 0 in
theorem PySem.Challenge.cw_selvage_k36_second_worth_holds : PySem.Challenge.rw_selvage_k36_second_worth.Holds := by
 w_on;o_law;z_head;(case hw=>w_witness2)
 k_fill
 refine L2.walkX_of (fun _=>by kernel_rfl) (K36.walk (l:=PySem.Challenge.rw_selvage_k36_second_worth) rfl rfl (fun w h Y=>Y) ?F)
 case F =>
  intro w mg fa h KX G hmg
  refine' K36.all_mk KX G hmg ?a1 (L2.fun_mk ?l1 ?c1 ?k1) ?a2 (L2.fun_mk ?l2 ?c2 ?k2) ?a3 (L2.fun_mk ?l3 ?c3 ?k3) ?a4 (L2.fun_mk ?l4 ?c4 ?k4) ?a5 (L2.fun_mk ?l5 ?c5 ?k5) ?a6 (L2.fun_mk ?l6 ?c6 ?k6) ?a7 (L2.fun_mk ?l7 ?c7 ?k7) ?a8 (L2.fun_mk ?l8 ?c8 ?k8) ?a9 (L2.fun_mk ?l9 ?c9 ?k9) ?a10 (L2.fun_mk ?l10 ?c10 ?k10) ?a11 (L2.fun_mk ?l11 ?c11 ?k11) ?a12 (L2.fun_mk ?l12 ?c12 ?k12) ?a13 (L2.fun_mk ?l13 ?c13 ?k13) ?a14 (L2.fun_mk ?l14 ?c14 ?k14) ?a15 (L2.fun_mk ?l15 ?c15 ?k15) ?a16 (L2.fun_mk ?l16 ?c16 ?k16) ?a17 (L2.fun_mk ?l17 ?c17 ?k17) ?a18 (L2.fun_mk ?l18 ?c18 ?k18) ?a19 (L2.fun_mk ?l19 ?c19 ?k19) ?z1 ?z2 ?z3 ?z4 ?z5 ?z6 ?z7 ?z8 ?z9 ?z10 ?z11
  case a1|l1|c1|k1|a2|l2|c2|k2|a3|l3|c3|k3|a4|l4|c4|k4|a5|l5|c5|k5|a6|l6|c6|k6|a7|l7|c7|k7|a8|l8|c8|k8|a9|l9|c9|k9|a10|l10|c10|k10|a11|l11|c11|k11|a12|l12|c12|k12|a13|l13|c13|k13|a14|l14|c14|k14|a15|l15|c15|k15|a16|l16|c16|k16|a17|l17|c17|k17|a18|l18|c18|k18|a19|l19|c19|k19|z1|z2|z3|z4|z5|z6|z7|z8|z9|z10|z11=>k_is
