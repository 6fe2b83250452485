import PyProof.Rows.All
import Wide.All
import OpenK.AllK
import Wide.FinOn
import Lean
import PyProof.EqAt
import PyProof.EqKinds
import PyProof.TupleCall
import PySem.Challenge.RW_selvage_k72_the_floor
set_option Elab.async false
set_option linter.all false
set_option maxRecDepth 100000
set_option genSizeOfSpec false
set_option genInjectivity false
open PySem.W (CodeHd Frag clsIn codeHdIn codeIn envX exmOne findIn fnOf hideAll instObj isFn keepIn kia_one kitOne kla_fn kla_obj lookIn methodObj mg_none_of mg_of nsIn specialIn subIn tabObj typeIn)
open List (all_eq_true any_cons append_assoc append_nil filter_cons flatten_cons foldl_cons getD_eq_getElem?_getD getElem?_append_left getElem?_append_right getElem?_eq_getElem getElem?_eq_none getElem?_map getElem?_set_ne getElem?_set_self getElem_mem length_append length_cons length_filter_le length_map length_nil length_range length_replicate length_set length_singleton length_take length_zip lookup_cons map_append map_congr_left map_cons map_drop map_map map_nil map_take mem_append_left mem_append_right mem_cons mem_cons_of_mem mem_cons_self mem_of_getElem? nodup_nil not_mem_nil of_mem_zip range_succ replicate_succ set_append_right set_set size_toArray take_add_one take_of_length_le)
open Nat (le_add_right le_of_lt le_refl le_succ le_trans lt_irrefl lt_of_lt_of_le lt_trans ne_of_lt sub_self zero_le)
open Int (emod_lt_of_pos emod_nonneg mul_nonneg toNat_lt toNat_natCast zero_add)
open PySem.Heap (get?_push_of_some get?_push_size lt_size size_push)
def PySem.W.Fast.tw17977884063137426111:=0
def PySem.W.Fast.tw10448072064572727608:=0
def PySem.W.Fast.tw12294279133576931178:=0
def PySem.W.Fast.tw12717398666307813106:=0
def PySem.W.Fast.tw12403221373785065644:=0
def PySem.W.Fast.tw2550620252187439141:=0
def PySem.W.Fast.tw12917507538921286068:=0
def PySem.W.Fast.tw1556083548556192072:=0
def PySem.W.Fast.tw9334723185249042109:=0
def PySem.W.Fast.tw2160800403280914823:=0
def PySem.W.Fast.tw4165154744125454962:=0
theorem aT0 (h:True:=by first | exact .inl rfl | exact .inr rfl | assumption):True:=True.intro
theorem aT3 (h:True:=by first | exact Or.inl rfl | exact Or.inr (Or.inl rfl) | exact Or.inr (Or.inr rfl)):True:=True.intro
namespace L2
open PySem PySem.Spec PyProof.Rows
noncomputable abbrev Key:=Sum Int Str
noncomputable def Xkt:Key→Value→Bool
 | .inl k,v=>Value.isInt k v
 | .inr x,v=>Value.isStrOf x v
noncomputable def keyH (w:World):Key→Int
 | .inl k=>hashInt k
 | .inr x=>hashStr w x
theorem Yy:∀{k:Key} {v:Value},Xkt k v=true→(∃i t,k=Sum.inl i∧v=Value.int i t)∨(∃x t,k=Sum.inr x∧v=Value.str x t)
 | .inl i,v,h=>by
  obtain ⟨t,e⟩:=Value.isInt_shape (k:=i) (v:=v) h
  exact .inl ⟨i,t,rfl,e⟩
 | .inr x,v,h=>by
  obtain ⟨t,e⟩:=Value.isStrOf_shape (x:=x) (v:=v) h
  exact .inr ⟨x,t,rfl,e⟩
theorem Xls (a b:Int):decide ((Sum.inl a:Key)=Sum.inl b)=(a==b):=by
 by_cases e:a=b
 ·subst e;simp
 ·have h:¬(Sum.inl a:Key)=Sum.inl b:=fun q=>e (Sum.inl.inj q)
  rw [decide_eq_false h]
  exact (beq_eq_false_iff_ne.mpr e).symm
theorem Xlj (a b:Str):decide ((Sum.inr a:Key)=Sum.inr b)=decide (a=b):=by
 by_cases e:a=b
 ·subst e;simp
 ·have h:¬(Sum.inr a:Key)=Sum.inr b:=fun q=>e (Sum.inr.inj q)
  rw [decide_eq_false h,decide_eq_false e]
theorem Xmq (a:Int)(b:Str):decide ((Sum.inl a:Key)=Sum.inr b)=false:=decide_eq_false (fun q=>nomatch q)
theorem Xkp (a:Str)(b:Int):decide ((Sum.inr a:Key)=Sum.inl b)=false:=decide_eq_false (fun q=>nomatch q)
noncomputable def Zuc (prog:Program)(w:World):PySem.KeyKind prog w Key where
 is:=Xkt
 hash:=keyH w
 inj:=fun v a b ha hb=>by
  rcases Yy ha with ⟨i,t,rfl,rfl⟩ | ⟨x,t,rfl,rfl⟩
  ·rcases Yy hb with ⟨j,u,rfl,e⟩ | ⟨y,u,rfl,e⟩
   ·injection e with e1 _;rw [e1]
   ·exact nomatch e
  ·rcases Yy hb with ⟨j,u,rfl,e⟩ | ⟨y,u,rfl,e⟩
   ·exact nomatch e
   ·injection e with e1 _;rw [e1]
 byValue:=fun k v h=>by
  rcases Yy h with ⟨i,t,rfl,rfl⟩ | ⟨x,t,rfl,rfl⟩<;>rfl
 pyHash:=fun hv h=>by
  rcases Yy hv with ⟨i,t,rfl,rfl⟩ | ⟨x,t,rfl,rfl⟩
  ·exact wpAny_pyHash_int h
  ·exact wpAny_pyHash_str h
 eqBool:=fun hu hv h=>by
  rcases Yy hu with ⟨i,t,rfl,rfl⟩ | ⟨x,t,rfl,rfl⟩
  ·rcases Yy hv with ⟨j,u,rfl,rfl⟩ | ⟨y,u,rfl,rfl⟩
   ·rw [Xls] at h;exact wpAny_eqBool_int h
   ·rw [Xmq] at h;exact SeqAt.EqAt.int_str i t y u _ _ _ _ h
  ·rcases Yy hv with ⟨j,u,rfl,rfl⟩ | ⟨y,u,rfl,rfl⟩
   ·rw [Xkp] at h;exact SeqAt.EqAt.str_int x t j u _ _ _ _ h
   ·rw [Xlj] at h;exact wpAny_eqBool_str h
 «strs»:=fun k x t v h=>by
  rcases Yy h with ⟨i,u,rfl,e⟩ | ⟨y,u,rfl,e⟩
  ·exact nomatch e
  ·injection e with e1 _
   subst e1
   cases v<;>rfl
set_option genInjectivity true in
inductive V where
 | non | bl (b:Bool) | int (i:Int) | str (x:Str) | byt (b:Array UInt8) | flt (b:UInt64) | ref (a:Addr) | ty (n:String)
 deriving DecidableEq
noncomputable def RelV:V→Value→Prop
 | .non,u=>u=Value.none
 | .bl b,u=>u=Value.bool b
 | .int i,u=>∃t,u=Value.int i t
 | .str x,u=>∃t,u=Value.str x t
 | .byt b,u=>∃t,u=Value.bytes b t
 | .flt b,u=>∃t,u=Value.float b t
 | .ref a,u=>u=Value.ref a
 | .ty n,u=>u=Value.type n
noncomputable abbrev Jn:List V→List Value→Prop:=Paired RelV
theorem Jn.length {xs:List V}{us:List Value}(r:Jn xs us):xs.length=us.length:=Paired.length r
theorem Jn.get:∀{xs:List V} {us:List Value} {i:Nat} {x:V},Jn xs us→xs[i]?=some x→∃u,us[i]?=some u∧RelV x u
 | _,_,_,_,.nil,e=>by simp at e
 | _,_,0,_,.cons r _,e=>by simp at e;subst e;exact ⟨_,rfl,r⟩
 | _,_,i+1,x,.cons _ t,e=>by
  obtain ⟨u,h1,h2⟩:=Jn.get (i:=i) (x:=x) t (by simpa using e)
  exact ⟨u,by simpa using h1,h2⟩
theorem Jn.append:∀{xs ys:List V} {us ws:List Value},Jn xs us→Jn ys ws→Jn (xs++ys) (us++ws)
 | _,_,_,_,.nil,s=>s
 | _,_,_,_,.cons r t,s=>.cons r (Jn.append t s)
theorem Jn.take:∀{xs:List V} {us:List Value} (n:Nat),Jn xs us→Jn (xs.take n) (us.take n)
 | _,_,0,_=>.nil
 | _,_,_+1,.nil=>.nil
 | _,_,n+1,.cons r t=>.cons r (Jn.take n t)
theorem Jn.drop:∀{xs:List V} {us:List Value} (n:Nat),Jn xs us→Jn (xs.drop n) (us.drop n)
 | _,_,0,r=>r
 | _,_,_+1,.nil=>.nil
 | _,_,n+1,.cons _ t=>Jn.drop n t
noncomputable def RelO:Option V→Option Value→Prop
 | some v,some u=>RelV v u
 | none,none=>True
 | _,_=>False
def KV {κ:Type}:List (κ×V)→List (κ×Value)→Prop:=Paired fun (p:κ×V) (q:κ×Value)=>p.1=q.1∧RelV p.2 q.2
noncomputable def kV:Key→V
 | .inl i=>.int i
 | .inr x=>.str x
inductive HO where
 | lst (xs:List V)
 | tup (xs:List V)
 | dK (kvs:List (Key×V)) | dT (kvs:List (List Key×V))
 | set (S:Int→Bool) (n:Nat)
 | ins (C dx:Addr) (fs:List (Str×V))
 | own (x:Addr)
 | xd (fs:List (Str×V))
 | met (f x:Addr)
 | rng (lo hi:Int)
 | frz (o:Obj) (u:HO)
 | tbl (pos:Pos) (qual:Str)
 | ext (φ:Heap→Prop)
noncomputable abbrev Hp:=Addr→Option HO
noncomputable def upd (H:Hp)(a:Addr)(o:HO):Hp:=fun b=>if b=a then some o else H b
theorem Yd {H:Hp}{a:Addr}{o:HO}:upd H a o a=some o:=by unfold upd;rw [if_pos rfl]
theorem Xo {H:Hp}{a b:Addr}{o:HO}(h:b≠a):upd H a o b=H b:=by unfold upd;rw [if_neg h]
theorem Xf {H:Hp}{a b:Addr}{o:HO}(h:H a=some o)(h':H b=none):a≠b:=by
 intro e;subst e;rw [h] at h';cases h'
section
variable (P:Program)(w:World)
noncomputable def Zay (H:Hp)(h:Heap)(a:Addr):HO→Prop
 | .lst xs=>xs.length≤sizeLine∧∃(its:List Value) (n:Nat),Jn xs its∧h.get? a=some {cls:=.type "list",data:=.seq its.toArray n}
 | .tup xs=>xs.length≤sizeLine∧∃its:List Value,Jn xs its∧IsTup h a its.toArray
 | .dK kvs=>kvs.length≤sizeLine∧(a==sysModules)=false∧∃vs,KV kvs vs∧h.DictOf (Zuc P w) a vs
 | .dT kvs=>kvs.length≤sizeLine∧(a==sysModules)=false∧∃xs:List (List Key×Addr×Value),
   Paired (fun (p:List Key×V) (q:List Key×Addr×Value)=>p.1=q.1∧H q.2.1=some (.tup (p.1.map kV))∧RelV p.2 q.2.2) kvs xs∧
   ∃o es ep,h.get? a=some o∧o.ExactDict∧o.data=.dict es ep∧es.toList=xs.map (entryOfKey (tupleKind (Zuc P w)))∧(xs.map (·.1)).Nodup
 | .set S n=>h.SetOf (intKind P w) a S n
 | .ins C dx fs=>H dx=some (.own a)∧fs.length≤1000∧dx≠a∧h.get? a=some (instObj C dx)∧
   ∃mA,h.Ns1 dx mA∧(∀f,RelO (fs.lookup f) (mA f))∧PySem.Within mA (fs.map (·.1))
 | .own _=>∃o,h.get? a=some o
 | .xd fs=>∃mA,h.Ns1 a mA∧∀f,RelO (fs.lookup f) (mA f)
 | .rng lo hi=>∃t u v,h.get? a=some {cls:=.type "range",data:=.fields #[.int lo t,.int hi u,.int 1 v]}
 | .frz o u=>h.get? a=some o∧Zay H h a u
 | .tbl pos qual=>∃ps,h.get? a=some {cls:=.none,data:=.fields ps}∧TriplesOk ps.toList∧∀v,codeAmong pos ps.toList=some v→∃c o vs t,v=.ref c∧H c=some (.frz o (.own 0))∧o.data=.fields vs∧vs[1]?=some (.str qual t)
 | .met f x=>h.get? a=some (methodObj (.ref f) (.ref x))
 | .ext φ=>φ h∧(∃o,h.get? a=some o)∧∀h1 h2:Heap,φ h1→(∀o,h1.get? a=some o→h2.get? a=some o)→φ h2
def HOk (H:Hp)(h:Heap):Prop:=∀a o,H a=some o→Zay P w H h a o
end
section
variable {P:Program}{w:World}{H H':Hp}{h h':Heap}{a:Addr}{o:HO}
theorem Zay.lt (x:Zay P w H h a o):a<h.objs.size:=by
 cases o with
 | lst xs=>obtain ⟨_,_,_,_,e⟩:=x;exact lt_size e
 | tup xs=>obtain ⟨_,_,_,p⟩:=x;exact p.lt
 | dK kvs=>obtain ⟨_,_,_,_,o,_,_,e,_⟩:=x;exact lt_size e
 | dT kvs=>obtain ⟨_,_,_,_,o,_,_,e,_⟩:=x;exact lt_size e
 | set S n=>obtain ⟨o,_,_,_,e,_⟩:=x;exact lt_size e
 | ins C dx fs=>obtain ⟨_,_,_,e,_⟩:=x;exact lt_size e
 | own y=>obtain ⟨_,e⟩:=x;exact lt_size e
 | xd fs=>obtain ⟨_,⟨_,_,_,e,_⟩,_⟩:=x;exact lt_size e
 | rng lo hi=>obtain ⟨_,_,_,e⟩:=x;exact lt_size e
 | frz ob u=>obtain ⟨e,_⟩:=x;exact lt_size e
 | tbl pos qual=>obtain ⟨_,e,_⟩:=x;exact lt_size e
 | met f y=>exact lt_size (show h.get? a=some _ from x)
 | ext φ=>obtain ⟨_,⟨_,e⟩,_⟩:=x;exact lt_size e
theorem Paired.mapP {α β:Type}{F G:α→β→Prop}:∀{l₁:List α} {l₂:List β},Paired F l₁ l₂→(∀a b,F a b→G a b)→Paired G l₁ l₂
 | _,_,.nil,_=>.nil
 | _,_,.cons r t,f=>.cons (f _ _ r) (Paired.mapP t f)
theorem Zay.stay (x:Zay P w H h a o)(k:∀b u,(b=a∨H b=some (.own a))→h.get? b=some u→h'.get? b=some u)
  (ho:∀b,H b=some (.own a)→H' b=some (.own a)) (ht:∀b xs,H b=some (.tup xs)→H' b=some (.tup xs)) (hf:∀b o u,H b=some (.frz o u)→H' b=some (.frz o u)):Zay P w H' h' a o:=by
 induction o with
 | lst xs=>obtain ⟨z,its,n,r,e⟩:=x;exact ⟨z,its,n,r,k _ _ (.inl rfl) e⟩
 | tup xs=>obtain ⟨z,its,r,ob,e,c⟩:=x;exact ⟨z,its,r,ob,k _ _ (.inl rfl) e,c⟩
 | dK kvs=>obtain ⟨z,y,vs,r,ob,es,ep,e,c⟩:=x;exact ⟨z,y,vs,r,ob,es,ep,k _ _ (.inl rfl) e,c⟩
 | dT kvs =>
  obtain ⟨z,y,xs,r,ob,es,ep,e,c⟩:=x
  exact ⟨z,y,xs,Paired.mapP r fun p q z=>⟨z.1,ht _ _ z.2.1,z.2.2⟩,ob,es,ep,k _ _ (.inl rfl) e,c⟩
 | set S n=>obtain ⟨ob,es,ep,t,e,c⟩:=x;exact ⟨ob,es,ep,t,k _ _ (.inl rfl) e,c⟩
 | ins C dx fs =>
  obtain ⟨d,z,ne,e,mA,⟨od,es,ep,e2,c⟩,r⟩:=x
  exact ⟨ho _ d,z,ne,k _ _ (.inl rfl) e,mA,⟨od,es,ep,k _ _ (.inr d) e2,c⟩,r⟩
 | own y=>obtain ⟨ob,e⟩:=x;exact ⟨ob,k _ _ (.inl rfl) e⟩
 | xd fs=>obtain ⟨mA,⟨od,es,ep,e,c⟩,r⟩:=x;exact ⟨mA,⟨od,es,ep,k _ _ (.inl rfl) e,c⟩,r⟩
 | rng lo hi=>obtain ⟨t,u,v,e⟩:=x;exact ⟨t,u,v,k _ _ (.inl rfl) e⟩
 | frz ob u ih=>obtain ⟨e,q⟩:=x;exact ⟨k _ _ (.inl rfl) e,ih q⟩
 | tbl pos qual =>
  obtain ⟨ps,e,tr,hc⟩:=x
  refine ⟨ps,k a _ (.inl rfl) e,tr,fun v hv=>?_⟩
  obtain ⟨c,o,vs,t,e1,e2,e3⟩:=hc v hv
  exact ⟨c,o,vs,t,e1,hf _ _ _ e2,e3⟩
 | met f y =>
  have e:h.get? a=some (methodObj (.ref f) (.ref y)):=x
  show h'.get? a=some (methodObj (.ref f) (.ref y))
  exact k a _ (.inl rfl) e
 | ext φ=>obtain ⟨p,⟨o,e⟩,st⟩:=x;exact ⟨st _ _ p fun o q=>k _ _ (.inl rfl) q,⟨o,k _ _ (.inl rfl) e⟩,st⟩
theorem HOk.lt (x:HOk P w H h)(e:H a=some o):a<h.objs.size:=(x a o e).lt
theorem HOk.fresh (x:HOk P w H h)(e:h.objs.size≤a):H a=none:=by
 cases q:H a with
 | none=>rfl
 | some u=>exact absurd (lt_of_lt_of_le (x.lt q) e) (lt_irrefl _)
theorem HOk.kept (x:HOk P w H h)(k:∀b u,h.get? b=some u→h'.get? b=some u):HOk P w H h':=fun a o e =>
 (x a o e).stay (fun b u _ q=>k b u q) (fun _ q=>q) (fun _ _ q=>q) fun _ _ _ q=>q
theorem HOk.laid (x:HOk P w H h)(k:∀b u,h.get? b=some u→h'.get? b=some u)(hp:h.objs.size≤a)(new:Zay P w (upd H a o) h' a o):HOk P w (upd H a o) h':=fun b u e=>by
 have hn:=x.fresh hp
 by_cases hb:b=a
 ·subst hb;rw [Yd] at e;cases e;exact new
 ·rw [Xo hb] at e
  exact (x b u e).stay (fun c v _ q=>k c v q) (fun c q=>by rw [Xo (Xf q hn)];exact q) (fun c xs q=>by rw [Xo (Xf q hn)];exact q) fun c ob u q=>by rw [Xo (Xf q hn)];exact q
end
def Rd (H:Hp)(a:Addr)(u:HO):Prop:=H a=some u∨∃o,H a=some (.frz o u)
theorem Rd.ok {P:Program}{w:World}{H:Hp}{h:Heap}{a:Addr}{u:HO}(r:Rd H a u)(x:HOk P w H h):Zay P w H h a u:=by
 rcases r with r | ⟨o,r⟩
 ·exact x a u r
 ·obtain ⟨_,q⟩:=x a _ r
  exact q
noncomputable def Mut:Option HO→Prop
 | some (.lst _)=>True
 | some (.dK _)=>True
 | some (.dT _)=>True
 | some (.set _ _)=>True
 | some (.ins _ _ _)=>True
 | some (.ext _)=>True
 | _=>False
section
variable {P:Program}{w:World}{H:Hp}{h h':Heap}{x e:Addr}{o':HO}
theorem HOk.write (ok:HOk P w H h)(mu:Mut (H x))(he:e=x∨H e=some (.own x))(k:∀b u,b≠e→h.get? b=some u→h'.get? b=some u)(heo:∃u,h'.get? e=some u)
  (new:Zay P w (upd H x o') h' x o'):HOk P w (upd H x o') h':=fun b u q=>by
 have nown:∀c y,H c=some (.own y)→c≠x:=fun c y r z=>by subst z;rw [r] at mu;exact mu
 have ntup:∀c xs,H c=some (.tup xs)→c≠x:=fun c xs r z=>by subst z;rw [r] at mu;exact mu
 have nfrz:∀c ob u,H c=some (.frz ob u)→c≠x:=fun c ob u r z=>by subst z;rw [r] at mu;exact mu
 by_cases hb:b=x
 ·subst hb;rw [Yd] at q;cases q;exact new
 ·rw [Xo hb] at q
  by_cases hbe:b=e
  ·have q':H b=some (.own x):=by
    rcases he with z | z
    ·exact absurd (hbe.trans z) hb
    ·rw [hbe];exact z
   rw [q] at q';cases q'
   obtain ⟨v,hv⟩:=heo
   exact ⟨v,by rw [hbe];exact hv⟩
  ·refine (ok b u q).stay (fun c v hc r=>k c v ?_ r) (fun c r=>by rw [Xo (nown c b r)];exact r) (fun c xs r=>by rw [Xo (ntup c xs r)];exact r) fun c ob u r=>by rw [Xo (nfrz c ob u r)];exact r
   rcases hc with rfl | hc
   ·exact hbe
   ·rintro rfl
    rcases he with z | z
    ·exact nown c b hc z
    ·rw [hc] at z;cases z;exact hb rfl
end
structure Un (fs ex:List Addr)(H H':Hp)(h h':Heap):Prop where
 keep:∀b o,h.get? b=some o→H b=none→b∉fs→b∉ex→h'.get? b=some o
 slot:∀b o,h.get? b=some o→H b=none→b∈fs→b∉ex→∃sl,h'.get? b=some {o with slots:=sl}
 free:∀b o,h.get? b=some o→H b=none→b∉ex→H' b=none
 there:∀b o,h.get? b=some o→b∉ex→∃o',h'.get? b=some o'
 tups:∀b xs,H b=some (.tup xs)→H' b=some (.tup xs)
 frzs:∀b o u,H b=some (.frz o u)→H' b=some (.frz o u)
 tbls:∀b p q,H b=some (.tbl p q)→H' b=some (.tbl p q)
section
variable {fs fs' ex ex':List Addr}{H H1 H2:Hp}{h h1 h2 h':Heap}{a x e:Addr}{o:HO}
theorem Un.any (u:Un fs ex H H1 h h1){b:Addr}{ob:Obj}(q:h.get? b=some ob)(n:H b=none)(hx:b∉ex):∃sl,h1.get? b=some {ob with slots:=sl}:=by
 by_cases hb:b∈fs
 ·exact u.slot b ob q n hb hx
 ·exact ⟨ob.slots,u.keep b ob q n hb hx⟩
theorem Un.kept (k:∀b u,h.get? b=some u→h'.get? b=some u):Un fs ex H H h h':=
 ⟨fun b ob q _ _ _=>k b ob q,fun b ob q _ _ _=>⟨ob.slots,k b ob q⟩,fun _ _ _ n _=>n,fun b ob q _=>⟨ob,k b ob q⟩,fun _ _ q=>q,fun _ _ _ q=>q,fun _ _ _ q=>q⟩
theorem Un.refl:Un fs ex H H h h:=Un.kept fun _ _ q=>q
theorem Un.laid (k:∀b u,h.get? b=some u→h'.get? b=some u)(hp:h.objs.size≤a)(hn:H a=none):Un fs ex H (upd H a o) h h' where
 keep:=fun b u q _ _ _=>k b u q
 slot:=fun b u q _ _ _=>⟨u.slots,k b u q⟩
 free:=fun b u q n _=>by rw [Xo (ne_of_lt (lt_of_lt_of_le (lt_size q) hp))];exact n
 there:=fun b u q _=>⟨u,k b u q⟩
 tups:=fun b xs q=>by rw [Xo (Xf q hn)];exact q
 frzs:=fun b u xs q=>by rw [Xo (Xf q hn)];exact q
 tbls:=fun b p n q=>by rw [Xo (Xf q hn)];exact q
theorem Un.write (mu:Mut (H x))(he:e=x∨H e=some (.own x))(k:∀b u,b≠e→h.get? b=some u→h'.get? b=some u)(heo:∃u,h'.get? e=some u):Un fs ex H (upd H x o) h h':=by
  have hx:∀b,H b=none→b≠x:=fun b n z=>by subst z;rw [n] at mu;exact mu
  have hb:∀b,H b=none→b≠e:=fun b n z=>by
    subst z
    rcases he with r | r
    · exact hx b n r
    · rw [n] at r;cases r
  have hm:∀b u,H b=some u→¬Mut (some u)→b≠x:=fun b u q nm z=>by subst z;rw [q] at mu;exact nm mu
  refine ⟨fun b u q n _ _=>k b u (hb b n) q,fun b u q n _ _=>⟨u.slots,k b u (hb b n) q⟩,fun b u q n _=>by rw [Xo (hx b n)];exact n,fun b u q _=>?_,
    fun b xs q=>by rw [Xo (hm b _ q fun z=>z)];exact q,fun b u xs q=>by rw [Xo (hm b _ q fun z=>z)];exact q,fun b p n q=>by rw [Xo (hm b _ q fun z=>z)];exact q⟩
  by_cases hbe:b=e
  · subst hbe;exact heo
  · exact ⟨u,k b u hbe q⟩
end
noncomputable def trk (h:Heap)(H:Hp):List Addr:=(List.range h.objs.size).filter fun a=>(H a).isSome
noncomputable def Zrz (h:Heap)(H:Hp):Heap:=hideAll h (trk h H)
theorem Zlx (h:Heap)(H:Hp):(Zrz h H).objs.size=h.objs.size:=PySem.W.hideAll_size _ _
theorem Zpx {h:Heap}{H:Hp}{b:Addr}{o:Obj}(e:h.get? b=some o)(n:H b=none):(Zrz h H).get? b=some o:=
 PySem.W.hideAll_get _ e fun hm=>by
  have q:(H b).isSome=true:=(List.mem_filter.mp hm).2
  rw [n] at q;simp at q
theorem Zwa {h:Heap}{H:Hp}{b:Addr}{o:Obj}(e:(Zrz h H).get? b=some o):h.get? b=some o∧H b=none:=by
 have e':h.get? b=some o:=PySem.W.of_hideAll (trk h H) e
 refine ⟨e',?_⟩
 cases q:H b with
 | none=>rfl
 | some x =>
  have hm:b∈trk h H:=List.mem_filter.mpr ⟨List.mem_range.mpr (lt_size e'),by simp [q]⟩
  have z:(Zrz h H).get? b=none:=PySem.W.hideAll_none (trk h H) hm
  rw [z] at e;cases e
noncomputable def Xev (g h:Heap)(L:Addr):List (Addr×Obj):=(List.range h.objs.size).filterMap fun a=>if a=L∨(g.get? a).isSome=true then none else (h.get? a).map fun o=>(a,o)
noncomputable def rest (g h:Heap)(L d:Addr):List (Addr×Obj):=(Xev g h L).filter fun p=>decide (p.1≠d)
structure Mod (K:Frag)(mg:Str→Option Value)(base:Heap):Prop where
 kin:K.In base
 glob:base.Ns mainGlobals mg
 blt:∃mb,base.Ns builtinsNs mb∧∀x:Str,x≠"__name__"→mb x=bootBuiltins x
 nolimit:base.NoLimit
structure Cx where
 prog:Program
 w:World
 K:Frag
 mg:Str→Option Value
 base:Heap
 A:Around
 N:List Str
 s₀:Shared
 H₀:Hp
 env:Env
 outer:List Env
 stack:List Env
 ex:List Addr
 fn:Str→Bool
 calm:Bool
 pn:List (Addr×Obj)
 xe:Value→Shared→Prop
noncomputable def frs (l:List Env):List Addr:=l.filterMap (·.frame)
noncomputable abbrev Cx.fs (X:Cx):List Addr:=frs X.outer
def Vis (sc:Scope)(x:Str):Prop:=sc.names.lookup x=some .local∨sc.names.lookup x=some .cell∨sc.names.lookup x=some .free
def Loc (sc:Scope)(x:Str):Prop:=sc.names.lookup x=some .local∨sc.names.lookup x=some .cell
def Look (env:Env)(h:Heap)(m:Str→Option Value)(x:Str)(u:Value):Prop:=
 (env.kindOf x=some .local∧m x=some u)∨((env.kindOf x=some .cell∨env.kindOf x=some .free)∧∃c,env.cells.lookup x=some c∧h.IsCell c (some u))
structure Cx.Ok (X:Cx):Prop where
 mod:Mod X.K X.mg X.base
 kind:X.env.scope.kind=.function
 glob:X.env.globals=mainGlobals
 blt:X.env.builtins=builtinsNs
 above:X.s₀.heap.objs.size≤X.env.locals
 inj:∀x y c,X.env.cells.lookup x=some c→X.env.cells.lookup y=some c→x=y
 has:∀x,(X.env.kindOf x=some .cell∨X.env.kindOf x=some .free)→∃c,X.env.cells.lookup x=some c
 cab:∀x c,X.fn x=true→X.env.cells.lookup x=some c→X.s₀.heap.objs.size≤c
 hd:X.calm=true→X.A.handled=none
 frames:X.A.frames=some X.stack
 stk:X.stack=X.outer∨(X.stack=X.env::X.outer∧X.env.frame=some X.env.locals)
 exf:∀b∈X.ex,b≠X.env.locals∧∀x c,X.env.cells.lookup x=some c→c≠b
 bs:∀b o,X.base.get? b=some o→X.s₀.heap.get? b=some o∧X.H₀ b=none
 bsz:X.base.objs.size≤X.s₀.heap.objs.size
 noex:∀b o,X.base.get? b=some o→b∉X.ex
 exfs:∀b∈X.ex,b∉X.fs
 funs:X.s₀.heap.FunFrames X.base X.outer
 frf:∀b∈X.fs,X.H₀ b=none
structure Inv (X:Cx)(pins:List (Addr×Obj))(σ:List (Option V))(H:Hp)(s:Shared):Prop where
 ok:X.Ok
 os:s.os=X.s₀.os
 bare:AllBare s.gens
 base:Un X.fs X.ex X.H₀ H X.s₀.heap s.heap
 loc:∃m,s.heap.Ns X.env.locals m∧∀(i:Nat) (x:Str) (v:V),X.N[i]?=some x→σ[i]?=some (some v)→Vis X.env.scope x→∃u,RelV v u∧Look X.env s.heap m x u
 cell:∀x c,X.env.cells.lookup x=some c→∃v,s.heap.IsCell c v
 free:H X.env.locals=none
 freeC:∀x c,X.env.cells.lookup x=some c→H c=none
 pin:∀p∈X.pn++pins,s.heap.get? p.1=some p.2∧H p.1=none∧p.1≠X.env.locals∧p.1∉X.fs∧∀v,p.2.data≠.cell v
 hok:HOk X.prog X.w H s.heap
 len:σ.length=X.N.length
section
variable {X:Cx}{pins:List (Addr×Obj)}{σ:List (Option V)}{H H':Hp}{s:Shared}{h':Heap}
theorem Cx.Ok.nofr (ok:X.Ok){b:Addr}{o:Obj}(e:X.base.get? b=some o):b∉X.fs:=fun hb=>by
 have:=(ok.funs.mem hb).1
 rw [e] at this;cases this
theorem Inv.bs (I:Inv X pins σ H s):∀b o,X.base.get? b=some o→s.heap.get? b=some o∧H b=none:=fun b o e =>
 ⟨I.base.keep b o (I.ok.bs b o e).1 (I.ok.bs b o e).2 (I.ok.nofr e) (I.ok.noex b o e),I.base.free b o (I.ok.bs b o e).1 (I.ok.bs b o e).2 (I.ok.noex b o e)⟩
theorem Inv.bk (I:Inv X pins σ H s):∀b o,X.base.get? b=some o→s.heap.get? b=some o:=fun b o e=>(I.bs b o e).1
theorem Inv.mod (I:Inv X pins σ H s):Mod X.K X.mg X.base:=I.ok.mod
theorem Inv.kIn (I:Inv X pins σ H s):X.K.In s.heap:=I.ok.mod.kin.keeps I.bk
theorem Inv.nolimit (I:Inv X pins σ H s):s.heap.NoLimit:=I.ok.mod.nolimit.keeps I.bk
theorem Inv.lt (I:Inv X pins σ H s):X.env.locals<s.heap.objs.size:=let ⟨_,hn,_⟩:=I.loc;hn.lt
theorem Inv.sz (I:Inv X pins σ H s):X.s₀.heap.objs.size≤s.heap.objs.size:=le_trans I.ok.above (le_of_lt I.lt)
theorem Inv.nofs (I:Inv X pins σ H s){a:Addr}(h:s.heap.objs.size≤a):a∉X.fs:=fun hb=>by
 obtain ⟨_,o,ho,_⟩:=I.ok.funs.mem hb
 exact absurd (lt_of_lt_of_le (lt_size ho) (le_trans I.sz h)) (lt_irrefl _)
theorem Inv.cne (I:Inv X pins σ H s):∀x c,X.env.cells.lookup x=some c→c≠X.env.locals:=fun x c e z=>by
 obtain ⟨v,o,ho,hd⟩:=I.cell x c e
 obtain ⟨m,⟨o',es,ep,ho',hd',_⟩,_⟩:=I.loc
 rw [z,ho'] at ho;cases ho;rw [hd'] at hd;cases hd
theorem Inv.funs (I:Inv X pins σ H s):s.heap.FunFrames X.base X.outer:=by
 have all:∀(l:List Env),(∀b∈frs l,b∈X.fs)→X.s₀.heap.FunFrames X.base l→s.heap.FunFrames X.base l:=by
  intro l
  induction l with
  | nil=>intro _ _;trivial
  | cons env r ih =>
   intro hs hl
   obtain ⟨hk,⟨L,o,hf,hn,ho,hd⟩,hr⟩:=hl
   have hL:L∈X.fs:=hs L (by unfold frs;rw [List.filterMap_cons,hf];exact mem_cons_self)
   obtain ⟨sl,e⟩:=I.base.slot L o ho (I.ok.frf L hL) hL fun z=>I.ok.exfs L z hL
   exact ⟨hk,⟨L,_,hf,hn,e,hd⟩,ih (fun b hb=>hs b (by unfold frs;rw [List.filterMap_cons,hf];exact mem_cons_of_mem _ hb)) hr⟩
 exact all X.outer (fun _ hb=>hb) I.ok.funs
theorem Inv.stack (I:Inv X pins σ H s):s.heap.FunFrames X.base X.stack:=by
 rcases I.ok.stk with e | ⟨e,hf⟩
 ·rw [e];exact I.funs
 ·rw [e]
  obtain ⟨m,hn,_⟩:=I.loc
  refine .cons (by rw [I.ok.kind];decide) hf hn ?_ I.funs
  exact Heap.get?_none_of_le (le_trans I.ok.bsz I.ok.above)
theorem Inv.stkSub (I:Inv X pins σ H s):∀b∈frs X.stack,b∈X.env.locals::X.fs:=fun b hb=>by
 rcases I.ok.stk with e | ⟨e,hf⟩
 ·rw [e] at hb;exact mem_cons_of_mem _ hb
 ·rw [e] at hb
  unfold frs at hb
  rw [List.filterMap_cons,hf] at hb
  exact hb
theorem Inv.stkFree (I:Inv X pins σ H s):∀b∈frs X.stack,H b=none:=fun b hb=>by
 rcases List.mem_cons.mp (I.stkSub b hb) with e | hb
 ·rw [e];exact I.free
 ·obtain ⟨_,o,ho,_⟩:=I.ok.funs.mem hb
  exact I.base.free b o ho (I.ok.frf b hb) fun z=>I.ok.exfs b z hb
theorem Inv.step {g':Array GenState}{t':Nat}{d':Drawn}{ch:List Addr}(I:Inv X pins σ H s)
  (hch:∀b∈ch,(b∈X.ex∨X.s₀.heap.objs.size≤b)∧b≠X.env.locals∧(∀x c,X.env.cells.lookup x=some c→c≠b)∧∀p∈X.pn++pins,p.1≠b)
  (keep:∀b o,b≠X.env.locals→b∉X.fs→b∉ch→s.heap.get? b=some o→H b=none→h'.get? b=some o)
  (slot:∀b o,b≠X.env.locals→b∈X.fs→b∉ch→s.heap.get? b=some o→H b=none→∃sl,h'.get? b=some {o with slots:=sl}) (free:∀b o,b∉ch→s.heap.get? b=some o→H b=none→H' b=none)
  (there:∀b o,b∉ch→s.heap.get? b=some o→∃o',h'.get? b=some o')
  (tups:∀b xs,H b=some (.tup xs)→H' b=some (.tup xs)) (frzs:∀b o u,H b=some (.frz o u)→H' b=some (.frz o u)) (tbls:∀b p n,H b=some (.tbl p n)→H' b=some (.tbl p n))
  (ns:∀m,s.heap.Ns X.env.locals m→h'.Ns X.env.locals m) (hok:HOk X.prog X.w H' h') (hg:AllBare g') :
  Inv X pins σ H' {s with heap:=h',gens:=g',drawn:=d',toks:=t'}:=by
 have neL:∀b o,X.s₀.heap.get? b=some o→b≠X.env.locals:=fun b o e=>ne_of_lt (lt_of_lt_of_le (lt_size e) I.ok.above)
 have neC:∀b o,X.s₀.heap.get? b=some o→b∉X.ex→b∉ch:=fun b o e hx hb=>by
  rcases (hch b hb).1 with z | z
  ·exact hx z
  ·exact absurd (lt_of_lt_of_le (lt_size e) z) (lt_irrefl _)
 have cellK:∀x c,X.env.cells.lookup x=some c→∀v,s.heap.IsCell c v→h'.IsCell c v:=fun x c e v ⟨o,ho,hd⟩=>by
  have nch:c∉ch:=fun z=>(hch c z).2.2.1 x c e rfl
  by_cases hc:c∈X.fs
  ·obtain ⟨sl,q⟩:=slot c o (I.cne x c e) hc nch ho (I.freeC x c e)
   exact ⟨_,q,hd⟩
  ·exact ⟨o,keep c o (I.cne x c e) hc nch ho (I.freeC x c e),hd⟩
 refine ⟨I.ok,I.os,hg,⟨fun b o e n hb hx=>?_,fun b o e n hb hx=>?_,fun b o e n hx=>?_,fun b o e hx=>?_,fun b xs e=>tups b xs (I.base.tups b xs e),fun b o xs e=>frzs b o xs (I.base.frzs b o xs e),fun b p n e=>tbls b p n (I.base.tbls b p n e)⟩,?_,fun x c e=>?_,?_,fun x c e=>?_,fun p hp=>?_,hok,I.len⟩
 ·exact keep b o (neL b o e) hb (neC b o e hx) (I.base.keep b o e n hb hx) (I.base.free b o e n hx)
 ·obtain ⟨sl,e1⟩:=I.base.slot b o e n hb hx
  obtain ⟨sl',e2⟩:=slot b _ (neL b o e) hb (neC b o e hx) e1 (I.base.free b o e n hx)
  exact ⟨sl',e2⟩
 ·obtain ⟨o',e1⟩:=I.base.there b o e hx
  exact free b o' (neC b o e hx) e1 (I.base.free b o e n hx)
 ·obtain ⟨o',e1⟩:=I.base.there b o e hx
  exact there b o' (neC b o e hx) e1
 ·obtain ⟨m,hn,hl⟩:=I.loc
  refine ⟨m,ns m hn,fun i x v e1 e2 e3=>?_⟩
  obtain ⟨u,r,l⟩:=hl i x v e1 e2 e3
  refine ⟨u,r,?_⟩
  rcases l with l | ⟨k,c,e,z⟩
  ·exact .inl l
  ·exact .inr ⟨k,c,e,cellK x c e _ z⟩
 ·obtain ⟨v,z⟩:=I.cell x c e
  exact ⟨v,cellK x c e v z⟩
 ·obtain ⟨m,⟨o,_,_,ho,_⟩,_⟩:=I.loc
  exact free _ o (fun z=>(hch _ z).2.1 rfl) ho I.free
 ·obtain ⟨v,o,ho,hd⟩:=I.cell x c e
  exact free c o (fun z=>(hch c z).2.2.1 x c e rfl) ho (I.freeC x c e)
 ·obtain ⟨e,n,ne,nf,d⟩:=I.pin p hp
  have nch:p.1∉ch:=fun z=>(hch p.1 z).2.2.2 p hp rfl
  exact ⟨keep p.1 p.2 ne nf nch e n,free p.1 p.2 nch e n,ne,nf,d⟩
theorem Inv.un {t':Nat}(I:Inv X pins σ H s)(u:Un X.fs [] H H' s.heap h')(hok:HOk X.prog X.w H' h'):Inv X pins σ H' {s with heap:=h',toks:=t'}:=by
  obtain ⟨m,⟨o,es,ep,ho,r⟩,_⟩:=id I.loc
  obtain ⟨sl,hL⟩:=u.any ho I.free (by simp)
  exact I.step (g':=s.gens) (d':=s.drawn) (ch:=[]) (fun _ z=>nomatch z) (fun b o _ hb _ e n=>u.keep b o e n hb (by simp)) (fun b o _ hb _ e n=>u.slot b o e n hb (by simp)) (fun b o _ e n=>u.free b o e n (by simp)) (fun b o _ e=>u.there b o e (by simp)) u.tups u.frzs u.tbls (fun m' hm=>by
    obtain ⟨o',es',ep',ho',r'⟩:=hm
    rw [ho] at ho';cases ho'
    exact ⟨_,es',ep',hL,r'⟩) hok I.bare
theorem Inv.call {g':Array GenState}{t':Nat}{d':Drawn}{ch:List Addr}(I:Inv X pins σ H s)(u:Un (frs X.stack) ch H H' s.heap h')(hok:HOk X.prog X.w H' h')(hg:AllBare g')
    (hch:∀b∈ch,(b∈X.ex∨X.s₀.heap.objs.size≤b)∧b≠X.env.locals∧(∀x c,X.env.cells.lookup x=some c→c≠b)∧∀p∈X.pn++pins,p.1≠b) :
    Inv X pins σ H' {s with heap:=h',gens:=g',drawn:=d',toks:=t'}:=by
  obtain ⟨m,⟨o,es,ep,ho,r⟩,_⟩:=id I.loc
  obtain ⟨sl,hL⟩:=u.any ho I.free fun z=>(hch _ z).2.1 rfl
  exact I.step (ch:=ch) hch (fun b o hL hb hc e n=>u.keep b o e n (fun z=>(List.mem_cons.mp (I.stkSub b z)).elim hL hb) hc) (fun b o _ _ hc e n=>u.any e n hc) (fun b o hc e n=>u.free b o e n hc) (fun b o hc e=>u.there b o e hc) u.tups u.frzs u.tbls (fun m' hm=>by
    obtain ⟨o',es',ep',ho',r'⟩:=hm
    rw [ho] at ho';cases ho'
    exact ⟨_,es',ep',hL,r'⟩) hok hg
theorem Inv.turned {t':Nat}{it:Addr}(I:Inv X pins σ H s)(k:∀b o,b≠it→s.heap.get? b=some o→h'.get? b=some o)(hn:H it=none)(hL:it≠X.env.locals)
  (h1:it∈X.ex∨X.s₀.heap.objs.size≤it) (h2:∀x c,X.env.cells.lookup x=some c→c≠it) (h3:∀p∈X.pn++pins,p.1≠it):Inv X pins σ H {s with heap:=h',toks:=t'}:=by
 have nit:∀b u,H b=some u→b≠it:=fun b u e z=>by rw [z,hn] at e;cases e
 refine I.step (g':=s.gens) (d':=s.drawn) (ch:=[it]) (fun b hb=>?_) (fun b o _ _ hc e _=>k b o (fun z=>hc (by simp [z])) e) (fun b o _ _ hc e _=>⟨o.slots,k b o (fun z=>hc (by simp [z])) e⟩) (fun _ _ _ _ n=>n)
  (fun b o hc e=>⟨o,k b o (fun z=>hc (by simp [z])) e⟩) (fun _ _ e=>e) (fun _ _ _ e=>e) (fun _ _ _ e=>e) (fun m hm=>?_) (fun b u e=>?_) I.bare
 ·have e:b=it:=by simpa using hb
  subst e
  exact ⟨h1,hL,h2,h3⟩
 ·obtain ⟨o,es,ep,ho,r⟩:=hm
  exact ⟨o,es,ep,k _ o (Ne.symm hL) ho,r⟩
 ·refine (I.hok b u e).stay (fun c v hc q=>k c v ?_ q) (fun _ q=>q) (fun _ _ q=>q) fun _ _ _ q=>q
  rcases hc with z | z
  ·rw [z];exact nit b u e
  ·exact nit c _ z
theorem Inv.tok (I:Inv X pins σ H s)(t:Nat):Inv X pins σ H {s with toks:=t}:=I.un (h':=s.heap) (t':=t) Un.refl I.hok
theorem Inv.kept {t':Nat}(I:Inv X pins σ H s)(k:∀b u,s.heap.get? b=some u→h'.get? b=some u):Inv X pins σ H {s with heap:=h',toks:=t'}:=I.un (Un.kept k) (I.hok.kept k)
theorem Inv.laid {a:Addr}{o:HO}{t':Nat}(I:Inv X pins σ H s)(k:∀b u,s.heap.get? b=some u→h'.get? b=some u)(hp:s.heap.objs.size≤a)(new:Zay X.prog X.w (upd H a o) h' a o) :
  Inv X pins σ (upd H a o) {s with heap:=h',toks:=t'}:=I.un (Un.laid k hp (I.hok.fresh hp)) (I.hok.laid k hp new)
theorem Inv.write {x e:Addr}{o:HO}{t':Nat}(I:Inv X pins σ H s)(mu:Mut (H x))(he:e=x∨H e=some (.own x))(k:∀b u,b≠e→s.heap.get? b=some u→h'.get? b=some u)(heo:∃u,h'.get? e=some u)
  (new:Zay X.prog X.w (upd H x o) h' x o):Inv X pins σ (upd H x o) {s with heap:=h',toks:=t'}:=I.un (Un.write mu he k heo) (I.hok.write mu he k heo new)
theorem Inv.pins_of {pins':List (Addr×Obj)}(I:Inv X pins σ H s)(h:∀p∈pins',s.heap.get? p.1=some p.2∧H p.1=none∧p.1≠X.env.locals∧p.1∉X.fs∧∀v,p.2.data≠.cell v):Inv X pins' σ H s:=
 ⟨I.ok,I.os,I.bare,I.base,I.loc,I.cell,I.free,I.freeC,fun p hp=>(List.mem_append.mp hp).elim (fun z=>I.pin p (mem_append_left _ z)) (h p),I.hok,I.len⟩
theorem Zqg {N:List Str}(hN:N.Nodup){i j:Nat}{x:Str}(a:N[i]?=some x)(b:N[j]?=some x):i=j:=by
 obtain ⟨h1,e1⟩:=List.getElem?_eq_some_iff.mp a
 obtain ⟨h2,e2⟩:=List.getElem?_eq_some_iff.mp b
 exact (List.getElem_inj hN).mp (e1.trans e2.symm)
theorem Znv {M:Model}{A:Around}{E:Value→Shared→Prop}{i:Nat}{x:Str}{v:V}{u:Value}{Q:Unit→Shared→Prop}(I:Inv X pins σ H s)(hN:X.N.Nodup)(hi:X.N[i]?=some x)(hx:Loc X.env.scope x)(r:RelV v u)
  (h:∀s',Inv X pins (σ.set i (some v)) H s'→(∃a,Heap.SameBut a s.heap s'.heap∧(a=X.env.locals∨X.env.cells.lookup x=some a))→Q () s') (hf:autoParam (X.fn x=true∨X.env.scope.names.lookup x=some .local) aT0._auto_1):wpAny M A (storeName X.env x u) Q E s:=by
 obtain ⟨m,hn,hl⟩:=id I.loc
 have hcls:(X.env.scope.kind==.class||(X.env.scope.kind==.module&&X.env.locals != X.env.globals))=false:=by rw [I.ok.kind];rfl
 have hiσ:i<σ.length:=by rw [I.len];exact (List.getElem?_eq_some_iff.mp hi).1
 have cne:=I.cne
 have tracked:∀{a:Addr} {h':Heap},(∃o,s.heap.get? a=some o∧H a=none)→Heap.SameBut a s.heap h'→HOk X.prog X.w H h':=fun {a h'} ha hs b ob e=>by
  obtain ⟨_,_,hfree⟩:=ha
  refine (I.hok b ob e).stay (fun c w' hc q=>(hs.2 c ?_).trans q) (fun _ q=>q) (fun _ _ q=>q) fun _ _ _ q=>q
  rintro rfl
  rcases hc with rfl | hc
  ·rw [hfree] at e;cases e
  ·rw [hfree] at hc;cases hc
 rcases hx with hk | hk
 ·refine wpAny_storeName_local hk hn (fun h' hn' hs=>?_) hcls
  obtain ⟨oL,_,_,hoL,_⟩:=id hn
  refine h _ ⟨I.ok,I.os,I.bare,⟨fun b o e n hb hx=>?_,fun b o e n hb hx=>?_,I.base.free,fun b o e hx=>?_,I.base.tups,I.base.frzs,I.base.tbls⟩,⟨_,hn',fun j y v' e1 e2 e3=>?_⟩,fun y c e=>?_,I.free,I.freeC,fun p hp=>?_,tracked ⟨oL,hoL,I.free⟩ hs,by simpa using I.len⟩ ⟨_,hs,.inl rfl⟩
  ·exact (hs.2 b (ne_of_lt (lt_of_lt_of_le (lt_size e) I.ok.above))).trans (I.base.keep b o e n hb hx)
  ·obtain ⟨sl,e1⟩:=I.base.slot b o e n hb hx
   exact ⟨sl,(hs.2 b (ne_of_lt (lt_of_lt_of_le (lt_size e) I.ok.above))).trans e1⟩
  ·obtain ⟨o',e1⟩:=I.base.there b o e hx
   exact ⟨o',(hs.2 b (ne_of_lt (lt_of_lt_of_le (lt_size e) I.ok.above))).trans e1⟩
  ·by_cases hj:j=i
   ·subst hj
    rw [hi] at e1;cases e1
    rw [getElem?_set_self hiσ] at e2
    cases e2
    exact ⟨u,r,.inl ⟨hk,by simp⟩⟩
   ·rw [getElem?_set_ne (Ne.symm hj)] at e2
    obtain ⟨u',r',q⟩:=hl j y v' e1 e2 e3
    refine ⟨u',r',?_⟩
    rcases q with ⟨k,e⟩ | ⟨k,c,e,z⟩
    ·refine .inl ⟨k,?_⟩
     have:y≠x:=fun e=>hj (Zqg hN e1 (e▸hi))
     simp [this,e]
    ·exact .inr ⟨k,c,e,z.sameBut hs (cne y c e)⟩
  ·obtain ⟨w',z⟩:=I.cell y c e
   exact ⟨w',z.sameBut hs (cne y c e)⟩
  ·obtain ⟨e,n,ne,nf,d⟩:=I.pin p hp
   exact ⟨(hs.2 p.1 ne).trans e,n,ne,nf,d⟩
 ·have hfn:X.fn x=true:=by
   rcases hf with z | z
   ·exact z
   ·rw [z] at hk;cases hk
  obtain ⟨c,hc⟩:=I.ok.has x (.inl hk)
  obtain ⟨w',z⟩:=I.cell x c hc
  refine wpAny_storeName_cell I.ok.kind hk hc z (fun h' hc' hs=>?_)
  obtain ⟨oc,hoc,hocd⟩:=id z
  refine h {s with heap:=h'} ⟨I.ok,I.os,I.bare,⟨fun b o e n hb hx=>?_,fun b o e n hb hx=>?_,I.base.free,fun b o e hx=>?_,I.base.tups,I.base.frzs,I.base.tbls⟩,⟨m,hn.sameBut hs (Ne.symm (cne x c hc)),fun j y v' e1 e2 e3=>?_⟩,fun y c' e=>?_,I.free,I.freeC,fun p hp=>?_,tracked ⟨oc,hoc,I.freeC x c hc⟩ hs,by simpa using I.len⟩ ⟨c,hs,.inr hc⟩
  ·exact (hs.2 b (ne_of_lt (lt_of_lt_of_le (lt_size e) (I.ok.cab x c hfn hc)))).trans (I.base.keep b o e n hb hx)
  ·obtain ⟨sl,e1⟩:=I.base.slot b o e n hb hx
   exact ⟨sl,(hs.2 b (ne_of_lt (lt_of_lt_of_le (lt_size e) (I.ok.cab x c hfn hc)))).trans e1⟩
  ·obtain ⟨o',e1⟩:=I.base.there b o e hx
   exact ⟨o',(hs.2 b (ne_of_lt (lt_of_lt_of_le (lt_size e) (I.ok.cab x c hfn hc)))).trans e1⟩
  ·by_cases hj:j=i
   ·subst hj
    rw [hi] at e1;cases e1
    rw [getElem?_set_self hiσ] at e2
    cases e2
    exact ⟨u,r,.inr ⟨.inl hk,c,hc,hc'⟩⟩
   ·rw [getElem?_set_ne (Ne.symm hj)] at e2
    obtain ⟨u',r',q⟩:=hl j y v' e1 e2 e3
    refine ⟨u',r',?_⟩
    rcases q with q | ⟨k,c',e,z'⟩
    ·exact .inl q
    ·refine .inr ⟨k,c',e,z'.sameBut hs ?_⟩
     rintro rfl
     exact hj (Zqg hN e1 (I.ok.inj _ _ _ e hc▸hi))
  ·by_cases hcc:c'=c
   ·subst hcc;exact ⟨_,hc'⟩
   ·obtain ⟨w2,z2⟩:=I.cell y c' e
    exact ⟨w2,z2.sameBut hs hcc⟩
  ·obtain ⟨e,n,ne,nf,d⟩:=I.pin p hp
   refine ⟨(hs.2 p.1 ?_).trans e,n,ne,nf,d⟩
   intro q
   rw [q,hoc] at e
   have q':oc=p.2:=Option.some.inj e
   exact d w' (by rw [← q'];exact hocd)
theorem Zhi {M:Model}{A:Around}{E:Value→Shared→Prop}{i:Nat}{x:Str}{v:V}{u:Value}{Q:Unit→Shared→Prop}(I:Inv X pins σ H s)(hN:X.N.Nodup)(hi:X.N[i]?=some x)(hx:Loc X.env.scope x)(r:RelV v u)
  (h:∀s',Inv X pins (σ.set i (some v)) H s'→Q () s') (hf:autoParam (X.fn x=true∨X.env.scope.names.lookup x=some .local) aT0._auto_1):wpAny M A (storeName X.env x u) Q E s:=
 Znv I hN hi hx r (fun s' I' _=>h s' I') hf
theorem Inv.call' {s':Shared}{ch:List Addr}(I:Inv X pins σ H s)(ho:s'.os=s.os)(u:Un (frs X.stack) ch H H' s.heap s'.heap)(hok:HOk X.prog X.w H' s'.heap)(hg:AllBare s'.gens)
  (hch:∀b∈ch,(b∈X.ex∨X.s₀.heap.objs.size≤b)∧b≠X.env.locals∧(∀x c,X.env.cells.lookup x=some c→c≠b)∧∀p∈X.pn++pins,p.1≠b):Inv X pins σ H' s':=by
 obtain ⟨h',g',d',t',o'⟩:=s'
 have e:o'=s.os:=ho
 subst e
 exact I.call (g':=g') (t':=t') (d':=d') u hok hg hch
end
noncomputable abbrev XK:=Value→Option Addr→Hp→Prop
noncomputable abbrev St:=List (Option V)
noncomputable abbrev VK:=V→Hp→Prop
noncomputable abbrev TE:=St→Hp→VK→Prop
noncomputable abbrev TT:=St→Hp→(Bool→Hp→Prop)→Prop
noncomputable abbrev TA:=St→Hp→(List V→Hp→Prop)→Prop
structure Ends where
 nx:St→Hp→Prop
 rt:VK
 bk:St→Hp→Prop:=fun _ _=>False
 ct:St→Hp→Prop:=fun _ _=>False
noncomputable abbrev TS:=Ends→St→Hp→Prop
def EP (X:Cx)(pins:List (Addr×Obj))(σ:St)(Q:VK)(u:Value)(s':Shared):Prop:=∃v H',Inv X pins σ H' s'∧RelV v u∧Q v H'
def TP (X:Cx)(pins:List (Addr×Obj))(σ:St)(Q:Bool→Hp→Prop)(b:Bool)(s':Shared):Prop:=∃H',Inv X pins σ H' s'∧Q b H'
def AP (X:Cx)(pins:List (Addr×Obj))(σ:St)(Q:List V→Hp→Prop)(us:List Value)(s':Shared):Prop:=∃vs H',Inv X pins σ H' s'∧Jn vs us∧Q vs H'
def SP (X:Cx)(pins:List (Addr×Obj))(D:Ends)(f:Flow)(s':Shared):Prop:=
 match f with
 | .next=>∃σ' H',Inv X pins σ' H' s'∧D.nx σ' H'
 | .brk=>∃σ' H',Inv X pins σ' H' s'∧D.bk σ' H'
 | .cont=>∃σ' H',Inv X pins σ' H' s'∧D.ct σ' H'
 | .ret u=>∃v σ' H',Inv X pins σ' H' s'∧RelV v u∧D.rt v H'
def PE (X:Cx)(e:Expr)(t:TE):Prop:=
 ∀(pins:List (Addr×Obj)) (s:Shared) (σ:St) (H:Hp) (Q:VK),Inv X pins σ H s→t σ H Q→wpAny (model X.prog X.w) X.A (eval e X.env) (EP X pins σ Q) X.xe s
def PT (X:Cx)(e:Expr)(t:TT):Prop:=
 ∀(pins:List (Addr×Obj)) (s:Shared) (σ:St) (H:Hp) (Q:Bool→Hp→Prop),Inv X pins σ H s→t σ H Q→wpAny (model X.prog X.w) X.A (isTrue e X.env (eval e X.env)) (TP X pins σ Q) X.xe s
def PW (X:Cx)(e:Expr)(t:TT):Prop:=
 ∀(whole:Sem Value) (pins:List (Addr×Obj)) (s:Shared) (σ:St) (H:Hp) (Q:Bool→Hp→Prop),Inv X pins σ H s→t σ H Q→wpAny (model X.prog X.w) X.A (isTrue e X.env whole) (TP X pins σ Q) X.xe s
theorem PW.pt {X:Cx}{e:Expr}{t:TT}(h:PW X e t):PT X e t:=h _
def PA (X:Cx)(es:List Expr)(t:TA):Prop:=
 ∀(pos:Pos) (pins:List (Addr×Obj)) (s:Shared) (σ:St) (H:Hp) (Q:List V→Hp→Prop),Inv X pins σ H s→t σ H Q→wpAny (model X.prog X.w) X.A (spliced (backTo pos (starEach es X.env))) (AP X pins σ Q) X.xe s
def PS (X:Cx)(st:Stmt)(t:TS):Prop:=
 ∀(pins:List (Addr×Obj)) (s:Shared) (σ:St) (H:Hp) (D:Ends),Inv X pins σ H s→t D σ H→wpAny (model X.prog X.w) X.A (exec st X.env) (SP X pins D) X.xe s
def PSs (X:Cx)(st:List Stmt)(t:TS):Prop:=
 ∀(pins:List (Addr×Obj)) (s:Shared) (σ:St) (H:Hp) (D:Ends),Inv X pins σ H s→t D σ H→wpAny (model X.prog X.w) X.A (execs st X.env) (SP X pins D) X.xe s
theorem thn {α:Type}{t:Sem α}{Q Q':α→Shared→Prop}{M:Model}{A:Around}{E:Value→Shared→Prop}{s:Shared}(h:wpAny M A t Q E s)(hQ:∀a s,Q a s→Q' a s):wpAny M A t Q' E s:=wpAny_mono h hQ fun _ _ x=>x
section
variable {X:Cx}
def Zmr (i:Nat):TE:=fun σ H Q=>∃v,σ[i]?=some (some v)∧Q v H
def tC (v:V):TE:=fun _ H Q=>Q v H
theorem Xjy {i:Nat}{x:Str}{pos:Pos}(hN:X.N[i]?=some x)(hv:Vis X.env.scope x)(hd:(x==("__debug__":Str))=false:=by decide)(hcd:(x==("__classdict__":Str))=false:=by decide):PE X (.Name x pos) (Zmr i):=by
 intro pins s σ H Q I h
 obtain ⟨v,e,h⟩:=h
 obtain ⟨m,hn,hl⟩:=I.loc
 obtain ⟨u,r,l⟩:=hl i x v hN e hv
 have fin:EP X pins σ Q u s:=⟨v,H,I,r,h⟩
 rcases l with ⟨hk,hm⟩ | ⟨hk,c,hc,hcell⟩
 ·exact wpAny_Name (wpAny_loadName_local I.ok.kind hk hn hm fin) hd
 ·rcases hk with hk | hk
  ·exact wpAny_Name (wpAny_loadName_cell I.ok.kind hk hc hcell fin) hd
  ·exact wpAny_Name (wpAny_loadName_free I.ok.kind hk hc hcell fin hcd) hd
theorem Xkx {i j pos}:PE X (.Constant (.int i) j pos) (tC (.int i)):=fun _ _ _ H _ I h=>wpAny_Constant_int ⟨.int i,H,I.tok _,⟨_,rfl⟩,h⟩
theorem Xmd {b j pos}:PE X (.Constant (.bool b) j pos) (tC (.bl b)):=fun _ _ _ H _ I h=>Constant_bool ⟨.bl b,H,I,rfl,h⟩
theorem Xlz {j pos}:PE X (.Constant .none j pos) (tC .non):=fun _ _ _ H _ I h=>Constant_none ⟨.non,H,I,rfl,h⟩
theorem Xly {x j pos}:PE X (.Constant (.str x) j pos) (tC (.str x)):=fun _ _ _ H _ I h=>Calls.Constant_str ⟨.str x,H,I.tok _,⟨_,rfl⟩,h⟩
def Gl (X:Cx)(x:Str):Prop:=X.env.kindOf x=some .globalImplicit
theorem Xfi {E:Value→Shared→Prop}{pins:List (Addr×Obj)}{s:Shared}{σ:St}{H:Hp}{x:Str}{u:Value}{pos:Pos}{Q:Value→Shared→Prop}(I:Inv X pins σ H s)(hg:Gl X x)(hm:X.mg x=some u)(h:Q u s)
  (hd:(x==("__debug__":Str))=false:=by decide):wpAny (model X.prog X.w) X.A (eval (.Name x pos) X.env) Q E s:=
 Calls.Name_function_global I.ok.kind hg (Calls.loadGlobal_global (by rw [I.ok.glob];exact I.mod.glob.keeps I.bk) hm h) hd
theorem Zez {E:Value→Shared→Prop}{pins:List (Addr×Obj)}{s:Shared}{σ:St}{H:Hp}{x:Str}{u:Value}{pos:Pos}{Q:Value→Shared→Prop}(I:Inv X pins σ H s)(hg:Gl X x)(hm:X.mg x=none)(hv:bootBuiltins x=some u)(h:Q u s)
  (hn:x≠"__name__":=by decide) (hd:(x==("__debug__":Str))=false:=by decide):wpAny (model X.prog X.w) X.A (eval (.Name x pos) X.env) Q E s:=by
 obtain ⟨mb,h1,h2⟩:=I.mod.blt
 exact Calls.Name_function_global I.ok.kind hg (Calls.loadGlobal_builtin (by rw [I.ok.glob];exact I.mod.glob.keeps I.bk) hm (by rw [I.ok.blt];exact h1.keeps I.bk) ((h2 x hn).trans hv) h) hd
theorem Xho {x:Str}{v:V}{u:Value}{pos:Pos}(hg:Gl X x)(hm:X.mg x=none)(hv:bootBuiltins x=some u)(r:RelV v u)(hn:x≠"__name__":=by decide)(hd:(x==("__debug__":Str))=false:=by decide):PE X (.Name x pos) (tC v):=
 fun _ _ _ H _ I h=>Zez I hg hm hv ⟨v,H,I,r,h⟩ hn hd
variable {a b:Expr}{ta tb:TE}{pos:Pos}
def tB (t:TE):TT:=fun σ H Q=>t σ H fun x H1=>∃c,x=.bl c∧Q c H1
theorem Xma {e:Expr}{t:TE}(h:PE X e t)(he:∀whole,isTrue e X.env whole=(do let v ← whole;standAt e.pos;holding [v] (truthy v)):=by intro _;rfl):PT X e (tB t):=by
 intro pins s σ H Q I hw
 refine isTrue_plain (thn (h pins s σ H _ I hw) fun v s1 hz9=>?_) (he _)
 obtain ⟨x,H1,I1,r1,q1⟩:=hz9
 obtain ⟨d,rfl,q⟩:=q1
 cases r1
 exact wpAny_truthy_bool ⟨H1,I1,q⟩
variable {tA tB':TT}{rest:List Expr}
def tAnd (t u:TT):TT:=fun σ H Q=>t σ H fun c H1=>if c=true then u σ H1 Q else Q false H1
def tOr (t u:TT):TT:=fun σ H Q=>t σ H fun c H1=>if c=true then Q true H1 else u σ H1 Q
def tNot (t:TT):TT:=fun σ H Q=>t σ H fun c H1=>Q (!c) H1
theorem Xft (ha:PT X a tA):PW X (.BoolOp .And [a] pos) tA:=by
 intro wh pins s σ H Q I h
 refine isTrue_and (thn (ha pins s σ H Q I h) fun c s1 e=>?_)
 cases c with
 | true=>exact isTrue_and_nil e
 | false=>exact e
theorem Xkj (ha:PT X a tA):PW X (.BoolOp .Or [a] pos) tA:=by
 intro wh pins s σ H Q I h
 refine isTrue_or (thn (ha pins s σ H Q I h) fun c s1 e=>?_)
 cases c with
 | false=>exact isTrue_or_nil e
 | true=>exact e
theorem Xjx (ha:PT X a tA)(hb:PW X (.BoolOp .And (b::rest) pos) tB'):PW X (.BoolOp .And (a::b::rest) pos) (tAnd tA tB'):=by
 intro wh pins s σ H Q I h
 refine isTrue_and (thn (ha pins s σ H _ I h) fun c s1 ⟨H1,I1,q1⟩=>?_)
 cases c with
 | true=>exact hb wh pins s1 σ H1 Q I1 q1
 | false=>exact ⟨H1,I1,q1⟩
theorem pw_or (ha:PT X a tA)(hb:PW X (.BoolOp .Or (b::rest) pos) tB'):PW X (.BoolOp .Or (a::b::rest) pos) (tOr tA tB'):=by
 intro wh pins s σ H Q I h
 refine isTrue_or (thn (ha pins s σ H _ I h) fun c s1 ⟨H1,I1,q1⟩=>?_)
 cases c with
 | true=>exact ⟨H1,I1,q1⟩
 | false=>exact hb wh pins s1 σ H1 Q I1 q1
theorem Xob (ha:PT X a tA):PT X (.UnaryOp .Not a pos) (tNot tA):=by
 intro pins s σ H Q I h
 exact isTrue_not (ha pins s σ H (fun c H1=>Q (!c) H1) I h)
def Zzy (ta tb:TE):TE:=fun σ H Q=>ta σ H fun x H1=>∃c,x=.bl c∧if c=true then tb σ H1 Q else Q (.bl false) H1
def Xat (ta:TE):TE:=fun σ H Q=>ta σ H fun x H1=>∃c,x=.bl c∧Q (.bl (!c)) H1
theorem Xjp {op}{t:TE}(h:PE X a t):PE X (.BoolOp op [a] pos) t:=fun pins s σ H Q I hw=>BoolOp_one (h pins s σ H Q I hw)
theorem Xne (ha:PE X a ta)(hb:PE X (.BoolOp .And (b::rest) pos) tb):PE X (.BoolOp .And (a::b::rest) pos) (Zzy ta tb):=by
 intro pins s σ H Q I h
 refine BoolOp_and (thn (ha pins s σ H _ I h) fun v s1 hz9=>?_)
 obtain ⟨x,H1,I1,r1,q1⟩:=hz9
 obtain ⟨c,rfl,q1⟩:=q1
 cases r1
 refine wpAny_truthy_bool ?_
 cases c with
 | true=>exact hb pins s1 σ H1 Q I1 q1
 | false=>exact ⟨.bl false,H1,I1,rfl,q1⟩
theorem Xmp (ha:PE X a ta):PE X (.UnaryOp .Not a pos) (Xat ta):=by
 intro pins s σ H Q I h
 refine UnaryOp_ (thn (ha pins s σ H _ I h) fun v s1 hz9=>?_)
 obtain ⟨x,H1,I1,r1,q1⟩:=hz9
 obtain ⟨c,rfl,q1⟩:=q1
 cases r1
 exact not_of (wpAny_truthy_bool ⟨.bl (!c),H1,I1,rfl,q1⟩)
def tIf (t:TT)(ta tb:TE):TE:=fun σ H Q=>t σ H fun c H1=>if c=true then ta σ H1 Q else tb σ H1 Q
theorem Xax {c:Expr}(hc:PT X c tA)(ha:PE X a ta)(hb:PE X b tb):PE X (.IfExp c a b pos) (tIf tA ta tb):=by
 intro pins s σ H Q I h
 refine wpAny_IfExp (thn (hc pins s σ H _ I h) fun d s1 ⟨H1,I1,q1⟩=>?_)
 cases d with
 | true=>exact ha pins s1 σ H1 Q I1 q1
 | false=>exact hb pins s1 σ H1 Q I1 q1
end
def SqL (K:Frag)(H:Hp)(a:Addr)(xs:List V):Prop:=
 Rd H a (.lst xs)∨
  ∃(o:Obj) (its:Array Value) (n:Nat),K.lookup a=some o∧o.cls=.type "list"∧o.dict=none∧o.data=.seq its n∧its.size≤sizeLine∧Jn xs its.toList
def SqT (K:Frag)(H:Hp)(a:Addr)(xs:List V):Prop:=
 Rd H a (.tup xs)∨
  ∃(o:Obj) (its:Array Value) (n:Nat),K.lookup a=some o∧o.cls=.type "tuple"∧o.data=.seq its n∧its.size≤sizeLine∧Jn xs its.toList
noncomputable def absV:Value→Option V
 | .none=>some .non
 | .bool b=>some (.bl b)
 | .int i _=>some (.int i)
 | .str x _=>some (.str x)
 | .bytes b _=>some (.byt b)
 | .float b _=>some (.flt b)
 | .ref a=>some (.ref a)
 | .type n=>some (.ty n)
 | _=>none
theorem RelV.abs {x:V}{u:Value}(r:RelV x u):absV u=some x:=by
 cases x with
 | non=>cases r;rfl
 | bl _=>cases r;rfl
 | int _=>obtain ⟨t,rfl⟩:=r;rfl
 | str _=>obtain ⟨t,rfl⟩:=r;rfl
 | byt _=>obtain ⟨t,rfl⟩:=r;rfl
 | flt _=>obtain ⟨t,rfl⟩:=r;rfl
 | ref _=>cases r;rfl
 | ty _=>cases r;rfl
theorem RelV.inj {x y:V}{u:Value}(r:RelV x u)(q:RelV y u):x=y:=Option.some.inj (r.abs.symm.trans q.abs)
theorem Jn.inj:∀{xs ys:List V} {us:List Value},Jn xs us→Jn ys us→xs=ys
 | _,_,_,.nil,.nil=>rfl
 | _,_,_,.cons r t,.cons r' t'=>by rw [r.inj r',Jn.inj t t']
section
variable {X:Cx}{pins:List (Addr×Obj)}{σ:St}{H:Hp}{s:Shared}{a:Addr}{xs ys:List V}
theorem SqL.of {K:Frag}(h:H a=some (.lst xs)):SqL K H a xs:=.inl (.inl h)
theorem SqT.of {K:Frag}(h:H a=some (.tup xs)):SqT K H a xs:=.inl (.inl h)
theorem Inv.list (I:Inv X pins σ H s)(h:SqL X.K H a xs):∃its:List Value,Jn xs its∧PlainL s.heap a its.toArray∧xs.length≤sizeLine:=by
 rcases h with h | ⟨o,its,n,hk,hc,hd,hs,hz,r⟩
 ·obtain ⟨z,its,n,r,e⟩:=h.ok I.hok
  exact ⟨its,r,⟨_,n,e,rfl,rfl,rfl⟩,z⟩
 ·refine ⟨its.toList,r,⟨o,n,I.kIn a o hk,hc,hd,by simpa using hs⟩,?_⟩
  have e:=r.length
  simp only [Array.length_toList] at e
  omega
theorem Inv.tuple (I:Inv X pins σ H s)(h:SqT X.K H a xs):∃its:List Value,Jn xs its∧IsTup s.heap a its.toArray∧xs.length≤sizeLine:=by
 rcases h with h | ⟨o,its,n,hk,hc,hs,hz,r⟩
 ·obtain ⟨z,its,r,p⟩:=h.ok I.hok
  exact ⟨its,r,p,z⟩
 ·refine ⟨its.toList,r,⟨o,I.kIn a o hk,hc,n,by simpa using hs⟩,?_⟩
  have e:=r.length
  simp only [Array.length_toList] at e
  omega
theorem Inv.list_inj (I:Inv X pins σ H s)(h:SqL X.K H a xs)(h':SqL X.K H a ys):xs=ys:=by
 obtain ⟨its,r,⟨o,n,e,_,_,d⟩,_⟩:=I.list h
 obtain ⟨its',r',⟨o',n',e',_,_,d'⟩,_⟩:=I.list h'
 rw [e] at e';cases e'
 rw [d] at d'
 injection d' with d1 _
 have:its=its':=by simpa using congrArg Array.toList d1
 subst this
 exact r.inj r'
end
noncomputable abbrev Cx.wish (X:Cx)(E:Value→Shared→Prop):Cx:={X with xe:=E}
noncomputable abbrev Cx.nox (X:Cx):Cx:=X.wish fun _ _=>False
theorem Cx.Ok.wish {X:Cx}(ok:X.Ok)(E:Value→Shared→Prop):(X.wish E).Ok:=
 ⟨ok.mod,ok.kind,ok.glob,ok.blt,ok.above,ok.inj,ok.has,ok.cab,ok.hd,ok.frames,ok.stk,ok.exf,ok.bs,ok.bsz,ok.noex,ok.exfs,ok.funs,ok.frf⟩
theorem Cx.Ok.unwish {X:Cx}{E:Value→Shared→Prop}(ok:(X.wish E).Ok):X.Ok:=
 ⟨ok.mod,ok.kind,ok.glob,ok.blt,ok.above,ok.inj,ok.has,ok.cab,ok.hd,ok.frames,ok.stk,ok.exf,ok.bs,ok.bsz,ok.noex,ok.exfs,ok.funs,ok.frf⟩
section
variable {X:Cx}{pins:List (Addr×Obj)}{σ:St}{H:Hp}{s:Shared}{E:Value→Shared→Prop}
theorem Inv.wish (I:Inv X pins σ H s)(E:Value→Shared→Prop):Inv (X.wish E) pins σ H s:=⟨I.ok.wish E,I.os,I.bare,I.base,I.loc,I.cell,I.free,I.freeC,I.pin,I.hok,I.len⟩
theorem Inv.unwish (I:Inv (X.wish E) pins σ H s):Inv X pins σ H s:=⟨I.ok.unwish,I.os,I.bare,I.base,I.loc,I.cell,I.free,I.freeC,I.pin,I.hok,I.len⟩
theorem SP.unwish {D:Ends}{f:Flow}{s':Shared}(h:SP (X.wish E) pins D f s'):SP X pins D f s':=by
 cases f with
 | next=>obtain ⟨σ',H',I,q⟩:=h;exact ⟨σ',H',I.unwish,q⟩
 | brk=>obtain ⟨σ',H',I,q⟩:=h;exact ⟨σ',H',I.unwish,q⟩
 | cont=>obtain ⟨σ',H',I,q⟩:=h;exact ⟨σ',H',I.unwish,q⟩
 | ret u=>obtain ⟨v,σ',H',I,r,q⟩:=h;exact ⟨v,σ',H',I.unwish,r,q⟩
theorem PSs.nox {st:List Stmt}{t:TS}(h:PSs X.nox st t):PSs X st t:=fun pins s σ H D I hw =>
 wpAny_mono (h pins s σ H D (I.wish _) hw) (fun _ _ q=>q.unwish) fun _ _ z=>False.elim z
end
section
variable {X:Cx}{st:Stmt}{rest:List Stmt}{t u:TS}{e:Expr}{te:TE}{pos:Pos}
def Xaq:TS:=fun D σ H=>D.nx σ H
def Zup (t u:TS):TS:=fun D σ H=>t {D with nx:=u D} σ H
theorem Xek:PSs X [] Xaq:=fun _ _ σ H _ I h=>wpAny_execs_nil ⟨σ,H,I,h⟩
theorem Xcp (h1:PS X st t)(h2:PSs X rest u):PSs X (st::rest) (Zup t u):=by
 intro pins s σ H D I h
 refine wpAny_execs_cons (thn (h1 pins s σ H {D with nx:=u D} I h) fun f s1 q=>?_)
 cases f with
 | next =>
  obtain ⟨σ',H',I',q⟩:=q
  exact h2 pins s1 σ' H' D I' q
 | ret v=>exact q
 | brk=>exact q
 | cont=>exact q
theorem Xhi (h1:PS X st t):PSs X [st] t:=by
 intro pins s σ H D I h
 refine wpAny_execs_cons (thn (h1 pins s σ H D I h) fun f s1 q=>?_)
 cases f with
 | next=>exact wpAny_execs_nil q
 | ret v=>exact q
 | brk=>exact q
 | cont=>exact q
theorem Inv.quiet {pins:List (Addr×Obj)}{σ:St}{H:Hp}{s:Shared}(I:Inv X pins σ H s):interactive X.env=false:=by simp [interactive,I.ok.kind]
def Zms (te:TE):TS:=fun D σ H=>te σ H fun _ H1=>D.nx σ H1
theorem Xif (he:PE X e te)(hs:swapsWith e none pos.line X.env=pure false:=by rfl):PS X (.Expr e pos) (Zms te):=by
 intro pins s σ H D I h
 exact wpAny_Expr_any (thn (he pins s σ H _ I h) fun v s1 ⟨x,H1,I1,r1,q1⟩=>⟨σ,H1,I1,q1⟩) I.quiet hs
def Xji (te:TE):TS:=fun D σ H=>te σ H D.rt
theorem Xkw (he:PE X e te):PS X (.Return (some e) pos) (Xji te):=by
 intro pins s σ H D I h
 exact wpAny_Return_some (thn (he pins s σ H _ I h) fun v s1 ⟨x,H1,I1,r1,q1⟩=>⟨x,σ,H1,I1,r1,q1⟩)
def tIfS (c:TT)(t u:TS):TS:=fun D σ H=>c σ H fun b H1=>if b=true then t D σ H1 else u D σ H1
theorem ps_if {c:Expr}{a b:List Stmt}{tc:TT}(hc:PT X c tc)(ha:PSs X a t)(hb:PSs X b u):PS X (.If c a b pos) (tIfS tc t u):=by
 intro pins s σ H D I h
 refine wpAny_If (thn (hc pins s σ H _ I h) fun d s1 ⟨H1,I1,q1⟩=>?_)
 cases d with
 | true=>exact ha pins s1 σ H1 D I1 q1
 | false=>exact hb pins s1 σ H1 D I1 q1
def Zqb:TS:=fun _ _ _=>False
theorem Xau:PS X st Zqb:=fun _ _ _ _ _ _ h=>h.elim
end
noncomputable abbrev TG:=V→St→Hp→(St→Hp→Prop)→Prop
noncomputable abbrev TGs:=List V→St→Hp→(St→Hp→Prop)→Prop
def PG (X:Cx)(target:Expr)(t:TG):Prop:=
 ∀(pins:List (Addr×Obj)) (s:Shared) (σ:St) (H:Hp) (v:V) (u:Value) (Q:St→Hp→Prop),Inv X pins σ H s→RelV v u→t v σ H Q→
  wpAny (model X.prog X.w) X.A (assign target X.env u) (fun _ s'=>∃σ' H',Inv X pins σ' H' s'∧Q σ' H') X.xe s
def PGs (X:Cx)(ts:List Expr)(t:TGs):Prop:=
 ∀(pins:List (Addr×Obj)) (s:Shared) (σ:St) (H:Hp) (vs:List V) (us:List Value) (Q:St→Hp→Prop),Inv X pins σ H s→Jn vs us→t vs σ H Q→
  wpAny (model X.prog X.w) X.A (assignInOrder ((assignEach ts X.env).map (·.2)) us) (fun _ s'=>∃σ' H',Inv X pins σ' H' s'∧Q σ' H') X.xe s
noncomputable abbrev TSet:=V→V→V→Hp→(Hp→Prop)→Prop
section
variable {X:Cx}{pos:Pos}
noncomputable def Yj (i:Nat):TG:=fun v σ H Q=>Q (σ.set i (some v)) H
theorem Xge {i:Nat}{x:Str}(hN:X.N.Nodup)(hi:X.N[i]?=some x)(hx:Loc X.env.scope x)(hf:autoParam (X.fn x=true∨X.env.scope.names.lookup x=some .local) aT0._auto_1):PG X (.Name x pos) (Yj i):=by
 intro pins s σ H v u Q I r h
 exact wpAny_assign_Name (Zhi I hN hi hx r (fun s' I'=>⟨_,H,I',h⟩) hf)
noncomputable def Zqr:TGs:=fun vs σ H Q=>vs=[]∧Q σ H
noncomputable def Zcb (t:TG)(u:TGs):TGs:=fun vs σ H Q=>∃v r,vs=v::r∧t v σ H fun σ' H'=>u r σ' H' Q
theorem Xip:PGs X [] Zqr:=by
 intro pins s σ H vs us Q I r h
 obtain ⟨e,h⟩:=h
 subst e
 cases r
 exact assignInOrder_nil ⟨σ,H,I,h⟩
theorem Xbh {e:Expr}{es:List Expr}{t:TG}{u:TGs}(h1:PG X e t)(h2:PGs X es u)
  (hs:(assignEach (e::es) X.env).map (·.2)=assign e X.env::(assignEach es X.env).map (·.2):=by rfl):PGs X (e::es) (Zcb t u):=by
 intro pins s σ H vs us Q I r h
 obtain ⟨v,vr,e1,h⟩:=h
 subst e1
 cases r with
 | cons r rr =>
  rw [hs]
  refine assignInOrder_cons (thn (h1 pins s σ H _ _ _ I r h) fun _ s1 hz9=>?_)
  obtain ⟨σ1,H1,I1,q1⟩:=hz9
  exact h2 pins s1 σ1 H1 _ _ Q I1 rr q1
noncomputable def Zdy (K:Frag)(n:Nat)(t:TGs):TG:=fun v σ H Q=>∃a xs,v=.ref a∧SqT K H a xs∧xs.length=n∧t xs σ H Q
theorem Xny {es:List Expr}{k:Nat}{t:TGs}{n:Nat}(hc:X.calm=true)(h:PGs X es t)
  (hn:(assignEach es X.env).length=n:=by rfl) (hst:(assignEach es X.env).findIdx? (·.1)=none:=by rfl):PG X (.Tuple es k pos) (Zdy X.K n t):=by
 intro pins s σ H v u Q I r hw
 obtain ⟨a,xs,e1,hq,hl,hw⟩:=hw
 subst e1
 cases r
 obtain ⟨its,rv,ht,hz⟩:=I.tuple hq
 refine assign_Tuple_tuple (I.ok.hd hc) ht (by simp [hn,← hl,rv.length]) hst fun h' hx=>?_
 have I1:Inv X pins σ H {s with heap:=h'}:=I.kept (t':=s.toks) fun b o e=>hx b o (ne_of_lt (lt_size e)) e
 exact h pins _ σ H xs _ Q I1 (by simpa using rv) hw
noncomputable def Zot (to ti:TE)(t:TSet):TG:=fun v σ H Q=>to σ H fun o H1=>ti σ H1 fun i H2=>t o i v H2 fun H3=>Q σ H3
def Zgr (te:TE)(g:TG):TS:=fun D σ H=>te σ H fun x H1=>g x σ H1 D.nx
theorem Xnm {tg e:Expr}{te:TE}{g:TG}(he:PE X e te)(hg:PG X tg g)(hs:swapsWithSole [tg] e pos.line X.env=pure false:=by rfl)(hw:swappedStores [tg] e X.env=pure none:=by rfl)
  (h1:(assignEach [tg] X.env).map (·.2)=[assign tg X.env]:=by rfl):PS X (.Assign [tg] e pos) (Zgr te g):=by
 intro pins s σ H D I h
 refine wpAny_Assign_stores (thn (he pins s σ H _ I h) fun v s1 hz9=>?_) hs hw
 obtain ⟨x,H1,I1,r1,q1⟩:=hz9
 rw [h1]
 exact thn (hg pins s1 σ H1 x v _ I1 r1 q1) fun _ s2 q=>q
theorem Xnh {i:Nat}{x:Str}{e:Expr}{te:TE}{pos':Pos}(hN:X.N.Nodup)(hi:X.N[i]?=some x)(hx:Loc X.env.scope x)(he:PE X e te)(hs:swapsWith e (some (.Name x pos')) pos.line X.env=pure false:=by rfl)(hf:autoParam (X.fn x=true∨X.env.scope.names.lookup x=some .local) aT0._auto_1) :
  PS X (.Assign [.Name x pos'] e pos) (Zgr te (Yj i)):=by
 intro pins s σ H D I h
 refine wpAny_Assign_Name (thn (he pins s σ H _ I h) fun v s1 hz9=>?_) hs
 obtain ⟨y,H1,I1,r1,q1⟩:=hz9
 exact Zhi I1 hN hi hx r1 (fun s2 I2=>⟨_,H1,I2,q1⟩) hf
def tPar (i j:Nat)(ta:TA):TS:=fun D σ H=>ta σ H fun vs H1=>∃v w,vs=[v,w]∧D.nx ((σ.set i (some v)).set j (some w)) H1
theorem Xks {i j:Nat}{x y:Str}{a b:Expr}{ta:TA}{px py pt:Pos}{kt k2 pt2}(hc:X.calm=true)(hN:X.N.Nodup)(hi:X.N[i]?=some x)(hj:X.N[j]?=some y)(hij:i≠j)
  (hx:X.env.scope.names.lookup x=some .local) (hy:X.env.scope.names.lookup y=some .local) (ha:PA X [a,b] ta)
  (hw:swappedStores [.Tuple [.Name x px,.Name y py] kt pt] (.Tuple [a,b] k2 pt2) X.env=pure (some [x,y]))
  (hs:swapsWithSole [.Tuple [.Name x px,.Name y py] kt pt] (.Tuple [a,b] k2 pt2) pos.line X.env=pure false:=by rfl) :
  PS X (.Assign [.Tuple [.Name x px,.Name y py] kt pt] (.Tuple [a,b] k2 pt2) pos) (tPar i j ta):=by
 intro pins s σ H D I h
 rw [exec_Assign_arm]
 refine wpAny_bind (wpAny_standAt ?_)
 rw [hs]
 refine wpAny_bind (wpAny_pure ?_)
 rw [if_neg (by decide)]
 refine wpAny_bind (Tuple_ (thn (ha _ pins s σ H _ I h) fun us s1 hz9=>?_))
 obtain ⟨vs,H1,I1,r1,q1⟩:=hz9
 obtain ⟨v,w,e1,q1⟩:=q1
 subst e1
 obtain ⟨u1,u2,rfl,rv,rw'⟩:∃u1 u2,us=[u1,u2]∧RelV v u1∧RelV w u2:=by
  cases r1 with
  | cons p q =>
   cases q with
   | cons p' q' =>
    cases q'
    exact ⟨_,_,rfl,p,p'⟩
 refine wpAny_newObj_type ?_ (by show 2≤sizeLine;decide)
 have I2:Inv X pins σ H1 {s1 with heap:=s1.heap.push {cls:=.type "tuple",data:=.seq [u1,u2].toArray}}:=I1.kept (t':=s1.toks) fun b o e=>get?_push_of_some _ e
 rw [hw]
 refine wpAny_bind (wpAny_pure ?_)
 show wpAny (model X.prog X.w) X.A (do rule "assign.swapped-stores";let items ← unpackItems (.ref s1.heap.objs.size) 2 none;assignInOrder [fun v=>bindName X.env y v,fun v=>bindName X.env x v] items.reverse;pure Flow.next) _ _ _
 refine wpAny_bind (wpAny_rule (wpAny_bind (unpackItems_tuple (items:=#[u1,u2]) (I.ok.hd hc) (IsTup.new s1.heap _) fun h' hx'=>?_)))
 have I3:=I2.kept (h':=h') (t':=s1.toks) fun b o e=>hx' b o (ne_of_lt (lt_size e)) e
 show wpAny _ _ (assignInOrder [fun v=>bindName X.env y v,fun v=>bindName X.env x v] [u2,u1] >>= fun _=>pure Flow.next) _ _ _
 refine wpAny_bind (assignInOrder_cons (wpAny_bindName (Zhi I3 hN hj (.inl hy) rw' (fun s2 I4=>?_) (.inr hy))))
 refine assignInOrder_cons (wpAny_bindName (Zhi I4 hN hi (.inl hx) rv (fun s3 I5=>assignInOrder_nil (wpAny_pure ?_)) (.inr hx)))
 rw [List.set_comm _ _ (Ne.symm hij)] at I5
 exact ⟨_,H1,I5,q1⟩
def Zqz (c:TT)(tb:TS):TS:=fun D σ H=>∃W:Nat→St→Hp→Prop,(∃m,W m σ H)∧∀m σ H,W m σ H→
 c σ H fun b H1=>if b=true then ∃N:St→Hp→Prop,(∀σ' H',N σ' H'→∃m',m'<m∧W m' σ' H')∧tb {D with nx:=N,ct:=N,bk:=D.nx} σ H1 else D.nx σ H1
theorem Zzp {c:Expr}{body:List Stmt}{tc:TT}{tb:TS}(hp:PassesOwn (model X.prog X.w) X.A X.env X.xe)(hc:PT X c tc)(hb:PSs X body tb):PS X (.While c body [] pos) (Zqz tc tb):=by
 intro pins s σ H D I h
 obtain ⟨W,⟨m0,w0⟩,turn⟩:=h
 refine wpAny_While (codeAny_whileLoop (fun n s'=>∃σ' H',Inv X pins σ' H' s'∧W n σ' H') ?_ m0 ⟨σ,H,I,w0⟩)
 rintro n s1 ⟨σ1,H1,I1,w1⟩
 refine wpAny_passesOwn hp (thn (hc pins s1 σ1 H1 _ I1 (turn n σ1 H1 w1)) fun b s2 ⟨H2,I2,q2⟩=>?_)
 cases b with
 | true =>
  obtain ⟨N,hN,q2⟩:=q2
  rw [if_pos rfl]
  refine wpAny_passesOwn hp (thn (hb pins s2 σ1 H2 _ I2 q2) fun f s3 q3=>?_)
  cases f with
  | next =>
   obtain ⟨σ3,H3,I3,n3⟩:=q3
   obtain ⟨m',hm,w3⟩:=hN σ3 H3 n3
   exact ⟨m',hm,σ3,H3,I3,w3⟩
  | cont =>
   obtain ⟨σ3,H3,I3,n3⟩:=q3
   obtain ⟨m',hm,w3⟩:=hN σ3 H3 n3
   exact ⟨m',hm,σ3,H3,I3,w3⟩
  | brk=>exact q3
  | ret v=>exact q3
 | false =>
  rw [if_neg Bool.false_ne_true]
  exact wpAny_execs_nil ⟨σ1,H2,I2,q2⟩
end
structure It where
 go:Nat→Hp→Prop
 yld:Nat→Hp→V→Hp→Prop
 stop:Nat→Hp→Prop
def Zjl (X:Cx)(pins:List (Addr×Obj))(H:Hp)(b:Addr):Prop:=
 H b=none∧b≠X.env.locals∧b∉X.fs∧(b∈X.ex∨X.s₀.heap.objs.size≤b)∧(∀x c,X.env.cells.lookup x=some c→c≠b)∧∀p∈X.pn++pins,p.1≠b
theorem Inv.fpOk {X:Cx}{pins:List (Addr×Obj)}{σ:St}{H H':Hp}{s:Shared}{b:Addr}(I:Inv X pins σ H s)(hb:s.heap.objs.size≤b)(hn:H' b=none):Zjl X pins H' b:=by
 refine ⟨hn,Nat.ne_of_gt (lt_of_lt_of_le I.lt hb),I.nofs hb,.inr (le_trans I.sz hb),fun x c e z=>?_,fun p hp z=>?_⟩
 ·obtain ⟨v,q⟩:=I.cell x c e
  exact absurd (lt_of_lt_of_le q.lt (by rw [z];exact hb)) (lt_irrefl _)
 ·exact absurd (lt_of_lt_of_le (lt_size (I.pin p hp).1) (by rw [z];exact hb)) (lt_irrefl _)
structure Turn (P:Program)(w:World)(K:Frag)(tg:Expr)(J:It)(fp:List Addr)(it:Addr)(tn:Nat→Heap→Prop):Prop where
  mem:it∈fp
  obj:∀i h,tn i h→∀b∈fp,∃o,h.get? b=some o∧∀v,o.data≠.cell v
  keep:∀i h h',tn i h→(∀b∈fp,∀o,h.get? b=some o→h'.get? b=some o)→tn i h'
  item:∀(X:Cx),X.prog=P→X.w=w→X.K=K→X.calm=true→∀(i:Nat) (pins:List (Addr×Obj)) (s:Shared) (σ:St) (H:Hp) (E:Value→Shared→Prop),Inv X pins σ H s→(∀b∈fp,Zjl X pins H b)→tn i s.heap→J.go i H→
    wpAny (model P w) X.A (pyNext (.ref it)) (fun r s1=>∃u,r=some u∧
      wpAny (model P w) X.A (letOwnedTupleGo tg (.ref it) u) (fun _ s2=>∃x H',Inv X pins σ H' s2∧RelV x u∧J.yld i H x H'∧tn (i+1) s2.heap∧∀b∈fp,H' b=none) E s1) E s
  done:∀(X:Cx),X.prog=P→X.w=w→X.K=K→X.calm=true→∀(i:Nat) (pins:List (Addr×Obj)) (s:Shared) (σ:St) (H:Hp) (E:Value→Shared→Prop),Inv X pins σ H s→(∀b∈fp,Zjl X pins H b)→tn i s.heap→J.stop i H→
    wpAny (model P w) X.A (pyNext (.ref it)) (fun r s1=>r=none∧Inv X pins σ H s1) E s
  self:∀(A:Around) (i:Nat) (s:Shared) (Q:Value→Shared→Prop) (E:Value→Shared→Prop),tn i s.heap→Q (.ref it) s→wpAny (model P w) A (pyIter (.ref it)) Q E s
noncomputable abbrev TI:=St→Hp→(It→Hp→Prop)→Prop
def PIE (X:Cx)(pins:List (Addr×Obj))(σ:St)(tg:Expr)(R:It→Hp→Prop)(itv:Value)(s2:Shared):Prop:=
 ∃(it:Addr) (fp:List Addr) (tn:Nat→Heap→Prop) (J:It) (H':Hp),itv=.ref it∧Inv X pins σ H' s2∧Turn X.prog X.w X.K tg J fp it tn∧tn 0 s2.heap∧(∀b∈fp,Zjl X pins H' b)∧R J H'
def PI (X:Cx)(tg iter:Expr)(wi:TI):Prop:=
 ∀(pins:List (Addr×Obj)) (s:Shared) (σ:St) (H:Hp) (R:It→Hp→Prop),Inv X pins σ H s→wi σ H R→
  wpAny (model X.prog X.w) X.A (eval iter X.env) (fun v s1=>wpAny (model X.prog X.w) X.A (pyIter v) (PIE X pins σ tg R) X.xe s1) X.xe s
theorem Xmr {M:Model}{A:Around}{E:Value→Shared→Prop}{s:Shared}{tg:Expr}{it:Addr}{u:Value}{o:Obj}{n:String}{vs:Array Value}{Q:Unit→Shared→Prop}(ho:s.heap.get? it=some o)(hc:o.cls=.type n)(hd:o.data=.fields vs)
    (hn:["enumerate","zip","dict_itemiterator","dict_reverseitemiterator","odict_iterator","itertools.zip_longest","itertools.pairwise"].contains n=false) (hQ:Q () s):wpAny M A (letOwnedTupleGo tg (.ref it) u) Q E s:=by
  unfold letOwnedTupleGo
  cases tg<;>first
    | exact wpAny_pure hQ
    | (cases u<;>first
        | exact wpAny_pure hQ
        | (refine wpAny_bind (wpAny_load ho ?_)
           rw [hc,hd]
           show wpAny M A (if (["enumerate","zip","dict_itemiterator","dict_reverseitemiterator","odict_iterator","itertools.zip_longest","itertools.pairwise"].contains n&&vs[0]?==some (rawInt _))=true then _ else _) Q E s
           rw [if_neg (by intro h;rw [hn,Bool.false_and] at h;cases h)]
           exact wpAny_pure hQ))
noncomputable def Itl (K:Frag)(a:Addr):It:=
 ⟨fun i H=>∃xs x,SqL K H a xs∧xs[i]?=some x,fun i H x H'=>H'=H∧∀xs,SqL K H a xs→xs[i]?=some x,fun i H=>∃xs,SqL K H a xs∧xs.length≤i⟩
noncomputable def Itr (lo:Int)(n:Nat):It:=⟨fun i _=>i<n,fun i H x H'=>H'=H∧x=.int (lo+i),fun i _=>n≤i⟩
theorem Zxp {P:Program}{w:World}{K:Frag}{tg:Expr}(a it:Addr):Turn P w K tg (Itl K a) [it] it (fun i h=>h.IsListIter it a i) where
 mem:=by simp
 obj:=fun i h st b hb=>by
  have e:b=it:=by simpa using hb
  subst e
  obtain ⟨o,e,c,d⟩:=st
  exact ⟨o,e,fun v z=>by rw [d] at z;cases z⟩
 keep:=fun i h h' st k=>st.at fun o e=>k it (by simp) o e
 item:=by
  intro X hP hw hK hc i pins s σ H E I hf st hg
  subst hP hw hK
  obtain ⟨xs,x,hq,hx⟩:=hg
  obtain ⟨its,rv,p,hz⟩:=I.list hq
  obtain ⟨u,hu,ru⟩:=rv.get hx
  obtain ⟨f0,f1,f2,f3,f4,f5⟩:=hf it (by simp)
  refine wpAny_pyNext_list_item st p.isList (x:=u) (by simpa using hu) fun h' st' sb=>?_
  have I1:Inv X pins σ H {s with heap:=h'}:=I.turned (t':=s.toks) (fun b o hb e=>(sb.2 b hb).trans e) f0 f1 f3 f4 f5
  obtain ⟨o,e,c,d⟩:=id st'
  exact ⟨u,rfl,Xmr (s:={s with heap:=h'}) e c d (by decide) ⟨x,H,I1,ru,⟨rfl,fun ys hy=>by rw [I.list_inj hy hq];exact hx⟩,st',fun b hb=>(hf b hb).1⟩⟩
 done:=by
  intro X hP hw hK hc i pins s σ H E I hf st hg
  subst hP hw hK
  obtain ⟨xs,hq,hx⟩:=hg
  obtain ⟨its,rv,p,hz⟩:=I.list hq
  obtain ⟨f0,f1,f2,f3,f4,f5⟩:=hf it (by simp)
  have hl:=rv.length
  exact wpAny_pyNext_list_end (I.ok.hd hc) st p.isList (by simp;omega) fun h' eb=>⟨rfl,I.turned (t':=s.toks) (fun b o hb e=>eb b o hb e) f0 f1 f3 f4 f5⟩
 self:=fun _ _ _ _ _ st h=>wpAny_pyIter_listiter st h
theorem Zta {P:Program}{w:World}{K:Frag}{tg:Expr}(it:Addr)(lo:Int)(n:Nat):Turn P w K tg (Itr lo n) [it] it (fun i h=>IsRangeIter h it (lo+(i:Nat)*1) ((n:Int) - (i:Nat)) 1) where
  mem:=by simp
  obj:=fun i h st b hb=>by
    have e:b=it:=by simpa using hb
    subst e
    exact ⟨_,st,fun v z=>by
      have z':Data.fields _=Data.cell v:=z
      cases z'⟩
  keep:=fun i h h' st k=>k it (by simp) _ st
  item:=by
    intro X hP hw hK hc i pins s σ H E I hf st hg
    subst hP hw hK
    obtain ⟨f0,f1,f2,f3,f4,f5⟩:=hf it (by simp)
    have W:=Walks.range (prog:=X.prog) (w:=X.w) (I.ok.hd hc) it lo 1 n
    refine W.item i s _ _ hg st fun v h' tk hv st' kk=>?_
    obtain ⟨t,rfl⟩:=hv
    have I1:Inv X pins σ H {s with heap:=h',toks:=tk}:=I.turned (fun b o hb e=>kk b o (by simpa using hb) e) f0 f1 f3 f4 f5
    refine ⟨_,rfl,Xmr (s:={s with heap:=h',toks:=tk}) (n:="range_iterator") st' rfl rfl (by decide) ⟨.int (lo+i),H,I1,⟨t,?_⟩,⟨rfl,rfl⟩,st',fun b hb=>(hf b hb).1⟩⟩
    rw [Int.mul_one]
  done:=by
    intro X hP hw hK hc i pins s σ H E I hf st hg
    subst hP hw hK
    obtain ⟨f0,f1,f2,f3,f4,f5⟩:=hf it (by simp)
    exact wpAny_pyNext_range_end (I.ok.hd hc) st (by have:n≤i:=hg;omega) fun h' eb=>⟨rfl,I.turned (t':=s.toks) (fun b o hb e=>eb b o hb e) f0 f1 f3 f4 f5⟩
  self:=fun _ _ _ _ _ st h=>wpAny_pyIter_rangeiter st h
section
variable {X:Cx}{tg:Expr}
noncomputable def Ztb (K:Frag)(tl:TE):TI:=fun σ H R=>tl σ H fun x H1=>∃a,x=.ref a∧(∃xs,SqL K H1 a xs)∧R (Itl K a) H1
theorem Xes {l:Expr}{tl:TE}(hl:PE X l tl):PI X tg l (Ztb X.K tl):=by
 intro pins s σ H R I h
 refine thn (hl pins s σ H _ I h) fun v s1 hz9=>?_
 obtain ⟨x,H1,I1,r1,q1⟩:=hz9
 obtain ⟨a,e,⟨xs,hq⟩,q⟩:=q1
 subst e
 cases r1
 obtain ⟨its,rv,p,hz⟩:=I1.list hq
 refine wpAny_pyIter_list p.isList ?_
 refine ⟨s1.heap.objs.size,[s1.heap.objs.size],_,_,H1,rfl,I1.kept (t':=s1.toks) fun b o e=>get?_push_of_some _ e,Zxp a _,⟨_,get?_push_size _ rfl,rfl,rfl⟩,fun b hb=>?_,q⟩
 have e:b=s1.heap.objs.size:=by simpa using hb
 subst e
 exact I1.fpOk (le_refl _) (I1.hok.fresh (le_refl _))
theorem Zqn {pins:List (Addr×Obj)}{σ:St}{H:Hp}{s:Shared}{R:It→Hp→Prop}{E:Value→Shared→Prop}{lo hi:Int}{t u v:Tok}{tk:Nat}(I:Inv X pins σ H s)(h1:-(2 ^ 62)≤lo)(h2:lo<2 ^ 62)(h3:-(2 ^ 62)≤hi)(h4:hi<2 ^ 62)
    (q:R (Itr lo (hi - lo).toNat) H):wpAny (model X.prog X.w) X.A (pyIter (.ref s.heap.objs.size)) (PIE X pins σ tg R) E {s with heap:=s.heap.push {cls:=.type "range",data:=.fields #[.int lo t,.int hi u,.int 1 v]},toks:=tk}:=by
  refine wpAny_pyIter_range (IsRange.new ..) (small_one h1 h2 h3 h4) ?_
  have I1:Inv X pins σ H {s with heap:=s.heap.push {cls:=.type "range",data:=.fields #[.int lo t,.int hi u,.int 1 v]},toks:=tk}:=I.kept fun b o e=>get?_push_of_some _ e
  refine ⟨(s.heap.push {cls:=.type "range",data:=.fields #[.int lo t,.int hi u,.int 1 v]}).objs.size,[(s.heap.push {cls:=.type "range",data:=.fields #[.int lo t,.int hi u,.int 1 v]}).objs.size],_,_,H,rfl,
    I1.kept (t':=tk) fun b o e=>get?_push_of_some _ e,Zta _ lo (hi - lo).toNat,?_,fun b hb=>?_,q⟩
  · have e1:lo+((0:Nat):Int)*1=lo:=by simp
    have e2:(((hi - lo).toNat:Nat):Int) - ((0:Nat):Int)=Builtin.Range.rangeSize lo hi 1:=by rw [rangeSize_one];split<;>omega
    show IsRangeIter _ _ (lo+((0:Nat):Int)*1) ((((hi - lo).toNat:Nat):Int) - ((0:Nat):Int)) 1
    rw [e1,e2]
    exact get?_push_size _ rfl
  · have e:b=(s.heap.push {cls:=.type "range",data:=.fields #[.int lo t,.int hi u,.int 1 v]}).objs.size:=by simpa using hb
    subst e
    exact I1.fpOk (le_refl _) (I1.hok.fresh (le_refl _))
noncomputable def Xan (ta:TA):TI:=fun σ H R=>ta σ H fun vs H1=>∃j:Int,vs=[.int j]∧-(2 ^ 62)≤j∧j<2 ^ 62∧R (Itr 0 j.toNat) H1
noncomputable def Zyc (ta:TA):TI:=fun σ H R=>ta σ H fun vs H1=>∃i j:Int,vs=[.int i,.int j]∧(-(2 ^ 62)≤i∧i<2 ^ 62∧-(2 ^ 62)≤j∧j<2 ^ 62)∧R (Itr i (j - i).toNat) H1
theorem Zvc {a:Expr}{ta:TA}{p pos:Pos}(hg:Gl X "range")(hm:X.mg "range"=none)(ha:PA X [a] ta)(hs:starEach [a] X.env=[(false,eval a X.env)]:=by rfl):PI X tg (.Call (.Name "range" p) [a] [] pos) (Xan ta):=by
 intro pins s σ H R I h
 refine Call_ (Zez I hg hm boot_range (PyProof.Rows.callWith_type1 (thn (ha pos pins s σ H _ I h) fun us s1 hz9=>?_) hs rfl))
 obtain ⟨vs,H1,I1,r1,q1⟩:=hz9
 obtain ⟨j,e,q1,q2,q⟩:=q1
 subst e
 cases r1 with
 | cons r rr =>
  cases rr
  obtain ⟨t,rfl⟩:=r
  exact call_range_1 (Zqn I1 (by omega) (by omega) q1 q2 (by simpa using q))
theorem Zut {a b:Expr}{ta:TA}{p pos:Pos}(hg:Gl X "range")(hm:X.mg "range"=none)(ha:PA X [a,b] ta)(hs:starEach [a,b] X.env=[(false,eval a X.env),(false,eval b X.env)]:=by rfl)(hs2:starEach [b] X.env=[(false,eval b X.env)]:=by rfl) :
  PI X tg (.Call (.Name "range" p) [a,b] [] pos) (Zyc ta):=by
 intro pins s σ H R I h
 refine Call_ (Zez I hg hm boot_range (PyProof.Rows.callWith_type1 (thn (ha pos pins s σ H _ I h) fun us s1 hz9=>?_) (by rw [hs,hs2]) (by rw [hs2];rfl)))
 obtain ⟨vs,H1,I1,r1,q1⟩:=hz9
 obtain ⟨i,j,e,⟨q1,q2,q3,q4⟩,q⟩:=q1
 subst e
 cases r1 with
 | cons r rr =>
  cases rr with
  | cons r' rr =>
   cases rr
   obtain ⟨t,rfl⟩:=r
   obtain ⟨t',rfl⟩:=r'
   exact call_range_2 (Zqn I1 q1 q2 q3 q4 q)
def Xjm (wi:TI)(g:TG)(tb:TS):TS:=fun D σ H=>wi σ H fun J H1=>∃W:Nat→Nat→St→Hp→Prop,(∃m,W 0 m σ H1)∧∀i m σ H,W i m σ H→
 (J.stop i H∧D.nx σ H)∨(J.go i H∧∃N:St→Hp→Prop,(∀σ' H',N σ' H'→∃m',m'<m∧W (i+1) m' σ' H')∧∀x H',J.yld i H x H'→g x σ H' fun σ2 H2=>tb {D with nx:=N,ct:=N,bk:=D.nx} σ2 H2)
noncomputable def Zjw (fp:List Addr)(h:Heap):List (Addr×Obj):=fp.filterMap fun b=>(h.get? b).map fun o=>(b,o)
theorem Zbg {fp:List Addr}{h:Heap}{b:Addr}{o:Obj}(hb:b∈fp)(e:h.get? b=some o):(b,o)∈Zjw fp h:=List.mem_filterMap.mpr ⟨b,hb,by rw [e];rfl⟩
theorem Zwc {fp:List Addr}{h:Heap}{p:Addr×Obj}(hp:p∈Zjw fp h):p.1∈fp∧h.get? p.1=some p.2:=by
 obtain ⟨b,hb,e⟩:=List.mem_filterMap.mp hp
 cases q:h.get? b with
 | none=>rw [q] at e;cases e
 | some o =>
  rw [q] at e
  have e':(b,o)=p:=Option.some.inj e
  subst e'
  exact ⟨hb,q⟩
theorem Inv.pinned {pins:List (Addr×Obj)}{σ:St}{H:Hp}{s:Shared}{fp:List Addr}(I:Inv X pins σ H s)(hf:∀b∈fp,Zjl X pins H b)(ho:∀b∈fp,∃o,s.heap.get? b=some o∧∀v,o.data≠.cell v):Inv X (pins++Zjw fp s.heap) σ H s:=
 I.pins_of fun p hp=>(List.mem_append.mp hp).elim (fun z=>I.pin p (mem_append_right _ z)) fun z=>by
  obtain ⟨hb,e⟩:=Zwc z
  obtain ⟨f0,f1,f2,_⟩:=hf p.1 hb
  obtain ⟨o,e',d⟩:=ho p.1 hb
  rw [e] at e';cases e'
  exact ⟨e,f0,f1,f2,d⟩
theorem Inv.unpinned {pins pl:List (Addr×Obj)}{σ:St}{H:Hp}{s:Shared}(I:Inv X (pins++pl) σ H s):Inv X pins σ H s:=I.pins_of fun p hp=>I.pin p (mem_append_right _ (mem_append_left _ hp))
theorem Xlq {iter:Expr}{body:List Stmt}{wi:TI}{g:TG}{tb:TS}{pos:Pos}(hp:PassesOwn (model X.prog X.w) X.A X.env X.xe)(hc:X.calm=true)(hi:PI X tg iter wi)(hg:PG X tg g)(hb:PSs X body tb)
  (hs:∀x,foldedSetIterable iter X.env x=pure x:=by intro _;rfl):PS X (.For tg iter body [] pos) (Xjm wi g tb):=by
 intro pins s σ H D I h
 refine wpAny_For (thn (hi pins s σ H _ I h) fun v s1 h1=>thn h1 fun itv s2 h2=>?_) hs
 obtain ⟨it,fp,tn,J,H2,e,I2,T,st2,f2,W,⟨m0,w0⟩,turn⟩:=h2
 subst e
 have stat:∀{H':Hp},(∀b∈fp,H' b=none)→∀b∈fp,Zjl X pins H' b:=fun hn b hb=>⟨hn b hb,(f2 b hb).2⟩
 refine codeAny_forLoop_any (fun n s'=>∃i σ' H',Inv X pins σ' H' s'∧tn i s'.heap∧(∀b∈fp,H' b=none)∧W i n σ' H') ?_ m0 ⟨0,σ,H2,I2,st2,fun b hb=>(f2 b hb).1,w0⟩
 rintro n s3 ⟨i,σ3,H3,I3,st3,fr3,w3⟩
 rcases turn i n σ3 H3 w3 with ⟨stop,qn⟩ | ⟨go,N,hN,step⟩
 ·refine wpAny_passesOwn hp (thn (T.done X rfl rfl rfl hc i pins s3 σ3 H3 X.xe I3 (stat fr3) st3 stop) fun r s4 ⟨hr,I4⟩=>?_)
  subst hr
  exact wpAny_execs_nil ⟨σ3,H3,I4,qn⟩
 ·refine wpAny_passesOwn hp (thn (T.item X rfl rfl rfl hc i pins s3 σ3 H3 X.xe I3 (stat fr3) st3 go) fun r s4 ⟨u,hr,h4⟩=>?_)
  subst hr
  refine wpAny_passesOwn hp (thn h4 fun _ s5 hz9=>?_)
  obtain ⟨x,H5,I5,r5,y5,st5,fr5⟩:=hz9
  have I5':=I5.pinned (stat fr5) (T.obj _ _ st5)
  refine wpAny_passesOwn hp (thn (hg _ s5 σ3 H5 x u _ I5' r5 (step x H5 y5)) fun _ s6 hz9=>?_)
  obtain ⟨σ6,H6,I6,q6⟩:=hz9
  refine wpAny_passesOwn hp (thn (hb _ s6 σ6 H6 _ I6 q6) fun f s7 q7=>?_)
  have again:∀{σ7:St} {H7:Hp},Inv X (pins++Zjw fp s5.heap) σ7 H7 s7→N σ7 H7→∃m,m<n∧∃i σ' H',Inv X pins σ' H' s7∧tn i s7.heap∧(∀b∈fp,H' b=none)∧W i m σ' H':=fun {σ7 H7} I7 n7=>by
   obtain ⟨m',hm,w7⟩:=hN σ7 H7 n7
   refine ⟨m',hm,i+1,σ7,H7,I7.unpinned,T.keep _ _ _ st5 fun b hb o e=>(I7.pin (b,o) (mem_append_right _ (mem_append_right _ (Zbg hb e)))).1,fun b hb=>?_,w7⟩
   obtain ⟨o,e,d⟩:=T.obj _ _ st5 b hb
   exact (I7.pin (b,o) (mem_append_right _ (mem_append_right _ (Zbg hb e)))).2.1
  cases f with
  | next=>obtain ⟨σ7,H7,I7,n7⟩:=q7;exact again I7 n7
  | cont=>obtain ⟨σ7,H7,I7,n7⟩:=q7;exact again I7 n7
  | brk=>obtain ⟨σ7,H7,I7,q7⟩:=q7;exact ⟨σ7,H7,I7.unpinned,q7⟩
  | ret v=>obtain ⟨x7,σ7,H7,I7,r7,q7⟩:=q7;exact ⟨x7,σ7,H7,I7.unpinned,r7,q7⟩
end
noncomputable abbrev R2:=V→V→Hp→VK→Prop
def OpR (X:Cx)(f:Value→Value→Sem Value)(r:R2):Prop:=
 ∀(pins:List (Addr×Obj)) (s:Shared) (σ:St) (H:Hp) (x y:V) (v u:Value) (Q:VK),Inv X pins σ H s→RelV x v→RelV y u→r x y H Q→
  wpAny (model X.prog X.w) X.A (f v u) (EP X pins σ Q) X.xe s
def UnR (X:Cx)(f:Value→Sem Value)(r:V→Hp→VK→Prop):Prop:=
 ∀(pins:List (Addr×Obj)) (s:Shared) (σ:St) (H:Hp) (x:V) (v:Value) (Q:VK),Inv X pins σ H s→RelV x v→r x H Q→
  wpAny (model X.prog X.w) X.A (f v) (EP X pins σ Q) X.xe s
def Zav (X:Cx)(f:Value)(r:List V→Hp→VK→Prop):Prop:=
 ∀(pins:List (Addr×Obj)) (s:Shared) (σ:St) (H:Hp) (xs:List V) (us:List Value) (Q:VK),Inv X pins σ H s→Jn xs us→r xs H Q→
  wpAny (model X.prog X.w) X.A (call f us) (EP X pins σ Q) X.xe s
def tOp (r:R2)(ta tb:TE):TE:=fun σ H Q=>ta σ H fun x H1=>tb σ H1 fun y H2=>r x y H2 Q
def tUn (r:V→Hp→VK→Prop)(ta:TE):TE:=fun σ H Q=>ta σ H fun x H1=>r x H1 Q
noncomputable def rI (C:Int→Int→Prop)(g:Int→Int→V):R2:=fun x y H Q=>∃i j,x=.int i∧y=.int j∧C i j∧Q (g i j) H
noncomputable def rI0 (g:Int→Int→V):R2:=fun x y H Q=>∃i j,x=.int i∧y=.int j∧Q (g i j) H
def rU (g:Int→V):V→Hp→VK→Prop:=fun x H Q=>∃i,x=.int i∧Q (g i) H
section
variable {X:Cx}{a b c:Expr}{ta tb tc:TE}{pos:Pos}
theorem binT (ha:PE X a ta)(hb:PE X b tb){pins:List (Addr×Obj)}{s:Shared}{σ:St}{H:Hp}{R:V→V→Hp→Prop}(I:Inv X pins σ H s)
  (h:ta σ H fun x H1=>tb σ H1 fun y H2=>R x y H2) {Q:Value→Shared→Prop} {f:Value→Value→Sem Value}
  (hf:∀v u s2 x y H2,Inv X pins σ H2 s2→RelV x v→RelV y u→R x y H2→wpAny (model X.prog X.w) X.A (f v u) Q X.xe s2) :
  wpAny (model X.prog X.w) X.A (eval a X.env) (fun v s₁=>wpAny (model X.prog X.w) X.A (eval b X.env) (fun u s₂=>wpAny (model X.prog X.w) X.A (f v u) Q X.xe s₂) X.xe s₁) X.xe s:=by
 refine thn (ha pins s σ H _ I h) fun v s1 hz9=>?_
 obtain ⟨x,H1,I1,r1,q1⟩:=hz9
 refine thn (hb pins s1 σ H1 _ I1 q1) fun u s2 hz9=>?_
 obtain ⟨y,H2,I2,r2,q2⟩:=hz9
 exact hf v u s2 x y H2 I2 r1 r2 q2
theorem pe_op {op:Operator}{r:R2}(ho:OpR X (binaryOp op) r)(ha:PE X a ta)(hb:PE X b tb):PE X (.BinOp a op b pos) (tOp r ta tb):=by
 intro pins s σ H Q I h
 exact wpAny_BinOp (binT ha hb I h fun v u s2 x y H2 I2 rx ry q=>ho pins s2 σ H2 x y v u Q I2 rx ry q)
theorem pe_un {op:UnaryOp}{r:V→Hp→VK→Prop}(ho:UnR X (unaryOp op) r)(ha:PE X a ta):PE X (.UnaryOp op a pos) (tUn r ta):=by
 intro pins s σ H Q I h
 exact UnaryOp_ (thn (ha pins s σ H _ I h) fun v s1 ⟨x,H1,I1,r1,q1⟩=>ho pins s1 σ H1 x v Q I1 r1 q1)
theorem opI {f:Value→Value→Sem Value}{C:Int→Int→Prop}{g:Int→Int→Int}
  (rule:∀(i j:Int) (t u:Tok) (s:Shared) (Q:Value→Shared→Prop) (E:Value→Shared→Prop),C i j→Q (.int (g i j) s.toks) {s with toks:=s.toks+1}→wpAny (model X.prog X.w) X.A (f (.int i t) (.int j u)) Q E s) :
  OpR X f (rI C fun i j=>.int (g i j)):=by
 intro pins s σ H x y v u Q I rx ry h
 obtain ⟨i,j,rfl,rfl,hc,q⟩:=h
 obtain ⟨t,rfl⟩:=rx
 obtain ⟨t',rfl⟩:=ry
 exact rule i j t t' s _ _ hc ⟨.int (g i j),H,I.tok _,⟨_,rfl⟩,q⟩
theorem opI0 {f:Value→Value→Sem Value}{g:Int→Int→Int}
  (rule:∀(i j:Int) (t u:Tok) (s:Shared) (Q:Value→Shared→Prop) (E:Value→Shared→Prop),Q (.int (g i j) s.toks) {s with toks:=s.toks+1}→wpAny (model X.prog X.w) X.A (f (.int i t) (.int j u)) Q E s) :
  OpR X f (rI0 fun i j=>.int (g i j)):=by
 intro pins s σ H x y v u Q I rx ry h
 obtain ⟨i,j,rfl,rfl,q⟩:=h
 obtain ⟨t,rfl⟩:=rx
 obtain ⟨t',rfl⟩:=ry
 exact rule i j t t' s _ _ ⟨.int (g i j),H,I.tok _,⟨_,rfl⟩,q⟩
theorem opB0 {f:Value→Value→Sem Value}{g:Int→Int→Bool}
  (rule:∀(i j:Int) (t u:Tok) (s:Shared) (Q:Value→Shared→Prop) (E:Value→Shared→Prop),Q (.bool (g i j)) s→wpAny (model X.prog X.w) X.A (f (.int i t) (.int j u)) Q E s) :
  OpR X f (rI0 fun i j=>.bl (g i j)):=by
 intro pins s σ H x y v u Q I rx ry h
 obtain ⟨i,j,rfl,rfl,q⟩:=h
 obtain ⟨t,rfl⟩:=rx
 obtain ⟨t',rfl⟩:=ry
 exact rule i j t t' s _ _ ⟨.bl (g i j),H,I,rfl,q⟩
def CPow (i j:Int):Prop:=0≤j∧j≤1000000∧i.natAbs<2 ^ 64
def Xje (i j:Int):Prop:=(-(2 ^ 64)<i∧i<2 ^ 64)∨(-(2 ^ 64)<j∧j<2 ^ 64)
theorem Xje.ok {i j:Int}(h:Xje i j):IntMulOk i j:=by
 rcases h with ⟨h1,h2⟩ | ⟨h1,h2⟩
 ·exact .of_left (intBits_le_64 h1 h2)
 ·exact .of_right (intBits_le_64 h1 h2)
theorem Xmu:OpR X (binaryOp .Add) (rI0 fun i j=>.int (i+j)):=opI0 fun _ _ _ _ _ _ _ q=>add_int q
theorem Zib:OpR X (binaryOp .Sub) (rI0 fun i j=>.int (i - j)):=opI0 fun _ _ _ _ _ _ _ q=>sub_int q
theorem Xkn:OpR X (binaryOp .Mult) (rI Xje fun i j=>.int (i*j)):=opI fun _ _ _ _ _ _ _ hc q=>mul_int q hc.ok
theorem Zbq:OpR X (binaryOp .Mod) (rI (fun _ j=>0<j) fun i j=>.int (i % j)):=opI fun i j _ _ _ _ _ hc q=>by
 have h1:(0:Int)<j:=hc
 exact mod_int' (by omega) (by rw [Int.fmod_eq_emod_of_nonneg i (by omega)];exact q)
theorem Zef:OpR X (binaryOp .Pow) (rI CPow fun i j=>.int (i ^ j.toNat)):=opI fun _ _ _ _ _ _ _ hc q=>pow_int_small hc.1 hc.2.1 hc.2.2 q
theorem unI {f:Value→Sem Value}{g:Int→Int}
  (rule:∀(i:Int) (t:Tok) (s:Shared) (Q:Value→Shared→Prop) (E:Value→Shared→Prop),Q (.int (g i) s.toks) {s with toks:=s.toks+1}→wpAny (model X.prog X.w) X.A (f (.int i t)) Q E s) :
  UnR X f (rU fun i=>.int (g i)):=by
 intro pins s σ H x v Q I rx h
 obtain ⟨i,rfl,q⟩:=h
 obtain ⟨t,rfl⟩:=rx
 exact rule i t s _ _ ⟨.int (g i),H,I.tok _,⟨_,rfl⟩,q⟩
theorem Xjv:UnR X (unaryOp .USub) (rU fun i=>.int (-i)):=unI fun _ _ _ _ _ q=>neg_int q
end
noncomputable def scal:V→V→Bool
 | .non,.non=>true | .non,.int _=>true | .int _,.non=>true | .non,.bl _=>true | .bl _,.non=>true | .non,.str _=>true | .str _,.non=>true
 | .int _,.int _=>true | .bl _,.bl _=>true | .str _,.str _=>true | .byt _,.byt _=>true
 | .int _,.str _=>true | .str _,.int _=>true | .bl _,.str _=>true | .str _,.bl _=>true
 | _,_=>false
noncomputable def rEq:R2:=fun x y H Q=>scal x y=true∧Q (.bl (decide (x=y))) H
noncomputable def rNe:R2:=fun x y H Q=>scal x y=true∧Q (.bl (!decide (x=y))) H
theorem Zxg {i j:Int}:decide (V.int i=V.int j)=(i==j):=by
 rw [Bool.eq_iff_iff]
 simp
theorem Xdb {i j:Bool}:decide (V.bl i=V.bl j)=(i==j):=by
 rw [Bool.eq_iff_iff]
 simp
theorem Zxy {i j:Str}:decide (V.str i=V.str j)=(i==j):=by
 rw [Bool.eq_iff_iff]
 simp
theorem Zxe {i j:Array UInt8}:decide (V.byt i=V.byt j)=(i.toList==j.toList):=by
 rw [Bool.eq_iff_iff]
 cases i
 cases j
 simp
section
variable {X:Cx}{a b c:Expr}{ta tb tc:TE}{pos:Pos}
theorem Yk {pins:List (Addr×Obj)}{σ:St}{H:Hp}{s:Shared}{Q:VK}{k k':Bool}(I:Inv X pins σ H s)(q:Q (.bl k) H)(e:k=k'):EP X pins σ Q (.bool k') s:=by
 subst e
 exact ⟨.bl k,H,I,rfl,q⟩
theorem op_eq:OpR X (compareOp .Eq) rEq:=by
 intro pins s σ H x y v u Q I rx ry h
 obtain ⟨hs,q⟩:=h
 cases x with
 | non =>
  cases rx
  cases y with
  | non=>cases ry;exact PySem.EqNone.eq_none_none (Yk I q (by simp))
  | bl j=>cases ry;exact PySem.EqNone.eq_none_bool (Yk I q (by simp))
  | int j=>obtain ⟨t',rfl⟩:=ry;exact PySem.EqNone.eq_none_int (Yk I q (by simp))
  | str j=>obtain ⟨t',rfl⟩:=ry;exact PySem.EqNone.eq_none_str (Yk I q (by simp))
  | _=>exact absurd (show false=true from hs) Bool.false_ne_true
 | bl i =>
  cases rx
  cases y with
  | non=>cases ry;exact PySem.EqNone.eq_bool_none (Yk I q (by simp))
  | bl j=>cases ry;exact eq_bool (Yk I q Xdb)
  | str j=>obtain ⟨t',rfl⟩:=ry;exact PySem.EqMixed.eq_bool_str (Yk I q (by simp))
  | _=>exact absurd (show false=true from hs) Bool.false_ne_true
 | int i =>
  obtain ⟨t,rfl⟩:=rx
  cases y with
  | non=>cases ry;exact PySem.EqNone.eq_int_none (Yk I q (by simp))
  | int j=>obtain ⟨t',rfl⟩:=ry;exact eq_int (Yk I q Zxg)
  | str j=>obtain ⟨t',rfl⟩:=ry;exact PySem.EqMixed.eq_int_str (Yk I q (by simp))
  | _=>exact absurd (show false=true from hs) Bool.false_ne_true
 | str i =>
  obtain ⟨t,rfl⟩:=rx
  cases y with
  | non=>cases ry;exact PySem.EqNone.eq_str_none (Yk I q (by simp))
  | bl j=>cases ry;exact PySem.EqMixed.eq_str_bool (Yk I q (by simp))
  | int j=>obtain ⟨t',rfl⟩:=ry;exact PySem.EqMixed.eq_str_int (Yk I q (by simp))
  | str j=>obtain ⟨t',rfl⟩:=ry;exact eq_str (Yk I q Zxy)
  | _=>exact absurd (show false=true from hs) Bool.false_ne_true
 | byt i =>
  obtain ⟨t,rfl⟩:=rx
  cases y with
  | byt j=>obtain ⟨t',rfl⟩:=ry;exact PySem.W.eq_bytes (Yk I q Zxe)
  | _=>exact absurd (show false=true from hs) Bool.false_ne_true
 | _=>cases y<;>exact absurd (show false=true from hs) Bool.false_ne_true
theorem op_ne:OpR X (compareOp .NotEq) rNe:=by
 intro pins s σ H x y v u Q I rx ry h
 obtain ⟨hs,q⟩:=h
 cases x with
 | non =>
  cases rx
  cases y with
  | non=>cases ry;exact PySem.EqNone.ne_none_none (Yk I q (by simp))
  | bl j=>cases ry;exact PySem.EqNone.ne_none_bool (Yk I q (by simp))
  | int j=>obtain ⟨t',rfl⟩:=ry;exact PySem.EqNone.ne_none_int (Yk I q (by simp))
  | str j=>obtain ⟨t',rfl⟩:=ry;exact PySem.EqNone.ne_none_str (Yk I q (by simp))
  | _=>exact absurd (show false=true from hs) Bool.false_ne_true
 | bl i =>
  cases rx
  cases y with
  | non=>cases ry;exact PySem.EqNone.ne_bool_none (Yk I q (by simp))
  | bl j=>cases ry;exact ne_bool (Yk I q (congrArg not Xdb))
  | str j=>obtain ⟨t',rfl⟩:=ry;exact PySem.EqMixed.ne_bool_str (Yk I q (by simp))
  | _=>exact absurd (show false=true from hs) Bool.false_ne_true
 | int i =>
  obtain ⟨t,rfl⟩:=rx
  cases y with
  | non=>cases ry;exact PySem.EqNone.ne_int_none (Yk I q (by simp))
  | int j=>obtain ⟨t',rfl⟩:=ry;exact ne_int (Yk I q (congrArg not Zxg))
  | str j=>obtain ⟨t',rfl⟩:=ry;exact PySem.EqMixed.ne_int_str (Yk I q (by simp))
  | _=>exact absurd (show false=true from hs) Bool.false_ne_true
 | str i =>
  obtain ⟨t,rfl⟩:=rx
  cases y with
  | non=>cases ry;exact PySem.EqNone.ne_str_none (Yk I q (by simp))
  | bl j=>cases ry;exact PySem.EqMixed.ne_str_bool (Yk I q (by simp))
  | int j=>obtain ⟨t',rfl⟩:=ry;exact PySem.EqMixed.ne_str_int (Yk I q (by simp))
  | str j=>obtain ⟨t',rfl⟩:=ry;exact ne_str (Yk I q (congrArg not Zxy))
  | _=>exact absurd (show false=true from hs) Bool.false_ne_true
 | byt i =>
  obtain ⟨t,rfl⟩:=rx
  cases y with
  | byt j=>obtain ⟨t',rfl⟩:=ry;exact PySem.W.ne_bytes (Yk I q (congrArg not Zxe))
  | _=>exact absurd (show false=true from hs) Bool.false_ne_true
 | _=>cases y<;>exact absurd (show false=true from hs) Bool.false_ne_true
theorem Zjh:OpR X (compareOp .Lt) (rI0 fun i j=>.bl (decide (i<j))):=opB0 fun _ _ _ _ _ _ _ q=>lt_int q
theorem Ztt:OpR X (compareOp .LtE) (rI0 fun i j=>.bl (decide (i≤j))):=opB0 fun _ _ _ _ _ _ _ q=>le_int q
theorem Zha:OpR X (compareOp .Gt) (rI0 fun i j=>.bl (decide (j<i))):=opB0 fun _ _ _ _ _ _ _ q=>gt_int q
theorem Xef:OpR X (compareOp .GtE) (rI0 fun i j=>.bl (decide (j≤i))):=opB0 fun _ _ _ _ _ _ _ q=>ge_int q
theorem OpR.or {f:Value→Value→Sem Value}{r r':R2}(h:OpR X f r)(h':OpR X f r'):OpR X f (fun x y H Q=>r x y H Q∨r' x y H Q):=by
 intro pins s σ H x y v u Q I rx ry q
 rcases q with q | q
 ·exact h pins s σ H x y v u Q I rx ry q
 ·exact h' pins s σ H x y v u Q I rx ry q
theorem Xp (b:Expr){op:CmpOp}(h:op≠.In:=by decide)(h2:op≠.NotIn:=by decide):behindInMarks op b=false:=by
 have e1:(op==CmpOp.In)=false:=by cases op<;>first | rfl | exact absurd rfl h
 have e2:(op==CmpOp.NotIn)=false:=by cases op<;>first | rfl | exact absurd rfl h2
 cases b<;>simp [behindInMarks,e1,e2]
theorem Xeo {op:CmpOp}{r:R2}(ho:OpR X (compareOp op) r)(ha:PE X a ta)(hb:PE X b tb)(hm:behindInMarks op b=false):PE X (.Compare a [op] [b] pos) (tOp r ta tb):=by
 intro pins s σ H Q I h
 exact wpAny_Compare1 (binT ha hb I h fun v u s2 x y H2 I2 rx ry q=>ho pins s2 σ H2 x y v u Q I2 rx ry q) hm
def Zzl (t:TE):TT:=fun σ H Q=>t σ H fun x H'=>∃k,x=.bl k∧Q k H'
theorem Xib {op:CmpOp}{r:R2}(ho:OpR X (compareOp op) r)(ha:PE X a ta)(hb:PE X b tb)(hm:behindInMarks op b=false):PT X (.Compare a [op] [b] pos) (Zzl (tOp r ta tb)):=by
  intro pins s σ H Q I h
  refine wpAny_isTrue_Compare1 (thn (ha pins s σ H _ I h) fun v s1 ⟨x,H1,I1,r1,q1⟩=>thn (hb pins s1 σ H1 _ I1 q1) fun u s2 ⟨y,H2,I2,r2,q2⟩ =>
    thn (ho pins s2 σ H2 x y v u _ I2 r1 r2 q2) fun c s3 ⟨z,H3,I3,r3,k,e,q3⟩=>?_) hm
  subst e
  cases r3
  exact wpAny_truthy_bool ⟨H3,I3,q3⟩
def Zqp (r r':R2)(ta tb tc:TE):TE:=fun σ H Q=>ta σ H fun x H1=>tb σ H1 fun y H2=>r x y H2 fun z H3=>∃k,z=.bl k∧
 (if k=true then tc σ H3 fun w' H4=>r' y w' H4 Q else Q (.bl false) H3)
theorem Xbq {op op':CmpOp}{r r':R2}(ho:OpR X (compareOp op) r)(ho':OpR X (compareOp op') r')(ha:PE X a ta)(hb:PE X b tb)(hc:PE X c tc)
    (hm:lastMarks [op,op'] [b,c]=false:=by with_unfolding_all rfl):PE X (.Compare a [op,op'] [b,c] pos) (Zqp r r' ta tb tc):=by
  intro pins s σ H Q I h
  refine Compare_chain (thn (ha pins s σ H _ I h) fun v s1 ⟨x,H1,I1,r1,q1⟩=>chain_link (thn (hb pins s1 σ H1 _ I1 q1) fun u s2 ⟨y,H2,I2,r2,q2⟩ =>
    thn (ho pins s2 σ H2 x y v u _ I2 r1 r2 q2) fun d s3 ⟨z,H3,I3,r3,k,e,q3⟩=>?_)) hm
  subst e
  cases r3
  refine wpAny_truthy_bool ?_
  cases k with
  | false=>exact ite_ff ⟨.bl false,H3,I3,rfl,q3⟩
  | true=>exact ite_tt (chain_last (thn (hc pins s3 σ H3 _ I3 q3) fun w' s4 ⟨z',H4,I4,r4,q4⟩=>ho' pins s4 σ H4 y z' u w' Q I4 r2 r4 q4))
theorem Znp:(sizeLine:Nat)<2 ^ 63:=by rw [sizeLine_eq];decide
theorem Zto:OpR X (binaryOp .Add) (fun x y H Q=>∃i j,x=.str i∧y=.str j∧i.length+j.length≤sizeLine∧Q (.str (i++j)) H):=by
 intro pins s σ H x y v u Q I rx ry h
 obtain ⟨i,j,rfl,rfl,hz,q⟩:=h
 obtain ⟨t,rfl⟩:=rx
 obtain ⟨t',rfl⟩:=ry
 exact add_str (fun t' tk=>⟨.str (i++j),H,I.tok _,⟨_,rfl⟩,q⟩) hz
theorem vals1 {x:V}{us:List Value}(r:Jn [x] us):∃u,us=[u]∧RelV x u:=by
 cases r with
 | cons r1 r2=>cases r2;exact ⟨_,rfl,r1⟩
theorem vals2 {x y:V}{us:List Value}(r:Jn [x,y] us):∃u w',us=[u,w']∧RelV x u∧RelV y w':=by
 cases r with
 | cons r1 r2 =>
  cases r2 with
  | cons r3 r4=>cases r4;exact ⟨_,_,rfl,r1,r3⟩
theorem Zvf (hc:X.calm=true):Zav X (.builtin "max") (fun xs H Q=>∃i j,xs=[.int i,.int j]∧Q (.int (if j > i then j else i)) H):=by
 intro pins s σ H xs us Q I r h
 obtain ⟨i,j,rfl,q⟩:=h
 obtain ⟨u,w',rfl,⟨t,rfl⟩,⟨t',rfl⟩⟩:=vals2 r
 refine max_two_ints (I.ok.hd hc) fun h' tk k=>⟨_,H,I.kept k,?_,q⟩
 by_cases hj:j > i
 ·rw [if_pos hj,if_pos hj];exact ⟨_,rfl⟩
 ·rw [if_neg hj,if_neg hj];exact ⟨_,rfl⟩
theorem Zxv (hc:X.calm=true):Zav X (.builtin "min") (fun xs H Q=>∃i j,xs=[.int i,.int j]∧Q (.int (if j<i then j else i)) H):=by
 intro pins s σ H xs us Q I r h
 obtain ⟨i,j,rfl,q⟩:=h
 obtain ⟨u,w',rfl,⟨t,rfl⟩,⟨t',rfl⟩⟩:=vals2 r
 refine min_two_ints (I.ok.hd hc) fun h' tk k=>⟨_,H,I.kept k,?_,q⟩
 by_cases hj:j<i
 ·rw [if_pos hj,if_pos hj];exact ⟨_,rfl⟩
 ·rw [if_neg hj,if_neg hj];exact ⟨_,rfl⟩
end
structure ObjM (h:Heap)(x dx C:Addr)(mA:Str→Option Value):Prop where
 obj:h.get? x=some (instObj C dx)
 ns:h.Ns1 dx mA
 ne:dx≠x
theorem Zwf {h:Heap}{dx:Addr}{mA:Str→Option Value}(n:h.Ns1 dx mA):∃od,h.get? dx=some od∧∀name,lookIn name od=some (mA name):=by
 obtain ⟨o,es,ep,ho,hd,hk,_,hm⟩:=n
 refine ⟨o,ho,fun name=>?_⟩
 have e:=hm name
 unfold nsFind findBy at e
 rw [← Array.find?_toList] at e
 unfold lookIn
 rw [hd]
 dsimp only
 split
 ·rename_i y q
  rw [q] at e
  exact congrArg some e
 ·rename_i q
  rw [q] at e
  have a:es.toList.any (·.refKey)=false:=by
   rw [List.any_eq_false]
   intro y hy
   obtain ⟨z,t,hkey⟩:=hk y (Array.mem_toList_iff.mp hy)
   simp [DictEntry.refKey,hkey]
  have a':¬es.toList.any (·.refKey)=true:=by rw [a];exact Bool.false_ne_true
  rw [if_neg a']
  exact congrArg some e
theorem ObjM.look {h:Heap}{x dx C:Addr}{mA:Str→Option Value}(I:ObjM h x dx C mA):∃od,PySem.W.InstAt h x (instObj C dx) C (some od)∧∀name,lookIn name od=some (mA name):=
 let ⟨od,ho,hl⟩:=Zwf I.ns
 ⟨od,⟨I.obj,rfl,rfl,ho⟩,hl⟩
section
variable {prog:Program}{w:World}{A:Around}{E:Value→Shared→Prop}{s:Shared}{K:Frag}{x dx C f:Addr}{mA:Str→Option Value}{name:Str}{v:Value}
end
noncomputable def putF (f:Str)(v:V):List (Str×V)→List (Str×V)
 | []=>[(f,v)]
 | (g,x)::r=>if g=f then (g,v)::r else (g,x)::putF f v r
section
variable {P:Program}{w:World}{H H':Hp}{h h':Heap}{a C dx:Addr}{fs fs':List (Str×V)}
theorem Xff (hok:HOk P w H h)(e:H a=some (.ins C dx fs)):∃mA,ObjM h a dx C mA∧(∀f,RelO (fs.lookup f) (mA f))∧PySem.Within mA (fs.map (·.1))∧fs.length≤1000∧H dx=some (.own a):=by
 obtain ⟨d,z,ne,ob,mA,n,r,q⟩:=(show Zay P w H h a (.ins C dx fs) from hok a _ e)
 exact ⟨mA,⟨ob,n,ne⟩,r,q,z,d⟩
end
structure Cls (K:Frag)(C:Addr):Prop where
 pg:PySem.W.plainGet K C Str.empty=true
 hd:PySem.W.hasDictIn K C=true
 po:PySem.W.plainOver K C=true
 sa:findIn K (.ref C) "__setattr__"=some (some (.builtin "object.__setattr__"))
theorem Cls.get {K:Frag}{C:Addr}(c:Cls K C)(f:Str):PySem.W.plainGet K C f=true:=c.pg
def Xoe (K:Frag)(C:Addr)(f:Str):Prop:=findIn K (.ref C) f=some none
structure Con (K:Frag)(C:Addr)(f:Str)(v:V)(u:Value):Prop where
 at_:findIn K (.ref C) f=some (some u)
 rel:RelV v u
 get:specialIn K u "__get__"=some none
 cp:PySem.W.copiedNames.contains f=false
structure Meth (K:Frag)(C:Addr)(m:Str)(f:Addr):Prop where
 at_:findIn K (.ref C) m=some (some (.ref f))
 fn:isFn K (.ref f)=true
 kp:keepIn K (.ref f)=true
section
variable {X:Cx}{pins:List (Addr×Obj)}{σ:St}{H:Hp}{s:Shared}{a C dx:Addr}{fs:List (Str×V)}{f:Str}{v:V}{A:Around}{E:Value→Shared→Prop}
end
def sFld (K:Frag)(ta tv:TE)(f:Str):TS:=fun D σ H=>tv σ H fun y H1=>ta σ H1 fun x H2=>∃a C dx fs,x=.ref a∧H2 a=some (.ins C dx fs)∧Cls K C∧Xoe K C f∧fs.length<1000∧
 D.nx σ (upd H2 a (.ins C dx (putF f y fs)))
section
variable {X:Cx}{o e value:Expr}{f:Str}{pos pos' tpos:Pos}{ta tv:TE}
end
section
variable {X:Cx}{pins:List (Addr×Obj)}{σ:St}{H:Hp}{s:Shared}{A:Around}{E:Value→Shared→Prop}{Q:Value→Shared→Prop}{c:Value}{b:Bool}
inductive TyOf (K:Frag)(H:Hp):V→Value→Prop where
 | non:TyOf K H .non (.type "NoneType")
 | bl (x:Bool):TyOf K H (.bl x) (.type "bool")
 | int (i:Int):TyOf K H (.int i) (.type "int")
 | str (x:Str):TyOf K H (.str x) (.type "str")
 | flt (x:UInt64):TyOf K H (.flt x) (.type "float")
 | lst {a:Addr} {xs:List V} (e:H a=some (.lst xs)):TyOf K H (.ref a) (.type "list")
 | frz {a:Addr} {o:Obj} {xs:List V} (e:H a=some (.frz o (.lst xs))):TyOf K H (.ref a) (.type "list")
 | tup {a:Addr} {xs:List V} (e:H a=some (.tup xs)):TyOf K H (.ref a) (.type "tuple")
 | dK {a:Addr} {kvs:List (Key×V)} (e:H a=some (.dK kvs)):TyOf K H (.ref a) (.type "dict")
 | dT {a:Addr} {kvs:List (List Key×V)} (e:H a=some (.dT kvs)):TyOf K H (.ref a) (.type "dict")
 | ins {a C dx:Addr} {fs:List (Str×V)} (e:H a=some (.ins C dx fs)) (cl:Cls K C) (ha:findIn K (.ref C) "__class__"=some (some (.builtin "object.__class__")))
   (hn:specialIn K (.builtin "object.__class__") "__get__"=some (some (.builtin "getset_descriptor.__get__"))) (htk:PySem.W.takesIn K (.builtin "object.__class__")=some true)
   (hm:PySem.W.mroIn K C (.type "object")=some true):TyOf K H (.ref a) (.ref C)
theorem Zvi {x:V}{u t:Value}(I:Inv X pins σ H s)(rx:RelV x u)(ty:TyOf X.K H x t)(e:kitOne X.K t c=some b)(h:∀tk,Q (.bool b) {s with toks:=tk}) :
  wpAny (model X.prog X.w) A (call (.builtin "isinstance") [u,c]) Q E s:=by
 cases ty with
 | non=>cases (show u=Value.none from rx);exact kia_one PySem.W.kitx_none I.kIn True.intro e (fun z=>nomatch z) h
 | bl y=>cases (show u=Value.bool y from rx);exact kia_one PySem.W.kitx_bool I.kIn True.intro e (fun z=>nomatch z) h
 | int i=>obtain ⟨t,q⟩:=(show ∃t,u=Value.int i t from rx);cases q;exact kia_one PySem.W.kitx_int I.kIn True.intro e (fun z=>nomatch z) h
 | str y=>obtain ⟨t,q⟩:=(show ∃t,u=Value.str y t from rx);cases q;exact kia_one PySem.W.kitx_str I.kIn True.intro e (fun z=>nomatch z) h
 | flt y=>obtain ⟨t,q⟩:=(show ∃t,u=Value.float y t from rx);cases q;exact kia_one PySem.W.kitx_float I.kIn True.intro e (fun z=>nomatch z) h
 | @lst a xs ea =>
  cases (show u=Value.ref a from rx)
  obtain ⟨_,_,n,_,h1⟩:=(show Zay X.prog X.w H s.heap a (.lst xs) from I.hok a _ ea)
  exact kia_one PySem.W.kitx_list I.kIn ⟨_,h1,rfl⟩ e (fun z=>nomatch z) h
 | @frz a ob xs ea =>
  cases (show u=Value.ref a from rx)
  obtain ⟨_,_,_,n,_,h1⟩:=(show Zay X.prog X.w H s.heap a (.frz ob (.lst xs)) from I.hok a _ ea)
  exact kia_one PySem.W.kitx_list I.kIn ⟨_,h1,rfl⟩ e (fun z=>nomatch z) h
 | @tup a xs ea =>
  cases (show u=Value.ref a from rx)
  obtain ⟨_,_,_,p⟩:=(show Zay X.prog X.w H s.heap a (.tup xs) from I.hok a _ ea)
  obtain ⟨o,h1,h2,_⟩:=p
  exact kia_one PySem.W.kitx_tuple I.kIn ⟨o,h1,h2⟩ e (fun z=>nomatch z) h
 | @dK a kvs ea =>
  cases (show u=Value.ref a from rx)
  obtain ⟨_,_,vs,_,p⟩:=(show Zay X.prog X.w H s.heap a (.dK kvs) from I.hok a _ ea)
  obtain ⟨o,es,ep,h1,h2,_⟩:=p
  exact kia_one PySem.W.kitx_dict I.kIn ⟨o,h1,h2.1⟩ e (fun z=>nomatch z) h
 | @dT a kvs ea =>
  cases (show u=Value.ref a from rx)
  obtain ⟨_,_,xs,_,o,es,ep,h1,h2,_⟩:=(show Zay X.prog X.w H s.heap a (.dT kvs) from I.hok a _ ea)
  exact kia_one PySem.W.kitx_dict I.kIn ⟨o,h1,h2.1⟩ e (fun z=>nomatch z) h
 | @ins a C dx fs ea cl ha hn htk hm =>
  cases (show u=Value.ref a from rx)
  obtain ⟨mA,O,_⟩:=Xff I.hok ea
  obtain ⟨od,J,_⟩:=O.look
  exact kia_one (PySem.W.kitx_own (cl.get _) cl.hd ha hn htk hm) I.kIn J e (fun z=>nomatch z) h
end
structure Zec (k:Nat)(A:Around):Prop where
 hd:A.handled=none
 dp:A.depth+3*k+5<recursionLimit
 un:A.units+16*k+200<cLine
 gd:A.guards=some []
theorem Zec.mono {j k:Nat}{A:Around}(r:Zec k A)(h:j≤k):Zec j A:=⟨r.hd,by have:=r.dp;omega,by have:=r.un;omega,r.gd⟩
theorem Zec.deeper {k:Nat}{A:Around}(r:Zec (k+1) A)(env:Env):Zec k (A.deeper env):=
 ⟨r.hd,by have:=r.dp;show A.depth+1+3*k+5<_;omega,by have:=r.un;show A.units+3+16*k+200<_;omega,r.gd⟩
theorem Zec.in1 {k:Nat}{A:Around}(r:Zec (k+1) A):Zec k A.in1:=
 ⟨r.hd,by have:=r.dp;show A.depth+3*k+5<_;omega,by have:=r.un;show A.units+1+16*k+200<_;omega,r.gd⟩
theorem Zec.depth {k:Nat}{A:Around}(r:Zec k A):A.depth<recursionLimit:=by have:=r.dp;omega
theorem Zec.units {k:Nat}{A:Around}(r:Zec k A):A.units+64<cLine:=by have:=r.un;omega
def Zmh:TA:=fun _ H Q=>Q [] H
def Zbj (ta:TE)(tr:TA):TA:=fun σ H Q=>ta σ H fun x H1=>tr σ H1 fun xs H2=>Q (x::xs) H2
section
variable {X:Cx}{e:Expr}{es:List Expr}{te:TE}{t:TA}{pos:Pos}
theorem Znl:PA X [] Zmh:=fun _ _ _ _ H Q I h=>Calls.spliced_nil ⟨[],H,I,.nil,h⟩
theorem Zgh (ha:PE X e te)(hr:PA X es t)(hs:starEach (e::es) X.env=(false,eval e X.env)::starEach es X.env:=by rfl):PA X (e::es) (Zbj te t):=by
 intro pos pins s σ H Q I h
 rw [hs]
 show wpAny _ _ (spliced ((false,eval e X.env)::backTo pos (starEach es X.env))) _ _ s
 refine Calls.spliced_cons (thn (ha pins s σ H _ I h) fun u s1 hz9=>?_)
 obtain ⟨x,H1,I1,r1,q1⟩:=hz9
 exact thn (hr pos pins s1 σ H1 _ I1 q1) fun us s2 ⟨xs,H2,I2,r2,q2⟩=>⟨x::xs,H2,I2,.cons r1 r2,q2⟩
def tTup (t:TA):TE:=fun σ H Q=>t σ H fun xs H1=>xs.length≤sizeLine∧∀p,H1 p=none→Q (.ref p) (upd H1 p (.tup xs))
def Xjj (t:TA):TE:=fun σ H Q=>t σ H fun xs H1=>xs.length≤sizeLine∧∀p,H1 p=none→Q (.ref p) (upd H1 p (.lst xs))
theorem Xmk {x1}(h:PA X es t):PE X (.Tuple es x1 pos) (tTup t):=by
 intro pins s σ H Q I hq
 refine wpAny_Tuple_spliced (thn (h pos pins s σ H _ I hq) fun us s1 ⟨xs,H1,I1,r,z,q⟩=>⟨by rw [← r.length];exact z,?_⟩)
 have hf:H1 s1.heap.objs.size=none:=I1.hok.fresh (le_refl _)
 refine ⟨.ref s1.heap.objs.size,upd H1 s1.heap.objs.size (.tup xs),I1.laid (t':=s1.toks) (fun b u e=>get?_push_of_some _ e) (le_refl _) ?_,rfl,q _ hf⟩
 exact ⟨z,us,r,⟨_,get?_push_size _ rfl,rfl,_,rfl⟩⟩
theorem Xnb (h:PA X es t):PE X (.List es pos) (Xjj t):=by
 intro pins s σ H Q I hq
 refine wpAny_List_spliced (thn (h pos pins s σ H _ I hq) fun us s1 ⟨xs,H1,I1,r,z,q⟩=>⟨by rw [← r.length];exact z,?_⟩)
 have hf:H1 s1.heap.objs.size=none:=I1.hok.fresh (le_refl _)
 refine ⟨.ref s1.heap.objs.size,upd H1 s1.heap.objs.size (.lst xs),I1.laid (t':=s1.toks) (fun b u e=>get?_push_of_some _ e) (le_refl _) ?_,rfl,q _ hf⟩
 exact ⟨z,us,0,r,get?_push_size _ rfl⟩
end
noncomputable abbrev Sp:=List V→Hp→VK→XK→Prop
noncomputable abbrev CXT:=List Env→Hp→Shared→XK→Value→Shared→Prop
structure Xjl (P:Program)(w:World)(K:Frag)(mg:Str→Option Value)(base:Heap)(A:Around)(outer:List Env)(s:Shared)(H:Hp):Prop where
 frames:A.frames=some outer
 mod:Mod K mg base
 bs:∀b o,base.get? b=some o→s.heap.get? b=some o∧H b=none
 bsz:base.objs.size≤s.heap.objs.size
 funs:s.heap.FunFrames base outer
 frf:∀b∈frs outer,H b=none
 hok:HOk P w H s.heap
 bare:AllBare s.gens
def CE (outer:List Env)(P:Program)(w:World)(H:Hp)(s:Shared)(Q:VK)(u:Value)(s':Shared):Prop:=
 ∃v H',s'.os=s.os∧AllBare s'.gens∧Un (frs outer) [] H H' s.heap s'.heap∧HOk P w H' s'.heap∧RelV v u∧Q v H'
def CR (CX:CXT)(outer:List Env)(P:Program)(w:World)(H:Hp)(s:Shared)(Q:VK)(E:XK)(r:Result)(s':Shared):Prop:=
 match r with
 | .ok (.ret u)=>CE outer P w H s Q u s'
 | .ok _=>False
 | .error e=>CX outer H s E e s'
structure Zam (P:Program)(w:World)(K:Frag)(mg:Str→Option Value)(base:Heap)(CX:CXT)(k:Nat)(f:Addr)(fd:FuncData)(ps:List Str)(sp:Sp):Prop where
 len:∀vs H Q E,sp vs H Q E→vs.length=ps.length
 run:∀(A:Around) (outer:List Env) (s:Shared) (H:Hp) (args:Args) (us:List Value) (vs:List V) (Q:VK) (E:XK),Zec k A→Xjl P w K mg base A outer s H→BindsTo s fd args (ps.zip us)→Jn vs us→sp vs H Q E→
  codeAny (model P w) A (.call (.ref f) args) (CR CX outer P w H s Q E) s
theorem Zam.imp {P:Program}{w:World}{K:Frag}{mg:Str→Option Value}{base:Heap}{CX:CXT}{k:Nat}{f:Addr}{fd:FuncData}{ps:List Str}{sp sp':Sp}(F:Zam P w K mg base CX k f fd ps sp)
  (h:∀vs H Q E,sp' vs H Q E→sp vs H Q E):Zam P w K mg base CX k f fd ps sp':=
 ⟨fun vs H Q E q=>F.len vs H Q E (h _ _ _ _ q),fun A outer s H args us vs Q E hr he hb hv hs=>F.run A outer s H args us vs Q E hr he hb hv (h _ _ _ _ hs)⟩
section
variable {X:Cx}{pins:List (Addr×Obj)}{σ:St}{H:Hp}{s s':Shared}
theorem Inv.env0 (I:Inv X pins σ H s):Xjl X.prog X.w X.K X.mg X.base X.A X.stack s H:=
 ⟨I.ok.frames,I.ok.mod,I.bs,le_trans I.ok.bsz I.sz,I.stack,I.stkFree,I.hok,I.bare⟩
theorem Inv.after {Q:VK}{u:Value}(I:Inv X pins σ H s)(h:CE X.stack X.prog X.w H s Q u s'):EP X pins σ Q u s':=by
 obtain ⟨v,H',os,bare,un,hok,r,q⟩:=h
 obtain ⟨hh,g,d,t,os'⟩:=s'
 obtain rfl:os'=s.os:=os
 exact ⟨v,H',I.call (h':=hh) (g':=g) (d':=d) (t':=t) (ch:=[]) un hok bare (fun b z=>absurd z (by simp)),r,q⟩
end
def Zpn (sp:Sp)(dvs:List V)(E:XK)(t:TA):TE:=fun σ H Q=>t σ H fun vs H1=>sp (vs++dvs) H1 Q E
def Binds (K:Frag)(fd:FuncData)(ps:List Str)(ds:List Value):Prop:=
 ∀(s:Shared) (us:List Value),K.In s.heap→(us++ds).length=ps.length→BindsTo s fd ⟨us,[]⟩ (ps.zip (us++ds))
theorem Binds.all {K:Frag}{fd:FuncData}{ps:List Str}(h:∀us:List Value,us.length=ps.length→bindArgs fd ⟨us,[]⟩=pure (ps.zip us)):Binds K fd ps []:=fun s us _ hl=>by
 rw [append_nil] at hl ⊢
 exact .of_eq (h us hl)
def Zho (CX:CXT)(X:Cx)(E:XK):Prop:=∀(pins:List (Addr×Obj)) (σ:St) (H:Hp) (s:Shared) (e:Value) (s':Shared),Inv X pins σ H s→CX X.stack H s E e s'→X.xe e s'
section
variable {X:Cx}{CX:CXT}{k:Nat}{f C:Addr}{fd:FuncData}{ps:List Str}{sp:Sp}{dvs:List V}{ds:List Value}{E:XK}{x m:Str}{p pos apos:Pos}{e o:Expr}{es:List Expr}{ta:TE}{t:TA}
theorem Xon {pins:List (Addr×Obj)}{σ:St}{H:Hp}{s:Shared}{Q:VK}{us:List Value}{vs:List V}(F:Zam X.prog X.w X.K X.mg X.base CX k f fd ps sp)(hr:Zec k X.A)(hb:Binds X.K fd ps ds)(hd:Jn dvs ds)(hx:Zho CX X E)
  (I:Inv X pins σ H s) (r:Jn vs us) (h:sp (vs++dvs) H Q E):wpAny (model X.prog X.w) X.A (call (.ref f) us) (EP X pins σ Q) X.xe s:=by
 have r2:Jn (vs++dvs) (us++ds):=r.append hd
 have hl:(us++ds).length=ps.length:=by rw [← r2.length];exact F.len _ _ _ _ h
 refine wpAny_call (codeAny_mono (F.run X.A X.stack s H ⟨us,[]⟩ (us++ds) (vs++dvs) Q E hr I.env0 (hb s us I.kIn hl) r2 h) fun r s' hq=>?_)
 cases r with
 | error e=>exact hx pins σ H s e s' I hq
 | ok fl =>
  cases fl with
  | ret u=>exact I.after hq
  | next=>exact False.elim hq
  | brk=>exact False.elim hq
  | cont=>exact False.elim hq
theorem Xjc (F:Zam X.prog X.w X.K X.mg X.base CX k f fd ps sp)(hr:Zec k X.A)(hg:Gl X x)(hm:X.mg x=some (.ref f))(hk:keepIn X.K (.ref f)=true)(hb:Binds X.K fd ps ds)(hd:Jn dvs ds)(hx:Zho CX X E)
  (ha:PA X (e::es) t) (hdb:(x==("__debug__":Str))=false:=by decide) (he:starEach (e::es) X.env=(false,eval e X.env)::starEach es X.env:=by rfl) (hpl:(backTo pos (starEach es X.env)).any (·.1)=false:=by rfl) :
  PE X (.Call (.Name x p) (e::es) [] pos) (Zpn sp dvs E t):=by
 intro pins s σ H Q I h
 refine wpAny_Call_Name_kw (Xfi I hg hm ?_ hdb)
 refine PySem.W.callWith_K (h₀:=X.base) I.ok.mod.kin hk (thn (ha pos pins s σ H _ I h) fun us s1 ⟨vs,H1,I1,r,q⟩=>⟨I1.kIn,?_⟩) he hpl
 exact Xon F hr hb hd hx I1 r q
structure Mk (K:Frag)(C f:Addr):Prop where
 makes:PySem.W.makesIn K C=true
 init:findIn K (.ref C) "__init__"=some (some (.ref f))
 fn:isFn K (.ref f)=true
 kp:keepIn K (.ref C)=true
end
section
variable {X:Cx}{CX:CXT}{k:Nat}{f C:Addr}{fd:FuncData}{ps ks:List Str}{sp:Sp}{E:XK}{x m:Str}{p pos apos kpos:Pos}{e o:Expr}{es:List Expr}{kws:List Keyword}{te ta:TE}{t tk:TA}{nm:Option Str}
structure KBinds (K:Frag)(fd:FuncData)(ps ks:List Str)(g:List Value→List Value→List Value)(gV:List V→List V→List V):Prop where
 to:∀(s:Shared) (us ws:List Value),K.In s.heap→(g us ws).length=ps.length→BindsTo s fd ⟨us,ks.zip ws⟩ (ps.zip (g us ws))
 rel:∀{vs:List V} {us:List Value} {zs:List V} {ws:List Value},Jn vs us→Jn zs ws→Jn (gV vs zs) (g us ws)
variable {g:List Value→List Value→List Value}{gV:List V→List V→List V}
end
structure Xd (N P:List Str)(sc:Scope):Prop where
 kind:sc.kind=.function
 co:sc.isCoroutine=false
 gen:sc.isGenerator=false
 nd:N.Nodup
 pre:N.take P.length=P
 par:∀x∈P,sc.names.lookup x=some .local∨sc.names.lookup x=some .cell
 nofree:∀y∈sc.names,y.2≠.free
theorem Zni {kindOf:Str→Option NameKind}{x:Str}:∀{binds:List (Str×Value)} {m:Str→Option Value},(∀v,(x,v)∉binds)→bindL kindOf binds m x=m x
 | [],_,_=>rfl
 | (n,v)::r,m,h=>by
  unfold bindL
  rw [Zni fun w hw=>h w (mem_cons_of_mem _ hw)]
  split
  ·have:x≠n:=by rintro rfl;exact h v mem_cons_self
   simp [this]
  ·rfl
theorem Zml {kindOf:Str→Option NameKind}{x:Str}:∀{binds:List (Str×Value)} {m:Str→Option Value},(∀v,(x,v)∉binds)→bindC kindOf binds m x=m x
 | [],_,_=>rfl
 | (n,v)::r,m,h=>by
  unfold bindC
  rw [Zml fun w hw=>h w (mem_cons_of_mem _ hw)]
  split
  ·rfl
  ·have:x≠n:=by rintro rfl;exact h v mem_cons_self
   simp [this]
theorem Znq {kindOf:Str→Option NameKind}{x:Str}{v:Value}:∀{P:List Str} {vs:List Value} {i:Nat} {m:Str→Option Value},P.Nodup→P[i]?=some x→vs[i]?=some v→kindOf x=some .local→
  bindL kindOf (P.zip vs) m x=some v
 | [],_,_,_,_,h,_,_=>by simp at h
 | _::_,[],_,_,_,_,h,_=>by simp at h
 | p::P,w::vs,0,m,nd,h1,h2,hk=>by
  simp at h1 h2;subst h1;subst h2
  show bindL kindOf ((p,w)::P.zip vs) m p=_
  unfold bindL
  rw [Zni fun v hv=>(List.nodup_cons.mp nd).1 (of_mem_zip hv).1,if_pos hk]
  simp
 | p::P,w::vs,i+1,m,nd,h1,h2,hk=>by
  show bindL kindOf ((p,w)::P.zip vs) m x=_
  unfold bindL
  exact Znq (i:=i) (List.nodup_cons.mp nd).2 (by simpa using h1) (by simpa using h2) hk
theorem Znw {kindOf:Str→Option NameKind}{x:Str}{v:Value}:∀{P:List Str} {vs:List Value} {i:Nat} {m:Str→Option Value},P.Nodup→P[i]?=some x→vs[i]?=some v→kindOf x≠some .local→
  bindC kindOf (P.zip vs) m x=some v
 | [],_,_,_,_,h,_,_=>by simp at h
 | _::_,[],_,_,_,_,h,_=>by simp at h
 | p::P,w::vs,0,m,nd,h1,h2,hk=>by
  simp at h1 h2;subst h1;subst h2
  show bindC kindOf ((p,w)::P.zip vs) m p=_
  unfold bindC
  rw [Zml fun v hv=>(List.nodup_cons.mp nd).1 (of_mem_zip hv).1,if_neg hk]
  simp
 | p::P,w::vs,i+1,m,nd,h1,h2,hk=>by
  show bindC kindOf ((p,w)::P.zip vs) m x=_
  unfold bindC
  exact Znw (i:=i) (List.nodup_cons.mp nd).2 (by simpa using h1) (by simpa using h2) hk
noncomputable def start (N:List Str)(vs:List V):St:=vs.map some++List.replicate (N.length - vs.length) none
noncomputable def Zxz (CX:CXT)(P:Program)(w:World)(K:Frag)(mg:Str→Option Value)(base:Heap)(N:List Str)(qual:Str)(scope:Scope)(f:Addr)(cd:Value)(A:Around)(outer:List Env)(s:Shared)(H:Hp)(E:XK):Cx where
 prog:=P
 w:=w
 K:=K
 mg:=mg
 base:=base
 A:=A.deeper (envOfC qual scope s.heap.objs.size f cd)
 N:=N
 s₀:=s
 H₀:=H
 env:=envOfC qual scope s.heap.objs.size f cd
 outer:=outer
 stack:=envOfC qual scope s.heap.objs.size f cd::outer
 ex:=[]
 calm:=true
 fn:=fun _=>true
 pn:=[]
 xe:=fun e s'=>wpAny (model P w) (A.deeper (envOfC qual scope s.heap.objs.size f cd)) (leaving (envOfC qual scope s.heap.objs.size f cd) e) (fun _ s''=>CX outer H s E e s'') (fun e' s''=>CX outer H s E e' s'') s'
theorem Zrx {sc:Scope}{n:Nat}{x:Str}(h:sc.names.lookup x=some .cell):∃c,(cellsFrom n sc.names []).lookup x=some c:=by
 have q:=PySem.W.cellsFrom_some sc.names n [] (.inl h)
 exact Option.isSome_iff_exists.mp q
theorem Zwv {CX:CXT}{P:Program}{w:World}{K:Frag}{mg:Str→Option Value}{base:Heap}{N ps:List Str}{qual:Str}{scope:Scope}{f:Addr}{cd:Value}{A:Around}{outer:List Env}{s s1:Shared}{H:Hp}{E:XK}{us:List Value}{vs:List V}
    (S:Xd N ps scope) (hd:A.handled=none) (e0:Xjl P w K mg base A outer s H) (hl:vs.length=ps.length) (r:Jn vs us)
    (x:InCallC s s.heap.objs.size (bindL (envOfC qual scope s.heap.objs.size f cd).kindOf (ps.zip us) fun _=>none) (cellsFrom (s.heap.objs.size+1) scope.names []) (bindC (envOfC qual scope s.heap.objs.size f cd).kindOf (ps.zip us) fun _=>none) s1) :
    Inv (Zxz CX P w K mg base N qual scope f cd A outer s H E) [] (start N vs) H s1:=by
  have hpl:ps.length≤N.length:=by have:=congrArg List.length S.pre;rw [length_take] at this;omega
  obtain ⟨h1,tk,rfl,hk⟩:=x.done
  have noA:∀b:Addr,b∉(Zxz CX P w K mg base N qual scope f cd A outer s H E).ex:=fun b z=>absurd (show b∈([]:List Addr) from z) (by simp)
  refine ⟨⟨e0.mod,S.kind,rfl,rfl,le_refl _,fun y z c h1 h2=>?_,fun y hy=>?_,fun y c _ h=>?_,fun _=>hd,Around.frames_deeper e0.frames,.inr ⟨rfl,rfl⟩,fun b z=>absurd z (noA b),e0.bs,e0.bsz,fun b _ _=>noA b,fun b z=>absurd z (noA b),e0.funs,e0.frf⟩,
    rfl,e0.bare,Un.kept hk,⟨_,x.toInCall.ns,fun i y v h1 h2 h3=>?_⟩,fun y c h=>⟨_,x.cell y c h⟩,e0.hok.fresh (le_refl _),fun y c h=>?_,fun p hp=>absurd (show p∈([]:List (Addr×Obj)) from hp) (by simp),e0.hok.kept hk,?_⟩
  · exact name_of_addr x.apart (PySem.mem_of_lookup h1) (PySem.mem_of_lookup h2)
  · have hy:scope.names.lookup y=some .cell∨scope.names.lookup y=some .free:=hy
    rcases hy with hy | hy
    · exact Zrx hy
    · exact absurd rfl (S.nofree _ (PySem.mem_of_lookup hy))
  · exact le_of_lt (x.above y c (PySem.mem_of_lookup h))
  · have hi:i<vs.length:=by
      unfold start at h2
      by_cases hi:i<vs.length
      · exact hi
      · rw [getElem?_append_right (by simpa using hi)] at h2
        rw [List.getElem?_replicate] at h2
        split at h2<;>cases h2
    have ha:vs[i]?=some v:=by
      unfold start at h2
      rw [getElem?_append_left (by simpa using hi),getElem?_map] at h2
      cases e:vs[i]? with
      | none=>rw [e] at h2;cases h2
      | some a=>rw [e] at h2;cases h2;rfl
    obtain ⟨u,hu,rv⟩:=r.get ha
    have hp:ps[i]?=some y:=by
      rw [← S.pre,List.getElem?_take_of_lt (by omega)];exact h1
    have ndP:ps.Nodup:=by rw [← S.pre];exact S.nd.sublist (List.take_sublist _ _)
    refine ⟨u,rv,?_⟩
    rcases S.par y (mem_of_getElem? hp) with k | k
    · exact .inl ⟨k,Znq ndP hp hu k⟩
    · obtain ⟨c,e⟩:=Zrx (n:=s.heap.objs.size+1) k
      refine .inr ⟨.inl k,c,e,?_⟩
      have q:=x.cell y c e
      rw [Znw ndP hp hu (by show scope.names.lookup y≠_;rw [k];decide)] at q
      exact q
  · exact e0.hok.fresh (le_of_lt (x.above y c (PySem.mem_of_lookup h)))
  · unfold start
    show _=N.length
    rw [length_append,length_map,length_replicate]
    omega
theorem Xjs {CX:CXT}{P:Program}{w:World}{K:Frag}{mg:Str→Option Value}{base:Heap}{k:Nat}{f:Addr}{name qual:Str}{params:Arguments}{body:List Stmt}{scope:Scope}{dV kV doc pm cdv ct oc:Value}{an od:Option Addr}
    {osl:Array (Option Value)} {N ps:List Str} {sp:Sp} (lk:K.lookup f=some ⟨oc,od,.func (fnOf name qual params body scope dV kV doc pm an cdv ct),osl⟩) (hcd:codeIn K cdv qual=true) (S:Xd N ps scope)
    (len:∀vs H Q E,sp vs H Q E→vs.length=ps.length)
    (hbody:∀(A:Around) (outer:List Env) (s:Shared) (H:Hp) (vs:List V) (Q:VK) (E:XK),Zec k (A.deeper (envOfC qual scope s.heap.objs.size f cdv))→sp vs H Q E→
      ∃t,PSs (Zxz CX P w K mg base N qual scope f cdv A outer s H E) body t∧t {nx:=fun _ H'=>Q .non H',rt:=Q} (start N vs) H) :
    Zam P w K mg base CX (k+1) f (fnOf name qual params body scope dV kV doc pm an cdv ct) ps sp:=by
  refine ⟨len,fun A outer s H args us vs Q E hr e0 hb r hsp=>?_⟩
  have hl:=len _ _ _ _ hsp
  have KX:K.In s.heap:=e0.mod.kin.keeps fun b o e=>(e0.bs b o e).1
  have lim:s.heap.NoLimit:=e0.mod.nolimit.keeps fun b o e=>(e0.bs b o e).1
  have hkind:∀y∈ps.zip us,scope.names.lookup y.1=some .local∨(scope.names.lookup y.1=some .cell∧((cellsFrom (s.heap.objs.size+1) scope.names []).lookup y.1).isSome=true):=fun ⟨n,v⟩ hy=>by
    rcases S.par n (of_mem_zip hy).1 with q | q
    · exact .inl q
    · exact .inr ⟨q,PySem.W.cellsFrom_some _ _ _ (.inl q)⟩
  refine codeAny_call_function hr.depth (KX _ _ lk) rfl S.co S.gen rfl (PySem.W.codeRec_of KX hcd) (hb _ _ _ _ ?_)
  refine wpAny_newFunctionEnv_cells S.kind hkind fun env he s1 x=>?_
  subst he
  refine ⟨lim.keeps x.toInCall.keep,codeAny_func ?_⟩
  obtain ⟨t,ht,hq⟩:=hbody A outer s H vs Q E (hr.deeper _) hsp
  have I:Inv (Zxz CX P w K mg base N qual scope f cdv A outer s H E) [] (start N vs) H s1:=Zwv S hr.hd e0 hl r x
  refine wpAny_mono (ht [] s1 (start N vs) H _ I hq) (fun fl s' hs=>?_) fun e s' hs=>hs
  have fin:∀{σ':St} {H':Hp} {v:V} {u:Value},Inv (Zxz CX P w K mg base N qual scope f cdv A outer s H E) [] σ' H' s'→RelV v u→Q v H'→CE outer P w H s Q u s':=
    fun {σ' H' v u} J rv q=>⟨v,H',J.os,J.bare,J.base,J.hok,rv,q⟩
  cases fl with
  | ret u =>
    obtain ⟨v,σ',H',J,rv,q⟩:=hs
    exact fin J rv q
  | next =>
    obtain ⟨σ',H',J,q⟩:=hs
    exact fin (v:=V.non) (u:=Value.none) J rfl q
  | brk =>
    obtain ⟨_,_,_,q⟩:=hs
    exact False.elim q
  | cont =>
    obtain ⟨_,_,_,q⟩:=hs
    exact False.elim q
section
variable {X:Cx}{x:Str}{p pos:Pos}{e:Expr}{es:List Expr}{t:TA}{id T:String}{r:List V→Hp→VK→Prop}
def tCB (r:List V→Hp→VK→Prop)(t:TA):TE:=fun σ H Q=>t σ H fun vs H1=>r vs H1 Q
theorem Xbe (hc:Zav X (.builtin id) r)(hg:Gl X x)(hm:X.mg x=none)(hv:bootBuiltins x=some (.builtin id))(ha:PA X (e::es) t)(hn:x≠"__name__":=by decide)(hdb:(x==("__debug__":Str))=false:=by decide)
  (he:starEach (e::es) X.env=(false,eval e X.env)::starEach es X.env:=by rfl) (hpl:(backTo pos (starEach es X.env)).any (·.1)=false:=by rfl):PE X (.Call (.Name x p) (e::es) [] pos) (tCB r t):=by
 intro pins s σ H Q I h
 refine wpAny_Call_Name_kw (Zez I hg hm hv ?_ hn hdb)
 exact PyProof.Rows.callWith_builtin1 (thn (ha pos pins s σ H _ I h) fun us s1 ⟨vs,H1,I1,r1,q1⟩=>hc pins s1 σ H1 vs us Q I1 r1 q1) he hpl
theorem Zvw (hc:Zav X (.type T) r)(hg:Gl X x)(hm:X.mg x=none)(hv:bootBuiltins x=some (.type T))(ha:PA X (e::es) t)(hn:x≠"__name__":=by decide)(hdb:(x==("__debug__":Str))=false:=by decide)
  (he:starEach (e::es) X.env=(false,eval e X.env)::starEach es X.env:=by rfl) (hpl:(backTo pos (starEach es X.env)).any (·.1)=false:=by rfl):PE X (.Call (.Name x p) (e::es) [] pos) (tCB r t):=by
 intro pins s σ H Q I h
 refine wpAny_Call_Name_kw (Zez I hg hm hv ?_ hn hdb)
 exact PyProof.Rows.callWith_type1 (thn (ha pos pins s σ H _ I h) fun us s1 ⟨vs,H1,I1,r1,q1⟩=>hc pins s1 σ H1 vs us Q I1 r1 q1) he hpl
end
end L2
namespace HT
open PySem PyProof.Rows
noncomputable def lexLt:List Int→List Int→Bool
 | [],[]=>false
 | [],_::_=>true
 | _::_,[]=>false
 | x::xs,y::ys=>if x=y then lexLt xs ys else decide (x<y)
section
open PySem.SeqAt
open PySem.AutoSeq1 (wpAny_loadPart')
open PySem.MeetsSeq PySem.MeetsSeq2 PySem.MeetsSeq3
variable {prog:Program}{w:World}{A:Around}{E:Value→Shared→Prop}{s:Shared}
noncomputable def sIx (n d:Nat):Option Int→Nat
 | none=>d
 | some v=>if v<0 then (v+(n:Int)).toNat else min v.toNat n
theorem clip_eq (v:Int)(n d:Nat):(if v<0 then max (v+(n:Int)) 0 else min v (n:Int))=((sIx n d (some v):Nat):Int):=by
 show (if v<0 then max (v+(n:Int)) 0 else min v (n:Int))=(((if v<0 then (v+(n:Int)).toNat else min v.toNat n):Nat):Int)
 by_cases hv:v<0
 ·simp only [if_pos hv];omega
 ·simp only [if_neg hv];omega
end
end HT
namespace L2
open PySem PySem.Spec PyProof.Rows
noncomputable abbrev TO:=St→Hp→(Option Int→Hp→Prop)→Prop
def PO (X:Cx)(e:Option Expr)(t:TO):Prop:=
 ∀(pins:List (Addr×Obj)) (s:Shared) (σ:St) (H:Hp) (Q:Option Int→Hp→Prop),Inv X pins σ H s→t σ H Q→
  wpAny (model X.prog X.w) X.A (evalPart e X.env) (fun u s'=>∃o H',Inv X pins σ H' s'∧IsPart u o∧Q o H') X.xe s
noncomputable def Zkv:TO:=fun _ H Q=>Q none H
noncomputable def Xcd (t:TE):TO:=fun σ H Q=>t σ H fun x H1=>∃i,x=.int i∧Q (some i) H1
theorem intsAre_of {ns:List Int}:∀{us:List Value},Jn (ns.map V.int) us→IntsAre us ns:=by
 induction ns with
 | nil=>intro us r;rw [map_nil] at r;cases r;exact .nil
 | cons n ns ih =>
  intro us r
  rw [map_cons] at r
  cases r with
  | cons r1 r2 =>
   obtain ⟨t,e⟩:=r1
   subst e
   exact .cons n t (ih r2)
section
variable {X:Cx}{e:Expr}{te:TE}{lo hi:Option Expr}{tl th:TO}{pos p2:Pos}
theorem Xfl:PO X none Zkv:=by
 intro pins s σ H Q I h
 rw [evalPart_none]
 exact wpAny_pure ⟨none,H,I,.none,h⟩
theorem Xiy (h:PE X e te):PO X (some e) (Xcd te):=by
 intro pins s σ H Q I hw
 rw [evalPart_some]
 refine thn (h pins s σ H _ I hw) fun u s1 hz9=>?_
 obtain ⟨x,H1,I1,r1,q1⟩:=hz9
 obtain ⟨i,rfl,q⟩:=q1
 obtain ⟨t,rfl⟩:=r1
 exact ⟨some i,H1,I1,.int i t,q⟩
def SlR (X:Cx)(r:V→Option Int→Option Int→Hp→VK→Prop):Prop:=
 ∀(pins:List (Addr×Obj)) (s:Shared) (σ:St) (H:Hp) (x:V) (v vl vu:Value) (lo hi:Option Int) (sl:Addr) (Q:VK),Inv X pins σ H s→RelV x v→s.heap.IsSliceOf sl vl vu .none→IsPart vl lo→IsPart vu hi→r x lo hi H Q→
  ∃T id,typeLookup (.type T) "__getitem__"=pure (some (.builtin id))∧s.TypeIs v T∧wpAny (model X.prog X.w) X.A (getItem v (.ref sl)) (EP X pins σ Q) X.xe s
def tSl (r:V→Option Int→Option Int→Hp→VK→Prop)(te:TE)(tl th:TO):TE:=fun σ H Q=>te σ H fun x H1=>tl σ H1 fun l H2=>th σ H2 fun u H3=>r x l u H3 Q
theorem Xcq {r:V→Option Int→Option Int→Hp→VK→Prop}(hr:SlR X r)(he:PE X e te)(hl:PO X lo tl)(hu:PO X hi th):PE X (.Subscript e (.Slice lo hi none p2) pos) (tSl r te tl th):=by
 intro pins s σ H Q I h
 refine Subscript_ (thn (he pins s σ H _ I h) fun v s1 hz9=>?_)
 obtain ⟨x,H1,I1,r1,q1⟩:=hz9
 refine wpAny_Slice (thn (hl pins s1 σ H1 _ I1 q1) fun vl s2 ⟨l,H2,I2,pl,q2⟩=>thn (hu pins s2 σ H2 _ I2 q2) fun vu s3 ⟨u,H3,I3,pu,q3⟩=>?_)
 rw [evalPart_none]
 refine wpAny_pure ?_
 have I4:Inv X pins σ H3 {s3 with heap:=s3.heap.push {cls:=.type "slice",data:=.fields #[vl,vu,.none]}}:=I3.kept (t':=s3.toks) fun b ob q=>get?_push_of_some _ q
 obtain ⟨T,id,hT,ht,hg⟩:=hr pins {s3 with heap:=s3.heap.push {cls:=.type "slice",data:=.fields #[vl,vu,.none]}} σ H3 x v vl vu l u s3.heap.objs.size Q I4 r1 (Heap.IsSliceOf.new ..) pl pu q3
 show wpAny (model X.prog X.w) X.A (subscriptTail e (.Slice lo hi none p2) v (.ref s3.heap.objs.size)) (EP X pins σ Q) X.xe {s3 with heap:=s3.heap.push {cls:=.type "slice",data:=.fields #[vl,vu,.none]}}
 exact tail_any (ops:=[.ref s3.heap.objs.size,v]) ht hT hg (by with_unfolding_all rfl)
noncomputable def Xch (xs:List V)(lo hi:Option Int):List V:=(xs.drop (HT.sIx xs.length 0 lo)).take (HT.sIx xs.length xs.length hi - HT.sIx xs.length 0 lo)
theorem Zog (xs:List V)(lo hi:Option Int):(Xch xs lo hi).length≤xs.length:=by
 unfold Xch
 rw [length_take,List.length_drop]
 omega
end
noncomputable def ixN (n:Nat)(i:Int):Option Nat:=if 0≤i then (if i<n then some i.toNat else none) else if -(n:Int)≤i then some (i+n).toNat else none
noncomputable def atI {α:Type}(xs:List α)(i:Int):Option α:=(ixN xs.length i).bind fun j=>xs[j]?
theorem Zxm {n:Nat}{i:Int}{j:Nat}(h:ixN n i=some j):seqIndex? i n=some j∧j<n∧-(n:Int)≤i∧i<n:=by
 unfold ixN at h
 by_cases h0:0≤i
 ·rw [if_pos h0] at h
  by_cases h1:i<n
  ·rw [if_pos h1] at h
   have e:i.toNat=j:=Option.some.inj h
   exact ⟨by rw [seqIndex_of h0 h1,e],by omega,by omega,h1⟩
  ·rw [if_neg h1] at h;cases h
 ·rw [if_neg h0] at h
  by_cases h1:-(n:Int)≤i
  ·rw [if_pos h1] at h
   have e:(i+n).toNat=j:=Option.some.inj h
   exact ⟨by rw [seqIndex_neg (by omega) h1,e],by omega,h1,by omega⟩
  ·rw [if_neg h1] at h;cases h
theorem Zew {α:Type}{xs:List α}{i:Int}{v:α}(h:atI xs i=some v):∃j,seqIndex? i xs.length=some j∧xs[j]?=some v∧j<xs.length∧-(xs.length:Int)≤i∧i<xs.length:=by
 unfold atI at h
 cases e:ixN xs.length i with
 | none=>rw [e] at h;cases h
 | some j =>
  rw [e] at h
  obtain ⟨h1,h2,h3,h4⟩:=Zxm e
  exact ⟨j,h1,h,h2,h3,h4⟩
theorem Xgu {α:Type}{xs:List α}{j:Nat}{v:α}(h:xs[j]?=some v):atI xs (j:Int)=some v:=by
 have hj:j<xs.length:=(List.getElem?_eq_some_iff.mp h).1
 have e:ixN xs.length (j:Int)=some j:=by
  unfold ixN
  rw [if_pos (by omega),if_pos (by omega)];simp
 unfold atI;rw [e];exact h
def Zca (b:Expr):Prop:=∀o i,subscripted b false o i=operate [o,i] (getItem o i)
def IxR (X:Cx)(r:R2):Prop:=
 ∀(value slice:Expr) (pins:List (Addr×Obj)) (s:Shared) (σ:St) (H:Hp) (x y:V) (v u:Value) (Q:VK),Inv X pins σ H s→RelV x v→RelV y u→r x y H Q→
  subscripted slice false v u=operate [v,u] (getItem v u)→wpAny (model X.prog X.w) X.A (subscriptTail value slice v u) (EP X pins σ Q) X.xe s
def MtR (X:Cx)(id:String)(r:V→List V→Hp→VK→Prop):Prop:=
 ∀(pins:List (Addr×Obj)) (s:Shared) (σ:St) (H:Hp) (x:V) (xs:List V) (v:Value) (us:List Value) (Q:VK),Inv X pins σ H s→RelV x v→Jn xs us→r x xs H Q→
  wpAny (model X.prog X.w) X.A (call (.builtin id) (v::us)) (EP X pins σ Q) X.xe s
section
variable {X:Cx}{a b:Expr}{ta tb:TE}{pos:Pos}
theorem IxR.or {r r':R2}(h:IxR X r)(h':IxR X r'):IxR X (fun x y H Q=>r x y H Q∨r' x y H Q):=by
 intro value slice pins s σ H x y v u Q I rx ry q hs
 rcases q with q | q
 ·exact h value slice pins s σ H x y v u Q I rx ry q hs
 ·exact h' value slice pins s σ H x y v u Q I rx ry q hs
theorem pe_ix {r:R2}(hr:IxR X r)(ha:PE X a ta)(hb:PE X b tb)(hs:Zca b):PE X (.Subscript a b pos) (tOp r ta tb):=by
 intro pins s σ H Q I h
 exact Subscript_ (binT ha hb I h fun v u s2 x y H2 I2 rx ry q=>hr a b pins s2 σ H2 x y v u Q I2 rx ry q (hs _ _))
noncomputable def rIxL (K:Frag):R2:=fun x y H Q=>∃p xs i v,x=.ref p∧y=.int i∧SqL K H p xs∧atI xs i=some v∧Q v H
noncomputable def rIxT (K:Frag):R2:=fun x y H Q=>∃p xs i v,x=.ref p∧y=.int i∧SqT K H p xs∧atI xs i=some v∧Q v H
noncomputable def rIxS:R2:=fun x y H Q=>∃z i c,x=.str z∧y=.int i∧z.length≤sizeLine∧atI z.cps.toList i=some c∧Q (.str ⟨#[c]⟩) H
theorem Xej:IxR X (rIxL X.K):=by
 intro value slice pins s σ H x y v u Q I rx ry h hs
 obtain ⟨p,xs,i,z,rfl,rfl,hq,he,q⟩:=h
 cases rx
 obtain ⟨t,rfl⟩:=ry
 obtain ⟨its,r,pl,hz⟩:=I.list hq
 obtain ⟨j,h1,h2,h3,h4,h5⟩:=Zew he
 obtain ⟨w,ew,rw'⟩:=r.get h2
 have hl:=r.length
 have hn:=Znp
 have fin:EP X pins σ Q w s:=⟨z,H,I,rw',q⟩
 by_cases h0:0≤i
 ·have hj:i.toNat=j:=by
   rw [seqIndex_of h0 h5] at h1
   exact Option.some.inj h1
  exact item_listR pl.isList h0 (by omega) (by rw [hj];simpa using ew) fin hs
 ·have hj:(i+(its.toArray.size:Int)).toNat=j:=by
   rw [seqIndex_neg (by omega) h4] at h1
   rw [size_toArray,← hl]
   exact Option.some.inj h1
  exact subscriptTail_builtinR (x:=w) pl.isList.typeIs slot_list_getitem.lookup
   (wpAny_getItem_list_neg (Q:=fun r s'=>r=w∧EP X pins σ Q r s') pl.isList (by omega) (by rw [size_toArray]<;>omega) (by omega) (by rw [hj];simpa using ew) ⟨rfl,fin⟩) hs
theorem Xky:IxR X (rIxT X.K):=by
 intro value slice pins s σ H x y v u Q I rx ry h hs
 obtain ⟨p,xs,i,z,rfl,rfl,hq,he,q⟩:=h
 cases rx
 obtain ⟨t,rfl⟩:=ry
 obtain ⟨its,r,pl,hz⟩:=I.tuple hq
 obtain ⟨j,h1,h2,h3,h4,h5⟩:=Zew he
 obtain ⟨w,ew,rw'⟩:=r.get h2
 have hl:=r.length
 have hn:=Znp
 have fin:EP X pins σ Q w s:=⟨z,H,I,rw',q⟩
 exact subscriptTail_builtinR (x:=w) pl.typeIs slot_tuple_getitem.lookup
  (getItem_tuple (j:=j) (Q:=fun r s'=>r=w∧EP X pins σ Q r s') pl (by omega) (by omega) (by rw [size_toArray,← hl];exact h1) (by simpa using ew) ⟨rfl,fin⟩) hs
theorem Xme:IxR X rIxS:=by
  intro value slice pins s σ H x y v u Q I rx ry h hs
  obtain ⟨z,i,c,rfl,rfl,hz,he,q⟩:=h
  obtain ⟨t,rfl⟩:=rx
  obtain ⟨t',rfl⟩:=ry
  obtain ⟨j,h1,h2,h3,h4,h5⟩:=Zew he
  have hl:z.cps.toList.length=z.length:=by simp [Str.length]
  rw [hl] at h1 h4 h5
  have hn:=Znp
  exact tail_any (typeIs_str s z t) slot_str_getitem.lookup (getItem_str (c:=c) (by
    have e1:decide (i < -(2 ^ 63:Int))=false:=decide_eq_false (by omega)
    have e2:decide (i≥2 ^ 63)=false:=decide_eq_false (by omega)
    rw [e1,e2,Bool.or_false]) (by rw [h1];simpa using h2) ⟨.str ⟨#[c]⟩,H,I.tok _,⟨_,rfl⟩,q⟩) hs
noncomputable def rIx (K:Frag):R2:=fun x y H Q=>rIxL K x y H Q∨rIxT K x y H Q∨rIxS x y H Q
theorem Znx:IxR X (rIx X.K):=Xej.or (Xky.or Xme)
theorem Zmy (lo hi:Option Int)(n:Nat):(sliceBounds lo hi none n).1=((HT.sIx n 0 lo:Nat):Int)∧(sliceBounds lo hi none n).2.1=((HT.sIx n n hi:Nat):Int)∧(sliceBounds lo hi none n).2.2=1:=by
 refine ⟨?_,?_,rfl⟩
 ·cases lo with
  | none=>simp [sliceBounds,HT.sIx]
  | some i =>
   simp only [sliceBounds,HT.sIx,Option.getD_none,show (1:Int) > 0 by decide,if_true]
   by_cases h:i<0
   ·simp only [h,if_true]<;>omega
   ·simp only [h,if_false]<;>omega
 ·cases hi with
  | none=>simp [sliceBounds,HT.sIx]
  | some i =>
   simp only [sliceBounds,HT.sIx,Option.getD_none,show (1:Int) > 0 by decide,if_true]
   by_cases h:i<0
   ·simp only [h,if_true]<;>omega
   ·simp only [h,if_false]<;>omega
theorem Zlu (its:List Value)(lo hi:Option Int):slicePick its.toArray lo hi none=((its.drop (HT.sIx its.length 0 lo)).take (HT.sIx its.length its.length hi - HT.sIx its.length 0 lo)).toArray:=by
 obtain ⟨h1,h2,h3⟩:=Zmy lo hi its.toArray.size
 unfold slicePick
 rw [h1,h2,h3]
 simp only [sliceRange_one,pick_run,size_toArray]<;>rfl
def rSlL (K:Frag):V→Option Int→Option Int→Hp→VK→Prop:=fun x lo hi H Q=>∃a xs,x=.ref a∧SqL K H a xs∧∀p,H p=none→Q (.ref p) (upd H p (.lst (Xch xs lo hi)))
theorem Xfn:SlR X (rSlL X.K):=by
 intro pins s σ H x v vl vu lo hi sl Q I rx hs pl pu h
 obtain ⟨a,xs,rfl,hx,q⟩:=h
 cases rx
 obtain ⟨its,r,ht,hz⟩:=I.list hx
 have hlen:=r.length
 refine ⟨"list",_,slot_list_getitem.lookup,ht.isList.typeIs,?_⟩
 refine wpAny_getItem_list_slice ht.isList hs pl pu .none (by simp) ?_ (by rw [size_toArray]<;>omega)
 rw [Zlu,← hlen]
 refine ⟨.ref s.heap.objs.size,_,I.laid (t':=s.toks) (o:=.lst (Xch xs lo hi)) (fun b ob q=>get?_push_of_some _ q) (le_refl _) ?_,rfl,q _ (I.hok.fresh (le_refl _))⟩
 exact ⟨le_trans (Zog xs lo hi) hz,_,0,(r.drop (HT.sIx xs.length 0 lo)).take (HT.sIx xs.length xs.length hi - HT.sIx xs.length 0 lo),get?_push_size _ rfl⟩
theorem Zmc:Zav X (.builtin "len") (fun xs H Q=>∃p ys,xs=[.ref p]∧(SqL X.K H p ys∨SqT X.K H p ys)∧Q (.int ys.length) H):=by
 intro pins s σ H xs us Q I r h
 obtain ⟨p,ys,rfl,hq,q⟩:=h
 obtain ⟨u,rfl,rx⟩:=vals1 r
 cases rx
 have hn:=Znp
 rcases hq with hq | hq
 ·obtain ⟨its,r',pl,hz⟩:=I.list hq
  have hlen:=r'.length
  exact Calls.call_len_list pl.isList (by simp only [size_toArray]<;>omega) ⟨.int ys.length,H,I.tok _,⟨s.toks+1,by rw [size_toArray,hlen]⟩,q⟩
 ·obtain ⟨its,r',pl,hz⟩:=I.tuple hq
  have hlen:=r'.length
  exact len_tuple pl (by simp only [size_toArray]<;>omega) ⟨.int ys.length,H,I.tok _,⟨s.toks+1,by rw [size_toArray,hlen]⟩,q⟩
theorem Zmp:Zav X (.builtin "len") (fun xs H Q=>∃z,xs=[.str z]∧z.length≤sizeLine∧Q (.int z.length) H):=by
 intro pins s σ H xs us Q I r h
 obtain ⟨z,rfl,hz,q⟩:=h
 obtain ⟨u,rfl,t,rfl⟩:=vals1 r
 have hn:=Znp
 exact len_str (by omega) ⟨.int z.length,H,I.tok _,⟨_,rfl⟩,q⟩
theorem Zav.or {f:Value}{r r':List V→Hp→VK→Prop}(h:Zav X f r)(h':Zav X f r'):Zav X f (fun xs H Q=>r xs H Q∨r' xs H Q):=by
 intro pins s σ H xs us Q I rs q
 rcases q with q | q
 ·exact h pins s σ H xs us Q I rs q
 ·exact h' pins s σ H xs us Q I rs q
theorem Znt:Zav X (.type "list") (fun xs H Q=>∃p ys,xs=[.ref p]∧(SqL X.K H p ys∨SqT X.K H p ys)∧∀l,H l=none→Q (.ref l) (upd H l (.lst ys))):=by
 intro pins s σ H xs us Q I r h
 obtain ⟨p,ys,rfl,hq,q⟩:=h
 obtain ⟨u,rfl,rx⟩:=vals1 r
 cases rx
 have fin:∀(its:List Value),Jn ys its→ys.length≤sizeLine→∀(h':Heap) (c':Nat),(∀b o',s.heap.get? b=some o'→h'.get? b=some o')→
   h'.get? s.heap.objs.size=some {cls:=.type "list",dict:=none,data:=.seq its.toArray c',slots:=#[]}→EP X pins σ Q (.ref s.heap.objs.size) {s with heap:=h'}:=fun its r' hz h' c' kp e =>
  ⟨.ref s.heap.objs.size,_,I.laid (t':=s.toks) kp (le_refl _) (show Zay X.prog X.w _ h' _ (.lst ys) from ⟨hz,its,c',r',e⟩),rfl,q _ (I.hok.fresh (le_refl _))⟩
 rcases hq with hq | hq
 ·obtain ⟨its,r',pl,hz⟩:=I.list hq
  have hlen:=r'.length
  obtain ⟨o,ho,hc,n,hd⟩:=pl.isList
  exact call_list_seq p (.inl rfl) ho hc hd (fun h' c' kp e=>fin its r' hz h' c' kp e) (by simp only [size_toArray]<;>omega)
 ·obtain ⟨its,r',pl,hz⟩:=I.tuple hq
  have hlen:=r'.length
  obtain ⟨o,ho,hc,n,hd⟩:=pl
  exact call_list_seq p (.inr rfl) ho hc hd (fun h' c' kp e=>fin its r' hz h' c' kp e) (by simp only [size_toArray]<;>omega)
def tyV (K:Frag)(T:String)(x:V)(H:Hp):Prop:=match x with
 | .str _=>T="str"
 | .int _=>T="int"
 | .ref p=>(T="list"∧∃xs,SqL K H p xs)∨(T="tuple"∧∃o,K.lookup p=some o∧o.cls=.type "tuple"∧o.dict=none)∨
   (T="dict"∧((∃kvs,H p=some (.dK kvs))∨∃kvs,H p=some (.dT kvs)))∨(T="set"∧∃S n,H p=some (.set S n))
 | _=>False
theorem Xdr {pins:List (Addr×Obj)}{σ:St}{H:Hp}{s:Shared}{T:String}{x:V}{v:Value}(I:Inv X pins σ H s)(r:RelV x v)(ty:tyV X.K T x H) :
  s.TypeIs v T∧∀a,v=.ref a→∃ob,s.heap.get? a=some ob∧ob.dict=none:=by
 cases x with
 | str z =>
  obtain ⟨t,rfl⟩:=r
  cases (show T="str" from ty)
  exact ⟨typeIs_str s z t,fun _ e=>nomatch e⟩
 | int i =>
  obtain ⟨t,rfl⟩:=r
  cases (show T="int" from ty)
  exact ⟨typeIs_int s i t,fun _ e=>nomatch e⟩
 | ref p =>
  cases r
  rcases ty with ⟨rfl,xs,hq⟩ | ⟨rfl,o,hk,hc,hd⟩ | ⟨rfl,hk⟩ | ⟨rfl,S,n,hk⟩
  ·obtain ⟨its,_,pl,_⟩:=I.list hq
   refine ⟨pl.isList.typeIs,fun a e=>?_⟩
   cases e
   obtain ⟨o,n,e,c,hd,_⟩:=pl
   exact ⟨o,e,hd⟩
  ·refine ⟨⟨o,I.kIn p o hk,hc⟩,fun a e=>?_⟩
   cases e
   exact ⟨o,I.kIn _ o hk,hd⟩
  ·have z:∃o,s.heap.get? p=some o∧o.ExactDict:=by
    rcases hk with ⟨kvs,hk⟩ | ⟨kvs,hk⟩
    ·obtain ⟨_,_,_,_,o,_,_,e,ex,_⟩:=I.hok p _ hk
     exact ⟨o,e,ex⟩
    ·obtain ⟨_,_,_,_,o,_,_,e,ex,_⟩:=I.hok p _ hk
     exact ⟨o,e,ex⟩
   obtain ⟨o,e,ex⟩:=z
   refine ⟨⟨o,e,ex.1⟩,fun a e2=>?_⟩
   cases e2
   exact ⟨o,e,ex.2.1⟩
  ·obtain ⟨o,_,_,_,e,ex,_⟩:=I.hok p _ hk
   refine ⟨⟨o,e,ex.1⟩,fun a e2=>?_⟩
   cases e2
   exact ⟨o,e,ex.2.1⟩
 | _=>exact False.elim ty
def tBM0 (K:Frag)(T:String)(r:V→List V→Hp→VK→Prop)(to:TE):TE:=fun σ H Q=>to σ H fun x H1=>tyV K T x H1∧r x [] H1 Q
def tBM (K:Frag)(T:String)(r:V→List V→Hp→VK→Prop)(to:TE)(t:TA):TE:=fun σ H Q=>to σ H fun x H1=>tyV K T x H1∧t σ H1 fun xs H2=>r x xs H2 Q
variable {o e:Expr}{es:List Expr}{to:TE}{t:TA}{name:Str}{apos cpos:Pos}{T id:String}{r:V→List V→Hp→VK→Prop}
theorem Xju (pa:PlainAttrs T)(slot:Slot T name id)(hty:typeOf (.builtin id)=pure (.type "method_descriptor"))(hm:MtR X id r)(ho:PE X o to)
  (hbase:attributeBase o name X.env (eval o X.env)=eval o X.env:=by rfl) (hline:(apos.endLine==cpos.line)=true:=by rfl):PE X (.Call (.Attribute o name apos) [] [] cpos) (tBM0 X.K T r to):=by
 intro pins s σ H Q I h
 refine wpAny_Call_method0_late hbase hline (thn (ho pins s σ H _ I h) fun v s1 hz9=>?_)
 obtain ⟨x,H1,I1,r1,ty,q1⟩:=hz9
 obtain ⟨h1,h2⟩:=Xdr I1 r1 ty
 exact ⟨T,id,pa,slot,hty,h1,h2,Calls.callWith_builtin rfl (PySem.evalArgs_none (hm pins s1 σ H1 x [] v [] Q I1 r1 .nil q1))⟩
theorem pe_bm (pa:PlainAttrs T)(slot:Slot T name id)(hty:typeOf (.builtin id)=pure (.type "method_descriptor"))(hm:MtR X id r)(ho:PE X o to)(ha:PA X (e::es) t)
    (hbase:attributeBase o name X.env (eval o X.env)=eval o X.env:=by rfl)
    (hfew:((backTo cpos (starEach (e::es) X.env)).all (fun x=>!x.1)&&(backToKw cpos (keywordEach [] X.env)).all (fun x=>x.1.isSome)
      && decide ((e::es).length+([]:List Keyword).length+(if ([]:List Keyword).isEmpty then 0 else 1)<30))=true:=by rfl)
    (hline:(apos.endLine==cpos.line)=true:=by rfl) (hs:starEach (e::es) X.env=(false,eval e X.env)::starEach es X.env:=by rfl) (hplain:(backTo cpos (starEach es X.env)).any (·.1)=false:=by rfl) :
    PE X (.Call (.Attribute o name apos) (e::es) [] cpos) (tBM X.K T r to t):=by
  intro pins s σ H Q I h
  refine wpAny_Call_method_late hbase hfew hline rfl (thn (ho pins s σ H _ I h) fun v s1 hz9=>?_)
  obtain ⟨x,H1,I1,r1,ty,q1⟩:=hz9
  obtain ⟨h1,h2⟩:=Xdr I1 r1 ty
  refine ⟨T,id,pa,slot,hty,h1,h2,?_⟩
  have hA:=ha cpos pins s1 σ H1 _ I1 q1
  rw [hs] at hA ⊢
  refine Calls.callWith_builtin (by show (false||(backTo cpos (starEach es X.env)).any (·.1))=false;rw [hplain]<;>rfl) (Calls.evalArgs_plain ?_)
  exact thn hA fun us s2 ⟨vs,H2,I2,r2,q2⟩=>hm pins s2 σ H2 x vs v us Q I2 r1 r2 q2
end
def MtM (X:Cx)(id:String)(r:V→List V→Hp→VK→Prop):Prop:=
 ∀(pins:List (Addr×Obj)) (s:Shared) (σ:St) (H:Hp) (x:V) (xs:List V) (v:Value) (us:List Value) (Q:VK),Inv X pins σ H s→RelV x v→Jn xs us→r x xs H Q→
  wpAny (model X.prog X.w) X.A (call (.builtin id) (v::us)) (EP X pins σ Q) X.xe s
theorem Jn.one:∀{x:V} {us:List Value},Jn [x] us→∃u,us=[u]∧RelV x u
 | _,_,.cons r .nil=>⟨_,rfl,r⟩
theorem Jn.zero:∀{us:List Value},Jn [] us→us=[]
 | _,.nil=>rfl
theorem Jn.dropLast {xs:List V}{us:List Value}(h:Jn xs us):Jn xs.dropLast us.dropLast:=by
 induction h with
 | nil=>exact .nil
 | cons r t ih =>
  cases t with
  | nil=>exact .nil
  | cons q t'=>exact .cons r ih
theorem Jn.rep {xs:List V}{us:List Value}(h:Jn xs us):∀k:Nat,Jn (List.replicate k xs).flatten (List.replicate k us).flatten
 | 0=>.nil
 | k+1=>by
  rw [replicate_succ,replicate_succ,flatten_cons,flatten_cons]
  exact Jn.append h (Jn.rep h k)
theorem Zsr {α:Type}(l:List α):l.eraseIdx (l.length - 1)=l.dropLast:=by
 induction l with
 | nil=>rfl
 | cons a r ih =>
  cases r with
  | nil=>rfl
  | cons b r =>
   have e:(a::b::r).length - 1=((b::r).length - 1)+1:=by
    have h1:(a::b::r).length=r.length+2:=rfl
    have h2:(b::r).length=r.length+1:=rfl
    omega
   rw [e,List.eraseIdx_cons_succ,ih]
   all_goals rfl
theorem foldl_rep (its:List Value):∀(k:Nat) (acc:List Value),
  List.foldl (fun x1 x2=>x1++x2) acc.toArray (List.replicate k its.toArray)=(acc++(List.replicate k its).flatten).toArray
 | 0,acc=>by simp
 | k+1,acc=>by
  have e:acc.toArray++its.toArray=(acc++its).toArray:=by simp
  have e2:(acc++its)++(List.replicate k its).flatten=acc++(List.replicate (k+1) its).flatten:=by
   rw [replicate_succ,flatten_cons,append_assoc]
  rw [← e2,← foldl_rep its k (acc++its),← e,replicate_succ,foldl_cons]
section
variable {X:Cx}{pins:List (Addr×Obj)}{σ:St}{H:Hp}{s:Shared}{l b:Addr}{xs ys zs:List V}
theorem Inv.lset {its its':List Value}{n:Nat}{f:Array Value→Array Value}{t':Nat}(I:Inv X pins σ H s)(hH:H l=some (.lst xs))
  (e:s.heap.get? l=some {cls:=.type "list",data:=.seq its.toArray n}) (hf:f its.toArray=its'.toArray) (hv:Jn ys its') (hz:ys.length≤sizeLine) :
  Inv X pins σ (upd H l (.lst ys)) {s with heap:=s.heap.update l (Obj.mapSeq f),toks:=t'}:=by
 have q:=PySem.IsL.update e f
 rw [hf] at q
 refine I.write (x:=l) (e:=l) (by rw [hH];exact trivial) (.inl rfl) (fun b' u hb hu=>(Heap.get?_update_other s.heap (Obj.mapSeq f) (Ne.symm hb)).trans hu) ⟨_,q⟩ ?_
 exact ⟨hz,its',_,hv,q⟩
theorem Inv.lnew {its:List Value}{t':Nat}(I:Inv X pins σ H s)(hv:Jn ys its)(hz:ys.length≤sizeLine) :
  Inv X pins σ (upd H s.heap.objs.size (.lst ys)) {s with heap:=s.heap.push {cls:=.type "list",data:=.seq its.toArray},toks:=t'}:=
 I.laid (fun _ _ q=>get?_push_of_some _ q) (le_refl _) ⟨hz,its,0,hv,get?_push_size _ rfl⟩
theorem Inv.fresh (I:Inv X pins σ H s):H s.heap.objs.size=none:=I.hok.fresh (le_refl _)
theorem Inv.lstM (I:Inv X pins σ H s)(hH:H l=some (.lst xs)):xs.length≤sizeLine∧∃(its:List Value) (n:Nat),Jn xs its∧xs.length=its.length∧s.heap.get? l=some {cls:=.type "list",data:=.seq its.toArray n}:=by
 obtain ⟨z,its,n,r,e⟩:=I.hok l _ hH
 exact ⟨z,its,n,r,r.length,e⟩
theorem Xbo {n:Nat}(h:n≤sizeLine):Builtin.List.listTooLong n=false:=by
 unfold Builtin.List.listTooLong
 exact decide_eq_false (by omega)
end
section
variable {X:Cx}
def Zcr:V→List V→Hp→VK→Prop:=fun x vs H Q=>∃l xs y,x=.ref l∧vs=[y]∧H l=some (.lst xs)∧xs.length<sizeLine∧Q .non (upd H l (.lst (xs++[y])))
theorem Zdf:MtM X "list.append" Zcr:=by
 intro pins s σ H x vs v us Q I rx rv h
 obtain ⟨l,xs,y,rfl,rfl,hH,hz,q⟩:=h
 cases rx
 obtain ⟨u,rfl,ru⟩:=rv.one
 obtain ⟨z,its,n,r,hl,e⟩:=I.lstM hH
 refine call_meets F.slot_list_append ⟨_,e,rfl⟩ F.entry_list_append (F.args_list_append_2 _ _) (PySem.list_append l its.toArray n u (by rw [size_toArray];omega)) ⟨e,?_⟩
 refine ⟨.non,_,I.lset (its':=its++[u]) hH e (by simp) (r.append (.cons ru .nil)) ?_,rfl,q⟩
 rw [length_append,length_singleton]
 omega
def rPop:V→List V→Hp→VK→Prop:=fun x vs H Q=>∃l xs y,x=.ref l∧vs=[]∧H l=some (.lst xs)∧xs[xs.length - 1]?=some y∧Q y (upd H l (.lst xs.dropLast))
theorem Xnq:MtM X "list.pop" rPop:=by
 intro pins s σ H x vs v us Q I rx rv h
 obtain ⟨l,xs,y,rfl,rfl,hH,hy,q⟩:=h
 cases rx
 have hus:=rv.zero
 subst hus
 obtain ⟨z,its,n,r,hl,e⟩:=I.lstM hH
 obtain ⟨u,hu,ru⟩:=r.get hy
 have hy':its.toArray[its.toArray.size - 1]?=some u:=by
  show its.toArray[its.length - 1]?=some u
  rw [← Array.getElem?_toList,← hl]
  exact hu
 refine call_meets F.slot_list_pop ⟨_,e,rfl⟩ F.entry_list_pop (F.args_list_pop_1 _) (MeetsSeq.list_pop_last l its.toArray n u hy' (by rw [size_toArray];omega)) ⟨e,?_⟩
 refine ⟨y,_,I.lset (its':=its.dropLast) hH e ?_ r.dropLast ?_,ru,q⟩
 ·show its.toArray.eraseIdxIfInBounds (its.toArray.size - 1)=its.dropLast.toArray
  rw [size_toArray,List.eraseIdxIfInBounds_toArray,Zsr]
 ·rw [List.length_dropLast]
  omega
noncomputable def rCat:R2:=fun x y H Q=>∃l b xs zs,x=.ref l∧y=.ref b∧H l=some (.lst xs)∧H b=some (.lst zs)∧xs.length+zs.length≤sizeLine∧∀p,H p=none→Q (.ref p) (upd H p (.lst (xs++zs)))
theorem Xlg:OpR X (binaryOp .Add) rCat:=by
 intro pins s σ H x y v u Q I rx ry h
 obtain ⟨l,b,xs,zs,rfl,rfl,hH,hB,hz,q⟩:=h
 cases rx
 cases ry
 obtain ⟨z,its,n,r,hl,e⟩:=I.lstM hH
 obtain ⟨z2,its2,n2,r2,hl2,e2⟩:=I.lstM hB
 refine PySem.P.add_list e e2 ?_ (by rw [size_toArray,size_toArray];omega)
 have ea:its.toArray++its2.toArray=(its++its2).toArray:=by simp
 rw [ea]
 exact ⟨.ref _,_,I.lnew (t':=s.toks) (r.append r2) (by rw [length_append];omega),rfl,q _ I.fresh⟩
noncomputable def rRep:R2:=fun x y H Q=>∃l k xs,x=.ref l∧y=.int k∧H l=some (.lst xs)∧-(2 ^ 63)≤k∧k<2 ^ 63∧xs.length*k.toNat≤sizeLine∧
 ∀p,H p=none→Q (.ref p) (upd H p (.lst (List.replicate k.toNat xs).flatten))
theorem len_rep {α:Type}(xs:List α)(k:Nat):(List.replicate k xs).flatten.length=k*xs.length:=by
 induction k with
 | zero=>simp
 | succ k ih=>rw [replicate_succ,flatten_cons,length_append,ih,Nat.succ_mul,Nat.add_comm]
theorem Xoh:OpR X (binaryOp .Mult) rRep:=by
  intro pins s σ H x y v u Q I rx ry h
  obtain ⟨l,k,xs,rfl,rfl,hH,h1,h2,hz,q⟩:=h
  cases rx
  obtain ⟨t,rfl⟩:=ry
  obtain ⟨z,its,n,r,hl,e⟩:=I.lstM hH
  have hlen:its.toArray.size*k.toNat≤sizeLine:=by rw [size_toArray,← hl];exact hz
  have hcap:¬its.toArray.size*k.toNat > (2 ^ 63 - 1) / 8:=by
    have:(sizeLine:Nat)≤(2 ^ 63 - 1) / 8:=by decide
    omega
  have hfit:¬(!Builtin.List.listFitsIndex k)=true:=by
    rw [fitsIndex_both h1 h2]
    exact Bool.false_ne_true
  have hlong:¬Builtin.List.listTooLong (its.toArray.size*k.toNat)=true:=by
    rw [Xbo hlen]
    exact Bool.false_ne_true
  have hnew:List.foldl (fun x1 x2=>x1++x2) #[] (List.replicate (if its.toArray.isEmpty=true then 0 else k.toNat) its.toArray)=(List.replicate k.toNat its).flatten.toArray:=by
    have f0:∀m:Nat,List.foldl (fun x1 x2=>x1++x2) #[] (List.replicate m its.toArray)=(List.replicate m its).flatten.toArray:=fun m=>by
      have:=foldl_rep its m []
      rw [List.nil_append] at this
      exact this
    rw [f0]
    cases its with
    | nil=>simp
    | cons a r'=>rw [if_neg (by simp)]
  refine wpAny_binaryOp_repeat_ref (T:="list") (U:="int") (by decide) ⟨_,e,rfl⟩ (fun s'=>typeIs_int s' k t) noFill_list_mul F.fills_int_mul F.slot_int_rmul repeat_list F.slot_int_index.lookup
    (call_meets F.slot_int_rmul (typeIs_int s k t) F.entry_int_rmul (F.args_int_rmul_2 _ _) (int___rmul___int_list k t l its.toArray n)
      ⟨e,rfl,⟨_,e,rfl⟩,call_meets F.slot_list_mul ⟨_,e,rfl⟩ F.entry_list_mul (F.args_list_mul_2 _ _) (AutoListH.list___mul___list_int_3 l its.toArray n k t hfit hcap hlong) ⟨e,?_⟩⟩)
  rw [hnew]
  exact ⟨.ref _,_,I.lnew (t':=s.toks) (r.rep k.toNat) (by rw [len_rep,Nat.mul_comm];exact hz),rfl,q _ I.fresh⟩
variable {prog:Program}{w:World}{A:Around}{E:Value→Shared→Prop}{s:Shared}
set_option maxRecDepth 100000 in
end
end L2
namespace Att
open PySem PySem.W PySem.Calls PyProof.Rows
theorem Zhp {P:Params}{h:Heap}:∀(ns:List Int) (vs:List Value),WellAll P h vs (ns.map WData.int)→IntsAre vs ns:=by
 intro ns
 induction ns with
 | nil =>
  intro vs w
  rw [map_nil] at w
  cases w
  exact .nil
 | cons n ns ih =>
  intro vs w
  rw [map_cons] at w
  cases w with
  | cons a b =>
   cases a
   exact .cons _ _ (ih _ b)
theorem Zxt {l:OpenLaw}{n:Nat}(hn:l.most=some n){P:Params}{h:Heap}{args:List WData}{vals:List Value}
  (hpre:l.row.toRowW.claim.pre args=true) (hwl:WellAll P h vals args) :
  ∃a vs ns,vals=[Value.ref a]∧args=[WData.list (ns.map WData.int)]∧h.get? a=some {cls:=.type "list",data:=.seq vs.toArray}∧IntsAre vs ns∧ns.length≤n:=by
 have hsh:WShape.hasAll [] args [.list .int]=true:=(pre_splitW hpre).1
 have hc:l.pre.holds [] {args:=args}=true:=(pre_splitW hpre).2
 obtain ⟨d,r,rfl,h1,h2⟩:=hasAllW_cons hsh
 obtain rfl:=hasAllW_nil h2
 obtain ⟨xs,rfl,h3⟩:=hasW_list h1
 obtain ⟨ns,rfl⟩:=items_int h3
 have hlen:ns.length≤n:=by
  unfold OpenLaw.pre at hc
  have h4:(WTm.not (.lt (.lit (.int (n:Int))) (.len (.arg 0)))).holds [] {args:=[.list (ns.map .int)]}=true:=by
   have h4:=(holds_andW hc).1
   rw [hn] at h4
   exact h4
  have h5:=condW_of h4 (w_not (w_lt w_lit (w_len_list (w_arg rfl))))
  rw [length_map] at h5
  refine Nat.le_of_not_lt fun q=>?_
  have q':(n:Int)<((ns.length:Nat):Int):=by omega
  first
   | (rw [decide_eq_true q'] at h5;exact absurd h5 (by decide))
   | (simp at h5;omega)
 cases hwl with
 | cons w1 w2 =>
  cases w2
  cases w1 with
  | list ho hall=>exact ⟨_,_,ns,rfl,rfl,ho,Zhp ns _ hall,hlen⟩
theorem Zvb (l:OpenLaw)(args:List WData):l.row.toRowW.claim.post args (.bool true) args=true:=
 postW_of (r:=l.row.toRowW) (X:=(true==true))
  (show WShape.has [] (.bool true) .bool=true by first | rfl | decide | simp [WShape.has,WShape.arms,WShape.armsAll])
  (show (WTm.eq .res (.lit (.bool true))).value [] {args:=args,res:=some (.bool true),after:=args}=some (.bool (true==true)) from w_eq_bool (w_res rfl) w_lit) rfl
theorem attach_call {l:OpenLaw}{n:Nat}{q:Program}{loose:List Str}{XP:(Str→Option Value)→Heap→Prop}{YP:World→Heap→Prop}{d:DefRec}
    (hn:l.most=some n) (hdf:d.params.defaults=[])
    (call:∀(w:World) (s₀ s₁:Shared) (mg mb:Str→Option Value) (fa:Addr) (o:Obj) (pm cd doc:Value) (a:Addr) (vs:List Value) (ns:List Int),
      Ground q loose [] XP w s₀ mg mb s₁.heap→YP w s₁.heap→
      s₁.heap.get? fa=some o→o.data=.func (docDef d.name d.params d.body d.scope pm cd doc)→s₁.heap.CodeRec cd d.name→mg d.name=some (.ref fa)→
      s₁.heap.get? a=some {cls:=.type "list",data:=.seq vs.toArray}→IntsAre vs ns→ns.length≤n→s₁.gens=#[]→
      codeAny (model l.prog w) callerA (.call (.ref fa) ⟨[.ref a],[]⟩) (fun r s'=>r=.ok (.ret (.bool true))∧OldK s₁.heap s'.heap∧s'.os=s₁.os∧AllBare s'.gens) s₁) :
    WalkO q loose XP YP l.row.toRowW d [] (fun f vs=>PySem.call f vs):=by
  intro w s₀ s₁ mg mb G Y fa o pm cd doc dV kV ho hd hcd hD hmg hg args vals as hpre hlay hrd hwl hlo
  obtain rfl:dV=.none:=Dflts.none hD hdf
  obtain rfl:kV=.none:=Dflts.noKw hD
  obtain ⟨a,vs,ns,rfl,rfl,hobj,hints,hlen⟩:=Zxt hn hpre hwl
  refine enter_call (codeAny_mono (call w s₀ s₁ mg mb fa o pm cd doc a vs ns G Y ho (fd_plain hd) hcd hmg hobj hints hlen hg) fun r s' hq=>?_)
  obtain ⟨rfl,h2,h3,h4⟩:=hq
  exact ⟨.inl ⟨.bool true,.bool true,[],rfl,fun _=>rfl,.bool true,Zvb l _,fun _=>⟨List.Pairwise.nil,fun _ hm=>(nomatch hm)⟩⟩,h2,h3,h4⟩
section
variable {prog:Program}{w:World}{A:Around}{E:Value→Shared→Prop}{s:Shared}{K:Frag}
end
end Att
namespace L2
open PySem PySem.Spec PyProof.Rows
theorem Zdi:∀{vs:List Value} {ns:List Int},IntsAre vs ns→Jn (ns.map V.int) vs
 | _,_,.nil=>.nil
 | _,_,.cons n t h=>.cons ⟨t,rfl⟩ (Zdi h)
def Only (H:Hp):Prop:=∀b,H b=none∨∃o xs,H b=some (.frz o (.lst xs))
theorem Zyr {P:Program}{w:World}{K:Frag}{mg mb:Str→Option Value}{CX:CXT}{k:Nat}{fa a:Addr}{fd:FuncData}{x:Str}{sp:Sp}{s₁:Shared}{vs:List Value}{ns:List Int}
    (KX:K.In s₁.heap) (hns:s₁.heap.Ns mainGlobals mg) (hb:s₁.heap.Ns builtinsNs mb) (hbb:∀x:Str,x≠"__name__"→mb x=bootBuiltins x) (hlim:s₁.heap.NoLimit) (hg:s₁.gens=#[])
    (ha:s₁.heap.get? a=some {cls:=.type "list",data:=.seq vs.toArray}) (hi:IntsAre vs ns) (hl:ns.length≤sizeLine) (hr:Zec k callerA)
    (F:∀base:Heap,K.In base→base.Ns mainGlobals mg→Zam P w K mg base CX k fa fd [x] sp) (hbind:∀(s:Shared) (u:Value),BindsTo s fd ⟨[u],[]⟩ [(x,u)])
    (hsp:∀H:Hp,Only H→SqL K H a (ns.map V.int)→sp [.ref a] H (fun v _=>v=.bl true) fun _ _ _=>False)
    (hCX:∀H e s',CX [] H s₁ (fun _ _ _=>False) e s'→False) :
    codeAny (model P w) callerA (.call (.ref fa) ⟨[.ref a],[]⟩) (fun r s'=>r=.ok (.ret (.bool true))∧OldK s₁.heap s'.heap∧s'.os=s₁.os∧AllBare s'.gens) s₁:=by
  have rv:=Zdi hi
  have lenV:=hi.length
  have core:∀H:Hp,Only H→SqL K H a (ns.map V.int)→HOk P w H s₁.heap→(∀b,H b≠none→b=a)→(H a≠none→K.lookup a=none)→
      codeAny (model P w) callerA (.call (.ref fa) ⟨[.ref a],[]⟩) (fun r s'=>r=.ok (.ret (.bool true))∧OldK s₁.heap s'.heap∧s'.os=s₁.os∧AllBare s'.gens) s₁:=by
    intro H hO hS hok hA hK
    have base_of:∀{b:Addr} {o:Obj},s₁.heap.get? b=some o→H b=none→(Zrz s₁.heap H).get? b=some o:=fun e n=>Zpx e n
    have noA:∀{b:Addr} {o:Obj} {es:Array DictEntry} {ep:Nat},s₁.heap.get? b=some o→o.data=.dict es ep→H b=none:=fun {b o es ep} e d=>by
      cases q:H b with
      | none=>rfl
      | some u =>
        have e':b=a:=hA b (by rw [q];simp)
        subst e'
        rw [ha] at e;cases e
        have d':Data.seq vs.toArray _=Data.dict es ep:=d
        cases d'
    have nsK:∀{b:Addr} {m:Str→Option Value},s₁.heap.Ns b m→(Zrz s₁.heap H).Ns b m:=fun {b m} ⟨o,es,ep,e,d,r⟩=>⟨o,es,ep,base_of e (noA e d),d,r⟩
    have hKb:K.In (Zrz s₁.heap H):=fun b o e=>base_of (KX b o e) (by
      cases q:H b with
      | none=>rfl
      | some u =>
        have e':b=a:=hA b (by rw [q];simp)
        subst e'
        rw [hK (by rw [q];simp)] at e;cases e)
    have hM:Mod K mg (Zrz s₁.heap H):=⟨hKb,nsK hns,⟨mb,nsK hb,hbb⟩,let ⟨mc,h1,h2⟩:=hlim;⟨mc,nsK h1,h2⟩⟩
    have e0:Xjl P w K mg (Zrz s₁.heap H) callerA [] s₁ H:=⟨rfl,hM,fun b o e=>Zwa e,Nat.le_of_eq (Zlx _ _),trivial,fun b hb=>absurd (show b∈([]:List Addr) from hb) (by simp),hok,.of_eq hg⟩
    refine codeAny_mono ((F _ hKb (nsK hns)).run callerA [] s₁ H ⟨[.ref a],[]⟩ [.ref a] [.ref a] _ _ hr e0 (hbind s₁ (.ref a)) (.cons rfl .nil) (hsp H hO hS)) fun r s' h=>?_
    cases r with
    | error e=>exact (hCX H e s' h).elim
    | ok fl =>
      cases fl with
      | next=>exact False.elim h
      | brk=>exact False.elim h
      | cont=>exact False.elim h
      | ret u =>
        obtain ⟨v,H',os,bare,un,hok',r',q⟩:=h
        have q':v=.bl true:=q
        subst q'
        obtain rfl:u=Value.bool true:=r'
        refine ⟨rfl,OldK.of_keep fun b o e=>?_,os,bare⟩
        cases q:H b with
        | none=>exact un.keep b o e q (by intro z;exact absurd (show b∈([]:List Addr) from z) (by simp)) (by simp)
        | some u =>
          rcases hO b with z | ⟨ob,xs,z⟩
          · rw [q] at z;cases z
          · have z2:=un.frzs b ob _ z
            obtain ⟨e1,_⟩:=hok b _ z
            obtain ⟨e2,_⟩:=hok' b _ z2
            rw [e] at e1;cases e1
            exact e2
  cases hk:K.lookup a with
  | some o =>
    have e:=KX a o hk
    rw [ha] at e
    cases e
    refine core (fun _=>none) (fun _=>.inl rfl) (.inr ⟨_,vs.toArray,_,hk,rfl,rfl,rfl,by rw [size_toArray,lenV];exact hl,by simpa using rv⟩) (fun b u z=>by have z':(none:Option HO)=some u:=z;cases z') (fun b z=>absurd rfl z) fun z=>absurd rfl z
  | none =>
    refine core (fun b=>if b=a then some (.frz {cls:=.type "list",data:=.seq vs.toArray} (.lst (ns.map V.int))) else none) (fun b=>?_) (.inl (.inr ⟨{cls:=.type "list",data:=.seq vs.toArray},if_pos rfl⟩)) (fun b u z=>?_) (fun b z=>?_) fun _=>hk
    · by_cases hb:b=a
      · exact .inr ⟨_,_,if_pos hb⟩
      · exact .inl (if_neg hb)
    · by_cases hb:b=a
      · have z':=(if_pos hb).symm.trans z
        cases z'
        subst hb
        exact ⟨ha,by rw [length_map];exact hl,vs,_,rv,ha⟩
      · have z':=(if_neg hb).symm.trans z
        cases z'
    · by_cases hb:b=a
      · exact hb
      · exact absurd (if_neg hb) z
noncomputable abbrev KOf {K:Frag}{h:Heap}(_:K.In h):Frag:=K
theorem walk_of {l:PySem.W.OpenLaw}{n k:Nat}{q:Program}{loose:List Str}{XP:(Str→Option Value)→Heap→Prop}{YP:World→Heap→Prop}{d:DefRec}{K:Params→Frag}{CX:World→CXT}{sp:World→Sp}{x:Str}
    (hn:l.most=some n) (hn2:n≤sizeLine) (hdf:d.params.defaults=[]) (hr:Zec k callerA)
    (hY:∀(w:World) (h:Heap),YP w h→(K w.params).In h)
    (F:∀(w:World) (mg:Str→Option Value) (fa:Addr) (h:Heap),(K w.params).In h→h.Ns mainGlobals mg→mg d.name=some (.ref fa)→
      ∃fd:FuncData,(∀(s:Shared) (u:Value),BindsTo s fd ⟨[u],[]⟩ [(x,u)])∧
        ∀base:Heap,(K w.params).In base→base.Ns mainGlobals mg→Zam l.prog w (K w.params) mg base (CX w) k fa fd [x] (sp w))
    (hsp:∀(w:World) (H:Hp) (a:Addr) (ns:List Int),ns.length≤n→Only H→SqL (K w.params) H a (ns.map V.int)→sp w [.ref a] H (fun v _=>v=.bl true) fun _ _ _=>False)
    (hCX:∀(w:World) (H:Hp) (s:Shared) (e:Value) (s':Shared),CX w [] H s (fun _ _ _=>False) e s'→False) :
    PySem.W.WalkO q loose XP YP l.row.toRowW d [] (fun f vs=>PySem.call f vs):=by
  refine Att.attach_call hn hdf fun w s₀ s₁ mg mb fa o pm cd doc a vs ns G Y ho hd hcd hmg hobj hints hlen hg=>?_
  have KX:=hY w _ Y
  obtain ⟨fd,hb,hF⟩:=F w mg fa _ KX G.T.g hmg
  exact Zyr KX G.T.g G.T.b G.T.builtins G.T.nolimit hg hobj hints (le_trans hlen hn2) hr hF hb (fun H hO hS=>hsp w H a ns hlen hO hS) fun H e s'=>hCX w H s₁ e s'
noncomputable def Zfx (s:Stmt):Arguments:=match s with
 | .FunctionDef _ a _ _ _ _ _ _ _ _=>a
 | _=>{posonlyargs:=[],args:=[],vararg:=none,kwonlyargs:=[],kw_defaults:=[],kwarg:=none,defaults:=[]}
noncomputable def Zbo (s:Stmt):List Stmt:=match s with
 | .FunctionDef _ _ b _ _ _ _ _ _ _=>b
 | _=>[]
noncomputable def Zk (s:Stmt):Scope:=match s with
 | .FunctionDef _ _ _ _ _ _ sc _ _ _=>sc
 | _=>{kind:=.function,names:=[],isGenerator:=false,isCoroutine:=false}
noncomputable abbrev CX0:CXT:=fun _ _ _ _ _ _=>False
noncomputable abbrev E0:XK:=fun _ _ _=>False
theorem Ye {X:Cx}:Zho CX0 X E0:=fun _ _ _ _ _ _ _ h=>h.elim
structure Fun (K:Frag)(x qual:Str)(st:Stmt)(f:Addr)(fd:FuncData):Prop where
 ex:∃(oc:Value) (od:Option Addr) (kV doc pm:Value) (an:Option Addr) (cdv ct:Value) (osl:Array (Option Value)),
  fd=fnOf x qual (Zfx st) (Zbo st) (Zk st) .none kV doc pm an cdv ct∧K.lookup f=some ⟨oc,od,.func fd,osl⟩∧codeIn K cdv qual=true
 kp:keepIn K (.ref f)=true
section
variable {P:Program}{w:World}{K:Frag}{mg:Str→Option Value}{base:Heap}
theorem Fun.ok {x qual:Str}{st:Stmt}{f:Addr}{fd:FuncData}{N ps:List Str}{k:Nat}{sp:Sp}(F:Fun K x qual st f fd)(S:Xd N ps (Zk st))(len:∀vs H Q E,sp vs H Q E→vs.length=ps.length)
    (hbody:∀(cdv:Value) (A:Around) (outer:List Env) (s:Shared) (H:Hp) (vs:List V) (Q:VK) (E:XK),Zec k (A.deeper (envOfC qual (Zk st) s.heap.objs.size f cdv))→sp vs H Q E→
      ∃t,PSs (Zxz CX0 P w K mg base N qual (Zk st) f cdv A outer s H E).nox (Zbo st) t∧t {nx:=fun _ H'=>Q .non H',rt:=Q} (start N vs) H):Zam P w K mg base CX0 (k+1) f fd ps sp:=by
  obtain ⟨oc,od,kV,doc,pm,an,cdv,ct,osl,rfl,lk,hcd⟩:=F.ex
  refine Xjs lk hcd S len fun A outer s H vs Q E hr hsp=>?_
  obtain ⟨t,h,q⟩:=hbody cdv A outer s H vs Q E hr hsp
  exact ⟨t,h.nox,q⟩
theorem Fun.binds {x qual:Str}{st:Stmt}{f:Addr}{fd:FuncData}{ps:List Str}(F:Fun K x qual st f fd)
  (h:∀(kV doc pm:Value) (an:Option Addr) (cdv ct:Value) (us:List Value),us.length=ps.length→bindArgs (fnOf x qual (Zfx st) (Zbo st) (Zk st) .none kV doc pm an cdv ct) ⟨us,[]⟩=pure (ps.zip us)):Binds K fd ps []:=by
 obtain ⟨oc,od,kV,doc,pm,an,cdv,ct,osl,rfl,lk,hcd⟩:=F.ex
 exact .all (h kV doc pm an cdv ct)
variable {X:Cx}
theorem pv (i:Nat){x:Str}{pos:Pos}(hN:X.N[i]?=some x:=by rfl)(hv:autoParam (Vis X.env.scope x) aT3._auto_1)(hd:(x==("__debug__":Str))=false:=by decide)
  (hcd:(x==("__classdict__":Str))=false:=by decide):PE X (.Name x pos) (Zmr i):=Xjy hN hv hd hcd
end
def Xw (H H':Hp):Prop:=∀b o,H b=some o→H' b=some o
theorem Xw.refl (H:Hp):Xw H H:=fun _ _ h=>h
theorem Xw.trans {H H1 H2:Hp}(a:Xw H H1)(b:Xw H1 H2):Xw H H2:=fun c o h=>b c o (a c o h)
theorem Xw.free {H H':Hp}(e:Xw H H'){l:Addr}(h:H' l=Option.none):H l=Option.none:=by
 cases q:H l with
 | none=>rfl
 | some o =>
  rw [e l o q] at h
  cases h
theorem Xe {a b:Expr}{op:Operator}{pos:Pos}{es:List Expr}{env:Env}:starEach (.BinOp a op b pos::es) env=(false,eval (.BinOp a op b pos) env)::starEach es env:=rfl
theorem Zf {c:Const}{k:Nat}{pos:Pos}{es:List Expr}{env:Env}:starEach (.Constant c k pos::es) env=(false,eval (.Constant c k pos) env)::starEach es env:=rfl
theorem Za {x:Str}{pos:Pos}{es:List Expr}{env:Env}:starEach (.Name x pos::es) env=(false,eval (.Name x pos) env)::starEach es env:=rfl
theorem Xj {a b:Expr}{pos:Pos}{es:List Expr}{env:Env}:starEach (.Subscript a b pos::es) env=(false,eval (.Subscript a b pos) env)::starEach es env:=rfl
theorem Xa {a:Expr}{as:List Expr}{ks:List Keyword}{pos:Pos}{es:List Expr}{env:Env}:starEach (.Call a as ks pos::es) env=(false,eval (.Call a as ks pos) env)::starEach es env:=rfl
theorem Ziv {as:List Expr}{pos:Pos}{es:List Expr}{env:Env}:starEach (.List as pos::es) env=(false,eval (.List as pos) env)::starEach es env:=rfl
theorem Zlb {as:List Expr}{k:Nat}{pos:Pos}{es:List Expr}{env:Env}:starEach (.Tuple as k pos::es) env=(false,eval (.Tuple as k pos) env)::starEach es env:=rfl
theorem Zhn {a:Expr}{ops:List CmpOp}{as:List Expr}{pos:Pos}{es:List Expr}{env:Env}:starEach (.Compare a ops as pos::es) env=(false,eval (.Compare a ops as pos) env)::starEach es env:=rfl
theorem Yf {a:Expr}{gs:List Comprehension}{sc:Scope}{pos:Pos}{es:List Expr}{env:Env}:starEach (.ListComp a gs sc pos::es) env=(false,eval (.ListComp a gs sc pos) env)::starEach es env:=rfl
theorem Zbl {a b:Expr}{pos:Pos}:Zca (.Subscript a b pos):=fun _ _=>rfl
theorem Zz {x:Str}{pos:Pos}:Zca (.Name x pos):=fun _ _=>rfl
theorem Zj {c:Const}{k:Nat}{pos:Pos}:Zca (.Constant c k pos):=fun _ _=>rfl
theorem plain_bin {a b:Expr}{op:Operator}{pos:Pos}:Zca (.BinOp a op b pos):=fun _ _=>rfl
theorem Zdv {a:Expr}{op:UnaryOp}{pos:Pos}:Zca (.UnaryOp op a pos):=fun _ _=>rfl
noncomputable def Xbi:R2:=fun x y H Q=>rI0 (fun i j=>.int (i+j)) x y H Q∨(∃i j,x=.str i∧y=.str j∧i.length+j.length≤sizeLine∧Q (.str (i++j)) H)∨rCat x y H Q
noncomputable def Zyj:R2:=fun x y H Q=>rI Xje (fun i j=>.int (i*j)) x y H Q∨rRep x y H Q
def Xmc (_ j:Int):Prop:=0<j∧j<2 ^ 200
section
variable {X:Cx}
theorem Xb:OpR X (binaryOp .Add) Xbi:=Xmu.or (Zto.or Xlg)
theorem Xy:OpR X (binaryOp .Mult) Zyj:=Xkn.or Xoh
theorem log2_small {j:Int}(h1:0<j)(h2:j<2 ^ 200):j.natAbs.log2<9000:=by
 have h3:j.natAbs<2 ^ 200:=by omega
 exact lt_trans ((Nat.log2_lt (by omega)).mpr h3) (by decide)
theorem Zre:OpR X (binaryOp .FloorDiv) (rI Xmc fun i j=>.int (i / j)):=opI fun i j _ _ _ _ _ hc q=>by
 have h1:(0:Int)<j:=hc.1
 have h2:j<2 ^ 200:=hc.2
 exact floordiv_int (by omega) (by rw [Int.fdiv_eq_ediv_of_nonneg i (by omega)];exact q) (.inl (PyProof.noPylong_of_log2 (log2_small h1 h2)))
end
mutual
inductive Dn (K:Frag)(H:Hp):V→PyData→Prop
 | non:Dn K H .non .none
 | bl (b:Bool):Dn K H (.bl b) (.bool b)
 | int (i:Int):Dn K H (.int i) (.int i)
 | str (x:Str):Dn K H (.str x) (.str x)
 | lst {a:Addr} {xs:List V} {ds:List PyData}:SqL K H a xs→DnA K H xs ds→Dn K H (.ref a) (.list ds)
 | tup {a:Addr} {xs:List V} {ds:List PyData}:SqT K H a xs→DnA K H xs ds→Dn K H (.ref a) (.tuple ds)
inductive DnA (K:Frag)(H:Hp):List V→List PyData→Prop
 | nil:DnA K H [] []
 | cons {x:V} {d:PyData} {xs:List V} {ds:List PyData}:Dn K H x d→DnA K H xs ds→DnA K H (x::xs) (d::ds)
end
section
variable {X:Cx}{pins:List (Addr×Obj)}{σ:St}{H:Hp}{s:Shared}
mutual
theorem Dn.reads (I:Inv X pins σ H s):∀{x:V} {d:PyData} {u:Value},Dn X.K H x d→RelV x u→∃as,Reads s.heap u d as
 | _,_,_,.non,r=>by cases (show _=Value.none from r);exact ⟨_,.none⟩
 | _,_,_,.bl b,r=>by cases (show _=Value.bool b from r);exact ⟨_,.bool b⟩
 | _,_,_,.int i,r=>by obtain ⟨t,q⟩:=(show ∃t,_=Value.int i t from r);cases q;exact ⟨_,.int i t⟩
 | _,_,_,.str x,r=>by obtain ⟨t,q⟩:=(show ∃t,_=Value.str x t from r);cases q;exact ⟨_,.str x t⟩
 | _,_,_,.lst (a:=a) h ra,r=>by
  cases (show _=Value.ref a from r)
  obtain ⟨its,rv,pl,_⟩:=I.list h
  obtain ⟨as,q⟩:=DnA.reads I ra rv
  obtain ⟨o,ho,hc,n,hd⟩:=pl.isList
  exact ⟨_,.list ho hc hd q⟩
 | _,_,_,.tup (a:=a) h ra,r=>by
  cases (show _=Value.ref a from r)
  obtain ⟨its,rv,pl,_⟩:=I.tuple h
  obtain ⟨as,q⟩:=DnA.reads I ra rv
  obtain ⟨o,ho,hc,n,hd⟩:=pl
  exact ⟨_,.tuple ho hc hd q⟩
theorem DnA.reads (I:Inv X pins σ H s):∀{xs:List V} {ds:List PyData} {us:List Value},DnA X.K H xs ds→Jn xs us→∃as,ReadsAll s.heap us ds as
 | _,_,_,.nil,.nil=>⟨_,.nil⟩
 | _,_,_,.cons h ra,.cons r rs=>by
  obtain ⟨as,q⟩:=Dn.reads I h r
  obtain ⟨bs,q'⟩:=DnA.reads I ra rs
  exact ⟨_,.cons q q'⟩
end
end
noncomputable def rEqD (K:Frag):R2:=fun x y H Q=>∃dx dy,Dn K H x dx∧Dn K H y dy∧SeqAt.shaped dx=true∧SeqAt.shaped dy=true∧Q (.bl (PyData.eqv dx dy)) H
noncomputable def rNeD (K:Frag):R2:=fun x y H Q=>∃dx dy,Dn K H x dx∧Dn K H y dy∧SeqAt.shaped dx=true∧SeqAt.shaped dy=true∧Q (.bl (!PyData.eqv dx dy)) H
noncomputable def Zsj (K:Frag):R2:=fun x y H Q=>rEq x y H Q∨rEqD K x y H Q
noncomputable def Zzk (K:Frag):R2:=fun x y H Q=>rNe x y H Q∨rNeD K x y H Q
section
variable {X:Cx}
theorem Xnc (hu:X.A.units+64<cLine):OpR X (compareOp .Eq) (rEqD X.K):=by
 intro pins s σ H x y v u Q I rx ry h
 obtain ⟨dx,dy,h1,h2,s1,s2,q⟩:=h
 obtain ⟨as,ra⟩:=h1.reads I rx
 obtain ⟨bs,rb⟩:=h2.reads I ry
 exact eq_dataH ra rb s1 s2 hu ⟨.bl _,H,I,rfl,q⟩
theorem Xkk (hu:X.A.units+64<cLine):OpR X (compareOp .NotEq) (rNeD X.K):=by
 intro pins s σ H x y v u Q I rx ry h
 obtain ⟨dx,dy,h1,h2,s1,s2,q⟩:=h
 obtain ⟨as,ra⟩:=h1.reads I rx
 obtain ⟨bs,rb⟩:=h2.reads I ry
 exact ne_dataH ra rb s1 s2 hu ⟨.bl _,H,I,rfl,q⟩
theorem Zdm (hu:X.A.units+64<cLine):OpR X (compareOp .Eq) (Zsj X.K):=op_eq.or (Xnc hu)
theorem Zhx (hu:X.A.units+64<cLine):OpR X (compareOp .NotEq) (Zzk X.K):=op_ne.or (Xkk hu)
end
def Ys (K:Frag):List V→Hp→VK→Prop:=fun xs H Q=>(∃p ys,xs=[.ref p]∧(SqL K H p ys∨SqT K H p ys)∧Q (.int ys.length) H)∨∃z,xs=[.str z]∧z.length≤sizeLine∧Q (.int z.length) H
def Xgo (K:Frag):List V→Hp→VK→Prop:=fun xs H Q=>∃(p:Addr) (ns:List Int),xs=[.ref p]∧SqL K H p (ns.map V.int)∧Q (.int ns.sum) H
def Xjn (K:Frag):List V→Hp→VK→Prop:=fun xs H Q=>∃x c t b,xs=[x,.ty c]∧TyOf K H x t∧kitOne K t (.type c)=some b∧Q (.bl b) H
noncomputable def Zok (lo:Int)(n:Nat):List V:=(List.range n).map fun (k:Nat)=>V.int (lo+(k:Int))
def Zpt (K:Frag):List V→Hp→VK→Prop:=fun xs H Q=>(∃p ys,xs=[.ref p]∧(SqL K H p ys∨SqT K H p ys)∧∀l,H l=none→Q (.ref l) (upd H l (.lst ys)))∨
 ∃p i j,xs=[.ref p]∧H p=some (.rng i j)∧-(2 ^ 62)≤i∧i<2 ^ 62∧-(2 ^ 62)≤j∧j<2 ^ 62∧(j - i).toNat≤1000000∧∀l,H l=none→Q (.ref l) (upd H l (.lst (Zok i (j - i).toNat)))
section
variable {X:Cx}
theorem Zs:Zav X (.builtin "len") (Ys X.K):=Zmc.or Zmp
theorem Zhj (hc:X.calm=true):Zav X (.builtin "sum") (Xgo X.K):=by
 intro pins s σ H xs us Q I r h
 obtain ⟨p,ns,rfl,hq,q⟩:=h
 obtain ⟨u,rfl,rx⟩:=vals1 r
 cases rx
 obtain ⟨its,rv,pl,hz⟩:=I.list hq
 have hi:IntsAre its ns:=intsAre_of rv
 obtain ⟨xs,hxs⟩:=hi.allInts.items
 have hn:numsOf its.toArray.toList=ns:=by rw [show its.toArray.toList=its from rfl,hi.numsOf]
 have hl:=pl.isList
 rw [hxs] at hl hn
 rw [nums_intItems] at hn
 refine sum_intListG (I.ok.hd hc) hl fun h' tk t' hk=>⟨.int ns.sum,H,I.kept hk,⟨t',?_⟩,q⟩
 rw [preSum_eq,take_of_length_le (by simp),hn]
theorem Zpr:Zav X (.builtin "isinstance") (Xjn X.K):=by
 intro pins s σ H xs us Q I r h
 obtain ⟨x,c,t,b,rfl,ty,e,q⟩:=h
 obtain ⟨u,w',rfl,rx,ry⟩:=vals2 r
 cases (show w'=Value.type c from ry)
 exact Zvi I rx ty e fun tk=>⟨.bl b,H,I.tok _,rfl,q⟩
theorem Zla (hc:X.calm=true):Zav X (.type "list") (fun xs H Q=>∃p i j,xs=[.ref p]∧H p=some (.rng i j)∧-(2 ^ 62)≤i∧i<2 ^ 62∧-(2 ^ 62)≤j∧j<2 ^ 62∧(j - i).toNat≤1000000∧
    ∀l,H l=none→Q (.ref l) (upd H l (.lst (Zok i (j - i).toNat)))):=by
  intro pins s σ H xs us Q I r h
  obtain ⟨p,i,j,rfl,hH,h1,h2,h3,h4,h5,q⟩:=h
  obtain ⟨u,rfl,rx⟩:=vals1 r
  cases rx
  obtain ⟨t,u,v,e⟩:=I.hok p _ hH
  have en:Builtin.Range.rangeSize i j 1=(((j - i).toNat:Nat):Int):=by rw [rangeSize_one];split<;>omega
  refine call_list_range (n:=(j - i).toNat) (I.ok.hd hc) e (small_one h1 h2 h3 h4) en (le_trans h5 (by decide)) fun h' tk acc' c' hk hg hit=>?_
  refine ⟨.ref s.heap.objs.size,_,I.laid (t':=tk) hk (le_refl _) (show Zay X.prog X.w _ h' _ (.lst (Zok i (j - i).toNat)) from ⟨?_,acc'.toList,c',?_,?_⟩),rfl,q _ I.fresh⟩
  · unfold Zok
    rw [length_map,length_range]
    exact le_trans h5 (by decide)
  · obtain ⟨hsz,hv⟩:=hit
    have key:∀(k:Nat) (l:List Value) (lo:Int),l.length=k→(∀(m:Nat) (v:Value),l[m]?=some v→∃t,v=Value.int (lo+(m:Int)) t)→Jn (Zok lo k) l:=by
      intro k
      induction k with
      | zero =>
        intro l lo hl _
        rw [List.length_eq_zero_iff.mp hl]
        exact .nil
      | succ k ih =>
        intro l lo hl hv
        cases l with
        | nil=>simp at hl
        | cons x l =>
          obtain ⟨t,e⟩:=hv 0 x (by simp)
          have er:Zok lo (k+1)=V.int lo::Zok (lo+1) k:=by
            unfold Zok
            rw [List.range_succ_eq_map,map_cons,map_map]
            congr 1
            · simp
            · apply map_congr_left
              intro m _
              show V.int (lo+((m+1:Nat):Int))=V.int (lo+1+(m:Int))
              congr 1
              omega
          rw [er]
          refine .cons ⟨t,?_⟩ (ih l (lo+1) (by simpa using hl) fun m v hm=>?_)
          · rw [e]
            congr 1
            simp
          · obtain ⟨t',e'⟩:=hv (m+1) v (by simpa using hm)
            refine ⟨t',?_⟩
            rw [e']
            congr 1
            omega
    refine key _ _ i (by simpa using hsz) fun m v hm=>?_
    obtain ⟨t,e⟩:=hv m v (by simpa using hm)
    exact ⟨t,by rw [e];congr 1;omega⟩
  · simpa using hg
theorem Zga (hc:X.calm=true):Zav X (.type "list") (Zpt X.K):=Znt.or (Zla hc)
end
structure Def (P:Program)(w:World)(K:Frag)(mg:Str→Option Value)(base:Heap)(CX:CXT)(k:Nat)(x:Str)(ps:List Str)(sp:Sp):Prop where
 ex:∃f fd,mg x=some (.ref f)∧keepIn K (.ref f)=true∧Binds K fd ps []∧Zam P w K mg base CX k f fd ps sp
theorem Zsg {X:Cx}{CX:CXT}{k:Nat}{ps:List Str}{sp:Sp}{E:XK}{x:Str}{p pos:Pos}{e:Expr}{es:List Expr}{t:TA}(D:Def X.prog X.w X.K X.mg X.base CX k x ps sp)(hr:Zec k X.A)(hg:Gl X x)(hx:Zho CX X E)
  (ha:PA X (e::es) t) (hdb:(x==("__debug__":Str))=false:=by decide) (he:starEach (e::es) X.env=(false,eval e X.env)::starEach es X.env:=by rfl) (hpl:(backTo pos (starEach es X.env)).any (·.1)=false:=by rfl) :
  PE X (.Call (.Name x p) (e::es) [] pos) (Zpn sp [] E t):=by
 obtain ⟨f,fd,m,kp,b,F⟩:=D.ex
 exact Xjc F hr hg m kp b .nil hx ha hdb he hpl
section
variable {σ:St}{H:Hp}{Q:VK}{D:Ends}{K:Frag}
theorem rd_I {C:Int→Int→Prop}{g:Int→Int→V}{i j:Int}(c:C i j)(q:Q (g i j) H):rI C g (.int i) (.int j) H Q:=⟨i,j,rfl,rfl,c,q⟩
theorem rd_I0 {g:Int→Int→V}{i j:Int}(q:Q (g i j) H):rI0 g (.int i) (.int j) H Q:=⟨i,j,rfl,rfl,q⟩
theorem rd_U {g:Int→V}{i:Int}(q:Q (g i) H):rU g (.int i) H Q:=⟨i,rfl,q⟩
theorem Xjw {i j:Int}(q:Q (.int (i+j)) H):Xbi (.int i) (.int j) H Q:=.inl ⟨i,j,rfl,rfl,q⟩
theorem Xll {i j:Int}(c:Xje i j)(q:Q (.int (i*j)) H):Zyj (.int i) (.int j) H Q:=.inl ⟨i,j,rfl,rfl,c,q⟩
theorem Xgg {sp:Sp}{E:XK}{t:TA}(q:t σ H fun vs H1=>sp vs H1 Q E):Zpn sp [] E t σ H Q:=by
 show t σ H fun vs H1=>sp (vs++[]) H1 Q E
 have e:(fun vs H1=>sp (vs++[]) H1 Q E)=fun vs H1=>sp vs H1 Q E:=by
  funext vs H1
  rw [append_nil]
 rw [e]
 exact q
theorem Xkl {p:Addr}{xs:List V}{i:Int}{v:V}(h:SqL K H p xs)(e:atI xs i=some v)(q:Q v H):rIx K (.ref p) (.int i) H Q:=.inl ⟨p,xs,i,v,rfl,rfl,h,e,q⟩
theorem Xol {p:Addr}{xs:List V}{i:Int}{v:V}(h:SqT K H p xs)(e:atI xs i=some v)(q:Q v H):rIx K (.ref p) (.int i) H Q:=.inr (.inl ⟨p,xs,i,v,rfl,rfl,h,e,q⟩)
theorem Zxn {p:Addr}{ys:List V}(h:SqL K H p ys)(q:Q (.int ys.length) H):Ys K [.ref p] H Q:=.inl ⟨p,ys,rfl,.inl h,q⟩
theorem Xei {p:Addr}{ys:List V}(h:SqT K H p ys)(q:Q (.int ys.length) H):Ys K [.ref p] H Q:=.inl ⟨p,ys,rfl,.inr h,q⟩
theorem Xfx {z:Str}(h:z.length≤sizeLine)(q:Q (.int z.length) H):Ys K [.str z] H Q:=.inr ⟨z,rfl,h,q⟩
theorem Xmb {l:Addr}{xs:List V}{y:V}(h:H l=some (.lst xs))(hz:xs.length<sizeLine)(q:Q .non (upd H l (.lst (xs++[y])))):Zcr (.ref l) [y] H Q:=⟨l,xs,y,rfl,rfl,h,hz,q⟩
theorem Xdn {a:Addr}{xs:List V}{lo hi:Option Int}(h:SqL K H a xs)(q:∀p,H p=none→Q (.ref p) (upd H p (.lst (Xch xs lo hi)))):rSlL K (.ref a) lo hi H Q:=⟨a,xs,rfl,h,q⟩
theorem Xni {a b:Addr}{xs zs:List V}(h1:H a=some (.lst xs))(h2:H b=some (.lst zs))(hz:xs.length+zs.length≤sizeLine)(q:∀p,H p=none→Q (.ref p) (upd H p (.lst (xs++zs)))):Xbi (.ref a) (.ref b) H Q:=
 .inr (.inr ⟨a,b,xs,zs,rfl,rfl,h1,h2,hz,q⟩)
theorem Xka {l:Addr}{k:Int}{xs:List V}(h:H l=some (.lst xs))(h1:-(2 ^ 63)≤k)(h2:k<2 ^ 63)(hz:xs.length*k.toNat≤sizeLine)(q:∀p,H p=none→Q (.ref p) (upd H p (.lst (List.replicate k.toNat xs).flatten))):Zyj (.ref l) (.int k) H Q:=
 .inr ⟨l,k,xs,rfl,rfl,h,h1,h2,hz,q⟩
theorem Xnp {p:Addr}{ns:List Int}(h:SqL K H p (ns.map V.int))(q:Q (.int ns.sum) H):Xgo K [.ref p] H Q:=⟨p,ns,rfl,h,q⟩
theorem Xlf {x:V}{c:String}{t:Value}{b:Bool}(h:TyOf K H x t)(e:kitOne K t (.type c)=some b)(q:Q (.bl b) H):Xjn K [x,.ty c] H Q:=⟨x,c,t,b,rfl,h,e,q⟩
theorem Xbv {p:Addr}{ys:List V}(h:SqL K H p ys)(q:∀l,H l=none→Q (.ref l) (upd H l (.lst ys))):Zpt K [.ref p] H Q:=.inl ⟨p,ys,rfl,.inl h,q⟩
theorem Xce {p:Addr}{i j:Int}(h:H p=some (.rng i j))(h1:-(2 ^ 62)≤i)(h2:i<2 ^ 62)(h3:-(2 ^ 62)≤j)(h4:j<2 ^ 62)(h5:(j - i).toNat≤1000000)(q:∀l,H l=none→Q (.ref l) (upd H l (.lst (Zok i (j - i).toNat)))):Zpt K [.ref p] H Q:=
 .inr ⟨p,i,j,rfl,h,h1,h2,h3,h4,h5,q⟩
end
structure QE (X:Cx)(e:Expr)(t:TE):Prop where
 out:PE X e t
structure QT (X:Cx)(e:Expr)(t:TT):Prop where
 out:PT X e t
structure QW (X:Cx)(e:Expr)(t:TT):Prop where
 out:PW X e t
structure QA (X:Cx)(es:List Expr)(t:TA):Prop where
 out:PA X es t
structure QO (X:Cx)(e:Option Expr)(t:TO):Prop where
 out:PO X e t
structure QG (X:Cx)(e:Expr)(t:TG):Prop where
 out:PG X e t
structure QGs (X:Cx)(es:List Expr)(t:TGs):Prop where
 out:PGs X es t
structure QI (X:Cx)(tg iter:Expr)(wi:TI):Prop where
 out:PI X tg iter wi
structure QS (X:Cx)(st:Stmt)(t:TS):Prop where
 out:PS X st t
structure QSs (X:Cx)(st:List Stmt)(t:TS):Prop where
 out:PSs X st t
section
variable {X:Cx}{a b c e st o tg iter:Expr}{rest es:List Expr}{ta tb tc te ts to:TE}{tA tB':TT}{t:TA}{pos p p2 apos cpos:Pos}
theorem Ztz {i:Int}{j:Nat}:QE X (.Constant (.int i) j pos) (tC (.int i)):=⟨Xkx⟩
theorem qe_bl {i:Bool}{j:Nat}:QE X (.Constant (.bool i) j pos) (tC (.bl i)):=⟨Xmd⟩
theorem Xjq {j:Nat}:QE X (.Constant .none j pos) (tC .non):=⟨Xlz⟩
theorem Xns {x:Str}{j:Nat}:QE X (.Constant (.str x) j pos) (tC (.str x)):=⟨Xly⟩
theorem qv (i:Nat){x:Str}(hN:X.N[i]?=some x:=by rfl)(hv:autoParam (Vis X.env.scope x) aT3._auto_1)(hd:(x==("__debug__":Str))=false:=by decide)
  (hcd:(x==("__classdict__":Str))=false:=by decide):QE X (.Name x pos) (Zmr i):=⟨pv i hN hv hd hcd⟩
theorem Xeq {x:Str}{v:V}{u:Value}(hg:Gl X x)(hm:X.mg x=none)(hv:bootBuiltins x=some u)(r:RelV v u)(hn:x≠"__name__":=by decide)(hd:(x==("__debug__":Str))=false:=by decide):QE X (.Name x pos) (tC v):=⟨Xho hg hm hv r hn hd⟩
theorem Xlw {op:Operator}{r:R2}(ho:OpR X (binaryOp op) r)(ha:QE X a ta)(hb:QE X b tb):QE X (.BinOp a op b pos) (tOp r ta tb):=⟨pe_op ho ha.out hb.out⟩
theorem qe_un {op:UnaryOp}{r:V→Hp→VK→Prop}(ho:UnR X (unaryOp op) r)(ha:QE X a ta):QE X (.UnaryOp op a pos) (tUn r ta):=⟨pe_un ho ha.out⟩
theorem Xgh {op:CmpOp}{r:R2}(ho:OpR X (compareOp op) r)(ha:QE X a ta)(hb:QE X b tb)(hm:behindInMarks op b=false):QE X (.Compare a [op] [b] pos) (tOp r ta tb):=⟨Xeo ho ha.out hb.out hm⟩
theorem Xex {op:CmpOp}{r:R2}(ho:OpR X (compareOp op) r)(ha:QE X a ta)(hb:QE X b tb)(hm:behindInMarks op b=false):QT X (.Compare a [op] [b] pos) (Zzl (tOp r ta tb)):=⟨Xib ho ha.out hb.out hm⟩
theorem Xao {op op':CmpOp}{r r':R2}(ho:OpR X (compareOp op) r)(ho':OpR X (compareOp op') r')(ha:QE X a ta)(hb:QE X b tb)(hc:QE X c tc)(hm:lastMarks [op,op'] [b,c]=false:=by with_unfolding_all rfl):QE X (.Compare a [op,op'] [b,c] pos) (Zqp r r' ta tb tc):=⟨Xbq ho ho' ha.out hb.out hc.out hm⟩
theorem Xlo {op:BoolOp}(h:QE X a ta):QE X (.BoolOp op [a] pos) ta:=⟨Xjp h.out⟩
theorem Xnd (ha:QE X a ta)(hb:QE X (.BoolOp .And (b::rest) pos) tb):QE X (.BoolOp .And (a::b::rest) pos) (Zzy ta tb):=⟨Xne ha.out hb.out⟩
theorem Xnn (ha:QE X a ta):QE X (.UnaryOp .Not a pos) (Xat ta):=⟨Xmp ha.out⟩
theorem Zzs (hc:QT X c tA)(ha:QE X a ta)(hb:QE X b tb):QE X (.IfExp c a b pos) (tIf tA ta tb):=⟨Xax hc.out ha.out hb.out⟩
theorem Xlx (h:QE X e te)(he:∀whole,isTrue e X.env whole=(do let v ← whole;standAt e.pos;holding [v] (truthy v)):=by intro _;rfl):QT X e (tB te):=⟨Xma h.out he⟩
theorem Xkg (ha:QT X a tA):QT X (.UnaryOp .Not a pos) (tNot tA):=⟨Xob ha.out⟩
theorem Xix (ha:QT X a tA):QW X (.BoolOp .And [a] pos) tA:=⟨Xft ha.out⟩
theorem Xmf (ha:QT X a tA):QW X (.BoolOp .Or [a] pos) tA:=⟨Xkj ha.out⟩
theorem Xog (ha:QT X a tA)(hb:QW X (.BoolOp .And (b::rest) pos) tB'):QW X (.BoolOp .And (a::b::rest) pos) (tAnd tA tB'):=⟨Xjx ha.out hb.out⟩
theorem qw_or (ha:QT X a tA)(hb:QW X (.BoolOp .Or (b::rest) pos) tB'):QW X (.BoolOp .Or (a::b::rest) pos) (tOr tA tB'):=⟨pw_or ha.out hb.out⟩
theorem qt_w (h:QW X a tA):QT X a tA:=⟨h.out.pt⟩
theorem Zme:QA X [] Zmh:=⟨Znl⟩
theorem Zdl (ha:QE X e te)(hr:QA X es t)(hs:starEach (e::es) X.env=(false,eval e X.env)::starEach es X.env):QA X (e::es) (Zbj te t):=⟨Zgh ha.out hr.out hs⟩
theorem Xki {x1:Nat}(h:QA X es t):QE X (.Tuple es x1 pos) (tTup t):=⟨Xmk h.out⟩
theorem Xcx (h:QA X es t):QE X (.List es pos) (Xjj t):=⟨Xnb h.out⟩
theorem Zxj {r:R2}(hr:IxR X r)(ha:QE X a ta)(hb:QE X b tb)(hs:Zca b):QE X (.Subscript a b pos) (tOp r ta tb):=⟨pe_ix hr ha.out hb.out hs⟩
theorem Xfg:QO X none Zkv:=⟨Xfl⟩
theorem Xfc (h:QE X e te):QO X (some e) (Xcd te):=⟨Xiy h.out⟩
theorem Zyn {r:V→Option Int→Option Int→Hp→VK→Prop}{lo hi:Option Expr}{tl th:TO}(hr:SlR X r)(he:QE X e te)(hl:QO X lo tl)(hu:QO X hi th):QE X (.Subscript e (.Slice lo hi none p2) pos) (tSl r te tl th):=⟨Xcq hr he.out hl.out hu.out⟩
theorem Xaj {CX:CXT}{k:Nat}{ps:List Str}{sp:Sp}{E:XK}{x:Str}(D:Def X.prog X.w X.K X.mg X.base CX k x ps sp)(hr:Zec k X.A)(hg:Gl X x)(hx:Zho CX X E)
  (ha:QA X (e::es) t) (hdb:(x==("__debug__":Str))=false:=by decide) (he:starEach (e::es) X.env=(false,eval e X.env)::starEach es X.env:=by rfl) (hpl:(backTo pos (starEach es X.env)).any (·.1)=false:=by rfl) :
  QE X (.Call (.Name x p) (e::es) [] pos) (Zpn sp [] E t):=⟨Zsg D hr hg hx ha.out hdb he hpl⟩
theorem Zsf {x:Str}{id:String}{r:List V→Hp→VK→Prop}(hc:Zav X (.builtin id) r)(hg:Gl X x)(hm:X.mg x=none)(hv:bootBuiltins x=some (.builtin id))(ha:QA X (e::es) t)(hn:x≠"__name__":=by decide)(hdb:(x==("__debug__":Str))=false:=by decide)
  (he:starEach (e::es) X.env=(false,eval e X.env)::starEach es X.env:=by rfl) (hpl:(backTo pos (starEach es X.env)).any (·.1)=false:=by rfl):QE X (.Call (.Name x p) (e::es) [] pos) (tCB r t):=⟨Xbe hc hg hm hv ha.out hn hdb he hpl⟩
theorem Zvg {x:Str}{T:String}{r:List V→Hp→VK→Prop}(hc:Zav X (.type T) r)(hg:Gl X x)(hm:X.mg x=none)(hv:bootBuiltins x=some (.type T))(ha:QA X (e::es) t)(hn:x≠"__name__":=by decide)(hdb:(x==("__debug__":Str))=false:=by decide)
  (he:starEach (e::es) X.env=(false,eval e X.env)::starEach es X.env:=by rfl) (hpl:(backTo pos (starEach es X.env)).any (·.1)=false:=by rfl):QE X (.Call (.Name x p) (e::es) [] pos) (tCB r t):=⟨Zvw hc hg hm hv ha.out hn hdb he hpl⟩
theorem Xel {name:Str}{T id:String}{r:V→List V→Hp→VK→Prop}(pa:PlainAttrs T)(slot:Slot T name id)(hty:typeOf (.builtin id)=pure (.type "method_descriptor"))(hm:MtR X id r)(ho:QE X o to)(ha:QA X (e::es) t)
    (hbase:attributeBase o name X.env (eval o X.env)=eval o X.env:=by rfl)
    (hfew:((backTo cpos (starEach (e::es) X.env)).all (fun x=>!x.1)&&(backToKw cpos (keywordEach [] X.env)).all (fun x=>x.1.isSome)
      && decide ((e::es).length+([]:List Keyword).length+(if ([]:List Keyword).isEmpty then 0 else 1)<30))=true:=by rfl)
    (hline:(apos.endLine==cpos.line)=true:=by rfl) (hs:starEach (e::es) X.env=(false,eval e X.env)::starEach es X.env:=by rfl) (hplain:(backTo cpos (starEach es X.env)).any (·.1)=false:=by rfl) :
    QE X (.Call (.Attribute o name apos) (e::es) [] cpos) (tBM X.K T r to t):=⟨pe_bm pa slot hty hm ho.out ha.out hbase hfew hline hs hplain⟩
theorem Zlt {i:Nat}{x:Str}(hN:X.N.Nodup)(hi:X.N[i]?=some x)(hx:Loc X.env.scope x)(hf:autoParam (X.fn x=true∨X.env.scope.names.lookup x=some .local) aT0._auto_1):QG X (.Name x pos) (Yj i):=⟨Xge hN hi hx hf⟩
theorem Zur {k:Nat}{tt:TGs}{n:Nat}(hc:X.calm=true)(h:QGs X es tt)(hn:(assignEach es X.env).length=n:=by rfl)(hst:(assignEach es X.env).findIdx? (·.1)=none:=by rfl):QG X (.Tuple es k pos) (Zdy X.K n tt):=⟨Xny hc h.out hn hst⟩
theorem Ztx:QGs X [] Zqr:=⟨Xip⟩
theorem Zsc {tt:TG}{u:TGs}(h1:QG X e tt)(h2:QGs X es u)(hs:(assignEach (e::es) X.env).map (·.2)=assign e X.env::(assignEach es X.env).map (·.2):=by rfl):QGs X (e::es) (Zcb tt u):=⟨Xbh h1.out h2.out hs⟩
theorem Zxw (hl:QE X e te):QI X tg e (Ztb X.K te):=⟨Xes hl.out⟩
theorem Zwg (hg:Gl X "range")(hm:X.mg "range"=none)(ha:QA X [a] t)(hs:starEach [a] X.env=[(false,eval a X.env)]:=by rfl):QI X tg (.Call (.Name "range" p) [a] [] pos) (Xan t):=⟨Zvc hg hm ha.out hs⟩
theorem Zxk (hg:Gl X "range")(hm:X.mg "range"=none)(ha:QA X [a,b] t)(hs:starEach [a,b] X.env=[(false,eval a X.env),(false,eval b X.env)]:=by rfl)(hs2:starEach [b] X.env=[(false,eval b X.env)]:=by rfl):QI X tg (.Call (.Name "range" p) [a,b] [] pos) (Zyc t):=⟨Zut hg hm ha.out hs hs2⟩
variable {s1:Stmt}{ss body other:List Stmt}{u v:TS}{pos':Pos}
theorem Xhj:QSs X [] Xaq:=⟨Xek⟩
theorem Zle (h1:QS X s1 u)(h2:QSs X ss v):QSs X (s1::ss) (Zup u v):=⟨Xcp h1.out h2.out⟩
theorem Zub (h1:QS X s1 u):QSs X [s1] u:=⟨Xhi h1.out⟩
theorem Zzx:QS X s1 Zqb:=⟨Xau⟩
theorem Zou (he:QE X e te)(hs:swapsWith e none pos.line X.env=pure false:=by rfl):QS X (.Expr e pos) (Zms te):=⟨Xif he.out hs⟩
theorem Xda (he:QE X e te):QS X (.Return (some e) pos) (Xji te):=⟨Xkw he.out⟩
theorem qs_if (hc:QT X c tA)(ha:QSs X body u)(hb:QSs X other v):QS X (.If c body other pos) (tIfS tA u v):=⟨ps_if hc.out ha.out hb.out⟩
theorem Xdi {g:TG}(he:QE X e te)(hg:QG X tg g)(hs:swapsWithSole [tg] e pos.line X.env=pure false:=by rfl)(hw:swappedStores [tg] e X.env=pure none:=by rfl)(h1:(assignEach [tg] X.env).map (·.2)=[assign tg X.env]:=by rfl):QS X (.Assign [tg] e pos) (Zgr te g):=⟨Xnm he.out hg.out hs hw h1⟩
theorem Zmu {i:Nat}{x:Str}(hN:X.N.Nodup)(hi:X.N[i]?=some x)(hx:Loc X.env.scope x)(he:QE X e te)(hs:swapsWith e (some (.Name x pos')) pos.line X.env=pure false:=by rfl)(hf:autoParam (X.fn x=true∨X.env.scope.names.lookup x=some .local) aT0._auto_1) :
  QS X (.Assign [.Name x pos'] e pos) (Zgr te (Yj i)):=⟨Xnh hN hi hx he.out hs hf⟩
theorem Xdm {wi:TI}{g:TG}(hp:PassesOwn (model X.prog X.w) X.A X.env X.xe)(hc:X.calm=true)(hi:QI X tg iter wi)(hg:QG X tg g)(hb:QSs X body u)(hs:∀x,foldedSetIterable iter X.env x=pure x:=by intro _;rfl):QS X (.For tg iter body [] pos) (Xjm wi g u):=⟨Xlq hp hc hi.out hg.out hb.out hs⟩
end
theorem Fun.okQ {P:Program}{w:World}{K:Frag}{mg:Str→Option Value}{base:Heap}{x qual:Str}{st:Stmt}{f:Addr}{fd:FuncData}{N ps:List Str}{k:Nat}{sp:Sp}(F:Fun K x qual st f fd)(S:Xd N ps (Zk st))(len:∀vs H Q E,sp vs H Q E→vs.length=ps.length)
    (hbody:∀(cdv:Value) (A:Around) (outer:List Env) (s:Shared) (H:Hp) (vs:List V) (Q:VK) (E:XK),Zec k (A.deeper (envOfC qual (Zk st) s.heap.objs.size f cdv))→sp vs H Q E→
      ∃t,QSs (Zxz CX0 P w K mg base N qual (Zk st) f cdv A outer s H E).nox (Zbo st) t∧t {nx:=fun _ H'=>Q .non H',rt:=Q} (start N vs) H):Zam P w K mg base CX0 (k+1) f fd ps sp:=
  F.ok S len fun cdv A outer s H vs Q E hr h=>by
    obtain ⟨t,ht,q⟩:=hbody cdv A outer s H vs Q E hr h
    exact ⟨t,ht.out,q⟩
@[reducible] noncomputable def Cx.blk (X:Cx)(N2:List Str)(x:Str)(sc:Scope)(cl:List (Str×Addr))(C:Addr)(s0:Shared)(H0:Hp)(fp:List Addr):Cx:=
 {X with N:=N2++[x],s₀:=s0,H₀:=H0,env:=compEnvC sc cl C X.env,outer:=X.stack,ex:=fp,fn:=fun _=>false,pn:=[],xe:=fun _ _=>False}
structure BlkOk (sc esc:Scope)(x:Str)(N N2:List Str):Prop where
 kind:sc.kind=.function
 cell:∀y∈sc.names,y.2≠.cell
 loc:∀y∈sc.names,y.2=.local→sc.names.lookup y.1=some .local
 own:sc.names.lookup x=some .local
 free:∀y∈sc.names,y.2=.free→esc.names.lookup y.1=some .cell∨esc.names.lookup y.1=some .free
 out:∀y∈N2,sc.names.lookup y≠some .local
 nd:N.Nodup
 nd2:N2.Nodup
 len:N2.length=N.length
 ren:∀p∈N.zip N2,p.2=p.1∨sc.names.lookup p.2=none
theorem lookup_mem {l:List (Str×NameKind)}{y:Str}{k:NameKind}(h:(y,k)∈l):l.lookup y≠none:=by
 induction l with
 | nil=>simp at h
 | cons p r ih =>
  obtain ⟨n,k'⟩:=p
  cases hy:y==n with
  | true=>rw [lookup_cons,hy];simp
  | false =>
   rw [lookup_cons,hy]
   rcases List.mem_cons.mp h with e | e
   ·cases e
    simp at hy
   ·exact ih e
noncomputable def Yb (cells:List (Str×Addr)):List (Str×NameKind)→List (Str×Addr)→List (Str×Addr)
 | [],cs=>cs
 | (n,k)::r,cs=>Yb cells r (if k=.free then (n,(cells.lookup n).getD 0)::cs else cs)
theorem Zcg {sc:Scope}{env:Env}(h:∀y∈sc.names,y.2=.free→∃c,env.cells.lookup y.1=some c):closureFor sc env=pure (Yb env.cells sc.names []):=by
  unfold closureFor
  generalize sc.names=l at h ⊢
  have key:∀(l:List (Str×NameKind)) (cs:List (Str×Addr)),(∀y∈l,y.2=.free→∃c,env.cells.lookup y.1=some c)→
      (forIn l cs fun (y:Str×NameKind) (r:List (Str×Addr))=>(do
        let (name,kind):=y
        if kind==.free then
          let c ← cellOf env name
          pure (ForInStep.yield ((name,c)::r))
        else pure (ForInStep.yield r):Sem (ForInStep (List (Str×Addr)))))=pure (Yb env.cells l cs):=by
    intro l
    induction l with
    | nil=>intro cs _;rfl
    | cons y r ih =>
      intro cs hy
      obtain ⟨n,k⟩:=y
      rw [List.forIn_cons]
      have hr:∀y∈r,y.2=.free→∃c,env.cells.lookup y.1=some c:=fun y h'=>hy y (mem_cons_of_mem _ h')
      by_cases hk:k=.free
      · subst hk
        obtain ⟨c,hc⟩:=hy _ mem_cons_self rfl
        have e:cellOf env n=pure c:=by unfold cellOf;rw [show env.cells.lookup n=some c from hc]
        simp only [beq_self_eq_true,if_true,e]
        rw [Yb,if_pos rfl,show env.cells.lookup n=some c from hc]
        exact ih _ hr
      · have hb:(k==NameKind.free)=false:=by simpa using hk
        rw [Yb,if_neg hk]
        simp only [hb,if_false,Bool.false_eq_true]
        exact ih _ hr
  have q:=key l [] h
  exact (congrArg (fun z:Sem (List (Str×Addr))=>z >>= fun r=>pure r) q).trans rfl
theorem Zig {cells:List (Str×Addr)}:∀{l:List (Str×NameKind)} {cs:List (Str×Addr)} {y:Str} {c:Addr},(∀z∈l,z.2=.free→∃c,cells.lookup z.1=some c)→(∀c,cs.lookup y=some c→cells.lookup y=some c)→
  (Yb cells l cs).lookup y=some c→cells.lookup y=some c
 | [],_,_,_,_,h0,h=>h0 _ h
 | (n,k)::r,cs,y,c,hl,h0,h=>by
  rw [Yb] at h
  refine Zig (l:=r) (fun z hz=>hl z (mem_cons_of_mem _ hz)) (fun c' hc'=>?_) h
  by_cases hk:k=.free
  ·rw [if_pos hk] at hc'
   obtain ⟨c0,e0⟩:=hl _ mem_cons_self hk
   cases hy:y==n with
   | true =>
    have e:y=n:=by simpa using hy
    subst e
    rw [lookup_cons,hy] at hc'
    have e1:(cells.lookup y).getD 0=c':=by simpa using hc'
    have e2:cells.lookup y=some c0:=e0
    rw [e2] at e1 ⊢
    simpa using e1
   | false =>
    rw [lookup_cons,hy] at hc'
    exact h0 _ hc'
  ·rw [if_neg hk] at hc'
   exact h0 _ hc'
theorem Znm {cells:List (Str×Addr)}:∀{l:List (Str×NameKind)} {cs:List (Str×Addr)} {y:Str},(∃c,cs.lookup y=some c)→∃c,(Yb cells l cs).lookup y=some c
 | [],_,_,h=>h
 | (n,k)::r,cs,y,h=>by
  rw [Yb]
  refine Znm ?_
  split
  ·cases hy:y==n with
   | true=>exact ⟨_,by rw [lookup_cons,hy]⟩
   | false=>rw [lookup_cons,hy];exact h
  ·exact h
theorem Zfb {cells:List (Str×Addr)}:∀{l:List (Str×NameKind)} {cs:List (Str×Addr)} {y:Str},(y,NameKind.free)∈l→∃c,(Yb cells l cs).lookup y=some c
 | (n,k)::r,cs,y,h=>by
  rw [Yb]
  rcases List.mem_cons.mp h with e | e
  ·cases e
   refine Znm ?_
   rw [if_pos rfl]
   exact ⟨_,by rw [lookup_cons,beq_self_eq_true]⟩
  ·exact Zfb e
theorem Zdr {env:Env}:∀{names:List (Str×NameKind)} {y:Str} {k:NameKind},(∀z∈names,z.2≠.cell)→(k=.cell∨k=.free)→
  (names.map fun (n,k)=>if (k==NameKind.free&&env.scope.kind==.function&&env.kindOf n==some .cell) then (n,NameKind.cell) else (n,k)).lookup y=some k→(y,NameKind.free)∈names
 | [],_,_,_,_,hz=>by simp at hz
 | (n,k0)::r,y,k,hc,hk,h=>by
  rw [map_cons] at h
  cases hy:y==n with
  | true =>
   have e:y=n:=by simpa using hy
   subst e
   by_cases hf:k0=.free
   ·subst hf;exact mem_cons_self
   ·have hb:(k0==NameKind.free)=false:=by simpa using hf
    simp only [hb,Bool.false_and,Bool.false_eq_true,if_false,lookup_cons,beq_self_eq_true] at h
    have e1:k0=k:=by simpa using h
    subst e1
    rcases hk with z | z
    ·exact absurd z (hc _ mem_cons_self)
    ·exact absurd z hf
  | false =>
   refine mem_cons_of_mem _ (Zdr (env:=env) (k:=k) (fun z hz=>hc z (mem_cons_of_mem _ hz)) hk ?_)
   by_cases hc':(k0==NameKind.free&&env.scope.kind==.function&&env.kindOf n==some .cell)=true
   ·simp only [hc',if_true,lookup_cons,hy] at h
    exact h
   ·simp only [hc',Bool.false_eq_true,if_false,lookup_cons,hy] at h
    exact h
theorem Zes {env:Env}:∀{names:List (Str×NameKind)} {y:Str},
  (names.map fun (n,k)=>if (k==NameKind.free&&env.scope.kind==.function&&env.kindOf n==some .cell) then (n,NameKind.cell) else (n,k)).lookup y=some .local→names.lookup y=some .local
 | [],_,h=>by simp at h
 | (n,kn)::r,y,h=>by
  rw [map_cons] at h
  cases hy:y==n with
  | true =>
   rw [lookup_cons,hy]
   by_cases hc:(kn==NameKind.free&&env.scope.kind==.function&&env.kindOf n==some .cell)=true
   ·simp only [hc,if_true,lookup_cons,hy] at h
    cases h
   ·simp only [hc,Bool.false_eq_true,if_false,lookup_cons,hy] at h
    exact h
  | false =>
   rw [lookup_cons,hy]
   refine Zes (env:=env) ?_
   by_cases hc:(kn==NameKind.free&&env.scope.kind==.function&&env.kindOf n==some .cell)=true
   ·simp only [hc,if_true,lookup_cons,hy] at h
    exact h
   ·simp only [hc,Bool.false_eq_true,if_false,lookup_cons,hy] at h
    exact h
section
variable {s:Shared}{R:Result→Shared→Prop}{A:Around}{P:Program}{w:World}
noncomputable def Zxh (ifs:List Expr)(env:Env):Sem Bool:=forIn ifs true fun c r=>if r=true then do let ok ← isTrue c env (eval c env);pure (ForInStep.yield ok) else pure (ForInStep.yield r)
theorem Zjr {elt tg iter:Expr}{ifs:List Expr}{scope:Scope}{pos:Pos}{it ac:Value}{env:Env}(W:Nat→Shared→Prop)
    (turn:∀n s,W n s→wpAny (model P w) A (pyNext it) (fun r s₁=>match r with
      | none=>R (.ok .next) s₁
      | some v=>wpAny (model P w) A (letOwnedTupleGo tg it v) (fun _ s₁'=>wpAny (model P w) A (assign tg env v) (fun _ s₂ =>
          wpAny (model P w) A (Zxh ifs env) (fun ok s₃ =>
            if ok=true then wpAny (model P w) A (eval elt env) (fun z s₄ =>
              wpAny (model P w) A (call (.builtin "list.append") [ac,z]) (fun _ s₅=>∃m,m<n∧W m s₅) (fun _ _=>False) s₄) (fun _ _=>False) s₃
            else ∃m,m<n∧W m s₃) (fun _ _=>False) s₂) (fun _ _=>False) s₁') (fun _ _=>False) s₁) (fun _ _=>False) s)
    (n:Nat) (h:W n s) :
    codeAny (model P w) A (.compLoop (.ListComp elt [⟨tg,iter,ifs,0⟩] scope pos) 0 it ac env) R s:=by
  refine codeAny_loop rfl W (fun n s hI=>?_) n h
  show wpAny _ A ((compTurn (.ListComp elt [⟨tg,iter,ifs,0⟩] scope pos) 0 it ac env).onRaise (fun z=>do noteFrame z env;theTreesLotGoes z)) _ _ s
  refine wpAny_noted ?_
  rw [compTurn_list]
  refine wpAny_bind (wpAny_standAt (wpAny_bind (wpAny_mono (turn n s hI) (fun r s₁ h₁=>?_) fun _ _ h'=>h'.elim)))
  cases r with
  | none=>exact wpAny_pure h₁
  | some v =>
    refine wpAny_bind (wpAny_mono h₁ (fun _ s₁' h₁'=>?_) fun _ _ h'=>h'.elim)
    refine wpAny_bind (wpAny_mono h₁' (fun _ s₂ h₂=>wpAny_bind (wpAny_mono h₂ (fun ok s₃ h₃=>?_) fun _ _ h'=>h'.elim)) fun _ _ h'=>h'.elim)
    cases ok with
    | false=>exact wpAny_pure (And.intro rfl h₃)
    | true =>
      exact wpAny_bind (wpAny_bind (wpAny_mono h₃ (fun x s₄ h₄=>wpAny_bind (wpAny_mono h₄ (fun _ s₅ h₅=>wpAny_pure (wpAny_pure ⟨rfl,h₅⟩)) fun _ _ h'=>h'.elim)) fun _ _ h'=>h'.elim))
end
def PIf (X:Cx)(ifs:List Expr)(t:TT):Prop:=
 ∀(pins:List (Addr×Obj)) (s:Shared) (σ:St) (H:Hp) (Q:Bool→Hp→Prop),Inv X pins σ H s→t σ H Q→wpAny (model X.prog X.w) X.A (Zxh ifs X.env) (TP X pins σ Q) X.xe s
def tYes:TT:=fun _ H Q=>Q true H
theorem Xgy {X:Cx}:PIf X [] tYes:=fun _ _ _ H _ I h=>wpAny_pure ⟨H,I,h⟩
theorem Xgv {X:Cx}{c:Expr}{t:TT}(h:PT X c t):PIf X [c] t:=fun pins s σ H Q I hw=>wpAny_tests_one (h pins s σ H Q I hw)
section
variable {X:Cx}{elt iter:Expr}{x:Str}{px pos:Pos}{ifs:List Expr}{sc:Scope}{N2:List Str}{wi:TI}{tc:TT}{te:TE}
end
structure QIf (X:Cx)(ifs:List Expr)(t:TT):Prop where
 out:PIf X ifs t
section
variable {X:Cx}{elt iter c:Expr}{x:Str}{px pos:Pos}{ifs:List Expr}{sc esc:Scope}{N N2:List Str}{wi:TI}{tc:TT}{te:TE}
theorem Xfb:QIf X [] tYes:=⟨Xgy⟩
theorem Xhz (h:QT X c tc):QIf X [c] tc:=⟨Xgv h.out⟩
end
section
variable {K:Frag}{a D:Addr}{xs:List V}{tc:TT}{te:TE}{σ:St}{H:Hp}{Q:VK}{R:Hp→Prop}
end
@[reducible] noncomputable def Cx.blkN (X:Cx)(N2 xs:List Str)(sc:Scope)(cl:List (Str×Addr))(C:Addr)(s0:Shared)(H0:Hp)(fp:List Addr):Cx:=
 {X with N:=N2++xs,s₀:=s0,H₀:=H0,env:=compEnvC sc cl C X.env,outer:=X.stack,ex:=fp,fn:=fun _=>false,pn:=[],xe:=fun _ _=>False}
structure Zya (sc esc:Scope)(xs N N2:List Str):Prop where
 kind:sc.kind=.function
 cell:∀y∈sc.names,y.2≠.cell
 loc:∀y∈sc.names,y.2=.local→sc.names.lookup y.1=some .local
 free:∀y∈sc.names,y.2=.free→esc.names.lookup y.1=some .cell∨esc.names.lookup y.1=some .free
 out:∀y∈N2,sc.names.lookup y≠some .local
 nd:N.Nodup
 len:N2.length=N.length
 ren:∀p∈N.zip N2,p.2=p.1∨sc.names.lookup p.2=none
def Zcz (k:Nat)(g:TG)(wi:TI)(tc:TT)(te:TE):TE:=fun σ H Q=>wi σ H fun J H1=>∀D,H1 D=none→∃W:Nat→Nat→Hp→Prop,(∃m,W 0 m (upd H1 D (.lst [])))∧∀i m H,W i m H→
  (J.stop i H∧Q (.ref D) H)∨(J.go i H∧∃N:Hp→Prop,(∀H',N H'→∃m',m'<m∧W (i+1) m' H')∧∀x H',J.yld i H x H'→∀os:St,os.length=k→g x (σ++os) H' fun σ' Hg=>(∃os',os'.length=k∧σ'=σ++os')∧tc σ' Hg fun b H2 =>
    if b=true then te σ' H2 fun v H3=>∃ys,H3 D=some (.lst ys)∧ys.length<sizeLine∧N (upd H3 D (.lst (ys++[v])))
    else N H2)
section
variable {X:Cx}{elt iter tg:Expr}{xs:List Str}{pos:Pos}{g:TG}{ifs:List Expr}{sc:Scope}{N2:List Str}{wi:TI}{tc:TT}{te:TE}
theorem Zsu {pins:List (Addr×Obj)}{σ:St}{H:Hp}{s s1:Shared}{fp:List Addr}{h':Heap}{m:Str→Option Value}{tk:Nat}(B:Zya sc X.env.scope xs X.N N2)(I:Inv X pins σ H s)(hf:∀b∈fp,Zjl X pins H b)
    (hfl:∀b∈fp,b<s.heap.objs.size) (hn:h'.Ns s.heap.objs.size m) (hk:∀b o,s.heap.get? b=some o→h'.get? b=some o) (e1:s1={s with heap:=h',toks:=tk}) :
    Inv (X.blkN N2 xs sc (Yb X.env.cells sc.names []) s.heap.objs.size s H fp) [] (σ++List.replicate xs.length none) H s1:=by
  subst e1
  have hcl:∀y∈sc.names,y.2=.free→∃c,X.env.cells.lookup y.1=some c:=fun y hy hf=>I.ok.has y.1 (B.free y hy hf)
  have look:∀y c,(Yb X.env.cells sc.names []).lookup y=some c→X.env.cells.lookup y=some c:=fun y c h=>Zig hcl (fun _ z=>by simp at z) h
  have isfree:∀y,(relabel sc X.env).names.lookup y=some .cell∨(relabel sc X.env).names.lookup y=some .free→(y,NameKind.free)∈sc.names:=fun y hy=>by
    rcases hy with hy | hy
    · exact Zdr (env:=X.env) B.cell (.inl rfl) hy
    · exact Zdr (env:=X.env) B.cell (.inr rfl) hy
  refine ⟨⟨I.ok.mod,B.kind,I.ok.glob,I.ok.blt,le_refl _,fun y z c h1 h2=>I.ok.inj y z c (look y c h1) (look z c h2),fun y hy=>Zfb (isfree y hy),fun _ _ h=>(by cases h),I.ok.hd,I.ok.frames,.inl rfl,fun b hb=>?_,fun b o e=>?_,le_trans I.ok.bsz I.sz,fun b o e hb=>?_,fun b hb hs=>?_,I.stack,I.stkFree⟩,
    rfl,I.bare,Un.kept hk,⟨_,hn,fun i y v h1 h2 h3=>?_⟩,fun y c h=>?_,I.hok.fresh (le_refl _),fun y c h=>I.freeC y c (look y c h),fun p hp=>absurd (show p∈([]:List (Addr×Obj)) from hp) (by simp),I.hok.kept hk,?_⟩
  · exact ⟨ne_of_lt (hfl b hb),fun y c h=>(hf b hb).2.2.2.2.1 y c (look y c h)⟩
  · exact I.bs b o e
  · rcases (hf b hb).2.2.2.1 with z | z
    · exact I.ok.noex b o e z
    · exact absurd (lt_of_lt_of_le (lt_size e) (le_trans I.ok.bsz z)) (lt_irrefl _)
  · rcases List.mem_cons.mp (I.stkSub b hs) with z | z
    · exact (hf b hb).2.1 z
    · exact (hf b hb).2.2.1 z
  · have hlen:=I.len
    have hl2:=B.len
    have h1:(N2++xs)[i]?=some y:=h1
    have h2:(σ++List.replicate xs.length none)[i]?=some (some v):=h2
    have hi:i<X.N.length:=by
      by_cases hi:i<X.N.length
      · exact hi
      · rw [getElem?_append_right (by omega)] at h2
        have hm:=mem_of_getElem? h2
        rw [List.mem_replicate] at hm
        exact absurd hm.2 (by intro z;cases z)
    rw [getElem?_append_left (by omega)] at h1
    rw [getElem?_append_left (by omega)] at h2
    have h3':(relabel sc X.env).names.lookup y=some .cell∨(relabel sc X.env).names.lookup y=some .free:=by
      rcases h3 with z | z
      · exact absurd (Zes (env:=X.env) z) (B.out y (mem_of_getElem? h1))
      · exact z
    have hfr:=isfree y h3'
    have h1:X.N[i]?=some y:=by
      obtain ⟨z,hz⟩:∃z,X.N[i]?=some z:=⟨X.N[i],getElem?_eq_getElem hi⟩
      rcases B.ren (z,y) (mem_of_getElem? (List.getElem?_zip_eq_some.mpr ⟨hz,h1⟩)) with e | e
      · rw [hz,show y=z from e]
      · exact absurd e (lookup_mem hfr)
    obtain ⟨m3,hn3,hl3⟩:=I.loc
    have hv:X.env.scope.names.lookup y=some .cell∨X.env.scope.names.lookup y=some .free:=B.free (y,.free) hfr rfl
    obtain ⟨u,ru,lk⟩:=hl3 i y v h1 h2 (.inr hv)
    refine ⟨u,ru,.inr ⟨h3',?_⟩⟩
    rcases lk with ⟨k1,_⟩ | ⟨k1,c,ec,zc⟩
    · rcases hv with q | q
      · rw [show X.env.kindOf y=X.env.scope.names.lookup y from rfl,q] at k1
        cases k1
      · rw [show X.env.kindOf y=X.env.scope.names.lookup y from rfl,q] at k1
        cases k1
    · obtain ⟨c',e'⟩:=Zfb (cells:=X.env.cells) (cs:=[]) hfr
      have e2:=look y c' e'
      rw [ec] at e2
      cases e2
      obtain ⟨o,ho,hd⟩:=zc
      exact ⟨c,e',o,hk _ _ ho,hd⟩
  · obtain ⟨v,o,ho,hd⟩:=I.cell y c (look y c h)
    exact ⟨v,o,hk _ _ ho,hd⟩
  · show (σ++List.replicate xs.length none).length=(N2++xs).length
    rw [length_append,length_append,I.len,B.len,length_replicate]
theorem Zrf {pins:List (Addr×Obj)}{σ:St}{H2:Hp}{s2:Shared}{it:Addr}{fp:List Addr}{tn:Nat→Heap→Prop}{J:It}{Q:VK}{E:Value→Shared→Prop}{RR:Value→Addr→Result→Shared→Prop}(hc:X.calm=true)(B:Zya sc X.env.scope xs X.N N2)
    (hg:∀cl C s0 H0 fp,PG (X.blkN N2 xs sc cl C s0 H0 fp) tg g) (ht:∀cl C s0 H0 fp,PIf (X.blkN N2 xs sc cl C s0 H0 fp) ifs tc) (he:∀cl C s0 H0 fp,PE (X.blkN N2 xs sc cl C s0 H0 fp) elt te)
    (I2:Inv X pins σ H2 s2) (T:Turn X.prog X.w X.K tg J fp it tn) (st2:tn 0 s2.heap) (f2:∀b∈fp,Zjl X pins H2 b)
    (hw:∀D,H2 D=none→∃W:Nat→Nat→Hp→Prop,(∃m,W 0 m (upd H2 D (.lst [])))∧∀i m H,W i m H→
      (J.stop i H∧Q (.ref D) H)∨(J.go i H∧∃N:Hp→Prop,(∀H',N H'→∃m',m'<m∧W (i+1) m' H')∧∀x H',J.yld i H x H'→∀os:St,os.length=xs.length→g x (σ++os) H' fun σ' Hg=>(∃os',os'.length=xs.length∧σ'=σ++os')∧tc σ' Hg fun b H2 =>
        if b=true then te σ' H2 fun v H3=>∃ys,H3 D=some (.lst ys)∧ys.length<sizeLine∧N (upd H3 D (.lst (ys++[v])))
        else N H2))
    (fin:∀(D C:Addr) (H':Hp) (s':Shared) (m:Str→Option Value),Inv X pins σ H' s'→s'.heap.Ns C m→Zjl X pins H' C→Q (.ref D) H'→RR (.ref D) C (.ok .next) s') :
    wpAny (model X.prog X.w) X.A (newList []) (fun acc s₃=>wpAny (model X.prog X.w) X.A (newFunctionEnv sc X.env.globals (Yb X.env.cells sc.names []) [] X.env.qual none .none (some X.env)) (fun cenv s₄ =>
      codeAny (model X.prog X.w) X.A (.compStart (.ListComp elt [⟨tg,iter,ifs,0⟩] sc pos) 0 (.ref it) acc {cenv with scope:=relabel sc X.env}) (RR acc cenv.locals) s₄) E s₃) E s2:=by
  refine wpAny_newObj_type (wpAny_newFunctionEnv B.cell (by intro y hy;simp at hy) (fun h₁ hns₁ hsb₁=>?_) B.kind)
  have hD:H2 s2.heap.objs.size=none:=I2.fresh
  obtain ⟨W,⟨m0,w0⟩,turn⟩:=hw _ hD
  have I3:Inv X pins σ (upd H2 s2.heap.objs.size (.lst [])) {s2 with heap:=s2.heap.push {cls:=.type "list",data:=.seq ([]:List Value).toArray}}:=I2.lnew (its:=[]) (t':=s2.toks) .nil (zero_le _)
  have fne:∀b∈fp,b<s2.heap.objs.size:=fun b hb=>by
    obtain ⟨o,ho,_⟩:=T.obj _ _ st2 b hb
    exact lt_size ho
  generalize hs3:({s2 with heap:=s2.heap.push {cls:=.type "list",data:=.seq ([]:List Value).toArray}}:Shared)=s3 at I3
  have hs3h:s3.heap=s2.heap.push {cls:=.type "list",data:=.seq ([]:List Value).toArray}:=by rw [← hs3]
  have f3:∀b∈fp,Zjl X pins (upd H2 s2.heap.objs.size (.lst [])) b:=fun b hb=>⟨by rw [Xo (ne_of_lt (fne b hb))];exact (f2 b hb).1,(f2 b hb).2⟩
  have fl3:∀b∈fp,b<s3.heap.objs.size:=fun b hb=>by
    rw [hs3h,size_push]
    exact Nat.lt_succ_of_lt (fne b hb)
  have keep3:∀b o,s3.heap.get? b=some o→h₁.get? b=some o:=fun b o e=>by
    rw [hs3h] at e
    refine hsb₁.extBut b o ?_ (get?_push_of_some _ e)
    exact ne_of_lt (lt_size e)
  have hns3:h₁.Ns s3.heap.objs.size (fun z=>([]:List (Str×Value)).reverse.lookup z):=by
    rw [hs3h]
    exact hns₁
  have I4:=Zsu (xs:=xs) (sc:=sc) (s1:={s3 with heap:=h₁,toks:=s3.toks+([]:List (Str×Value)).length}) B I3 f3 fl3 hns3 keep3 rfl
  have st4:tn 0 h₁:=T.keep _ _ _ st2 fun b hb o e=>keep3 b o (by rw [hs3h];exact get?_push_of_some _ e)
  have stat:∀{H':Hp},(∀b∈fp,H' b=none)→∀b∈fp,Zjl (X.blkN N2 xs sc (Yb X.env.cells sc.names []) s3.heap.objs.size s3 (upd H2 s2.heap.objs.size (.lst [])) fp) [] H' b:=fun hn b hb =>
    ⟨hn b hb,(I4.ok.exf b hb).1,I4.ok.exfs b hb,.inl hb,(I4.ok.exf b hb).2,fun p hp=>absurd (show p∈([]:List (Addr×Obj)) from hp) (by simp)⟩
  have loop:∀s4:Shared,s4={s3 with heap:=h₁,toks:=s3.toks+([]:List (Str×Value)).length}→
      codeAny (model X.prog X.w) X.A (.compLoop (.ListComp elt [⟨tg,iter,ifs,0⟩] sc pos) 0 (.ref it) (.ref s2.heap.objs.size) (compEnvC sc (Yb X.env.cells sc.names []) s3.heap.objs.size X.env)) (RR (.ref s2.heap.objs.size) s3.heap.objs.size) s4:=by
    rintro s4 rfl
    refine Zjr (fun n s'=>∃(i:Nat) (o:St) (H':Hp),o.length=xs.length∧Inv (X.blkN N2 xs sc (Yb X.env.cells sc.names []) s3.heap.objs.size s3 (upd H2 s2.heap.objs.size (.lst [])) fp) [] (σ++o) H' s'∧tn i s'.heap∧(∀b∈fp,H' b=none)∧W i n H') ?_ m0
      ⟨0,List.replicate xs.length none,_,by simp,I4,st4,fun b hb=>(f3 b hb).1,w0⟩
    rintro n s5 ⟨i,o,H5,ol5,I5,st5,fr5,w5⟩
    rcases turn i n H5 w5 with ⟨stop,qn⟩ | ⟨go,N,hN,step⟩
    · refine thn (T.done (X.blkN N2 xs sc (Yb X.env.cells sc.names []) s3.heap.objs.size s3 (upd H2 s2.heap.objs.size (.lst [])) fp) rfl rfl rfl hc i [] s5 (σ++o) H5 _ I5 (stat fr5) st5 stop) fun r s6 ⟨hr,I6⟩=>?_
      subst hr
      obtain ⟨m6,hn6,_⟩:=I6.loc
      refine fin _ _ H5 s6 m6 ?_ hn6 (I3.fpOk (le_refl _) I6.free) qn
      exact I3.call' (ch:=fp) I6.os I6.base I6.hok I6.bare fun b hb=>⟨(f3 b hb).2.2.2.1,(f3 b hb).2.1,(f3 b hb).2.2.2.2.1,(f3 b hb).2.2.2.2.2⟩
    · refine thn (T.item (X.blkN N2 xs sc (Yb X.env.cells sc.names []) s3.heap.objs.size s3 (upd H2 s2.heap.objs.size (.lst [])) fp) rfl rfl rfl hc i [] s5 (σ++o) H5 _ I5 (stat fr5) st5 go) fun r s6 ⟨u,hr,h6⟩=>?_
      subst hr
      refine thn h6 fun _ s7 hz9=>?_
      obtain ⟨v,H7,I7,r7,y7,st7,fr7⟩:=hz9
      have I7':=I7.pinned (stat fr7) (T.obj _ _ st7)
      refine thn (hg _ _ _ _ _ _ s7 _ H7 v u _ I7' r7 (step v H7 y7 o ol5)) fun _ s8 ⟨σ8,H8,I8,⟨os',ol8,e8⟩,q8⟩=>?_
      subst e8
      have again:∀{H9:Hp} {s9:Shared},Inv (X.blkN N2 xs sc (Yb X.env.cells sc.names []) s3.heap.objs.size s3 (upd H2 s2.heap.objs.size (.lst [])) fp) ([]++Zjw fp s7.heap) (σ++os') H9 s9→N H9→
          ∃m,m<n∧∃(i:Nat) (o:St) (H':Hp),o.length=xs.length∧Inv (X.blkN N2 xs sc (Yb X.env.cells sc.names []) s3.heap.objs.size s3 (upd H2 s2.heap.objs.size (.lst [])) fp) [] (σ++o) H' s9∧tn i s9.heap∧(∀b∈fp,H' b=none)∧W i m H':=fun {H9 s9} I9 n9=>by
        obtain ⟨m',hm,w9⟩:=hN H9 n9
        refine ⟨m',hm,i+1,os',H9,ol8,I9.unpinned,T.keep _ _ _ st7 fun b hb o e=>(I9.pin (b,o) (mem_append_right _ (mem_append_right _ (Zbg hb e)))).1,fun b hb=>?_,w9⟩
        obtain ⟨o,e,d⟩:=T.obj _ _ st7 b hb
        exact (I9.pin (b,o) (mem_append_right _ (mem_append_right _ (Zbg hb e)))).2.1
      refine thn (ht _ _ _ _ _ _ s8 _ H8 _ I8 q8) fun ok s9 ⟨H9,I9,q9⟩=>?_
      cases ok with
      | false =>
        rw [if_neg Bool.false_ne_true] at q9 ⊢
        exact again I9 q9
      | true =>
        rw [if_pos rfl] at q9 ⊢
        refine thn (he _ _ _ _ _ _ s9 _ H9 _ I9 q9) fun ue s10 hz9=>?_
        obtain ⟨ve,H10,I10,r10,ys,hy,hz,q10⟩:=hz9
        refine thn (Zdf _ s10 _ H10 (.ref s2.heap.objs.size) [ve] (.ref s2.heap.objs.size) [ue] (fun _ H'=>N H') I10 rfl (.cons r10 .nil) ⟨_,ys,ve,rfl,rfl,hy,hz,q10⟩) fun _ s11 hz9=>?_
        obtain ⟨_,H11,I11,_,q11⟩:=hz9
        exact again I11 q11
  have fin':codeAny (model X.prog X.w) X.A (.compStart (.ListComp elt [⟨tg,iter,ifs,0⟩] sc pos) 0 (.ref it) (.ref s2.heap.objs.size) (compEnvC sc (Yb X.env.cells sc.names []) s3.heap.objs.size X.env)) (RR (.ref s2.heap.objs.size) s3.heap.objs.size) {s3 with heap:=h₁,toks:=s3.toks+([]:List (Str×Value)).length}:=
    codeAny_compStart_list (loop _ rfl) (T.self _ 0 _ _ _ st4 (loop _ rfl))
  exact fin'
theorem Xba (hc:X.calm=true)(B:Zya sc X.env.scope xs X.N N2)(hi:PI X tg iter wi)(hg:∀cl C s0 H0 fp,PG (X.blkN N2 xs sc cl C s0 H0 fp) tg g)(ht:∀cl C s0 H0 fp,PIf (X.blkN N2 xs sc cl C s0 H0 fp) ifs tc)(he:∀cl C s0 H0 fp,PE (X.blkN N2 xs sc cl C s0 H0 fp) elt te)
  (hs:∀v,foldedSetIterable iter X.env v=pure v:=by intro _;rfl):PE X (.ListComp elt [⟨tg,iter,ifs,0⟩] sc pos) (Zcz xs.length g wi tc te):=by
 intro pins s σ H Q I h
 rw [eval_ListComp]
 have hcl:∀y∈sc.names,y.2=.free→∃c,X.env.cells.lookup y.1=some c:=fun y hy hf=>I.ok.has y.1 (B.free y hy hf)
 refine wpAny_comprehension_free (use:=none) rfl hs (Zcg hcl) B.kind B.loc (thn (hi pins s σ H _ I h) fun v s1 h1=>thn h1 fun itv s2 h2=>?_)
 obtain ⟨it,fp,tn,J,H2,e,I2,T,st2,f2,hw⟩:=h2
 subst e
 refine Zrf (RR:=fun acc C=>compPost (model X.prog X.w) X.A X.xe none (EP X pins σ Q) acc C) hc B hg ht he I2 T st2 f2 hw ?_
 intro D C H' s' m I' hn hC q
 obtain ⟨c0,c1,c2,c3,c4,c5⟩:=hC
 refine ⟨m,hn,fun h'' hs''=>⟨.ref D,H',?_,rfl,q⟩⟩
 exact I'.turned (t':=s'.toks) (fun b o hb e=>hs''.extBut b o hb e) c0 c1 c3 c4 c5
theorem Xbx {i:Nat}{y:Str}{py spos:Pos}(hc:X.calm=true)(B:Zya sc X.env.scope xs X.N N2)(hi:PI X tg iter wi)(hg:∀cl C s0 H0 fp,PG (X.blkN N2 xs sc cl C s0 H0 fp) tg g)(ht:∀cl C s0 H0 fp,PIf (X.blkN N2 xs sc cl C s0 H0 fp) ifs tc)(he:∀cl C s0 H0 fp,PE (X.blkN N2 xs sc cl C s0 H0 fp) elt te)
    (hy:X.N[i]?=some y) (hl:X.env.scope.names.lookup y=some .local) (hsw:swapsWith (.ListComp elt [⟨tg,iter,ifs,0⟩] sc pos) (some (.Name y py)) spos.line X.env=pure true:=by rfl)
    (hs:∀v,foldedSetIterable iter X.env v=pure v:=by intro _;rfl):PS X (.Assign [.Name y py] (.ListComp elt [⟨tg,iter,ifs,0⟩] sc pos) spos) (Zgr (Zcz xs.length g wi tc te) (Yj i)):=by
  intro pins s σ H D I h
  have hx:=exec_Assign_Name_used (env:=X.env) _ _ _ _ hsw
  rw [hx]
  refine wpAny_bind (wpAny_standAt ?_)
  refine wpAny_bind ?_
  show wpAny _ X.A (do let _ ← comprehension (.ListComp elt [⟨tg,iter,ifs,0⟩] sc pos) sc X.env _ (newList []) false (eval iter X.env) (some (assign (.Name y py) X.env))) _ _ s
  have hcl:∀y∈sc.names,y.2=.free→∃c,X.env.cells.lookup y.1=some c:=fun y hy hf=>I.ok.has y.1 (B.free y hy hf)
  refine wpAny_bind (wpAny_mono (wpAny_comprehension_free (use:=some (assign (.Name y py) X.env)) (Q:=fun _ s'=>SP X pins D .next s') rfl hs (Zcg hcl) B.kind B.loc
    (thn (hi pins s σ H _ I h) fun v s1 h1=>thn h1 fun itv s2 h2=>?_)) (fun _ s' hq=>wpAny_pure (wpAny_pure hq)) fun _ _ e=>e)
  obtain ⟨it,fp,tn,J,H2,e,I2,T,st2,f2,hw⟩:=h2
  subst e
  refine Zrf (Q:=fun v H1=>Yj i v σ H1 D.nx) (RR:=fun acc C=>compPost (model X.prog X.w) X.A X.xe (some (assign (.Name y py) X.env)) (fun _ s'=>SP X pins D .next s') acc C) hc B hg ht he I2 T st2 f2 hw ?_
  intro E C H' s' m I' hn hC q
  obtain ⟨c0,c1,c2,c3,c4,c5⟩:=hC
  show wpAny _ X.A (assign (.Name y py) X.env (.ref E)) _ _ _
  refine wpAny_assign_Name (Znv (v:=.ref E) I' B.nd hy (.inl hl) rfl (fun s8 I8 ⟨a,sb,ha⟩=>?_) (.inr hl))
  have hCa:C≠a:=by
    rcases ha with z | z
    · rw [z];exact c1
    · exact fun z'=>c4 _ _ z z'.symm
  refine ⟨m,hn.sameBut sb hCa,fun h'' hs''=>⟨_,H',?_,q⟩⟩
  exact I8.turned (t':=s8.toks) (fun b o hb e=>hs''.extBut b o hb e) c0 c1 c3 c4 c5
end
section
variable {X:Cx}{elt iter c tg:Expr}{xs:List Str}{pos:Pos}{ifs:List Expr}{sc esc:Scope}{N N2:List Str}{wi:TI}{tc:TT}{te:TE}{g:TG}
theorem Xbu (esc:Scope)(N N2 xs:List Str)(B:Zya sc esc xs N N2)(hi:QI X tg iter wi)(hg:∀cl C s0 H0 fp,QG (X.blkN N2 xs sc cl C s0 H0 fp) tg g)(ht:∀cl C s0 H0 fp,QIf (X.blkN N2 xs sc cl C s0 H0 fp) ifs tc)(he:∀cl C s0 H0 fp,QE (X.blkN N2 xs sc cl C s0 H0 fp) elt te)
  (hesc:X.env.scope=esc:=by rfl) (hN:X.N=N:=by rfl) (hc:X.calm=true:=by rfl) (hs:∀v,foldedSetIterable iter X.env v=pure v:=by intro _;rfl):QE X (.ListComp elt [⟨tg,iter,ifs,0⟩] sc pos) (Zcz xs.length g wi tc te):=by
 subst hesc hN
 exact ⟨Xba hc B hi.out (fun cl C s0 H0 fp=>(hg cl C s0 H0 fp).out) (fun cl C s0 H0 fp=>(ht cl C s0 H0 fp).out) (fun cl C s0 H0 fp=>(he cl C s0 H0 fp).out) hs⟩
theorem Zrq {i:Nat}{y:Str}{py spos:Pos}(esc:Scope)(N N2 xs:List Str)(B:Zya sc esc xs N N2)(hy:N[i]?=some y)(hl:esc.names.lookup y=some .local)(hi:QI X tg iter wi)(hg:∀cl C s0 H0 fp,QG (X.blkN N2 xs sc cl C s0 H0 fp) tg g)(ht:∀cl C s0 H0 fp,QIf (X.blkN N2 xs sc cl C s0 H0 fp) ifs tc)(he:∀cl C s0 H0 fp,QE (X.blkN N2 xs sc cl C s0 H0 fp) elt te)
  (hesc:X.env.scope=esc:=by rfl) (hN:X.N=N:=by rfl) (hc:X.calm=true:=by rfl) (hsw:swapsWith (.ListComp elt [⟨tg,iter,ifs,0⟩] sc pos) (some (.Name y py)) spos.line X.env=pure true:=by rfl)
  (hs:∀v,foldedSetIterable iter X.env v=pure v:=by intro _;rfl):QS X (.Assign [.Name y py] (.ListComp elt [⟨tg,iter,ifs,0⟩] sc pos) spos) (Zgr (Zcz xs.length g wi tc te) (Yj i)):=by
 subst hesc hN
 exact ⟨Xbx hc B hi.out (fun cl C s0 H0 fp=>(hg cl C s0 H0 fp).out) (fun cl C s0 H0 fp=>(ht cl C s0 H0 fp).out) (fun cl C s0 H0 fp=>(he cl C s0 H0 fp).out) hy hl hsw hs⟩
end
theorem Zwi (bt:Nat→Nat→Bool):∀k,argBest bt k≤k
 | 0=>le_refl _
 | k+1=>by
  rw [argBest]
  have:=Zwi bt k
  split<;>omega
theorem Zqd (val:Nat→Int):∀k j,j≤k→val j≤val (argBest (fun i j=>decide (val i > val j)) k)
 | 0,j,h=>by
  have e:j=0:=by omega
  subst e
  exact Int.le_refl _
 | k+1,j,h=>by
  have ih:=Zqd val k
  rw [argBest]
  by_cases c:val (k+1) > val (argBest (fun i j=>decide (val i > val j)) k)
  ·rw [if_pos (by simpa using c)]
   by_cases e:j=k+1
   ·subst e;exact Int.le_refl _
   ·have:=ih j (by omega)
    omega
  ·rw [if_neg (by simpa using c)]
   by_cases e:j=k+1
   ·subst e
    omega
   ·exact ih j (by omega)
def Xmn (K:Frag):List V→Hp→VK→Prop:=fun xs H Q=>∃p ns,xs=[.ref p]∧SqL K H p (ns.map V.int)∧ns≠[]∧∀m,m∈ns→(∀n∈ns,n≤m)→Q (.int m) H
def Zox (K:Frag):List V→Hp→VK→Prop:=fun xs H Q=>(∃i j,xs=[.int i,.int j]∧Q (.int (if j > i then j else i)) H)∨Xmn K xs H Q
section
variable {X:Cx}
theorem Zwq (hc:X.calm=true):Zav X (.builtin "max") (Xmn X.K):=by
 intro pins s σ H xs us Q I r h
 obtain ⟨p,ns,rfl,hq,hne,q⟩:=h
 obtain ⟨u,rfl,rx⟩:=vals1 r
 cases rx
 obtain ⟨its,rv,pl,hz⟩:=I.list hq
 have hi:IntsAre its ns:=intsAre_of rv
 obtain ⟨xs,hxs⟩:=hi.allInts.items
 have hn:numsOf its.toArray.toList=ns:=by rw [show its.toArray.toList=its from rfl,hi.numsOf]
 have hl:=pl.isList
 rw [hxs] at hl hn
 rw [nums_intItems] at hn
 have hsz:xs.size=ns.length:=by rw [← hn];simp
 have h0:0<ns.length:=List.length_pos_iff.mpr hne
 have val:∀i,i<ns.length→numAt xs i=ns.getD i 0:=fun i hi=>by
  rw [← hn]
  have:i<xs.size:=by omega
  simp [numAt,List.getD,this]
 refine max_intList (I.ok.hd hc) hl (by omega) fun v h' tk hv hk=>?_
 obtain ⟨tk',rfl⟩:=intItems_at hv
 have hb:=Zwi (fun i j=>decide (numAt xs i > numAt xs j)) (xs.size - 1)
 have hlt:argBest (fun i j=>decide (numAt xs i > numAt xs j)) (xs.size - 1)<ns.length:=by omega
 refine ⟨.int (numAt xs (argBest (fun i j=>decide (numAt xs i > numAt xs j)) (xs.size - 1))),H,I.kept hk,⟨tk',rfl⟩,q _ ?_ fun n hn'=>?_⟩
 ·rw [val _ hlt]
  have e:ns.getD (argBest (fun i j=>decide (numAt xs i > numAt xs j)) (xs.size - 1)) 0=ns[argBest (fun i j=>decide (numAt xs i > numAt xs j)) (xs.size - 1)]:=by simp [List.getD,hlt]
  rw [e]
  exact getElem_mem hlt
 ·obtain ⟨j,hj,e⟩:=List.mem_iff_getElem.mp hn'
  have q1:=Zqd (numAt xs) (xs.size - 1) j (by omega)
  rw [val j hj] at q1
  have e2:ns.getD j 0=ns[j]:=by simp [List.getD,hj]
  rw [e2,e] at q1
  exact q1
theorem Zhw (hc:X.calm=true):Zav X (.builtin "max") (Zox X.K):=(Zvf hc).or (Zwq hc)
variable {σ:St}{H:Hp}{Q:VK}{D:Ends}{K:Frag}
theorem Xgj {i j:Int}(q:Q (.int (if j > i then j else i)) H):Zox K [.int i,.int j] H Q:=.inl ⟨i,j,rfl,q⟩
theorem Xim {p:Addr}{ns:List Int}(h:SqL K H p (ns.map V.int))(hne:ns≠[])(q:∀m,m∈ns→(∀n∈ns,n≤m)→Q (.int m) H):Zox K [.ref p] H Q:=.inr ⟨p,ns,rfl,h,hne,q⟩
end
section
variable {X:Cx}{a b c e o i':Expr}{to ti te:TE}{tc:TT}{pos p2 apos cpos:Pos}{body:List Stmt}{tb:TS}
theorem Xkh {name:Str}{T id:String}{r:V→List V→Hp→VK→Prop}(pa:PlainAttrs T)(slot:Slot T name id)(hty:typeOf (.builtin id)=pure (.type "method_descriptor"))(hm:MtR X id r)(ho:QE X o to)
  (hbase:attributeBase o name X.env (eval o X.env)=eval o X.env:=by rfl) (hline:(apos.endLine==cpos.line)=true:=by rfl):QE X (.Call (.Attribute o name apos) [] [] cpos) (tBM0 X.K T r to):=⟨Xju pa slot hty hm ho.out hbase hline⟩
theorem Xad (hp:PassesOwn (model X.prog X.w) X.A X.env X.xe)(hc:QT X c tc)(hb:QSs X body tb):QS X (.While c body [] pos) (Zqz tc tb):=⟨Zzp hp hc.out hb.out⟩
variable {s:Shared}{E:Value→Shared→Prop}{A:Around}{P:Program}{w:World}
end
section
variable {X:Cx}{e:Expr}{te:TE}{p p' pos pos':Pos}
variable {σ:St}{H:Hp}{Q:VK}{K:Frag}
end
theorem range_all (bs:List Bool):(List.range bs.length).all (fun i=>bs.getD i false)=bs.all id:=by
 refine Bool.eq_iff_iff.mpr ⟨fun h=>List.all_eq_true.mpr fun b hb=>?_,fun h=>List.all_eq_true.mpr fun i hi=>?_⟩
 ·have h:=List.all_eq_true.mp h
  obtain ⟨i,hi,e⟩:=List.mem_iff_getElem.mp hb
  have q:=h i (List.mem_range.mpr hi)
  have e2:bs.getD i false=bs[i]:=by simp [List.getD,hi]
  rw [e2,e] at q
  exact q
 ·have hl:i<bs.length:=List.mem_range.mp hi
  have e2:bs.getD i false=bs[i]:=by simp [List.getD,hl]
  rw [e2]
  exact List.all_eq_true.mp h _ (getElem_mem hl)
def Zty (K:Frag):List V→Hp→VK→Prop:=fun xs H Q=>∃(p:Addr) (bs:List Bool),xs=[.ref p]∧SqL K H p (bs.map V.bl)∧Q (.bl (bs.all id)) H
section
variable {X:Cx}
theorem Xmh {prog:Program}{w:World}{A:Around}{bs:List Bool}{its:List Value}(rv:Jn (bs.map V.bl) its):TruthOf prog w A (fun i v=>its.toArray[i]?=some v) (fun i=>bs.getD i false):=by
  intro i v s Q E hv hQ
  have hl:=rv.length
  rw [length_map] at hl
  have hv':its[i]?=some v:=by simpa using hv
  have hi:i<its.length:=(List.getElem?_eq_some_iff.mp hv').1
  obtain ⟨u,e,ru⟩:=rv.get (i:=i) (x:=V.bl (bs.getD i false)) (by
    rw [getElem?_map,getElem?_eq_getElem (by omega)]
    simp [List.getD,show i<bs.length by omega])
  rw [hv'] at e
  cases e
  cases (show v=Value.bool (bs.getD i false) from ru)
  exact wpAny_truthy_bool hQ
theorem Zmq (hc:X.calm=true):Zav X (.builtin "all") (Zty X.K):=by
 intro pins s σ H xs us Q I r h
 obtain ⟨p,bs,rfl,hq,q⟩:=h
 obtain ⟨u,rfl,rx⟩:=vals1 r
 cases rx
 obtain ⟨its,rv,pl,hz⟩:=I.list hq
 have hl:=pl.isList
 have hlen:=rv.length
 rw [length_map] at hlen
 obtain ⟨oa,hoa,_⟩:=id hl
 have hlt:p<s.heap.objs.size:=lt_size hoa
 refine call_all_walk (wpAny_pyIter_list pl.isList ⟨_,_,_,_,_,_,fun i=>bs.getD i false,rfl,Walks.list (A:=X.A.in1) (I.ok.hd hc) s.heap.objs.size p (ne_of_lt hlt) its.toArray,⟨⟨_,get?_push_size _ rfl,rfl,rfl⟩,hl.push _⟩,Xmh rv,fun h' tk hk=>⟨.bl (bs.all id),H,I.kept (old_kept hk),?_,q⟩⟩)
 show Value.bool _=Value.bool _
 rw [size_toArray,← hlen,range_all]
variable {H:Hp}{Q:VK}{K:Frag}
theorem Xem {p:Addr}{bs:List Bool}(h:SqL K H p (bs.map V.bl))(q:Q (.bl (bs.all id)) H):Zty K [.ref p] H Q:=⟨p,bs,rfl,h,q⟩
end
noncomputable def rInD (K:Frag)(neg:Bool):R2:=fun x y H Q=>∃d xs,Dn K H y (.list xs)∧Dn K H x d∧PyData.canLayAll0 xs=true∧d.canLay0=true∧d.depth≤20∧Q (.bl (if neg then !(xs.any fun z=>PyData.eqv z d) else xs.any fun z=>PyData.eqv z d)) H
section
variable {X:Cx}
theorem Xlv (hu:X.A.units+64<cLine):OpR X (compareOp .In) (rInD X.K false):=by
 intro pins s σ H x y v u Q I rx ry h
 obtain ⟨d,xs,h1,h2,c1,c2,dd,q⟩:=h
 obtain ⟨as,ra⟩:=h1.reads I ry
 obtain ⟨bs,rb⟩:=h2.reads I rx
 exact SeqAt.in_list_reads ra rb c1 c2 (by have:=Nat.min_le_right (PyData.depthAll xs) d.depth;omega) ⟨.bl _,H,I,rfl,q⟩
variable {H:Hp}{Q:VK}{K:Frag}
end
noncomputable def Dk {α:Type}:Sem α→Prop
 | .pure _=>True
 | .raise _=>True
 | .unsupported _=>True
 | .finish _=>True
 | .rule _ k=>Dk (k ())
 | .at _ k=>Dk (k ())
 | .load _ _ k=>∀o,Dk (k o)
 | .update _ _ f k=>(∀o:Obj,o.isFreed=false→(f o).isFreed=false∧(f o).dict=o.dict)∧Dk (k ())
 | .alloc _ k=>∀a,Dk (k a)
 | .loadIfAlive _ k=>∀o,Dk (k o)
 | .point _ k=>Dk (k ())
 | .fresh k=>∀a,Dk (k a)
 | .ask k=>∀a,Dk (k a)
 | .choose _ _ k=>∀a,Dk (k a)
 | .os _ _ k=>∀a,Dk (k a)
 | .handled _ k=>∀a,Dk (k a)
 | .stack k=>∀a,Dk (k a)
 | .thread k=>∀a,Dk (k a)
 | .register _ _=>False
 | .call ..=>False
 | .newGen ..=>False
 | .genState ..=>False
 | .resume ..=>False
 | .yield ..=>False
 | .fork ..=>False
 | .await ..=>False
section
variable {X:Cx}{pins:List (Addr×Obj)}{σ:St}{H H':Hp}{s:Shared}{h':Heap}
end
section
variable {X:Cx}{pins:List (Addr×Obj)}{σ:St}{H:Hp}{s:Shared}
structure Kept (X:Cx)(own:List Addr)(h h':Heap):Prop where
 st:(hideAll h (own++frs X.stack)).StaysIn h'
 fr:h'.FunFrames (hideAll h (own++frs X.stack)) X.stack
 up:h.UpToSlots h'
end
noncomputable abbrev bmV:List Value:=[.type "ValueError",.type "Exception",.type "BaseException",.type "object"]
section
variable {X:Cx}{pins:List (Addr×Obj)}{σ:St}{H:Hp}{s:Shared}
noncomputable def exO (e:Addr)(cls:Value)(dx:Option Addr):HO:=.ext fun h=>∃o vs,h.get? e=some o∧o.cls=cls∧o.data=.fields vs∧o.dict=dx
noncomputable abbrev Cx.hand (X:Cx)(e:Addr):Cx:={X with A:=X.A.mark (some (.ref e)),calm:=false,xe:=fun _ _=>False}
end
end L2
namespace L2
open PySem PySem.Spec
section
variable {prog:Program}{w:World}{A:Around}{E:Value→Shared→Prop}{h:Heap}{g:Array GenState}{d:Drawn}{t:Nat}{os:OsState}{a C:Addr}{o:Obj}{vs:Array Value}
open PySem.W (Looks)
end
end L2
namespace L2
open PySem PySem.Spec PyProof.Rows
noncomputable abbrev TJ:=St→Hp→(Hp→Prop)→Prop
def PJ (X:Cx)(es:List Expr)(t:TJ):Prop:=
 ∀(out:Str) (pins:List (Addr×Obj)) (s:Shared) (σ:St) (H:Hp) (Q:VK),Inv X pins σ H s→out.length+2000*es.length≤sizeLine→t σ H (fun H1=>∀z,Q (.str z) H1)→
  wpAny (model X.prog X.w) X.A (joinParts out (evalEach es X.env)) (EP X pins σ Q) X.xe s
structure QJ (X:Cx)(es:List Expr)(t:TJ):Prop where
 out:PJ X es t
section
variable {X:Cx}{a b e:Expr}{es:List Expr}{te:TE}{t:TJ}{pos:Pos}
end
end L2
namespace L2
open PySem PySem.Spec PyProof.Rows
open PySem.W (Looks)
structure ErrIn (K:Frag)(C:Addr):Prop where
 exc:PySem.W.excIn K C bmV "ValueError.__new__"=true
 ty:typeIn K (.ref C)=some (.type "type")
 cl:∃c,clsIn K C=some c
 ga:findIn K (.ref C) "__getattribute__"=some (some (.builtin "BaseException.__getattribute__"))
 ge:findIn K (.ref C) "__getattr__"=some none
 lk:findIn K (.ref C) "__class__"=some (some (.builtin "object.__class__"))
 so:subIn K (.ref C) (.type "object")=some true
 sb:subIn K (.ref C) (.type "BaseException")=some true
 se:subIn K (.ref C) (.ref C)=some true
section
variable {K:Frag}{C D e:Addr}{b:Bool}
structure ErrK (K:Frag)(C:Addr):Prop where
 ob:∃dd cd sl,K.lookup C=some ⟨.type "type",dd,.cls cd,sl⟩
 ty:typeIn K (.ref C)=some (.type "type")
 cl:∃c,clsIn K C=some c
 ga:findIn K (.ref C) "__getattribute__"=some (some (.builtin "BaseException.__getattribute__"))
 ge:findIn K (.ref C) "__getattr__"=some none
 lk:findIn K (.ref C) "__class__"=some (some (.builtin "object.__class__"))
 so:subIn K (.ref C) (.type "object")=some true
 sb:subIn K (.ref C) (.type "BaseException")=some true
 se:subIn K (.ref C) (.ref C)=some true
variable {X:Cx}
end
section
variable {σ:St}{H:Hp}{Q:VK}{D:Ends}{K:Frag}
variable {X:Cx}{a b c d:Expr}{ta tb tc td:TE}{pos:Pos}
end
section
variable {X:Cx}{e:Expr}{es:List Expr}{t:TA}{np cpos pos hpos:Pos}
end
end L2
namespace L2
open PySem PySem.Spec PyProof.Rows
structure Pl (n:Nat)(x:Str):Prop where
 len:x.length≤n
 asc:∀c∈x.cps.toList,c<128
section
variable {X:Cx}{e:Expr}{te:TE}{pos:Pos}
end
section
variable {κ:Type}[DecidableEq κ]
noncomputable def putK (kvs:List (κ×V))(k:κ)(v:V):List (κ×V):=
 if (kvs.any fun kv=>decide (kv.1=k))=true then kvs.map (fun kv=>if kv.1=k then (kv.1,v) else kv) else kvs++[(k,v)]
end
section
variable {P:Program}{w:World}{H:Hp}{h:Heap}{a:Addr}
end
def DPut (H:Hp)(a:Addr)(y v:V)(H':Hp):Prop:=
 (∃kvs k,H a=some (.dK kvs)∧y=kV k∧kvs.length<sizeLine∧H'=upd H a (.dK (putK kvs k v)))∨
 ∃kvs k b,H a=some (.dT kvs)∧y=.ref b∧H b=some (.tup (k.map kV))∧kvs.length<sizeLine∧H'=upd H a (.dT (putK kvs k v))
section
variable {X:Cx}{pins:List (Addr×Obj)}{σ:St}{H:Hp}{s:Shared}{a:Addr}{y v:V}{u r:Value}{o:Option V}{A:Around}{E:Value→Shared→Prop}
end
section
variable {X:Cx}{pins:List (Addr×Obj)}{σ:St}{H:Hp}{s:Shared}{a:Addr}{kvs:List (Key×V)}{k:Key}{u:Value}{A:Around}{E:Value→Shared→Prop}
end
def sDPut (td ty tv:TE):TS:=fun D σ H=>tv σ H fun v H1=>td σ H1 fun x H2=>ty σ H2 fun y H3=>∃a H4,x=.ref a∧DPut H3 a y v H4∧D.nx σ H4
section
variable {X:Cx}{o i e value:Expr}{pos pos' tpos:Pos}{td ty tv:TE}
end
noncomputable def Xkz:List (TE×TE)→St→Hp→(List (V×V)→Hp→Prop)→Prop
 | [],_,H,Q=>Q [] H
 | (tk,tv)::r,σ,H,Q=>tk σ H fun x H1=>tv σ H1 fun y H2=>Xkz r σ H2 fun ps H3=>Q ((x,y)::ps) H3
structure M1 (X:Cx)(o:Expr)(m:Str)(apos:Pos)(e:Expr)(cpos:Pos):Prop where
  base:attributeBase o m X.env (eval o X.env)=eval o X.env
  few:((backTo cpos (starEach [e] X.env)).all (fun x=>!x.1)&&(backToKw cpos (keywordEach [] X.env)).all (fun x=>x.1.isSome)
    && decide (([e]:List Expr).length+([]:List Keyword).length+(if ([]:List Keyword).isEmpty then 0 else 1)<30))=true
  line:(apos.endLine==cpos.line)=true
  trees:backTo cpos (starEach [e] X.env)=[(false,eval e X.env)]
structure M2 (X:Cx)(o:Expr)(m:Str)(apos:Pos)(e f:Expr)(cpos:Pos):Prop where
  base:attributeBase o m X.env (eval o X.env)=eval o X.env
  few:((backTo cpos (starEach [e,f] X.env)).all (fun x=>!x.1)&&(backToKw cpos (keywordEach [] X.env)).all (fun x=>x.1.isSome)
    && decide (([e,f]:List Expr).length+([]:List Keyword).length+(if ([]:List Keyword).isEmpty then 0 else 1)<30))=true
  line:(apos.endLine==cpos.line)=true
  trees:backTo cpos (starEach [e,f] X.env)=[(false,eval e X.env),(false,eval f X.env)]
section
variable {X:Cx}{pins:List (Addr×Obj)}{σ:St}{H:Hp}{s:Shared}{a:Addr}{y d:V}{u r:Value}{o:Option V}{A:Around}{E:Value→Shared→Prop}
end
section
variable {X:Cx}{o e f:Expr}{apos cpos:Pos}{td ty tx:TE}
variable {pins:List (Addr×Obj)}{σ:St}{H:Hp}{s:Shared}{a:Addr}{kvs:List (Key×V)}{A:Around}{E:Value→Shared→Prop}
end
section
variable {X:Cx}{pins:List (Addr×Obj)}{σ:St}{H:Hp}{s:Shared}{a:Addr}{y:V}{u:Value}{A:Around}{E:Value→Shared→Prop}
end
end L2
namespace Dl
open PySem
set_option genInjectivity true in
inductive D where
 | non
 | bl (b:Bool)
 | int (i:Int)
 | str (x:Str)
 | lst (xs:List D)
 | tup (xs:List D)
 | scr (ns:List Int)
 | rng (lo hi:Int)
 | exc (c:String) (f:Option Int)
 | obj (c:String) (ns:List Str) (xs:List D)
 | dct (ks:List (Int ⊕ Str)) (xs:List D)
 | dtt (ks:List (List (Int ⊕ Str))) (xs:List D)
 deriving Inhabited
set_option genInjectivity true in
inductive R (α:Type) where
 | ok (a:α)
 | err (c:String) (f:Option Int)
 | bad
noncomputable abbrev Env:=List (Option D)
set_option genInjectivity true in
inductive Fl where
 | nx (ρ:Env)
 | ret (d:D)
 | brk (ρ:Env)
 | cnt (ρ:Env)
noncomputable def R.bind {α β:Type}:R α→(α→R β)→R β
 | .ok a,f=>f a
 | .err c x,_=>.err c x
 | .bad,_=>.bad
@[simp] theorem Jq {α β:Type}(a:α)(f:α→R β):(R.ok a).bind f=f a:=(rfl)
@[simp] theorem bind_err {α β:Type}(c:String)(x:Option Int)(f:α→R β):(R.err c x:R α).bind f=.err c x:=(rfl)
@[simp] theorem bind_bad {α β:Type}(f:α→R β):(R.bad:R α).bind f=.bad:=(rfl)
noncomputable abbrev FE:=Env→R D
noncomputable abbrev FT:=Env→R Bool
noncomputable abbrev FA:=Env→R (List D)
noncomputable abbrev FO:=Env→R (Option Int)
noncomputable abbrev FS:=Env→R Fl
noncomputable def fC (d:D):FE:=fun _=>.ok d
noncomputable def fV (i:Nat):FE:=fun ρ=>match ρ[i]? with
 | some (some d)=>.ok d
 | _=>.bad
noncomputable def oR {α:Type}:Option α→R α
 | some a=>.ok a
 | none=>.bad
@[simp] theorem oR_some {α:Type}(a:α):oR (some a)=.ok a:=(rfl)
@[simp] theorem oR_none {α:Type}:(oR (none:Option α))=.bad:=(rfl)
noncomputable def f1 (g:D→Option D)(a:FE):FE:=fun ρ=>(a ρ).bind fun x=>oR (g x)
noncomputable def f2 (g:D→D→Option D)(a b:FE):FE:=fun ρ=>(a ρ).bind fun x=>(b ρ).bind fun y=>oR (g x y)
noncomputable def Zt:FA:=fun _=>.ok []
noncomputable def Zc (a:FE)(r:FA):FA:=fun ρ=>(a ρ).bind fun x=>(r ρ).bind fun xs=>.ok (x::xs)
noncomputable def fA (g:List D→Option D)(a:FA):FE:=fun ρ=>(a ρ).bind fun xs=>oR (g xs)
noncomputable def Xr (F:List D→R D)(a:FA):FE:=fun ρ=>(a ρ).bind F
noncomputable abbrev lim:Nat:=1000000
noncomputable def Zae (xs:List D):Option D:=if xs.length≤lim then some (.lst xs) else none
noncomputable def Zdy (xs:List D):Option D:=if xs.length≤lim then some (.tup xs) else none
mutual
noncomputable def flat:D→Bool
 | .lst _=>false
 | .tup xs=>Yz xs
 | .non=>true
 | .bl _=>true
 | .int _=>true
 | .str _=>true
 | .scr _=>true
 | .rng _ _=>true
 | .exc _ _=>true
 | .obj _ _ _=>false
 | .dct _ _=>false
 | .dtt _ _=>false
noncomputable def Yz:List D→Bool
 | []=>true
 | x::xs=>flat x&&Yz xs
end
noncomputable def Xt (d:D):Option D:=if flat d then some d else none
noncomputable def Jj:D→D→Option D
 | .int i,.int j=>some (.int (i+j))
 | .str x,.str y=>if x.length+y.length≤lim then some (.str (x++y)) else none
 | .lst xs,.lst ys=>if xs.length+ys.length≤lim∧Yz xs∧Yz ys then some (.lst (xs++ys)) else none
 | _,_=>none
noncomputable def gAddI:D→D→Option D
 | .int i,.int j=>some (.int (i+j))
 | _,_=>none
noncomputable def Zot:D→D→Option D
 | .int i,.int j=>some (.int (i - j))
 | _,_=>none
noncomputable def short (i:Int):Bool:=decide (-(2 ^ 64)<i)&&decide (i<2 ^ 64)
noncomputable def Zai:D→D→Option D
 | .int i,.int j=>if short i||short j then some (.int (i*j)) else none
 | .lst xs,.int k=>if k≤1000000∧xs.length*k.toNat≤lim∧-1000000≤k∧Yz xs then some (.lst (List.replicate k.toNat xs).flatten) else none
 | _,_=>none
noncomputable def Zjg:D→D→Option D
 | .int i,.int j=>if 0<j then some (.int (i % j)) else none
 | _,_=>none
noncomputable def Xjf:D→D→Option D
 | .int i,.int j=>if 0<j∧j<2 ^ 200 then some (.int (i / j)) else none
 | _,_=>none
noncomputable def Ziz:D→D→Option D
 | .int i,.int j=>if 0≤j∧j≤1000000∧i.natAbs<2 ^ 64 then some (.int (i ^ j.toNat)) else none
 | _,_=>none
noncomputable def Zuw:D→Option D
 | .int i=>some (.int (-i))
 | _=>none
noncomputable def gLt:D→D→Option D
 | .int i,.int j=>some (.bl (decide (i<j)))
 | _,_=>none
noncomputable def gLe:D→D→Option D
 | .int i,.int j=>some (.bl (decide (i≤j)))
 | _,_=>none
noncomputable def gGt:D→D→Option D
 | .int i,.int j=>some (.bl (decide (j<i)))
 | _,_=>none
noncomputable def gGe:D→D→Option D
 | .int i,.int j=>some (.bl (decide (j≤i)))
 | _,_=>none
mutual
noncomputable def dep:D→Nat
 | .lst xs=>Zja xs+1
 | .tup xs=>Zja xs+1
 | .scr _=>100
 | .rng _ _=>100
 | .exc _ _=>100
 | .obj _ _ _=>100
 | .dct _ _=>100
 | .dtt _ _=>100
 | .non=>0
 | .bl _=>0
 | .int _=>0
 | .str _=>0
noncomputable def Zja:List D→Nat
 | []=>0
 | x::xs=>max (dep x) (Zja xs)
end
mutual
noncomputable def eqv:D→D→Bool
 | .non,.non=>true
 | .bl a,.bl b=>a==b
 | .bl a,.int j=>(if a then 1 else 0)==j
 | .int i,.bl b=>i==(if b then 1 else 0)
 | .int i,.int j=>i==j
 | .str x,.str y=>x==y
 | .lst xs,.lst ys=>Xgt xs ys
 | .tup xs,.tup ys=>Xgt xs ys
 | _,_=>false
noncomputable def Xgt:List D→List D→Bool
 | [],[]=>true
 | x::xs,y::ys=>eqv x y&&Xgt xs ys
 | _,_=>false
end
noncomputable def gEq (a b:D):Option D:=if dep a≤20∧dep b≤20 then some (.bl (eqv a b)) else none
noncomputable def gNe (a b:D):Option D:=if dep a≤20∧dep b≤20 then some (.bl (!eqv a b)) else none
noncomputable def gIn (x:D):D→Option D
 | .lst ys=>if dep x≤20∧Zja ys≤20 then some (.bl (ys.any fun y=>eqv y x)) else none
 | _=>none
noncomputable def Zlk:D→Bool
 | .non=>true
 | _=>false
noncomputable def gIs (x:D):D→Option D
 | .non=>some (.bl (Zlk x))
 | .bl c=>match x with
  | .bl b=>some (.bl (b==c))
  | _=>none
 | _=>none
noncomputable def Xcz (x:D):D→Option D
 | .non=>some (.bl (!Zlk x))
 | .bl c=>match x with
  | .bl b=>some (.bl (!(b==c)))
  | _=>none
 | _=>none
noncomputable def ixD (n:Nat)(i:Int):Option Nat:=if 0≤i then (if i<n then some i.toNat else none) else if -(n:Int)≤i then some (i+n).toNat else none
noncomputable def atD {α:Type}(xs:List α)(i:Int):Option α:=(ixD xs.length i).bind fun j=>xs[j]?
noncomputable def Xjo (n d:Nat):Option Int→Nat
 | none=>d
 | some v=>if v<0 then (max (v+(n:Int)) 0).toNat else min v.toNat n
noncomputable def cut {α:Type}(xs:List α)(lo hi:Option Int):List α:=(xs.drop (Xjo xs.length 0 lo)).take (Xjo xs.length xs.length hi - Xjo xs.length 0 lo)
noncomputable def gIx:D→D→Option D
 | .lst xs,.int i=>(atD xs i)
 | .tup xs,.int i=>(atD xs i)
 | .scr ns,.int i=>((atD ns i).map D.int)
 | .str z,.int i=>if z.length≤lim then ((atD z.cps.toList i).map fun c=>D.str ⟨#[c]⟩) else none
 | _,_=>none
noncomputable def gIxL (x y:D):Option D:=match x with
 | .lst _=>gIx x y
 | _=>none
noncomputable def Zsk:FO:=fun _=>.ok none
noncomputable def Zmt (a:FE):FO:=fun ρ=>(a ρ).bind fun d=>match d with
 | .int i=>.ok (some i)
 | _=>.bad
noncomputable def fSl (g:D→Option Int→Option Int→Option D)(a:FE)(l h:FO):FE:=fun ρ=>(a ρ).bind fun x=>(l ρ).bind fun lo=>(h ρ).bind fun hi=>oR (g x lo hi)
noncomputable def gSl:D→Option Int→Option Int→Option D
 | .lst xs,lo,hi=>if Yz xs then some (.lst (cut xs lo hi)) else none
 | .scr ns,lo,hi=>some (.lst ((cut ns lo hi).map D.int))
 | _,_,_=>none
noncomputable def plain (n:Nat)(z:Str):Bool:=decide (z.length≤n)&&z.cps.toList.all (fun c=>decide (c<128))
noncomputable def intsOf:List D→Option (List Int)
 | []=>some []
 | .int i::r=>(intsOf r).map (i::·)
 | _::_=>none
noncomputable def bools:List D→Option (List Bool)
 | []=>some []
 | .bl i::r=>(bools r).map (i::·)
 | _::_=>none
noncomputable def Jk:List D→Option D
 | [.lst xs]=>some (.int xs.length)
 | [.tup xs]=>some (.int xs.length)
 | [.scr xs]=>some (.int xs.length)
 | [.str z]=>if z.length≤lim then some (.int z.length) else none
 | _=>none
noncomputable def Zvn:List D→Option D
 | [.lst xs]=>(intsOf xs).bind fun ns=>some (.int ns.sum)
 | _=>none
noncomputable def Xah:List Int→Int
 | []=>0
 | x::r=>r.foldl max x
noncomputable def Xbj:List D→Option D
 | [.int i,.int j]=>some (.int (if j > i then j else i))
 | [.lst xs]=>(intsOf xs).bind fun ns=>if ns=[] then none else some (.int (Xah ns))
 | _=>none
noncomputable def Xdh:List D→Option D
 | [.int i,.int j]=>some (.int (if j<i then j else i))
 | _=>none
noncomputable def Zyl:List D→Option D
 | [.lst xs]=>(bools xs).bind fun bs=>some (.bl (bs.all id))
 | _=>none
noncomputable def Zcj (lo:Int)(n:Nat):List D:=(List.range n).map fun (k:Nat)=>D.int (lo+(k:Int))
noncomputable def Zjk:List D→Option D
 | [.lst xs]=>if Yz xs then some (.lst xs) else none
 | [.tup xs]=>if Yz xs then some (.lst xs) else none
 | [.rng i j]=>if -1000000000≤i∧i≤1000000000∧-1000000000≤j∧j≤1000000000∧(j - i).toNat≤lim then some (.lst (Zcj i (j - i).toNat)) else none
 | _=>none
noncomputable def Xkc:List D→Option D
 | [.lst xs]=>some (.lst xs)
 | _=>none
noncomputable def Xdo:D→String
 | .non=>"NoneType"
 | .bl _=>"bool"
 | .int _=>"int"
 | .str _=>"str"
 | .lst _=>"list"
 | .tup _=>"tuple"
 | .scr _=>"list"
 | .rng _ _=>"range"
 | .exc c _=>c
 | .obj c _ _=>c
 | .dct _ _=>"dict"
 | .dtt _ _=>"dict"
noncomputable def Zlw (c:String):D→Option D
 | .non=>some (.bl false)
 | .bl _=>some (.bl (c=="bool"||c=="int"))
 | .int _=>some (.bl (c=="int"))
 | .str _=>some (.bl (c=="str"))
 | .lst _=>some (.bl (c=="list"))
 | .tup _=>some (.bl (c=="tuple"))
 | _=>none
noncomputable def cE (a:FE):FT:=fun ρ=>(a ρ).bind fun d=>match d with
 | .bl b=>.ok b
 | _=>.bad
noncomputable def Ztp (a:FT):FT:=fun ρ=>(a ρ).bind fun b=>.ok (!b)
noncomputable def Zwt (a b:FT):FT:=fun ρ=>(a ρ).bind fun x=>if x then b ρ else .ok false
noncomputable def cOr (a b:FT):FT:=fun ρ=>(a ρ).bind fun x=>if x then .ok true else b ρ
noncomputable def Xjh (a b:FE):FE:=fun ρ=>(a ρ).bind fun x=>match x with
 | .bl true=>b ρ
 | .bl false=>.ok (.bl false)
 | _=>.bad
noncomputable def fOr (a b:FE):FE:=fun ρ=>(a ρ).bind fun x=>match x with
 | .bl true=>.ok (.bl true)
 | .bl false=>b ρ
 | _=>.bad
noncomputable def gNot:D→Option D
 | .bl b=>some (.bl (!b))
 | _=>none
noncomputable def fIf (c:FT)(a b:FE):FE:=fun ρ=>(c ρ).bind fun x=>if x then a ρ else b ρ
noncomputable def Zjp (g g':D→D→Option D)(a b c:FE):FE:=fun ρ=>(a ρ).bind fun x=>(b ρ).bind fun y=>(oR (g x y)).bind fun z=>match z with
 | .bl true=>(c ρ).bind fun w=>oR (g' y w)
 | .bl false=>.ok (.bl false)
 | _=>.bad
noncomputable abbrev FB:=D→Env→R Env
noncomputable def Zn (i:Nat):FB:=fun d ρ=>.ok (ρ.set i (some d))
noncomputable def Zcv:List D→Env→R Env
 | [],ρ=>.ok ρ
 | _,_=>.bad
noncomputable def Xh (b:FB)(r:List D→Env→R Env):List D→Env→R Env
 | d::ds,ρ=>(b d ρ).bind fun ρ'=>r ds ρ'
 | _,_=>.bad
noncomputable def Zdb (r:List D→Env→R Env):FB:=fun d ρ=>match d with
 | .tup ds=>r ds ρ
 | _=>.bad
noncomputable def R.calm {α:Type}:R α→R α
 | .ok a=>.ok a
 | .err _ _=>.bad
 | .bad=>.bad
@[simp] theorem Zks {α:Type}(a:α):(R.ok a).calm=.ok a:=(rfl)
noncomputable def Yr (k:Nat)(b:FB)(c:FT)(e:FE)(ρ:Env):List D→R (List D)
 | []=>.ok []
 | x::xs=>(b x (ρ++List.replicate k none)).calm.bind fun ρ1=>(c ρ1).bind fun t=>if t then (e ρ1).bind fun y=>(Yr k b c e ρ xs).bind fun ys=>.ok (y::ys) else Yr k b c e ρ xs
noncomputable def Zbm:FT:=fun _=>.ok true
noncomputable abbrev FI:=Env→R (List D)
noncomputable def Zba (a:FE):FI:=fun ρ=>(a ρ).bind fun d=>match d with
 | .lst xs=>if xs.length≤lim then .ok xs else .bad
 | .scr ns=>if ns.length≤lim then .ok (ns.map D.int) else .bad
 | _=>.bad
noncomputable def jTup (a:FE):FI:=fun ρ=>(a ρ).bind fun d=>match d with
 | .tup xs=>if xs.length≤lim then .ok xs else .bad
 | _=>.bad
noncomputable def Zaq (a:FA):FI:=fun ρ=>(a ρ).bind fun ds=>match ds with
 | [.int j]=>if -1000000000≤j∧j≤1000000 then .ok (Zcj 0 j.toNat) else .bad
 | _=>.bad
noncomputable def Zwx (a:FA):FI:=fun ρ=>(a ρ).bind fun ds=>match ds with
 | [.int i,.int j]=>if -1000000000≤i∧i≤1000000000∧-1000000000≤j∧j≤1000000000∧(j - i).toNat≤lim then .ok (Zcj i (j - i).toNat) else .bad
 | _=>.bad
noncomputable def Xdv:List D→Option D
 | [.bl b]=>some (.int (if b=true then 1 else 0))
 | _=>none
noncomputable def sortI (ns:List Int):List Int:=ns.mergeSort fun a b=>decide (a≤b)
noncomputable def Ztg:List D→Option D
 | [.lst xs]=>(intsOf xs).bind fun ns=>if ns.length<64 then some (.lst ((sortI ns).map D.int)) else none
 | _=>none
noncomputable def Zjs:List D→Option D
 | [.lst xs]=>(intsOf xs).bind fun ns=>if ns.length<64 then some (.lst ((sortI ns).reverse.map D.int)) else none
 | _=>none
noncomputable def Zir (ds:List D):List D:=ds.mapIdx fun i d=>D.tup [.int (i:Int),d]
noncomputable def Zws (ds es:List D):List D:=List.zipWith (fun d e=>D.tup [d,e]) ds es
noncomputable def Zyg (a:FE):FI:=fun ρ=>(a ρ).bind fun d=>match d with
 | .lst xs=>if xs.length≤lim then .ok (Zir xs) else .bad
 | _=>.bad
noncomputable def Xht (a b:FE):FI:=fun ρ=>(a ρ).bind fun x=>(b ρ).bind fun y=>match x,y with
 | .lst xs,.lst ys=>if xs.length≤lim∧ys.length≤lim then .ok (Zws xs ys) else .bad
 | _,_=>.bad
noncomputable def Jg (n k:Nat)(it:FI)(b:FB)(c:FT)(e:FE):FE:=fun ρ=>if ρ.length=n then (it ρ).bind fun xs=>(Yr k b c e ρ xs).calm.bind fun ys=>.ok (.lst ys) else .bad
noncomputable def sNx:FS:=fun ρ=>.ok (.nx ρ)
noncomputable def Zqi:FS:=fun _=>.bad
noncomputable def Xk (a b:FS):FS:=fun ρ=>(a ρ).bind fun fl=>match fl with
 | .nx ρ'=>b ρ'
 | fl=>.ok fl
noncomputable def Yi (i:Nat)(e:FE):FS:=fun ρ=>(e ρ).bind fun d=>.ok (.nx (ρ.set i (some d)))
noncomputable def Jy (e:FE):FS:=fun ρ=>(e ρ).bind fun d=>.ok (.ret d)
noncomputable def sIf (c:FT)(a b:FS):FS:=fun ρ=>(c ρ).bind fun x=>if x then a ρ else b ρ
noncomputable def Zhe (i:Nat)(e:FE):FS:=fun ρ=>match ρ[i]? with
 | some (some (.lst xs))=>(e ρ).bind fun d=>if xs.length<lim then .ok (.nx (ρ.set i (some (.lst (xs++[d]))))) else .bad
 | _=>.bad
noncomputable def Zuq (i j:Nat)(g:D→D→Option D)(x:D)(ρ:Env):R Fl:=match x,ρ[j]? with
 | .int k,some (some (.lst ds))=>match ds.getLast? with
  | some (.int n)=>match g (.int k) (.int n) with
   | some (.int z)=>if Yz ds=true then .ok (.nx ((ρ.set j (some (.lst ds.dropLast))).set i (some (.int z)))) else .bad
   | _=>.bad
  | _=>.bad
 | _,_=>.bad
noncomputable def Znn (i j:Nat)(g:D→D→Option D)(a:FE):FS:=fun ρ=>(a ρ).bind fun x=>Zuq i j g x ρ
noncomputable def sDrop (e:FE):FS:=fun ρ=>(e ρ).bind fun _=>.ok (.nx ρ)
noncomputable def Zhc (f:List D→Option (List D)):List Int→D→Option D
 | [],.lst xs=>(f xs).map D.lst
 | n::r,.lst xs=>(ixD xs.length n).bind fun j=>xs[j]?.bind fun d=>(Zhc f r d).map fun d'=>D.lst (xs.set j d')
 | n::r,.tup xs=>(ixD xs.length n).bind fun j=>xs[j]?.bind fun d=>(Zhc f r d).map fun d'=>D.tup (xs.set j d')
 | _,_=>none
noncomputable def Zgc (d:D)(xs:List D):Option (List D):=if xs.length<lim then some (xs++[d]) else none
noncomputable def Zne (i:Nat)(ks:FA)(e:FE):FS:=fun ρ=>match ρ[i]? with
 | some (some d)=>(ks ρ).calm.bind fun zs=>match intsOf zs with
  | some path=>(e ρ).calm.bind fun v=>match Zhc (Zgc v) path d with
   | some d'=>.ok (.nx (ρ.set i (some d')))
   | none=>.bad
  | none=>.bad
 | _=>.bad
noncomputable def Xnl (i j:Nat)(c:FT)(r:D)(e:FE)(ρ:Env):List D→List D→R Fl
 | dn,[]=>.ok (.nx ((ρ.set i (some (.lst dn))).set j none))
 | dn,x::rest=>(c ((ρ.set i (some (.lst (dn++x::rest)))).set j (some x))).bind fun b=>if b then .ok (.ret r) else
   (e ((ρ.set i (some (.lst (dn++x::rest)))).set j (some x))).calm.bind fun v=>match Zhc (Zgc v) [] x with
    | some x'=>Xnl i j c r e ρ (dn++[x']) rest
    | none=>.bad
noncomputable def Zof (e:FE)(b:FB):FS:=fun ρ=>(e ρ).bind fun d=>(b d ρ).calm.bind fun ρ'=>.ok (.nx ρ')
noncomputable def Zdc (b:FB)(s:FS):List D→Env→R Fl
 | [],ρ=>.ok (.nx ρ)
 | x::xs,ρ=>(b x ρ).calm.bind fun ρ1=>(s ρ1).bind fun fl=>match fl with
  | .nx ρ2=>Zdc b s xs ρ2
  | .cnt ρ2=>Zdc b s xs ρ2
  | .brk ρ2=>.ok (.nx ρ2)
  | .ret d=>.ok (.ret d)
noncomputable def Zid (it:FI)(b:FB)(s:FS):FS:=fun ρ=>(it ρ).bind fun xs=>Zdc b s xs ρ
noncomputable def Zci (c:FT)(s:FS):Nat→Env→R Fl
 | 0,_=>.bad
 | n+1,ρ=>(c ρ).bind fun b=>if b then (s ρ).bind fun fl=>match fl with
  | .nx ρ2=>Zci c s n ρ2
  | .cnt ρ2=>Zci c s n ρ2
  | .brk ρ2=>.ok (.nx ρ2)
  | .ret d=>.ok (.ret d)
  else .ok (.nx ρ)
noncomputable def Zjy (n:Nat)(c:FT)(s:FS):FS:=fun ρ=>Zci c s n ρ
noncomputable def Xna (c:String)(words:FA):FS:=fun ρ=>(words ρ).bind fun _=>.err c none
noncomputable def strsOf:List D→Option (List Str)
 | []=>some []
 | .str i::r=>(strsOf r).map (i::·)
 | _::_=>none
noncomputable def Xjr:D→D→Option D
 | .str s,.lst ds=>(strsOf ds).bind fun ts=>if (ts.map (·.length)).sum+ts.length*s.length≤lim then some (.str (Str.join s ts)) else none
 | _,_=>none
noncomputable def Xdl:D→D→Option D
 | .lst ds,.int n=>(intsOf ds).bind fun ns=>if n∈ns then some (D.int (ns.idxOf n:Nat)) else none
 | _,_=>none
noncomputable def Xmv (a b:FE):FE:=fun ρ=>(a ρ).bind fun x=>match x with
 | .lst ds=>(b ρ).bind fun y=>oR (Xdl (.lst ds) y)
 | _=>.bad
noncomputable def fJoin (a b:FE):FE:=fun ρ=>(a ρ).bind fun x=>match x with
 | .str s=>(b ρ).bind fun y=>oR (Xjr (.str s) y)
 | _=>.bad
noncomputable def pickM (N:Nat)(c:String)(x:Option Int):List (List (String×Bool)×Option Nat×FS)→R Fl
  | []=>.bad
  | z::r=>match z.1.lookup c with
    | some true=>(match z.2.1 with
      | some i=>(z.2.2 ((List.replicate N none).set i (some (.exc c x)))).calm.bind fun fl=>match fl with
        | .nx _=>.ok (.nx (List.replicate N none))
        | .brk _=>.ok (.brk (List.replicate N none))
        | .cnt _=>.ok (.cnt (List.replicate N none))
        | .ret d=>.ok (.ret d)
      | none=>(z.2.2 (List.replicate N none)).calm)
    | some false=>pickM N c x r
    | none=>.bad
noncomputable def fIx (f:Str):List Str→Option Nat
 | []=>none
 | g::r=>if g=f then some 0 else (fIx f r).map (·+1)
noncomputable def putO (c:String)(f:Str)(d:D):D→Option D
 | .obj c' ns xs=>if c'=c∧ns.length<100 then match fIx f ns with
   | some j=>some (.obj c' ns (xs.set j d))
   | none=>some (.obj c' (ns++[f]) (xs++[d]))
  else none
 | _=>none
noncomputable def sFld (i:Nat)(c:String)(f:Str)(e:FE):FS:=fun ρ=>(e ρ).bind fun d=>match ρ[i]? with
 | some (some o)=>(oR (putO c f d o)).bind fun o'=>.ok (.nx (ρ.set i (some o')))
 | _=>.bad
noncomputable abbrev FM:=Env→R (D×Env)
noncomputable abbrev FMT:=Env→R (Bool×Env)
noncomputable def run (N:Nat)(b:FS)(ds:List D):R D:=(b (ds.map some++List.replicate (N - ds.length) none)).bind fun fl=>match fl with
 | .nx _=>.ok .non
 | .ret d=>.ok d
 | _=>.bad
noncomputable def keyD:D→Option (Int ⊕ Str)
 | .int i=>some (.inl i)
 | .str x=>some (.inr x)
 | _=>none
noncomputable def dHas (ks:List (Int ⊕ Str))(k:Int ⊕ Str):Bool:=ks.any fun j=>decide (j=k)
noncomputable def dPut (ks:List (Int ⊕ Str))(xs:List D)(k:Int ⊕ Str)(d:D):D:=if dHas ks k then .dct ks (List.zipWith (fun j x=>if j=k then d else x) ks xs) else .dct (ks++[k]) (xs++[d])
noncomputable def sDPut (i:Nat)(k e:FE):FS:=fun ρ=>(e ρ).bind fun d=>match ρ[i]? with
 | some (some (.dct ks xs))=>(k ρ).bind fun z=>match keyD z with
  | some q=>if flat d=true∧Yz xs=true∧ks.length<lim then .ok (.nx (ρ.set i (some (dPut ks xs q d)))) else .bad
  | none=>.bad
 | _=>.bad
noncomputable def catO:Str→List D→Option D
 | out,[]=>some (.str out)
 | out,.str y::r=>if y.length≤2000 then catO (out++y) r else none
 | _,_=>none
noncomputable def Xdz (c:Nat):List Nat→List (List Nat)
 | []=>[[]]
 | x::r=>if x=c then []::Xdz c r else match Xdz c r with
  | []=>[[x]]
  | w::ws=>(x::w)::ws
noncomputable def unR (p:List Nat):Option (List Nat):=if p.getLast?=some 32 then some p.dropLast else none
noncomputable def unL:List Nat→Option (List Nat)
 | []=>none
 | x::r=>if x=32 then some r else none
noncomputable def unP:List Nat→List (List Nat)→Option (List (List Nat))
 | p,[]=>some [p]
 | p,q::r=>(unR p).bind fun w=>(unL q).bind fun q'=>(unP q' r).bind fun ws=>some (w::ws)
noncomputable def keysD:List D→Option (List (Int ⊕ Str))
 | []=>some []
 | d::r=>(keyD d).bind fun k=>(keysD r).bind fun ks=>some (k::ks)
noncomputable def tAt:List (List (Int ⊕ Str))→List D→List (Int ⊕ Str)→Option D
 | j::ks,x::xs,k=>if j=k then some x else tAt ks xs k
 | _,_,_=>none
noncomputable abbrev Pc:=Int×Str
noncomputable def sLt (x y:Str):Bool:=decide (x.cps.toList<y.cps.toList)
noncomputable def pcLt (p q:Pc):Bool:=if p.1=q.1 then (if p.2=q.2 then false else sLt p.2 q.2) else decide (p.1<q.1)
noncomputable def Xms:List Pc→List Pc→Bool
 | [],[]=>false
 | [],_::_=>true
 | _::_,[]=>false
 | p::c,q::d=>if p=q then Xms c d else pcLt p q
noncomputable def insC (c:List Pc):List (List Pc)→List (List Pc)
 | []=>[c]
 | d::r=>if Xms c d=true then c::d::r else d::insC c r
noncomputable def sortC:List (List Pc)→List (List Pc)
 | []=>[]
 | c::r=>insC c (sortC r)
noncomputable def pcOf:D→Option Pc
 | .tup [.int i,.str z]=>some (i,z)
 | _=>none
noncomputable def Xlb:List D→Option (List Pc)
 | []=>some []
 | d::r=>(pcOf d).bind fun p=>(Xlb r).bind fun ps=>some (p::ps)
noncomputable def ctOf:D→Option (List Pc)
 | .lst ds=>Xlb ds
 | _=>none
noncomputable def ctsOf:List D→Option (List (List Pc))
 | []=>some []
 | d::r=>(ctOf d).bind fun c=>(ctsOf r).bind fun cs=>some (c::cs)
noncomputable def Zhf:List Nat→FA
 | []=>Zt
 | j::r=>Zc (fV j) (Zhf r)
noncomputable def Zed (fb:FE)(fr:Env):List D→R (List Int)
 | []=>.ok []
 | x::r=>(fb (some x::fr)).calm.bind fun k=>match k with
  | .int k=>(Zed fb fr r).bind fun ks=>.ok (k::ks)
  | _=>.bad
noncomputable def Ziw (lt:Int→Int→Bool)(ks:List Int)(i:Nat):Bool:=(List.range ks.length).all (fun j=>!lt (ks.getD j 0) (ks.getD i 0))&&(List.range i).all (fun j=>lt (ks.getD i 0) (ks.getD j 0))
noncomputable def Zoh (lt:Int→Int→Bool)(ds:List D)(ks:List Int):R D:=match (List.range ks.length).find? (Ziw lt ks) with
 | some i=>oR ds[i]?
 | none=>.bad
noncomputable def Zkc (lt:Int→Int→Bool)(fe:FE)(js:List Nat)(fb:FE):FE:=fun ρ=>(fe ρ).bind fun d=>match d with
 | .lst ds=>if ds.isEmpty then .bad else (Zhf js ρ).calm.bind fun fs=>(Zed fb (fs.map some) ds).bind (Zoh lt ds)
 | _=>.bad
noncomputable def goP:List Int→D→Option D
 | [],d=>some d
 | n::r,.lst xs=>(ixD xs.length n).bind fun j=>xs[j]?.bind (goP r)
 | n::r,.tup xs=>(ixD xs.length n).bind fun j=>xs[j]?.bind (goP r)
 | _,_=>none
noncomputable def Zcl (i j:Nat)(path:List Int)(e:FE)(ρ:Env):Nat→Nat→D→R Fl
 | _,0,d=>.ok (.nx ((ρ.set i (some d)).set j none))
 | k,m+1,d=>match goP path d with
  | some (.lst _)=>(e ((ρ.set i (some d)).set j none)).calm.bind fun v=>match Zhc (Zgc v) (path++[(k:Int)]) d with
   | some d'=>Zcl i j path e ρ (k+1) m d'
   | none=>.bad
  | _=>.bad
noncomputable def Zdw (i j:Nat)(path:List Int)(e:FE):FS:=fun ρ=>match ρ[i]? with
 | some (some d)=>match goP path d with
  | some (.lst xs)=>if xs.length≤lim∧j<ρ.length then Zcl i j path e ρ 0 xs.length d else .bad
  | _=>.bad
 | _=>.bad
noncomputable def dAt:List (Int ⊕ Str)→List D→Int ⊕ Str→Option D
 | j::ks,x::xs,k=>if j=k then some x else dAt ks xs k
 | _,_,_=>none
noncomputable def intsK:List (Int ⊕ Str)→Option (List Int)
 | []=>some []
 | .inl i::r=>(intsK r).map (i::·)
 | .inr _::_=>none
noncomputable def dFilt (g:D→D→Option D)(ks:List (Int ⊕ Str))(xs:List D)(z:D):List Int→R (List D)
 | []=>.ok []
 | j::js=>(oR (dAt ks xs (.inl j))).bind fun x=>(oR (g x z)).bind fun t=>match t with
  | .bl b=>(dFilt g ks xs z js).bind fun r=>.ok (if b then .int j::r else r)
  | _=>.bad
noncomputable def Zpk (y x:Nat)(f1 f2:FE):FS:=fun ρ=>if y<ρ.length then (f1 ρ).bind fun d1=>(f2 (ρ.set y (some d1))).bind fun d2=>match d2 with
 | .lst ds=>if Yz ds=true then .ok (.nx ((ρ.set y none).set x (some (.lst ds)))) else .bad
 | _=>.bad
 else .bad
end Dl
namespace L2
open PySem PySem.Spec PyProof.Rows
open Dl (D R FE FT FA FO FS FI FB Fl)
def FzL (K:Frag)(H:Hp)(a:Addr)(xs:List V):Prop:=
 (∃o,H a=some (.frz o (.lst xs)))∨∃(o:Obj) (its:Array Value) (n:Nat),K.lookup a=some o∧o.cls=.type "list"∧o.dict=none∧o.data=.seq its n∧its.size≤sizeLine∧Jn xs its.toList
theorem FzL.sq {K:Frag}{H:Hp}{a:Addr}{xs:List V}(h:FzL K H a xs):SqL K H a xs:=by
 rcases h with ⟨o,h⟩ | h
 ·exact .inl (.inr ⟨o,h⟩)
 ·exact .inr h
noncomputable def fnm (c:String):Str:=if c="TooMany" then "most" else "at"
def FOk (H:Hp)(c:String)(f:Option Int)(dx:Option Addr):Prop:=match f with
 | none=>True
 | some i=>∃d,dx=some d∧H d=some (.xd [(fnm c,.int i)])
section
variable (K:Frag)(C:String→Addr)
mutual
noncomputable def Rp (H:Hp):D→V→List Addr→Prop
 | .non,v,A=>v=.non∧A=[]
 | .bl b,v,A=>v=.bl b∧A=[]
 | .int i,v,A=>v=.int i∧A=[]
 | .str x,v,A=>v=.str x∧PyData.strOk x=true∧A=[]
 | .lst ds,v,A=>∃a xs B,v=.ref a∧H a=some (.lst xs)∧RpA H ds xs B∧A=a::B
 | .tup ds,v,A=>∃a xs,v=.ref a∧H a=some (.tup xs)∧RpA H ds xs A
 | .scr ns,v,A=>∃a,v=.ref a∧FzL K H a (ns.map V.int)∧A=[]
 | .rng lo hi,v,A=>∃a,v=.ref a∧H a=some (.rng lo hi)∧A=[]
 | .exc c f,v,A=>∃e dx,v=.ref e∧H e=some (exO e (.ref (C c)) dx)∧FOk H c f dx∧A=[]
 | .obj c ns ds,v,A=>∃a dx xs B,v=.ref a∧H a=some (.ins (C c) dx (ns.zip xs))∧ns.length=ds.length∧RpA H ds xs B∧A=a::B
 | .dct ks ds,v,A=>∃a xs B,v=.ref a∧H a=some (.dK (ks.zip xs))∧ks.length=ds.length∧RpA H ds xs B∧A=a::B
 | .dtt ks ds,v,A=>∃a xs B,v=.ref a∧H a=some (.dT (ks.zip xs))∧ks.length=ds.length∧RpA H ds xs B∧A=a::B
noncomputable def RpA (H:Hp):List D→List V→List Addr→Prop
 | [],xs,A=>xs=[]∧A=[]
 | d::ds,xs,A=>∃x r B B',xs=x::r∧Rp H d x B∧RpA H ds r B'∧A=B++B'
end
end
section
variable {K:Frag}{C:String→Addr}{H H' H1 H2:Hp}
inductive IsM:HO→Prop where
 | lst {xs:List V}:IsM (.lst xs)
 | ins {C dx:Addr} {fs:List (Str×V)}:IsM (.ins C dx fs)
 | dct {kvs:List (Key×V)}:IsM (.dK kvs)
 | dtt {kvs:List (List Key×V)}:IsM (.dT kvs)
def Ext (W:Addr→Prop)(H H':Hp):Prop:=∀b o,H b=some o→H' b=some o∨(W b∧IsM o)
theorem Ext.same (h:Xw H H'):Ext (fun _=>False) H H':=fun b o q=>.inl (h b o q)
mutual
theorem Rp.ext {W:Addr→Prop}(h:Ext W H H'):∀{d:D} {v:V} {A:List Addr},(∀a∈A,¬W a)→Rp K C H d v A→Rp K C H' d v A
 | .non,_,_,_,r=>r
 | .bl _,_,_,_,r=>r
 | .int _,_,_,_,r=>r
 | .str _,_,_,_,r=>r
 | .lst ds,v,A,hw,r=>by
  obtain ⟨a,xs,B,e1,e2,e3,e4⟩:=r
  subst e4
  refine ⟨a,xs,B,e1,?_,RpA.ext h (fun b hb=>hw b (.tail _ hb)) e3,rfl⟩
  rcases h a _ e2 with q | ⟨q,_⟩
  ·exact q
  ·exact absurd q (hw a (.head _))
 | .tup ds,v,A,hw,r=>by
  obtain ⟨a,xs,e1,e2,e3⟩:=r
  refine ⟨a,xs,e1,?_,RpA.ext h hw e3⟩
  rcases h a _ e2 with q | ⟨_,q⟩
  ·exact q
  ·cases q
 | .scr ns,v,A,_,r=>by
  obtain ⟨a,e1,e2,e3⟩:=r
  refine ⟨a,e1,?_,e3⟩
  rcases e2 with ⟨o,e2⟩ | e2
  ·rcases h a _ e2 with q | ⟨_,q⟩
   ·exact .inl ⟨o,q⟩
   ·cases q
  ·exact .inr e2
 | .rng lo hi,v,A,_,r=>by
  obtain ⟨a,e1,e2,e3⟩:=r
  refine ⟨a,e1,?_,e3⟩
  rcases h a _ e2 with q | ⟨_,q⟩
  ·exact q
  ·cases q
 | .exc c f,v,A,_,r=>by
  obtain ⟨a,dx,e1,e2,e3,e4⟩:=r
  refine ⟨a,dx,e1,?_,?_,e4⟩
  ·rcases h a _ e2 with q | ⟨_,q⟩
   ·exact q
   ·cases q
  ·cases f with
   | none=>trivial
   | some i =>
    obtain ⟨d,z1,z2⟩:=e3
    refine ⟨d,z1,?_⟩
    rcases h d _ z2 with q | ⟨_,q⟩
    ·exact q
    ·cases q
 | .obj c ns ds,v,A,hw,r=>by
  obtain ⟨a,dx,xs,B,e1,e2,e0,e3,e4⟩:=r
  subst e4
  refine ⟨a,dx,xs,B,e1,?_,e0,RpA.ext h (fun b hb=>hw b (.tail _ hb)) e3,rfl⟩
  rcases h a _ e2 with q | ⟨q,_⟩
  ·exact q
  ·exact absurd q (hw a (.head _))
 | .dct ks ds,v,A,hw,r=>by
  obtain ⟨a,xs,B,e1,e2,e0,e3,e4⟩:=r
  subst e4
  refine ⟨a,xs,B,e1,?_,e0,RpA.ext h (fun b hb=>hw b (.tail _ hb)) e3,rfl⟩
  rcases h a _ e2 with q | ⟨q,_⟩
  ·exact q
  ·exact absurd q (hw a (.head _))
 | .dtt ks ds,v,A,hw,r=>by
  obtain ⟨a,xs,B,e1,e2,e0,e3,e4⟩:=r
  subst e4
  refine ⟨a,xs,B,e1,?_,e0,RpA.ext h (fun b hb=>hw b (.tail _ hb)) e3,rfl⟩
  rcases h a _ e2 with q | ⟨q,_⟩
  ·exact q
  ·exact absurd q (hw a (.head _))
theorem RpA.ext {W:Addr→Prop}(h:Ext W H H'):∀{ds:List D} {vs:List V} {A:List Addr},(∀a∈A,¬W a)→RpA K C H ds vs A→RpA K C H' ds vs A
 | [],_,_,_,r=>r
 | d::ds,vs,A,hw,r=>by
  obtain ⟨x,l,B,B',e1,e2,e3,e4⟩:=r
  subst e4
  exact ⟨x,l,B,B',e1,Rp.ext h (fun a ha=>hw a (mem_append_left _ ha)) e2,RpA.ext h (fun a ha=>hw a (mem_append_right _ ha)) e3,rfl⟩
end
theorem Rp.same (h:Xw H H'){d:D}{v:V}{A:List Addr}(r:Rp K C H d v A):Rp K C H' d v A:=r.ext (Ext.same h) (fun _ _ q=>q)
theorem RpA.same (h:Xw H H'){d:List D}{v:List V}{A:List Addr}(r:RpA K C H d v A):RpA K C H' d v A:=r.ext (Ext.same h) (fun _ _ q=>q)
def Agree (W:List Addr)(H Hb:Hp):Prop:=(∀a∈W,Hb a=H a)∧∀b o,H b=some o→¬IsM o→Hb b=some o
theorem Agree.ext {W:List Addr}(h:Agree W H H'):Ext (fun a=>a∉W) H H':=fun b o q=>by
 by_cases hb:b∈W
 ·exact .inl ((h.1 b hb).trans q)
 ·by_cases ho:IsM o
  ·exact .inr ⟨hb,ho⟩
  ·exact .inl (h.2 b o q ho)
theorem RpA.agree {W:List Addr}(h:Agree W H H'){ds:List D}{vs:List V}{A:List Addr}(hA:∀a∈A,a∈W)(r:RpA K C H ds vs A):RpA K C H' ds vs A:=r.ext h.ext fun a ha z=>z (hA a ha)
mutual
theorem Rp.isl:∀{d:D} {v:V} {A:List Addr},Rp K C H d v A→∀a∈A,∃o,H a=some o∧IsM o
 | .non,_,_,r,a,ha=>by rw [r.2] at ha;cases ha
 | .bl _,_,_,r,a,ha=>by rw [r.2] at ha;cases ha
 | .int _,_,_,r,a,ha=>by rw [r.2] at ha;cases ha
 | .str _,_,_,r,a,ha=>by rw [r.2.2] at ha;cases ha
 | .lst ds,_,_,r,a,ha=>by
  obtain ⟨b,xs,B,e1,e2,e3,e4⟩:=r
  rw [e4] at ha
  rcases List.mem_cons.mp ha with z | z
  ·rw [z];exact ⟨_,e2,.lst⟩
  ·exact RpA.isl e3 a z
 | .tup ds,_,_,r,a,ha=>by
  obtain ⟨b,xs,e1,e2,e3⟩:=r
  exact RpA.isl e3 a ha
 | .scr _,_,_,r,a,ha=>by obtain ⟨_,_,_,e⟩:=r;rw [e] at ha;cases ha
 | .rng _ _,_,_,r,a,ha=>by obtain ⟨_,_,_,e⟩:=r;rw [e] at ha;cases ha
 | .exc _ _,_,_,r,a,ha=>by obtain ⟨_,_,_,_,_,e⟩:=r;rw [e] at ha;cases ha
 | .obj c ns ds,_,_,r,a,ha=>by
  obtain ⟨b,dx,xs,B,e1,e2,e0,e3,e4⟩:=r
  rw [e4] at ha
  rcases List.mem_cons.mp ha with z | z
  ·rw [z];exact ⟨_,e2,.ins⟩
  ·exact RpA.isl e3 a z
 | .dct ks ds,_,_,r,a,ha=>by
  obtain ⟨b,xs,B,e1,e2,e0,e3,e4⟩:=r
  rw [e4] at ha
  rcases List.mem_cons.mp ha with z | z
  ·rw [z];exact ⟨_,e2,.dct⟩
  ·exact RpA.isl e3 a z
 | .dtt ks ds,_,_,r,a,ha=>by
  obtain ⟨b,xs,B,e1,e2,e0,e3,e4⟩:=r
  rw [e4] at ha
  rcases List.mem_cons.mp ha with z | z
  ·rw [z];exact ⟨_,e2,.dtt⟩
  ·exact RpA.isl e3 a z
theorem RpA.isl:∀{ds:List D} {vs:List V} {A:List Addr},RpA K C H ds vs A→∀a∈A,∃o,H a=some o∧IsM o
 | [],_,_,r,a,ha=>by rw [r.2] at ha;cases ha
 | d::ds,_,_,r,a,ha=>by
  obtain ⟨x,l,B,B',e1,e2,e3,e4⟩:=r
  rw [e4] at ha
  rcases List.mem_append.mp ha with z | z
  ·exact Rp.isl e2 a z
  ·exact RpA.isl e3 a z
end
mutual
theorem Rp.flat:∀{d:D} {v:V} {A:List Addr},Dl.flat d=true→Rp K C H d v A→A=[]
 | .non,_,_,_,r=>r.2
 | .bl _,_,_,_,r=>r.2
 | .int _,_,_,_,r=>r.2
 | .str _,_,_,_,r=>r.2.2
 | .lst _,_,_,h,_=>by simp [Dl.flat] at h
 | .tup ds,_,_,h,r=>by
  obtain ⟨b,xs,e1,e2,e3⟩:=r
  exact RpA.flat (by simpa [Dl.flat] using h) e3
 | .scr _,_,_,_,r=>by obtain ⟨_,_,_,e⟩:=r;exact e
 | .rng _ _,_,_,_,r=>by obtain ⟨_,_,_,e⟩:=r;exact e
 | .exc _ _,_,_,_,r=>by obtain ⟨_,_,_,_,_,e⟩:=r;exact e
 | .obj _ _ _,_,_,h,_=>by simp [Dl.flat] at h
 | .dct _ _,_,_,h,_=>by simp [Dl.flat] at h
 | .dtt _ _,_,_,h,_=>by simp [Dl.flat] at h
theorem RpA.flat:∀{ds:List D} {vs:List V} {A:List Addr},Dl.Yz ds=true→RpA K C H ds vs A→A=[]
 | [],_,_,_,r=>r.2
 | d::ds,_,_,h,r=>by
  obtain ⟨x,l,B,B',e1,e2,e3,e4⟩:=r
  simp only [Dl.Yz,Bool.and_eq_true] at h
  rw [e4,Rp.flat h.1 e2,RpA.flat h.2 e3]
  rfl
end
theorem RpA.len:∀{ds:List D} {vs:List V} {A:List Addr},RpA K C H ds vs A→vs.length=ds.length
 | [],_,_,r=>by rw [r.1];rfl
 | d::ds,_,_,r=>by
  obtain ⟨x,l,B,B',e1,e2,e3,e4⟩:=r
  rw [e1,length_cons,length_cons,RpA.len e3]
theorem RpA.get:∀{ds:List D} {vs:List V} {A:List Addr} {i:Nat} {d:D},RpA K C H ds vs A→ds[i]?=some d→∃v B,vs[i]?=some v∧Rp K C H d v B∧∀a∈B,a∈A
 | [],_,_,_,_,_,h=>by simp at h
 | d::ds,_,_,0,_,r,h=>by
  obtain ⟨x,l,B,B',e1,e2,e3,e4⟩:=r
  simp only [List.getElem?_cons_zero,Option.some.injEq] at h
  subst h e1 e4
  exact ⟨x,B,rfl,e2,fun a ha=>mem_append_left _ ha⟩
 | d::ds,_,_,i+1,_,r,h=>by
  obtain ⟨x,l,B,B',e1,e2,e3,e4⟩:=r
  simp only [List.getElem?_cons_succ] at h
  obtain ⟨v,B2,q1,q2,q3⟩:=RpA.get e3 h
  subst e1 e4
  exact ⟨v,B2,by simpa using q1,q2,fun a ha=>mem_append_right _ (q3 a ha)⟩
theorem RpA.get':∀{ds:List D} {vs:List V} {A:List Addr} {i:Nat} {v:V},RpA K C H ds vs A→vs[i]?=some v→∃d B,ds[i]?=some d∧Rp K C H d v B∧∀a∈B,a∈A:=fun {ds vs A i v} r h=>by
 have hl:=r.len
 have hi:i<ds.length:=by
  have:=(List.getElem?_eq_some_iff.mp h).1
  omega
 obtain ⟨v',B,q1,q2,q3⟩:=r.get (getElem?_eq_getElem hi)
 rw [h] at q1
 cases q1
 exact ⟨_,B,getElem?_eq_getElem hi,q2,q3⟩
theorem RpA.app:∀{ds es:List D} {vs ws:List V} {A B:List Addr},RpA K C H ds vs A→RpA K C H es ws B→RpA K C H (ds++es) (vs++ws) (A++B)
 | [],_,_,_,_,_,r,q=>by
  obtain ⟨e1,e2⟩:=r
  subst e1 e2
  exact q
 | d::ds,_,_,_,_,_,r,q=>by
  obtain ⟨x,l,B,B',e1,e2,e3,e4⟩:=r
  subst e1 e4
  exact ⟨x,_,B,_,rfl,e2,RpA.app e3 q,append_assoc ..⟩
theorem RpA.one {d:D}{v:V}{A:List Addr}(r:Rp K C H d v A):RpA K C H [d] [v] A:=⟨v,[],A,[],rfl,r,⟨rfl,rfl⟩,(append_nil _).symm⟩
theorem RpA.flatDrop {ds:List D}{vs:List V}{A:List Addr}:Dl.Yz ds=true→RpA K C H ds vs A→∀n,RpA K C H (ds.drop n) (vs.drop n) []:=by
 intro h r n
 induction ds generalizing vs A n with
 | nil=>rw [r.1];simp;exact ⟨rfl,rfl⟩
 | cons d ds ih =>
  have r0:=r
  obtain ⟨x,l,B,B',e1,e2,e3,e4⟩:=r
  cases n with
  | zero =>
   have z:=RpA.flat h r0
   subst z
   exact r0
  | succ n =>
   simp only [Dl.Yz,Bool.and_eq_true] at h
   subst e1
   exact ih h.2 e3 n
theorem RpA.flatTake {ds:List D}{vs:List V}{A:List Addr}:Dl.Yz ds=true→RpA K C H ds vs A→∀n,RpA K C H (ds.take n) (vs.take n) []:=by
 intro h r n
 induction ds generalizing vs A n with
 | nil=>rw [r.1];simp;exact ⟨rfl,rfl⟩
 | cons d ds ih =>
  obtain ⟨x,l,B,B',e1,e2,e3,e4⟩:=r
  simp only [Dl.Yz,Bool.and_eq_true] at h
  have z:=Rp.flat h.1 e2
  subst e1 z
  cases n with
  | zero=>exact ⟨rfl,rfl⟩
  | succ n=>exact ⟨x,_,[],_,rfl,e2,ih h.2 e3 n,rfl⟩
theorem Zsx {ds:List D}(h:Dl.Yz ds=true):∀n,Dl.Yz (ds.drop n)=true:=by
 intro n
 induction ds generalizing n with
 | nil=>simp;rfl
 | cons d ds ih =>
  cases n with
  | zero=>exact h
  | succ n =>
   simp only [Dl.Yz,Bool.and_eq_true] at h
   exact ih h.2 n
theorem RpA.ints {ns:List Int}:RpA K C H (ns.map D.int) (ns.map V.int) []:=by
 induction ns with
 | nil=>exact ⟨rfl,rfl⟩
 | cons n ns ih=>exact ⟨_,_,[],[],rfl,⟨rfl,rfl⟩,ih,rfl⟩
theorem RpA.ofInts:∀{ds:List D} {vs:List V} {A:List Addr} {ns:List Int},RpA K C H ds vs A→Dl.intsOf ds=some ns→vs=ns.map V.int
 | [],_,_,ns,r,h=>by
  simp only [Dl.intsOf,Option.some.injEq] at h
  rw [r.1,← h]
  rfl
 | d::ds,_,_,ns,r,h=>by
  obtain ⟨x,l,B,B',e1,e2,e3,e4⟩:=r
  cases d<;>simp only [Dl.intsOf] at h<;>try cases h
  obtain ⟨ms,h1,h2⟩:=Option.map_eq_some_iff.mp h
  rw [e1,e2.1,RpA.ofInts e3 h1,← h2]
  rfl
theorem RpA.ofBools:∀{ds:List D} {vs:List V} {A:List Addr} {ns:List Bool},RpA K C H ds vs A→Dl.bools ds=some ns→vs=ns.map V.bl
 | [],_,_,ns,r,h=>by
  simp only [Dl.bools,Option.some.injEq] at h
  rw [r.1,← h]
  rfl
 | d::ds,_,_,ns,r,h=>by
  obtain ⟨x,l,B,B',e1,e2,e3,e4⟩:=r
  cases d<;>simp only [Dl.bools] at h<;>try cases h
  obtain ⟨ms,h1,h2⟩:=Option.map_eq_some_iff.mp h
  rw [e1,e2.1,RpA.ofBools e3 h1,← h2]
  rfl
mutual
noncomputable def toPy:D→PyData
 | .non=>.none
 | .bl b=>.bool b
 | .int i=>.int i
 | .str x=>.str x
 | .lst ds=>.list (Zfv ds)
 | .tup ds=>.tuple (Zfv ds)
 | .scr _=>.none
 | .rng _ _=>.none
 | .exc _ _=>.none
 | .obj _ _ _=>.none
 | .dct _ _=>.none
 | .dtt _ _=>.none
noncomputable def Zfv:List D→List PyData
 | []=>[]
 | d::ds=>toPy d::Zfv ds
end
mutual
theorem Rp.dn:∀{d:D} {v:V} {A:List Addr} {n:Nat},Dl.dep d≤n→n<100→Rp K C H d v A→Dn K H v (toPy d)∧(toPy d).canLay0=true∧(toPy d).depth=Dl.dep d
 | .non,_,_,_,_,_,r=>by rw [r.1];exact ⟨.non,rfl,rfl⟩
 | .bl _,_,_,_,_,_,r=>by rw [r.1];exact ⟨.bl _,rfl,rfl⟩
 | .int _,_,_,_,_,_,r=>by rw [r.1];exact ⟨.int _,rfl,rfl⟩
 | .str _,_,_,_,_,_,r=>by rw [r.1];exact ⟨.str _,by simpa [toPy,PyData.canLay0] using r.2.1,by simp [toPy,PyData.depth,Dl.dep]⟩
 | .lst ds,_,_,n,h,hn,r=>by
  obtain ⟨a,xs,B,e1,e2,e3,e4⟩:=r
  simp only [Dl.dep] at h
  obtain ⟨q1,q2,q3⟩:=RpA.dn (n:=n) (by omega) hn e3
  rw [e1]
  exact ⟨.lst (SqL.of e2) q1,by simpa [toPy,PyData.canLay0] using q2,by simp [toPy,PyData.depth,Dl.dep,q3]⟩
 | .tup ds,_,_,n,h,hn,r=>by
  obtain ⟨a,xs,e1,e2,e3⟩:=r
  simp only [Dl.dep] at h
  obtain ⟨q1,q2,q3⟩:=RpA.dn (n:=n) (by omega) hn e3
  rw [e1]
  exact ⟨.tup (SqT.of e2) q1,by simpa [toPy,PyData.canLay0] using q2,by simp [toPy,PyData.depth,Dl.dep,q3]⟩
 | .scr _,_,_,n,h,hn,_=>by simp only [Dl.dep] at h;omega
 | .rng _ _,_,_,n,h,hn,_=>by simp only [Dl.dep] at h;omega
 | .exc _ _,_,_,n,h,hn,_=>by simp only [Dl.dep] at h;omega
 | .obj _ _ _,_,_,n,h,hn,_=>by simp only [Dl.dep] at h;omega
 | .dct _ _,_,_,n,h,hn,_=>by simp only [Dl.dep] at h;omega
 | .dtt _ _,_,_,n,h,hn,_=>by simp only [Dl.dep] at h;omega
theorem RpA.dn:∀{ds:List D} {vs:List V} {A:List Addr} {n:Nat},Dl.Zja ds≤n→n<100→RpA K C H ds vs A→DnA K H vs (Zfv ds)∧PyData.canLayAll0 (Zfv ds)=true∧PyData.depthAll (Zfv ds)=Dl.Zja ds
 | [],_,_,_,_,_,r=>by rw [r.1];exact ⟨.nil,rfl,rfl⟩
 | d::ds,_,_,n,h,hn,r=>by
  obtain ⟨x,l,B,B',e1,e2,e3,e4⟩:=r
  simp only [Dl.Zja] at h
  obtain ⟨q1,q2,q3⟩:=Rp.dn (n:=n) (by omega) hn e2
  obtain ⟨p1,p2,p3⟩:=RpA.dn (n:=n) (by omega) hn e3
  rw [e1]
  exact ⟨.cons q1 p1,by simp [Zfv,PyData.canLayAll0,q2,p2],by simp [Zfv,PyData.depthAll,Dl.Zja,q3,p3]⟩
end
mutual
theorem Zru:∀{d e:D},Dl.dep d<100→Dl.dep e<100→PyData.eqv (toPy d) (toPy e)=Dl.eqv d e
 | .non,e,_,h=>by cases e<;>first | rfl | exact absurd h (lt_irrefl 100)
 | .bl _,e,_,h=>by cases e<;>first | rfl | exact absurd h (lt_irrefl 100)
 | .int _,e,_,h=>by cases e<;>first | rfl | exact absurd h (lt_irrefl 100)
 | .str _,e,_,h=>by cases e<;>first | rfl | exact absurd h (lt_irrefl 100)
 | .lst ds,e,h1,h=>by
  cases e with
  | lst es=>exact Zpe (Nat.lt_of_succ_lt h1) (Nat.lt_of_succ_lt h)
  | _=>rfl
 | .tup ds,e,h1,h=>by
  cases e with
  | tup es=>exact Zpe (Nat.lt_of_succ_lt h1) (Nat.lt_of_succ_lt h)
  | _=>rfl
 | .scr _,_,h,_=>absurd h (lt_irrefl 100)
 | .rng _ _,_,h,_=>absurd h (lt_irrefl 100)
 | .exc _ _,_,h,_=>absurd h (lt_irrefl 100)
 | .obj _ _ _,_,h,_=>absurd h (lt_irrefl 100)
 | .dct _ _,_,h,_=>absurd h (lt_irrefl 100)
 | .dtt _ _,_,h,_=>absurd h (lt_irrefl 100)
theorem Zpe:∀{d e:List D},Dl.Zja d<100→Dl.Zja e<100→PyData.eqvAll (Zfv d) (Zfv e)=Dl.Xgt d e
 | [],[],_,_=>rfl
 | [],_::_,_,_=>rfl
 | _::_,[],_,_=>rfl
 | d::ds,e::es,h1,h=>by
  have a1:Dl.dep d<100∧Dl.Zja ds<100:=Nat.max_lt.mp h1
  have a2:Dl.dep e<100∧Dl.Zja es<100:=Nat.max_lt.mp h
  show (PyData.eqv (toPy d) (toPy e)&&PyData.eqvAll (Zfv ds) (Zfv es))=(Dl.eqv d e&&Dl.Xgt ds es)
  rw [Zru a1.1 a2.1,Zpe a1.2 a2.2]
end
end
noncomputable abbrev Ym:=Dl.Env
section
variable (K:Frag)(C:String→Addr)
structure Zy (H0 Hb H:Hp)(Γ Δ:List Nat)(σ:St)(ρ:Ym)(A:Nat→List Addr):Prop where
 s0:Xw H0 Hb
 same:Xw Hb H
 len:σ.length=ρ.length
 rep:∀i d,ρ[i]?=some (some d)→∃v,σ[i]?=some (some v)∧Rp K C H d v (A i)
 nil:∀i,(∀d,ρ[i]?≠some (some d))→A i=[]
 loc:∀i∈Γ,∀a∈A i,H0 a=none
 top:∀i∈Γ,∀a r,A i=a::r→Hb a=none∧a∉r∧∀j,j≠i→a∉A j
 deep:∀i∈Δ,(A i).Nodup∧(∀j,j≠i→∀a∈A i,a∉A j)∧∀a∈A i,Hb a=none
def InS (A:Nat→List Addr)(S:List (Nat×Bool))(a:Addr):Prop:=∃p∈S,if p.2=true then a∈(A p.1).tail else a∈A p.1
def Res (m:Nat)(S:List (Nat×Bool))(H:Hp)(A:Nat→List Addr)(d:D)(v:V)(H':Hp):Prop:=
 ∃B,Rp K C H' d v B∧(∀a∈B,H a=none∨InS A S a)∧(m=1→∀a r,B=a::r→H a=none∧a∉r)∧(m=2→B.Nodup)
def ResA (m:Nat)(S:List (Nat×Bool))(H:Hp)(A:Nat→List Addr)(ds:List D)(vs:List V)(H':Hp):Prop:=
 ∃B,RpA K C H' ds vs B∧(∀a∈B,H a=none∨InS A S a)∧(m=2→B.Nodup)
def EC (E:XK)(c:String)(x:Option Int)(H:Hp):Prop:=∀dx,FOk H c x dx→E (.ref (C c)) dx H
def Yc {α:Type}(r:R α)(ok:α→Prop)(er:String→Option Int→Prop):Prop:=match r with
 | .ok a=>ok a
 | .err c x=>er c x
 | .bad=>False
def EOk (E:XK)(Γ Δ:List Nat)(m:Nat)(S:List (Nat×Bool))(t:TE)(f:FE):Prop:=∀(H0 Hb H:Hp) (σ:St) (ρ:Ym) (A:Nat→List Addr) (Q:VK),Zy K C H0 Hb H Γ Δ σ ρ A→
 Yc (f ρ) (fun d=>∀v H',Xw H H'→Res K C m S H A d v H'→Q v H') (fun c x=>∀H',Xw H H'→EC C E c x H')→t σ H Q
def AOk (E:XK)(Γ Δ:List Nat)(m:Nat)(S:List (Nat×Bool))(t:TA)(f:FA):Prop:=∀(H0 Hb H:Hp) (σ:St) (ρ:Ym) (A:Nat→List Addr) (Q:List V→Hp→Prop),Zy K C H0 Hb H Γ Δ σ ρ A→
 Yc (f ρ) (fun d=>∀v H',Xw H H'→ResA K C m S H A d v H'→Q v H') (fun c x=>∀H',Xw H H'→EC C E c x H')→t σ H Q
def TOk (E:XK)(Γ Δ:List Nat)(t:TT)(f:FT):Prop:=∀(H0 Hb H:Hp) (σ:St) (ρ:Ym) (A:Nat→List Addr) (Q:Bool→Hp→Prop),Zy K C H0 Hb H Γ Δ σ ρ A→
 Yc (f ρ) (fun b=>∀H',Xw H H'→Q b H') (fun c x=>∀H',Xw H H'→EC C E c x H')→t σ H Q
def OOk (E:XK)(Γ Δ:List Nat)(t:TO)(f:FO):Prop:=∀(H0 Hb H:Hp) (σ:St) (ρ:Ym) (A:Nat→List Addr) (Q:Option Int→Hp→Prop),Zy K C H0 Hb H Γ Δ σ ρ A→
 Yc (f ρ) (fun b=>∀H',Xw H H'→Q b H') (fun c x=>∀H',Xw H H'→EC C E c x H')→t σ H Q
def Zjf (E:XK)(mr:Nat)(Γl Δl Γ' Δ':List Nat)(H0 Hb:Hp)(D:Ends)(r:R Fl):Prop:=Yc r (fun fl=>match fl with
    | .nx ρ'=>∀σ' H' A',Zy K C H0 Hb H' Γ' Δ' σ' ρ' A'→D.nx σ' H'
    | .ret d=>∀v H',Xw H0 H'→Res K C mr [] H0 (fun _=>[]) d v H'→D.rt v H'
    | .brk ρ'=>∀σ' H' A',Zy K C H0 Hb H' Γl Δl σ' ρ' A'→D.bk σ' H'
    | .cnt ρ'=>∀σ' H' A',Zy K C H0 Hb H' Γl Δl σ' ρ' A'→D.ct σ' H')
  (fun c x=>∀H',Xw H0 H'→EC C E c x H')
def SOk (E:XK)(mr:Nat)(Γl Δl Γ Δ Γ' Δ':List Nat)(t:TS)(f:FS):Prop:=∀(H0 Hb H:Hp) (σ:St) (ρ:Ym) (A:Nat→List Addr) (D:Ends),Zy K C H0 Hb H Γ Δ σ ρ A→
 Zjf K C E mr Γl Δl Γ' Δ' H0 Hb D (f ρ)→t D σ H
end
section
variable {K:Frag}{C:String→Addr}{E:XK}{Γ Δ Γ' Δ' Γ1 Δ1 Γl Δl:List Nat}{m m1 m2 mr:Nat}{S S1 S2:List (Nat×Bool)}
theorem Zy.mono {H0 Hb H H':Hp}{σ:St}{ρ:Ym}{A:Nat→List Addr}(h:Zy K C H0 Hb H Γ Δ σ ρ A)(g:Xw H H'):Zy K C H0 Hb H' Γ Δ σ ρ A:=
 ⟨h.s0,h.same.trans g,h.len,fun i d e=>let ⟨v,q1,q2⟩:=h.rep i d e;⟨v,q1,q2.same g⟩,h.nil,h.loc,h.top,h.deep⟩
theorem Zy.weak {H0 Hb H:Hp}{σ:St}{ρ:Ym}{A:Nat→List Addr}(h:Zy K C H0 Hb H Γ Δ σ ρ A)(h1:∀i∈Γ',i∈Γ)(h2:∀i∈Δ',i∈Δ):Zy K C H0 Hb H Γ' Δ' σ ρ A:=
 ⟨h.s0,h.same,h.len,h.rep,h.nil,fun i hi=>h.loc i (h1 i hi),fun i hi=>h.top i (h1 i hi),fun i hi=>h.deep i (h2 i hi)⟩
theorem Zy.is {H0 Hb H:Hp}{σ:St}{ρ:Ym}{A:Nat→List Addr}(h:Zy K C H0 Hb H Γ Δ σ ρ A){j:Nat}{a:Addr}(ha:a∈A j):∃o,H a=some o∧IsM o:=by
 by_cases q:∃d,ρ[j]?=some (some d)
 ·obtain ⟨d,q⟩:=q
  obtain ⟨v,_,r⟩:=h.rep j d q
  exact r.isl a ha
 ·rw [h.nil j fun d e=>q ⟨d,e⟩] at ha
  cases ha
theorem Zy.ne {H0 Hb H:Hp}{σ:St}{ρ:Ym}{A:Nat→List Addr}(h:Zy K C H0 Hb H Γ Δ σ ρ A){j:Nat}{a:Addr}(ha:a∈A j)(hn:H a=none):False:=by
 obtain ⟨xs,q,_⟩:=h.is ha
 rw [q] at hn
 cases hn
theorem InS.mem {A:Nat→List Addr}{a:Addr}(h:InS A S a):∃p∈S,a∈A p.1:=by
 obtain ⟨p,hp,q⟩:=h
 refine ⟨p,hp,?_⟩
 split at q
 ·exact List.mem_of_mem_tail q
 ·exact q
theorem InS.mono {A:Nat→List Addr}{a:Addr}(h:InS A S1 a)(hs:∀p∈S1,p∈S2):InS A S2 a:=let ⟨p,hp,q⟩:=h;⟨p,hs p hp,q⟩
theorem Yc.imp {α:Type}{r:R α}{ok ok':α→Prop}{er er':String→Option Int→Prop}(h:Yc r ok er)(h1:∀a,ok a→ok' a)(h2:∀c x,er c x→er' c x):Yc r ok' er':=by
 cases r with
 | ok a=>exact h1 a h
 | err c x=>exact h2 c x h
 | bad=>exact h
theorem Yc.bind {α β:Type}{r:R α}{g:α→R β}{ok:β→Prop}{er:String→Option Int→Prop}(h:Yc (r.bind g) ok er):Yc r (fun a=>Yc (g a) ok er) er:=by
 cases r with
 | ok a=>exact h
 | err c x=>exact h
 | bad=>exact h
theorem Res.flat {H H':Hp}{A:Nat→List Addr}{d:D}{v:V}(r:Rp K C H' d v []):Res K C m S H A d v H':=⟨[],r,fun _ h=>(nomatch h),fun _ _ _ e=>(nomatch e),fun _=>nodup_nil⟩
theorem Xcg {d:D}{v:V}(h:∀H,Rp K C H d v []):EOk K C E Γ Δ 2 [] (tC v) (Dl.fC d):=fun _ _ H _ _ _ _ _ p=>p v H (Xw.refl _) (Res.flat (h H))
theorem Xnt {i:Nat}{ρ:Ym}{ok:D→Prop}{er:String→Option Int→Prop}(h:Yc (Dl.fV i ρ) ok er):∃d,ρ[i]?=some (some d)∧ok d:=by
 unfold Dl.fV at h
 split at h
 ·rename_i d e
  exact ⟨d,e,h⟩
 ·exact h.elim
theorem eok_v {i:Nat}:EOk K C E Γ Δ 0 [(i,false)] (Zmr i) (Dl.fV i):=fun H0 Hb H σ ρ A Q I p=>by
 obtain ⟨d,e,p⟩:=Xnt p
 obtain ⟨v,e1,r⟩:=I.rep i d e
 exact ⟨v,e1,p v H (Xw.refl _) ⟨A i,r,fun a ha=>.inr ⟨(i,false),.head _,ha⟩,(fun z=>nomatch z),(fun z=>nomatch z)⟩⟩
theorem Xof {i:Nat}(hi:i∈Δ):EOk K C E Γ Δ 2 [(i,false)] (Zmr i) (Dl.fV i):=fun H0 Hb H σ ρ A Q I p=>by
 obtain ⟨d,e,p⟩:=Xnt p
 obtain ⟨v,e1,r⟩:=I.rep i d e
 exact ⟨v,e1,p v H (Xw.refl _) ⟨A i,r,fun a ha=>.inr ⟨(i,false),.head _,ha⟩,(fun z=>nomatch z),fun _=>(I.deep i hi).1⟩⟩
theorem Xcn {t:TE}{f:FE}(h:EOk K C E Γ Δ m S t f):EOk K C E Γ Δ 2 [] t (Dl.f1 Dl.Xt f):=fun H0 Hb H σ ρ A Q I p =>
  h H0 Hb H σ ρ A Q I (p.bind.imp (fun d q v H' g r=>by
    unfold Dl.Xt at q
    split at q
    · rename_i hf
      obtain ⟨B,r1,_⟩:=r
      have e:=r1.flat hf
      subst e
      exact q v H' g (Res.flat r1)
    · exact q.elim) fun _ _ q=>q)
theorem Res.later {H0 H1 H2 H3:Hp}{A:Nat→List Addr}{d:D}{v:V}(g1:Xw H0 H1)(g2:Xw H2 H3)(r:Res K C m S H1 A d v H2):Res K C m S H0 A d v H3:=by
 obtain ⟨B,r1,r2,r3,r4⟩:=r
 exact ⟨B,r1.same g2,fun a ha=>(r2 a ha).imp (fun h=>g1.free h) id,fun hm a l e=>⟨g1.free (r3 hm a l e).1,(r3 hm a l e).2⟩,r4⟩
theorem Res.new {H H':Hp}{A:Nat→List Addr}{d:D}{v:V}{B:List Addr}(r:Rp K C H' d v B)(h1:B.Nodup)(h2:∀a∈B,H a=none):Res K C m S H A d v H':=
 ⟨B,r,fun a ha=>.inl (h2 a ha),fun _ a l e=>by subst e;exact ⟨h2 a (.head _),(List.nodup_cons.mp h1).1⟩,fun _=>h1⟩
theorem Zhb {α:Type}{o:Option α}{ok:α→Prop}{er:String→Option Int→Prop}(h:Yc (Dl.oR o) ok er):∃a,o=some a∧ok a:=by
 cases o with
 | none=>exact h.elim
 | some a=>exact ⟨a,rfl,h⟩
def GOk (K:Frag)(C:String→Addr)(r:R2)(g:D→D→Option D):Prop:=
 ∀(H:Hp) (x y d:D) (vx vy:V) (Bx By:List Addr) (Q:VK),Rp K C H x vx Bx→Rp K C H y vy By→g x y=some d→(∀v H' B,Xw H H'→Rp K C H' d v B→B.Nodup→(∀a∈B,H a=none)→Q v H')→r vx vy H Q
def GAk (K:Frag)(C:String→Addr)(r:List V→Hp→VK→Prop)(g:List D→Option D):Prop:=
 ∀(H:Hp) (xs:List D) (d:D) (vs:List V) (Bx:List Addr) (Q:VK),RpA K C H xs vs Bx→g xs=some d→(∀v H' B,Xw H H'→Rp K C H' d v B→B.Nodup→(∀a∈B,H a=none)→Q v H')→r vs H Q
theorem Zvz {r:R2}{g:D→D→Option D}{ta tb:TE}{fa fb:FE}(hg:GOk K C r g)(ha:EOk K C E Γ Δ m1 S1 ta fa)(hb:EOk K C E Γ Δ m2 S2 tb fb):EOk K C E Γ Δ 2 [] (tOp r ta tb) (Dl.f2 g fa fb):=
  fun H0 Hb H σ ρ A Q I p=>ha H0 Hb H σ ρ A _ I (p.bind.imp (fun x q vx H1 g1 r1=>hb H0 Hb H1 σ ρ A _ (I.mono g1) (q.bind.imp (fun y q vy H2 g2 r2=>by
    obtain ⟨d,e,q⟩:=Zhb q
    obtain ⟨Bx,r1,_⟩:=r1
    obtain ⟨By,r2,_⟩:=r2
    exact hg H2 x y d vx vy Bx By Q (r1.same g2) r2 e fun v H' B g3 r3 h1 h2=>q v H' (g1.trans (g2.trans g3)) (Res.new r3 h1 fun a ha=>(g1.trans g2).free (h2 a ha))) fun c x q H' g'=>q H' (g1.trans g'))) fun c x q H' g'=>q H' g')
theorem Xla {r:V→Hp→VK→Prop}{g:D→Option D}{ta:TE}{fa:FE}(hg:∀(H:Hp) (x d:D) (vx:V) (Bx:List Addr) (Q:VK),Rp K C H x vx Bx→g x=some d→(∀v H' B,Xw H H'→Rp K C H' d v B→B.Nodup→(∀a∈B,H a=none)→Q v H')→r vx H Q)
    (ha:EOk K C E Γ Δ m1 S1 ta fa):EOk K C E Γ Δ 2 [] (tUn r ta) (Dl.f1 g fa):=
  fun H0 Hb H σ ρ A Q I p=>ha H0 Hb H σ ρ A _ I (p.bind.imp (fun x q vx H1 g1 r1=>by
    obtain ⟨d,e,q⟩:=Zhb q
    obtain ⟨Bx,r1,_⟩:=r1
    exact hg H1 x d vx Bx Q r1 e fun v H' B g3 r3 h1 h2=>q v H' (g1.trans g3) (Res.new r3 h1 fun a ha=>g1.free (h2 a ha))) fun c x q H' g'=>q H' g')
theorem Jr {α:Type}{d:α}{P:Prop}(e:(none:Option α)=some d):P:=nomatch e
theorem Zqm {F:List D→Option D}(hn:F []=none)(hc:∀x y r,F (x::y::r)=none):∀{ds:List D} {d:D},F ds=some d→∃x,ds=[x]
 | [],_,e=>Jr (hn.symm.trans e)
 | [x],_,_=>⟨x,rfl⟩
 | x::y::r,_,e=>Jr ((hc x y r).symm.trans e)
theorem Xgc {ds:List D}{y d:D}(e:Dl.gIx (.lst ds) y=some d):∃i,y=.int i∧atI ds i=some d:=by
 cases y with
 | int i=>exact ⟨i,rfl,e⟩
 | _=>exact Jr e
theorem Xer {ds:List D}{y d:D}(e:Dl.gIx (.tup ds) y=some d):∃i,y=.int i∧atI ds i=some d:=by
 cases y with
 | int i=>exact ⟨i,rfl,e⟩
 | _=>exact Jr e
theorem Xhq {ns:List Int}{y d:D}(e:Dl.gIx (.scr ns) y=some d):∃i,y=.int i∧(atI ns i).map D.int=some d:=by
 cases y with
 | int i=>exact ⟨i,rfl,e⟩
 | _=>exact Jr e
theorem Xiz {z:Str}{y d:D}(e:Dl.gIx (.str z) y=some d):∃i,y=.int i∧z.length≤Dl.lim∧(atI z.cps.toList i).map (fun c=>D.str ⟨#[c]⟩)=some d:=by
 cases y with
 | int i =>
  have e':(if z.length≤Dl.lim then ((Dl.atD z.cps.toList i).map fun c=>D.str ⟨#[c]⟩) else none)=some d:=e
  by_cases h:z.length≤Dl.lim
  ·rw [if_pos h] at e'
   exact ⟨i,rfl,h,e'⟩
  ·rw [if_neg h] at e'
   exact Jr e'
 | _=>exact Jr e
theorem Xmy {x y d:D}(e:Dl.gIx x y=some d):∃i,y=.int i∧((∃ds,x=.lst ds∧atI ds i=some d)∨(∃ds,x=.tup ds∧atI ds i=some d)∨(∃ns,x=.scr ns∧(atI ns i).map D.int=some d)∨∃z,x=.str z∧z.length≤Dl.lim∧(atI z.cps.toList i).map (fun c=>D.str ⟨#[c]⟩)=some d):=by
 cases x with
 | lst ds=>exact (Xgc e).imp fun _ h=>⟨h.1,.inl ⟨ds,rfl,h.2⟩⟩
 | tup ds=>exact (Xer e).imp fun _ h=>⟨h.1,.inr (.inl ⟨ds,rfl,h.2⟩)⟩
 | scr ns=>exact (Xhq e).imp fun _ h=>⟨h.1,.inr (.inr (.inl ⟨ns,rfl,h.2⟩))⟩
 | str z=>exact (Xiz e).imp fun _ h=>⟨h.1,.inr (.inr (.inr ⟨z,rfl,h.2⟩))⟩
 | _=>exact Jr e
theorem Zwm {α β:Type}{ds:List α}{xs:List β}{i:Int}{d:α}{v:β}{j:Nat}(hl:xs.length=ds.length)(e:atI ds i=some d)(h1:seqIndex? i ds.length=some j)(hv:xs[j]?=some v):atI xs i=some v:=by
 unfold atI at e ⊢
 rw [hl]
 cases hx:ixN ds.length i with
 | none=>rw [hx] at e;cases e
 | some k =>
  obtain ⟨z1,_⟩:=Zxm hx
  rw [h1] at z1
  cases z1
  exact hv
theorem Xlh {H:Hp}{x y d:D}{vx vy:V}{Bx By:List Addr}{Q:VK}(rx:Rp K C H x vx Bx)(ry:Rp K C H y vy By)(e:Dl.gIx x y=some d)(q:∀v B,Rp K C H d v B→(∀a∈B,a∈Bx)→((∃ds,x=.lst ds)→∀a∈B,a∈Bx.tail)→Q v H):rIx K vx vy H Q:=by
 obtain ⟨i,rfl,h⟩:=Xmy e
 cases ry.1
 rcases h with ⟨ds,rfl,e'⟩ | ⟨ds,rfl,e'⟩ | ⟨ns,rfl,e'⟩ | ⟨z,rfl,hz,e'⟩
 ·obtain ⟨a,xs,B,rfl,e2,e3,rfl⟩:=rx
  obtain ⟨j,h1,h2,_⟩:=Zew e'
  obtain ⟨v,B',q1,q2,q3⟩:=e3.get h2
  exact Xkl (SqL.of e2) (v:=v) (Zwm e3.len e' h1 q1) (q v B' q2 (fun a ha=>.tail _ (q3 a ha)) fun _ a ha=>q3 a ha)
 ·obtain ⟨a,xs,rfl,e2,e3⟩:=rx
  obtain ⟨j,h1,h2,_⟩:=Zew e'
  obtain ⟨v,B',q1,q2,q3⟩:=e3.get h2
  exact Xol (SqT.of e2) (v:=v) (Zwm e3.len e' h1 q1) (q v B' q2 q3 fun z=>by obtain ⟨_,z⟩:=z;cases z)
 ·obtain ⟨a,rfl,e2,rfl⟩:=rx
  obtain ⟨n,h1,rfl⟩:=Option.map_eq_some_iff.mp e'
  obtain ⟨j,h2,h3,_⟩:=Zew h1
  exact .inl ⟨a,ns.map V.int,i,.int n,rfl,rfl,e2.sq,Zwm (length_map _) h1 h2 (by rw [getElem?_map,h3];rfl),q (.int n) [] ⟨rfl,rfl⟩ (fun _ h=>(nomatch h)) fun _ _ h=>(nomatch h)⟩
 ·obtain ⟨rfl,e2,rfl⟩:=rx
  obtain ⟨c,h1,rfl⟩:=Option.map_eq_some_iff.mp e'
  refine .inr (.inr ⟨z,i,c,rfl,rfl,le_trans hz (by decide),h1,q _ [] ⟨rfl,?_,rfl⟩ (fun _ h=>(nomatch h)) fun _ _ h=>(nomatch h)⟩)
  obtain ⟨j,_,h3,_⟩:=Zew h1
  have hm:c∈z.cps:=Array.mem_toList_iff.mp (mem_of_getElem? h3)
  have ho:z.cps.all (·<0x110000)=true:=e2
  have:=(Array.all_eq_true_iff_forall_mem.mp ho) c hm
  unfold PyData.strOk
  simpa using this
theorem Xkb {ta tb:TE}{fa fb:FE}(ha:EOk K C E Γ Δ m1 S1 ta fa)(hb:EOk K C E Γ Δ m2 S2 tb fb):EOk K C E Γ Δ 0 S1 (tOp (rIx K) ta tb) (Dl.f2 Dl.gIx fa fb):=
  fun H0 Hb H σ ρ A Q I p=>ha H0 Hb H σ ρ A _ I (p.bind.imp (fun x q vx H1 g1 r1=>hb H0 Hb H1 σ ρ A _ (I.mono g1) (q.bind.imp (fun y q vy H2 g2 r2=>by
    obtain ⟨d,e,q⟩:=Zhb q
    obtain ⟨Bx,r1,r1',_⟩:=r1
    obtain ⟨By,r2,_⟩:=r2
    exact Xlh (r1.same g2) r2 e fun v B r3 h _=>q v H2 (g1.trans g2) ⟨B,r3,fun a ha=>r1' a (h a ha),(fun z=>nomatch z),(fun z=>nomatch z)⟩) fun c x q H' g'=>q H' (g1.trans g'))) fun c x q H' g'=>q H' g')
noncomputable def gIxL (x y:D):Option D:=match x with
 | .lst _=>Dl.gIx x y
 | _=>none
end
section
variable {K:Frag}{C:String→Addr}{E:XK}{Γ Δ:List Nat}{m m1 m2 m3 mr:Nat}{S S1 S2 S3:List (Nat×Bool)}{H:Hp}{Q:VK}
theorem sameNew {H:Hp}{p:Addr}(h:H p=none)(o:HO):Xw H (upd H p o):=fun b u q=>by rw [Xo (Xf q h)];exact q
noncomputable abbrev Out (K:Frag)(C:String→Addr)(H:Hp)(d:D)(Q:VK):Prop:=∀v H' B,Xw H H'→Rp K C H' d v B→B.Nodup→(∀a∈B,H a=none)→Q v H'
theorem Out.flat {d:D}{v:V}(q:Out K C H d Q)(r:Rp K C H d v []):Q v H:=q v H [] (Xw.refl _) r nodup_nil (fun _ h=>nomatch h)
theorem Out.lst {ds:List D}{vs:List V}{p:Addr}(q:Out K C H (.lst ds) Q)(r:RpA K C H ds vs [])(hp:H p=none):Q (.ref p) (upd H p (.lst vs)):=
 q _ _ [p] (sameNew hp _) ⟨p,vs,[],rfl,Yd,r.same (sameNew hp _),rfl⟩ (by simp) (fun a ha=>by rw [List.mem_singleton.mp ha];exact hp)
theorem Zeu {n:Nat}(h:n≤Dl.lim):n≤sizeLine:=le_trans h (by decide)
theorem Zhm {n:Nat}(h:n<Dl.lim):n<sizeLine:=lt_of_lt_of_le h (by decide)
theorem Zxr {x y:Str}(h1:PyData.strOk x=true)(h2:PyData.strOk y=true):PyData.strOk (x++y)=true:=by
 unfold PyData.strOk at *
 show (x.cps++y.cps).all _=true
 rw [Array.all_append,h1,h2]
 rfl
theorem RpA.nil:RpA K C H [] [] []:=⟨rfl,rfl⟩
theorem RpA.flat' {ds:List D}{vs:List V}{A:List Addr}(h:Dl.Yz ds=true)(r:RpA K C H ds vs A):RpA K C H ds vs []:=by
 have e:=RpA.flat h r
 subst e
 exact r
theorem RpA.rep {ds:List D}{vs:List V}(r:RpA K C H ds vs []):∀n,RpA K C H (List.replicate n ds).flatten (List.replicate n vs).flatten []
 | 0=>RpA.nil
 | n+1=>by
  rw [replicate_succ,replicate_succ,flatten_cons,flatten_cons]
  exact r.app (RpA.rep r n)
theorem Xc:GOk K C Xbi Dl.Jj:=by
 intro H x y d vx vy Bx By Q rx ry e q
 unfold Dl.Jj at e
 split at e
 ·cases e
  obtain ⟨rfl,_⟩:=rx
  obtain ⟨rfl,_⟩:=ry
  exact Xjw (Out.flat q ⟨rfl,rfl⟩)
 ·split at e
  ·rename_i hz
   cases e
   obtain ⟨rfl,h1,_⟩:=rx
   obtain ⟨rfl,h2,_⟩:=ry
   exact .inr (.inl ⟨_,_,rfl,rfl,Zeu hz,Out.flat q ⟨rfl,Zxr h1 h2,rfl⟩⟩)
  ·cases e
 ·split at e
  ·rename_i hz
   cases e
   obtain ⟨a,xs,B,rfl,e2,e3,_⟩:=rx
   obtain ⟨a',xs',B',rfl,e2',e3',_⟩:=ry
   obtain ⟨hz,f1,f2⟩:=hz
   refine Xni e2 e2' (by rw [e3.len,e3'.len];exact Zeu hz) fun p hp=>?_
   exact Out.lst q ((e3.flat' f1).app (e3'.flat' f2)) hp
  ·cases e
 ·cases e
theorem Zny {g:Int→Int→D}{gv:Int→Int→V}{f:D→D→Option D}(hf:∀x y d,f x y=some d→∃i j,x=.int i∧y=.int j∧d=g i j)(hr:∀H i j,Rp K C H (g i j) (gv i j) []):GOk K C (rI0 gv) f:=by
 intro H x y d vx vy Bx By Q rx ry e q
 obtain ⟨i,j,rfl,rfl,rfl⟩:=hf x y d e
 obtain ⟨rfl,_⟩:=rx
 obtain ⟨rfl,_⟩:=ry
 exact rd_I0 (Out.flat q (hr H i j))
theorem Xhg {Cd:Int→Int→Prop}{g:Int→Int→D}{gv:Int→Int→V}{f:D→D→Option D}(hf:∀x y d,f x y=some d→∃i j,x=.int i∧y=.int j∧d=g i j∧Cd i j)(hr:∀H i j,Rp K C H (g i j) (gv i j) []):GOk K C (rI Cd gv) f:=by
 intro H x y d vx vy Bx By Q rx ry e q
 obtain ⟨i,j,rfl,rfl,rfl,hc⟩:=hf x y d e
 obtain ⟨rfl,_⟩:=rx
 obtain ⟨rfl,_⟩:=ry
 exact rd_I hc (Out.flat q (hr H i j))
theorem rpI {i:Int}:Rp K C H (.int i) (.int i) []:=⟨rfl,rfl⟩
theorem rpB {i:Bool}:Rp K C H (.bl i) (.bl i) []:=⟨rfl,rfl⟩
theorem Zer:GOk K C (rI0 fun i j=>.int (i - j)) Dl.Zot:=Zny (fun x y d e=>by unfold Dl.Zot at e;split at e<;>cases e;exact ⟨_,_,rfl,rfl,rfl⟩) fun _ _ _=>rpI
theorem Zem:GOk K C (rI0 fun i j=>.bl (decide (i<j))) Dl.gLt:=Zny (fun x y d e=>by unfold Dl.gLt at e;split at e<;>cases e;exact ⟨_,_,rfl,rfl,rfl⟩) fun _ _ _=>rpB
theorem Zmj:GOk K C (rI0 fun i j=>.bl (decide (i≤j))) Dl.gLe:=Zny (fun x y d e=>by unfold Dl.gLe at e;split at e<;>cases e;exact ⟨_,_,rfl,rfl,rfl⟩) fun _ _ _=>rpB
theorem Zcy:GOk K C (rI0 fun i j=>.bl (decide (j<i))) Dl.gGt:=Zny (fun x y d e=>by unfold Dl.gGt at e;split at e<;>cases e;exact ⟨_,_,rfl,rfl,rfl⟩) fun _ _ _=>rpB
theorem Zxu:GOk K C (rI0 fun i j=>.bl (decide (j≤i))) Dl.gGe:=Zny (fun x y d e=>by unfold Dl.gGe at e;split at e<;>cases e;exact ⟨_,_,rfl,rfl,rfl⟩) fun _ _ _=>rpB
theorem Zad:GOk K C (rI (fun _ j=>0<j) fun i j=>.int (i % j)) Dl.Zjg:=Xhg (fun x y d e=>by
  unfold Dl.Zjg at e
  split at e
  · split at e
    · rename_i h;cases e;exact ⟨_,_,rfl,rfl,rfl,h⟩
    · cases e
  · cases e) fun _ _ _=>rpI
theorem Zxi:GOk K C (rI Xmc fun i j=>.int (i / j)) Dl.Xjf:=Xhg (fun x y d e=>by
  unfold Dl.Xjf at e
  split at e
  · split at e
    · rename_i h;cases e;exact ⟨_,_,rfl,rfl,rfl,h⟩
    · cases e
  · cases e) fun _ _ _=>rpI
theorem Zcd:GOk K C (rI CPow fun i j=>.int (i ^ j.toNat)) Dl.Ziz:=Xhg (fun x y d e=>by
  unfold Dl.Ziz at e
  split at e
  · split at e
    · rename_i h;cases e;exact ⟨_,_,rfl,rfl,rfl,h⟩
    · cases e
  · cases e) fun _ _ _=>rpI
theorem Zva {i j:Int}(h:(Dl.short i||Dl.short j)=true):Xje i j:=by
 unfold Dl.short at h
 simp only [Bool.or_eq_true,Bool.and_eq_true,decide_eq_true_eq] at h
 exact h
theorem Ya:GOk K C Zyj Dl.Zai:=by
 intro H x y d vx vy Bx By Q rx ry e q
 unfold Dl.Zai at e
 split at e
 ·split at e
  ·rename_i h
   cases e
   obtain ⟨rfl,_⟩:=rx
   obtain ⟨rfl,_⟩:=ry
   exact Xll (Zva h) (Out.flat q rpI)
  ·cases e
 ·split at e
  ·rename_i h
   cases e
   obtain ⟨a,xs,B,rfl,e2,e3,_⟩:=rx
   obtain ⟨rfl,_⟩:=ry
   obtain ⟨h1,h2,h3,h4⟩:=h
   refine Xka e2 (by omega) (by omega) (by rw [e3.len];exact Zeu h2) fun p hp=>?_
   exact Out.lst q ((e3.flat' h4).rep _) hp
  ·cases e
 ·cases e
theorem Zfc {d:D}{v:V}{A:List Addr}(h:Dl.dep d≤20)(r:Rp K C H d v A):Dn K H v (toPy d)∧SeqAt.shaped (toPy d)=true:=by
 obtain ⟨q1,q2,q3⟩:=r.dn h (by decide)
 refine ⟨q1,?_⟩
 unfold SeqAt.shaped
 rw [q2,q3]
 simp only [Bool.true_and,decide_eq_true_eq]
 omega
theorem Zdh:GOk K C (Zsj K) Dl.gEq:=by
 intro H x y d vx vy Bx By Q rx ry e q
 unfold Dl.gEq at e
 split at e
 ·rename_i h
  cases e
  obtain ⟨a1,a2⟩:=Zfc h.1 rx
  obtain ⟨b1,b2⟩:=Zfc h.2 ry
  refine .inr ⟨_,_,a1,b1,a2,b2,?_⟩
  rw [Zru (by omega) (by omega)]
  exact Out.flat q rpB
 ·cases e
theorem Zhr:GOk K C (Zzk K) Dl.gNe:=by
 intro H x y d vx vy Bx By Q rx ry e q
 unfold Dl.gNe at e
 split at e
 ·rename_i h
  cases e
  obtain ⟨a1,a2⟩:=Zfc h.1 rx
  obtain ⟨b1,b2⟩:=Zfc h.2 ry
  refine .inr ⟨_,_,a1,b1,a2,b2,?_⟩
  rw [Zru (by omega) (by omega)]
  exact Out.flat q rpB
 ·cases e
theorem Xde {x:D}(hx:Dl.dep x<100):∀{ys:List D},Dl.Zja ys<100→((Zfv ys).any fun z=>PyData.eqv z (toPy x))=ys.any fun y=>Dl.eqv y x
 | [],_=>rfl
 | y::ys,h=>by
  simp only [Dl.Zja] at h
  simp only [Zfv,any_cons]
  rw [Zru (by omega) hx,Xde hx (by omega)]
theorem Xnz:GOk K C (rInD K false) Dl.gIn:=by
 intro H x y d vx vy Bx By Q rx ry e q
 unfold Dl.gIn at e
 split at e
 ·split at e
  ·rename_i h
   cases e
   obtain ⟨a1,a2,a3⟩:=rx.dn h.1 (by decide)
   obtain ⟨b1,b2,b3⟩:=ry.dn (n:=21) (by simp only [Dl.dep];omega) (by decide)
   refine ⟨_,_,b1,a1,by simpa [toPy,PyData.canLay0] using b2,a2,by omega,?_⟩
   simp only [Bool.false_eq_true,if_false]
   rw [Xde (by omega) (by omega)]
   exact Out.flat q rpB
  ·cases e
 ·cases e
theorem Zvt:AOk K C E Γ Δ 2 [] Zmh Dl.Zt:=fun _ _ H _ _ _ _ _ p=>p [] H (Xw.refl _) ⟨[],RpA.nil,(fun _ h=>nomatch h),fun _=>nodup_nil⟩
theorem InS.left {A:Nat→List Addr}{a:Addr}(h:InS A S1 a):InS A (S1++S2) a:=h.mono fun _ hp=>mem_append_left _ hp
theorem InS.right {A:Nat→List Addr}{a:Addr}(h:InS A S2 a):InS A (S1++S2) a:=h.mono fun _ hp=>mem_append_right _ hp
theorem Zqh {te:TE}{t:TA}{fe:FE}{f:FA}(he:EOk K C E Γ Δ m1 S1 te fe)(ha:AOk K C E Γ Δ m2 S2 t f):AOk K C E Γ Δ 0 (S1++S2) (Zbj te t) (Dl.Zc fe f):=
  fun H0 Hb H σ ρ A Q I p=>he H0 Hb H σ ρ A _ I (p.bind.imp (fun x q vx H1 g1 r1=>ha H0 Hb H1 σ ρ A _ (I.mono g1) (q.bind.imp (fun ys q vs H2 g2 r2=>by
    obtain ⟨Bx,r1,r1',_⟩:=r1
    obtain ⟨By,r2,r2',_⟩:=r2
    exact q _ H2 (g1.trans g2) ⟨Bx++By,⟨vx,vs,Bx,By,rfl,r1.same g2,r2,rfl⟩,fun a h=>(List.mem_append.mp h).elim (fun h=>(r1' a h).imp id InS.left) (fun h=>(r2' a h).imp (fun h=>g1.free h) InS.right),(fun z=>nomatch z)⟩)
    fun c x q H' g'=>q H' (g1.trans g'))) fun c x q H' g'=>q H' g')
theorem Znf {te:TE}{t:TA}{fe:FE}{f:FA}(he:EOk K C E Γ Δ 2 S1 te fe)(ha:AOk K C E Γ Δ 2 S2 t f)(h1:∀p∈S1,p.1∈Δ:=by decide)(h2:∀p∈S1,∀q∈S2,p.1≠q.1:=by decide):AOk K C E Γ Δ 2 (S1++S2) (Zbj te t) (Dl.Zc fe f):=
  fun H0 Hb H σ ρ A Q I p=>he H0 Hb H σ ρ A _ I (p.bind.imp (fun x q vx H1 g1 r1=>ha H0 Hb H1 σ ρ A _ (I.mono g1) (q.bind.imp (fun ys q vs H2 g2 r2=>by
    obtain ⟨Bx,r1,r1',_,n1⟩:=r1
    obtain ⟨By,r2,r2',n2⟩:=r2
    refine q _ H2 (g1.trans g2) ⟨Bx++By,⟨vx,vs,Bx,By,rfl,r1.same g2,r2,rfl⟩,fun a h=>(List.mem_append.mp h).elim (fun h=>(r1' a h).imp id InS.left) (fun h=>(r2' a h).imp (fun h=>g1.free h) InS.right),fun _=>?_⟩
    refine List.nodup_append.mpr ⟨n1 rfl,n2 rfl,fun a ha b hb e=>?_⟩
    subst e
    rcases r2' a hb with z | z
    · obtain ⟨xs,w,_⟩:=r1.isl a ha
      rw [w] at z
      cases z
    · obtain ⟨p2,hp2,z⟩:=z.mem
      rcases r1' a ha with w | w
      · exact I.ne z w
      · obtain ⟨p1,hp1,w⟩:=w.mem
        exact (I.deep p1.1 (h1 p1 hp1)).2.1 p2.1 (fun e=>h2 p1 hp1 p2 hp2 e.symm) a w z)
    fun c x q H' g'=>q H' (g1.trans g'))) fun c x q H' g'=>q H' g')
theorem Xfa {t:TA}{f:FA}(ha:AOk K C E Γ Δ 2 S t f):EOk K C E Γ Δ 2 S (Xjj t) (Dl.fA Dl.Zae f):=
  fun H0 Hb H σ ρ A Q I p=>ha H0 Hb H σ ρ A _ I (p.bind.imp (fun ds q vs H1 g1 r1=>by
    obtain ⟨d,e,q⟩:=Zhb q
    unfold Dl.Zae at e
    split at e
    · rename_i hz
      cases e
      obtain ⟨B,r1,r1',n1⟩:=r1
      refine ⟨by rw [r1.len];exact Zeu hz,fun p hp=>?_⟩
      have g2:=sameNew hp (.lst vs)
      refine q _ _ (g1.trans g2) ⟨p::B,⟨p,vs,B,rfl,Yd,r1.same g2,rfl⟩,fun a ha=>?_,(fun z=>nomatch z),fun _=>List.nodup_cons.mpr ⟨fun h=>?_,n1 rfl⟩⟩
      · rcases List.mem_cons.mp ha with z | z
        · rw [z];exact .inl (g1.free hp)
        · exact r1' a z
      · obtain ⟨xs,w,_⟩:=r1.isl p h
        rw [w] at hp
        cases hp
    · cases e) fun c x q H' g'=>q H' g')
theorem Xcs {t:TA}{f:FA}(ha:AOk K C E Γ Δ m S t f):EOk K C E Γ Δ 1 S (Xjj t) (Dl.fA Dl.Zae f):=
  fun H0 Hb H σ ρ A Q I p=>ha H0 Hb H σ ρ A _ I (p.bind.imp (fun ds q vs H1 g1 r1=>by
    obtain ⟨d,e,q⟩:=Zhb q
    unfold Dl.Zae at e
    split at e
    · rename_i hz
      cases e
      obtain ⟨B,r1,r1',n1⟩:=r1
      refine ⟨by rw [r1.len];exact Zeu hz,fun p hp=>?_⟩
      have g2:=sameNew hp (.lst vs)
      refine q _ _ (g1.trans g2) ⟨p::B,⟨p,vs,B,rfl,Yd,r1.same g2,rfl⟩,fun a ha=>?_,fun _ a r e=>?_,(fun z=>nomatch z)⟩
      · rcases List.mem_cons.mp ha with z | z
        · rw [z];exact .inl (g1.free hp)
        · exact r1' a z
      · cases e
        refine ⟨g1.free hp,fun h=>?_⟩
        obtain ⟨xs,w,_⟩:=r1.isl p h
        rw [w] at hp
        cases hp
    · cases e) fun c x q H' g'=>q H' g')
theorem Xgz (hm:m=0∨m=2){t:TA}{f:FA}(ha:AOk K C E Γ Δ m S t f):EOk K C E Γ Δ m S (tTup t) (Dl.fA Dl.Zdy f):=
  fun H0 Hb H σ ρ A Q I p=>ha H0 Hb H σ ρ A _ I (p.bind.imp (fun ds q vs H1 g1 r1=>by
    obtain ⟨d,e,q⟩:=Zhb q
    unfold Dl.Zdy at e
    split at e
    · rename_i hz
      cases e
      obtain ⟨B,r1,r1',n1⟩:=r1
      refine ⟨by rw [r1.len];exact Zeu hz,fun p hp=>?_⟩
      have g2:=sameNew hp (.tup vs)
      exact q _ _ (g1.trans g2) ⟨B,⟨p,vs,rfl,Yd,r1.same g2⟩,r1',(fun z=>by omega),n1⟩
    · cases e) fun c x q H' g'=>q H' g')
theorem Zvm {r:List V→Hp→VK→Prop}{g:List D→Option D}{t:TA}{f:FA}(hg:GAk K C r g)(ha:AOk K C E Γ Δ m S t f):EOk K C E Γ Δ 2 [] (tCB r t) (Dl.fA g f):=
  fun H0 Hb H σ ρ A Q I p=>ha H0 Hb H σ ρ A _ I (p.bind.imp (fun ds q vs H1 g1 r1=>by
    obtain ⟨d,e,q⟩:=Zhb q
    obtain ⟨B,r1,_⟩:=r1
    exact hg H1 ds d vs B Q r1 e fun v H' B' g2 r2 h1 h2=>q v H' (g1.trans g2) (Res.new r2 h1 fun a ha=>g1.free (h2 a ha))) fun c x q H' g'=>q H' g')
theorem RpA.one' {d:D}{vs:List V}{A:List Addr}(r:RpA K C H [d] vs A):∃v,vs=[v]∧Rp K C H d v A:=by
 obtain ⟨x,l,B,B',e1,e2,e3,e4⟩:=r
 obtain ⟨e5,e6⟩:=e3
 subst e1 e4 e5 e6
 rw [append_nil]
 exact ⟨x,rfl,e2⟩
theorem RpA.two' {d e:D}{vs:List V}{A:List Addr}(r:RpA K C H [d,e] vs A):∃v w B B',vs=[v,w]∧Rp K C H d v B∧Rp K C H e w B':=by
 obtain ⟨x,l,B,B',e1,e2,e3,e4⟩:=r
 obtain ⟨w,e5,e6⟩:=e3.one'
 subst e1 e5
 exact ⟨x,w,B,B',rfl,e2,e6⟩
theorem Xm:GAk K C (Ys K) Dl.Jk:=by
 intro H xs d vs B Q r e q
 obtain ⟨x,rfl⟩:=Zqm (F:=Dl.Jk) rfl (fun x _ _=>by cases x<;>rfl) e
 obtain ⟨v,rfl,r1⟩:=r.one'
 cases x with
 | lst xs =>
  cases (show some (D.int xs.length)=some d from e)
  obtain ⟨a,ys,B,rfl,e2,e3,_⟩:=r1
  refine Zxn (SqL.of e2) ?_
  rw [e3.len]
  exact Out.flat q rpI
 | tup xs =>
  cases (show some (D.int xs.length)=some d from e)
  obtain ⟨a,ys,rfl,e2,e3⟩:=r1
  refine Xei (SqT.of e2) ?_
  rw [e3.len]
  exact Out.flat q rpI
 | scr xs =>
  cases (show some (D.int xs.length)=some d from e)
  obtain ⟨a,rfl,e2,_⟩:=r1
  refine Zxn e2.sq ?_
  rw [length_map]
  exact Out.flat q rpI
 | str z =>
  have e:(if z.length≤Dl.lim then some (D.int z.length) else none)=some d:=e
  by_cases hz:z.length≤Dl.lim
  ·rw [if_pos hz] at e
   cases e
   obtain ⟨rfl,_⟩:=r1
   exact Xfx (Zeu hz) (Out.flat q rpI)
  ·rw [if_neg hz] at e
   exact Jr e
 | _=>exact Jr e
theorem Zkx:GAk K C (Xgo K) Dl.Zvn:=by
 intro H xs d vs B Q r e q
 obtain ⟨x,rfl⟩:=Zqm (F:=Dl.Zvn) rfl (fun x _ _=>by cases x<;>rfl) e
 obtain ⟨v,rfl,r1⟩:=r.one'
 cases x with
 | lst xs =>
  obtain ⟨ns,h1,h2⟩:=Option.bind_eq_some_iff.mp e
  cases h2
  obtain ⟨a,ys,B,rfl,e2,e3,_⟩:=r1
  have h:=e3.ofInts h1
  subst h
  exact Xnp (SqL.of e2) (Out.flat q rpI)
 | _=>exact Jr e
theorem Zvp (x:Int):∀(r:List Int),(r.foldl max x=x∨r.foldl max x∈r)∧x≤r.foldl max x∧∀y∈r,y≤r.foldl max x:=by
 intro r
 induction r generalizing x with
 | nil=>simp
 | cons y r ih =>
  obtain ⟨h1,h2,h3⟩:=ih (max x y)
  rw [foldl_cons]
  refine ⟨?_,by omega,fun z hz=>?_⟩
  ·rcases h1 with h | h
   ·rw [h]
    by_cases hxy:x≤y
    ·right;rw [Int.max_eq_right hxy];exact .head _
    ·left;omega
   ·right;exact .tail _ h
  ·rcases List.mem_cons.mp hz with e | e
   ·omega
   ·exact h3 z e
theorem Zwr {ns:List Int}(h:ns≠[]):Dl.Xah ns∈ns∧∀n∈ns,n≤Dl.Xah ns:=by
 cases ns with
 | nil=>exact absurd rfl h
 | cons x r =>
  obtain ⟨h1,h2,h3⟩:=Zvp x r
  show r.foldl max x∈x::r∧∀n∈x::r,n≤r.foldl max x
  refine ⟨?_,fun n hn=>?_⟩
  ·rcases h1 with e | e
   ·rw [e];exact .head _
   ·exact .tail _ e
  ·rcases List.mem_cons.mp hn with e | e
   ·omega
   ·exact h3 n e
theorem Zpj:GAk K C (Zox K) Dl.Xbj:=by
 intro H xs d vs B Q r e q
 unfold Dl.Xbj at e
 split at e
 ·cases e
  obtain ⟨v,w,B,B',rfl,r1,r2⟩:=r.two'
  obtain ⟨rfl,_⟩:=r1
  obtain ⟨rfl,_⟩:=r2
  exact Xgj (Out.flat q rpI)
 ·obtain ⟨ns,h1,h2⟩:=Option.bind_eq_some_iff.mp e
  split at h2
  ·cases h2
  ·rename_i hne
   cases h2
   obtain ⟨v,rfl,r1⟩:=r.one'
   obtain ⟨a,ys,B,rfl,e2,e3,_⟩:=r1
   have h:=e3.ofInts h1
   subst h
   obtain ⟨s1,s2⟩:=Zwr hne
   refine Xim (SqL.of e2) hne fun mm h1 h2=>?_
   have e:mm=Dl.Xah ns:=Int.le_antisymm (s2 mm h1) (h2 _ s1)
   rw [e]
   exact Out.flat q rpI
 ·cases e
def Zwu:List V→Hp→VK→Prop:=fun xs H Q=>∃i j,xs=[.int i,.int j]∧Q (.int (if j<i then j else i)) H
theorem Zie {X:Cx}(hc:X.calm=true):Zav X (.builtin "min") Zwu:=Zxv hc
theorem Zon:GAk K C Zwu Dl.Xdh:=by
 intro H xs d vs B Q r e q
 unfold Dl.Xdh at e
 split at e
 ·cases e
  obtain ⟨v,w,B,B',rfl,r1,r2⟩:=r.two'
  obtain ⟨rfl,_⟩:=r1
  obtain ⟨rfl,_⟩:=r2
  exact ⟨_,_,rfl,Out.flat q rpI⟩
 ·cases e
theorem Zwy:GAk K C (Zty K) Dl.Zyl:=by
 intro H xs d vs B Q r e q
 obtain ⟨x,rfl⟩:=Zqm (F:=Dl.Zyl) rfl (fun x _ _=>by cases x<;>rfl) e
 obtain ⟨v,rfl,r1⟩:=r.one'
 cases x with
 | lst xs =>
  obtain ⟨ns,h1,h2⟩:=Option.bind_eq_some_iff.mp e
  cases h2
  obtain ⟨a,ys,B,rfl,e2,e3,_⟩:=r1
  have h:=e3.ofBools h1
  subst h
  exact Xem (SqL.of e2) (Out.flat q rpB)
 | _=>exact Jr e
theorem RpA.rng {lo:Int}{n:Nat}:RpA K C H (Dl.Zcj lo n) (Zok lo n) []:=by
 unfold Dl.Zcj Zok
 generalize List.range n=l
 induction l with
 | nil=>exact RpA.nil
 | cons k l ih=>exact ⟨_,_,[],[],rfl,rpI,ih,rfl⟩
theorem Zlq:GAk K C (Zpt K) Dl.Zjk:=by
 intro H xs d vs B Q r e q
 obtain ⟨x,rfl⟩:=Zqm (F:=Dl.Zjk) rfl (fun x _ _=>by cases x<;>rfl) e
 obtain ⟨v,rfl,r1⟩:=r.one'
 cases x with
 | lst xs =>
  have e:(if Dl.Yz xs then some (D.lst xs) else none)=some d:=e
  split at e
  ·rename_i hf
   cases e
   obtain ⟨a,ys,B,rfl,e2,e3,_⟩:=r1
   exact Xbv (SqL.of e2) fun l hl=>Out.lst q (e3.flat' hf) hl
  ·exact Jr e
 | tup xs =>
  have e:(if Dl.Yz xs then some (D.lst xs) else none)=some d:=e
  split at e
  ·rename_i hf
   cases e
   obtain ⟨a,ys,rfl,e2,e3⟩:=r1
   exact .inl ⟨a,ys,rfl,.inr (SqT.of e2),fun l hl=>Out.lst q (e3.flat' hf) hl⟩
  ·exact Jr e
 | rng i j =>
  have e:(if -1000000000≤i∧i≤1000000000∧-1000000000≤j∧j≤1000000000∧(j - i).toNat≤Dl.lim then some (D.lst (Dl.Zcj i (j - i).toNat)) else none)=some d:=e
  split at e
  ·rename_i hf
   cases e
   obtain ⟨a,rfl,e2,_⟩:=r1
   obtain ⟨h1,h2,h3,h4,h5⟩:=hf
   exact Xce e2 (by omega) (by omega) (by omega) (by omega) h5 fun l hl=>Out.lst q RpA.rng hl
  ·exact Jr e
 | _=>exact Jr e
theorem Zyw:OOk K C E Γ Δ Zkv Dl.Zsk:=fun _ _ H _ _ _ _ _ p=>p H (Xw.refl _)
theorem Xav {t:TE}{f:FE}(h:EOk K C E Γ Δ m S t f):OOk K C E Γ Δ (Xcd t) (Dl.Zmt f):=fun H0 Hb H σ ρ A Q I p=>h H0 Hb H σ ρ A _ I (p.bind.imp (fun d q v H' g r=>by
  obtain ⟨B,r,_⟩:=r
  cases d with
  | int i =>
    obtain ⟨rfl,_⟩:=r
    exact ⟨i,rfl,q H' g⟩
  | _=>exact q.elim) fun c x q H' g'=>q H' g')
theorem Zrj (n d:Nat)(o:Option Int):Dl.Xjo n d o=HT.sIx n d o:=by
 cases o with
 | none=>rfl
 | some v =>
  have h:=HT.clip_eq v n d
  show (if v<0 then (max (v+(n:Int)) 0).toNat else min v.toNat n)=_
  by_cases hv:v<0
  ·rw [if_pos hv] at h ⊢
   omega
  ·rw [if_neg hv] at h ⊢
   omega
theorem RpA.cut {ds:List D}{vs:List V}{A:List Addr}(h:Dl.Yz ds=true)(r:RpA K C H ds vs A)(lo hi:Option Int):RpA K C H (Dl.cut ds lo hi) (Xch vs lo hi) []:=by
 unfold Dl.cut Xch
 rw [Zrj,Zrj,r.len]
 exact (r.flatDrop h _).flatTake (Zsx h _) _
theorem Xbz (ns:List Int)(lo hi:Option Int):Xch (ns.map V.int) lo hi=(Dl.cut ns lo hi).map V.int:=by
 unfold Dl.cut Xch
 rw [Zrj,Zrj,length_map,map_take,map_drop]
theorem Xoa {ta:TE}{tl th:TO}{fa:FE}{fl fh:FO}(ha:EOk K C E Γ Δ m S ta fa)(hl:OOk K C E Γ Δ tl fl)(hh:OOk K C E Γ Δ th fh):EOk K C E Γ Δ 2 [] (tSl (rSlL K) ta tl th) (Dl.fSl Dl.gSl fa fl fh):=
  fun H0 Hb H σ ρ A Q I p=>ha H0 Hb H σ ρ A _ I (p.bind.imp (fun x q vx H1 g1 r1=>hl H0 Hb H1 σ ρ A _ (I.mono g1) (q.bind.imp (fun lo q H2 g2=>hh H0 Hb H2 σ ρ A _ (I.mono (g1.trans g2)) (q.bind.imp (fun hi q H3 g3=>by
    obtain ⟨d,e,q⟩:=Zhb q
    obtain ⟨B,r1,_⟩:=r1
    have r1:=r1.same (g2.trans g3)
    have g13:=g1.trans (g2.trans g3)
    have out:Out K C H3 d Q:=fun v H' B g4 r h1 h2=>q v H' (g13.trans g4) (Res.new r h1 fun a ha=>g13.free (h2 a ha))
    unfold Dl.gSl at e
    split at e
    · split at e
      · rename_i hf
        cases e
        obtain ⟨a,ys,B,rfl,e2,e3,_⟩:=r1
        exact Xdn (SqL.of e2) fun p hp=>Out.lst out (e3.cut hf _ _) hp
      · cases e
    · cases e
      obtain ⟨a,rfl,e2,_⟩:=r1
      refine Xdn e2.sq fun p hp=>?_
      rw [Xbz]
      exact Out.lst out RpA.ints hp
    · cases e) fun c x q H' g'=>q H' ((g1.trans g2).trans g'))) fun c x q H' g'=>q H' (g1.trans g'))) fun c x q H' g'=>q H' g')
end
section
variable {K:Frag}{C:String→Addr}{E:XK}{Γ Δ Γ' Δ' Γ1 Δ1 Γl Δl:List Nat}{m m1 m2 m3 mr:Nat}{S S1 S2 S3:List (Nat×Bool)}{H:Hp}{Q:VK}
theorem Xdk {t:TE}{f:FE}(h:EOk K C E Γ Δ m S t f):∀(H0 Hb H:Hp) (σ:St) (ρ:Ym) (A:Nat→List Addr) (Q:Bool→Hp→Prop),Zy K C H0 Hb H Γ Δ σ ρ A→
    Yc (Dl.cE f ρ) (fun b=>∀H',Xw H H'→Q b H') (fun c x=>∀H',Xw H H'→EC C E c x H')→t σ H fun x H'=>∃k,x=.bl k∧Q k H':=fun H0 Hb H σ ρ A Q I p=>h H0 Hb H σ ρ A _ I (p.bind.imp (fun d q v H' g r=>by
  obtain ⟨B,r,_⟩:=r
  cases d with
  | bl b =>
    obtain ⟨rfl,_⟩:=r
    exact ⟨b,rfl,q H' g⟩
  | _=>exact q.elim) fun c x q H' g'=>q H' g')
theorem Zzq {t:TE}{f:FE}(h:EOk K C E Γ Δ m S t f):TOk K C E Γ Δ (Zzl t) (Dl.cE f):=Xdk h
theorem tok_B {t:TE}{f:FE}(h:EOk K C E Γ Δ m S t f):TOk K C E Γ Δ (tB t) (Dl.cE f):=Xdk h
theorem Xio {t:TT}{f:FT}(h:TOk K C E Γ Δ t f):TOk K C E Γ Δ (tNot t) (Dl.Ztp f):=fun H0 Hb H σ ρ A Q I p=>h H0 Hb H σ ρ A _ I (p.bind.imp (fun b q H' g=>q H' g) fun c x q H' g'=>q H' g')
theorem Xez {t u:TT}{f g:FT}(h:TOk K C E Γ Δ t f)(h':TOk K C E Γ Δ u g):TOk K C E Γ Δ (tAnd t u) (Dl.Zwt f g):=fun H0 Hb H σ ρ A Q I p=>h H0 Hb H σ ρ A _ I (p.bind.imp (fun b q H' g'=>by
  cases b with
  | true=>exact h' H0 Hb H' σ ρ A Q (I.mono g') (Yc.imp q (fun b q H2 g2=>q H2 (g'.trans g2)) fun c x q H2 g2=>q H2 (g'.trans g2))
  | false=>exact q H' g') fun c x q H' g'=>q H' g')
theorem Xno {t u:TT}{f g:FT}(h:TOk K C E Γ Δ t f)(h':TOk K C E Γ Δ u g):TOk K C E Γ Δ (tOr t u) (Dl.cOr f g):=fun H0 Hb H σ ρ A Q I p=>h H0 Hb H σ ρ A _ I (p.bind.imp (fun b q H' g'=>by
  cases b with
  | false=>exact h' H0 Hb H' σ ρ A Q (I.mono g') (Yc.imp q (fun b q H2 g2=>q H2 (g'.trans g2)) fun c x q H2 g2=>q H2 (g'.trans g2))
  | true=>exact q H' g') fun c x q H' g'=>q H' g')
theorem Xhe:TOk K C E Γ Δ tYes Dl.Zbm:=fun _ _ H _ _ _ _ _ p=>p H (Xw.refl _)
theorem EOk.run {t:TE}{f:FE}(h:EOk K C E Γ Δ m S t f){H0 Hb H H1:Hp}{σ:St}{ρ:Ym}{A:Nat→List Addr}{Q:VK}(I:Zy K C H0 Hb H Γ Δ σ ρ A)(g:Xw H H1)
  (p:Yc (f ρ) (fun d=>∀v H',Xw H H'→Res K C m S H A d v H'→Q v H') (fun c x=>∀H',Xw H H'→EC C E c x H')):t σ H1 Q:=
 h H0 Hb H1 σ ρ A Q (I.mono g) (p.imp (fun d q v H2 g2 r=>q v H2 (g.trans g2) (r.later g (Xw.refl _))) fun c x q H2 g2=>q H2 (g.trans g2))
theorem Xil {ta tb:TE}{fa fb:FE}(ha:EOk K C E Γ Δ m1 S1 ta fa)(hb:EOk K C E Γ Δ m S tb fb):EOk K C E Γ Δ m S (Zzy ta tb) (Dl.Xjh fa fb):=fun H0 Hb H σ ρ A Q I p=>ha H0 Hb H σ ρ A _ I (p.bind.imp (fun d q v H' g r=>by
  obtain ⟨B,r,_⟩:=r
  cases d with
  | bl b =>
    obtain ⟨rfl,_⟩:=r
    refine ⟨b,rfl,?_⟩
    cases b with
    | true=>exact hb.run I g q
    | false=>exact q _ H' g (Res.flat rpB)
  | _=>exact q.elim) fun c x q H' g'=>q H' g')
theorem Xfm {ta:TE}{fa:FE}(ha:EOk K C E Γ Δ m1 S1 ta fa):EOk K C E Γ Δ 2 [] (Xat ta) (Dl.f1 Dl.gNot fa):=fun H0 Hb H σ ρ A Q I p=>ha H0 Hb H σ ρ A _ I (p.bind.imp (fun d q v H' g r=>by
  obtain ⟨B,r,_⟩:=r
  cases d with
  | bl b =>
    obtain ⟨rfl,_⟩:=r
    exact ⟨b,rfl,q _ H' g (Res.flat rpB)⟩
  | _=>exact q.elim) fun c x q H' g'=>q H' g')
theorem Xmz {tc:TT}{ta tb:TE}{fc:FT}{fa fb:FE}(hc:TOk K C E Γ Δ tc fc)(ha:EOk K C E Γ Δ m S ta fa)(hb:EOk K C E Γ Δ m S tb fb):EOk K C E Γ Δ m S (tIf tc ta tb) (Dl.fIf fc fa fb):=
  fun H0 Hb H σ ρ A Q I p=>hc H0 Hb H σ ρ A _ I (p.bind.imp (fun b q H' g=>by
    cases b with
    | true=>exact ha.run I g q
    | false=>exact hb.run I g q) fun c x q H' g'=>q H' g')
theorem Ztv {r r':R2}{g g':D→D→Option D}{ta tb tc:TE}{fa fb fc:FE}(hg:GOk K C r g)(hg':GOk K C r' g')(hbl:∀x y d,g x y=some d→∃b,d=.bl b)(ha:EOk K C E Γ Δ m1 S1 ta fa)(hb:EOk K C E Γ Δ m2 S2 tb fb)(hc:EOk K C E Γ Δ m3 S3 tc fc) :
    EOk K C E Γ Δ 2 [] (Zqp r r' ta tb tc) (Dl.Zjp g g' fa fb fc):=
  fun H0 Hb H σ ρ A Q I p=>ha H0 Hb H σ ρ A _ I (p.bind.imp (fun x q vx H1 g1 r1=>hb H0 Hb H1 σ ρ A _ (I.mono g1) (q.bind.imp (fun y q vy H2 g2 r2=>by
    obtain ⟨z,e,q⟩:=Zhb q.bind
    obtain ⟨Bx,r1,_⟩:=r1
    obtain ⟨By,r2,_⟩:=r2
    obtain ⟨b,rfl⟩:=hbl _ _ _ e
    refine hg H2 x y _ vx vy Bx By _ (r1.same g2) r2 e fun v H3 B g3 r3 _ _=>?_
    obtain ⟨rfl,_⟩:=r3
    refine ⟨b,rfl,?_⟩
    have g03:=g1.trans (g2.trans g3)
    cases b with
    | false=>exact q _ H3 g03 (Res.flat rpB)
    | true =>
      refine hc H0 Hb H3 σ ρ A _ (I.mono g03) (q.bind.imp (fun w q vw H4 g4 r4=>?_) fun c x q H' g'=>q H' (g03.trans g'))
      obtain ⟨d,e',q⟩:=Zhb q
      obtain ⟨Bw,r4,_⟩:=r4
      exact hg' H4 y w d vy vw By Bw Q (r2.same (g3.trans g4)) r4 e' fun v H' B g5 r5 h1 h2=>q v H' (g03.trans (g4.trans g5)) (Res.new r5 h1 fun a ha=>(g03.trans g4).free (h2 a ha)))
    fun c x q H' g'=>q H' (g1.trans g'))) fun c x q H' g'=>q H' g')
theorem bl_le {x y d:D}(h:Dl.gLe x y=some d):∃b,d=.bl b:=by unfold Dl.gLe at h;split at h<;>cases h;exact ⟨_,rfl⟩
noncomputable def spD (K:Frag)(C:String→Addr)(n mr:Nat)(F:List D→R D):Sp:=fun vs H Q E=>∃ds B,ds.length=n∧RpA K C H ds vs B∧
 Yc (F ds) (fun d=>∀v H',Xw H H'→Res K C mr [] H (fun _=>[]) d v H'→Q v H') (fun c x=>∀H',Xw H H'→EC C E c x H')
theorem InS.none {A:Nat→List Addr}{a:Addr}(h:InS A [] a):False:=by
 obtain ⟨p,hp,_⟩:=h
 cases hp
theorem Res.reA {H H':Hp}{A A':Nat→List Addr}{d:D}{v:V}(r:Res K C m [] H A d v H'):Res K C m S H A' d v H':=by
 obtain ⟨B,r1,r2,r3,r4⟩:=r
 exact ⟨B,r1,fun a ha=>(r2 a ha).imp id fun h=>h.none.elim,r3,r4⟩
theorem Zqc {n:Nat}{F:List D→R D}{t:TA}{f:FA}(ha:AOk K C E Γ Δ m S t f)(hn:∀ρ ds,f ρ=.ok ds→ds.length=n):EOk K C E Γ Δ mr [] (Zpn (spD K C n mr F) [] E t) (Dl.Xr F f):=
  fun H0 Hb H σ ρ A Q I p=>Xgg (ha H0 Hb H σ ρ A _ I (by
    have p':=p.bind
    cases e:f ρ with
    | bad=>rw [e] at p';exact p'
    | err c x=>rw [e] at p';exact p'
    | ok ds =>
      rw [e] at p'
      intro vs H1 g1 r1
      obtain ⟨B,r1,_⟩:=r1
      exact ⟨ds,B,hn ρ ds e,r1,Yc.imp p' (fun d q v H' g2 r=>q v H' (g1.trans g2) ((r.later g1 (Xw.refl _)).reA)) fun c x q H' g'=>q H' (g1.trans g')⟩))
theorem Xfp (ρ:Ym)(ds:List D)(h:Dl.Zt ρ=.ok ds):ds.length=0:=by cases h;rfl
theorem Zkn {n:Nat}{fe:FE}{f:FA}(hf:∀ρ ds,f ρ=.ok ds→ds.length=n)(ρ:Ym)(ds:List D)(h:Dl.Zc fe f ρ=.ok ds):ds.length=n+1:=by
 unfold Dl.Zc at h
 cases e:fe ρ with
 | ok x =>
  rw [e] at h
  cases e':f ρ with
  | ok xs =>
   rw [e'] at h
   cases h
   rw [length_cons,hf ρ xs e']
  | err c x=>rw [e'] at h;cases h
  | bad=>rw [e'] at h;cases h
 | err c x=>rw [e] at h;cases h
 | bad=>rw [e] at h;cases h
def Goes (K:Frag)(C:String→Addr)(J:It)(ds:List D)(Hb:Hp):Prop:=∀H2,Xw Hb H2→(∀i,i<ds.length→J.go i H2)∧(∀i,ds.length≤i→J.stop i H2)∧
 ∀i x H3,i<ds.length→J.yld i H2 x H3→Xw H2 H3∧∃d B,ds[i]?=some d∧Rp K C H3 d x B∧∀a∈B,Hb a≠none
def IOk (K:Frag)(C:String→Addr)(E:XK)(Γ Δ:List Nat)(S:List (Nat×Bool))(wi:TI)(f:FI):Prop:=∀(H0 Hb H:Hp) (σ:St) (ρ:Ym) (A:Nat→List Addr) (Rr:It→Hp→Prop),Zy K C H0 Hb H Γ Δ σ ρ A→
  Yc (f ρ) (fun ds=>∀J H' W,Xw H H'→(∀a∈W,(∃o,H' a=some o∧IsM o)∧(H a=none∨InS A S a))→ds.length≤Dl.lim→
    (∀Hc,Agree W H' Hc→Goes K C J ds Hc)→Rr J H') (fun c x=>∀H',Xw H H'→EC C E c x H')→wi σ H Rr
theorem Zwb {J:It}{ds:List D}{vs:List V}{B:List Addr}{Hc:Hp}(r:RpA K C Hc ds vs B)(h:∀H2,Xw Hc H2→(∀i,i<vs.length→J.go i H2)∧(∀i,vs.length≤i→J.stop i H2)∧∀i x H3,J.yld i H2 x H3→H3=H2∧(i<vs.length→vs[i]?=some x)):Goes K C J ds Hc:=fun H2 g=>by
 obtain ⟨h1,h2,h3⟩:=h H2 g
 have hl:=r.len
 refine ⟨fun i hi=>h1 i (by omega),fun i hi=>h2 i (by omega),fun i x H3 hi y=>?_⟩
 obtain ⟨e,y2⟩:=h3 i x H3 y
 subst e
 obtain ⟨d,Bd,q1,q2,q3⟩:=r.get' (y2 (by omega))
 refine ⟨Xw.refl _,d,Bd,q1,q2.same g,fun a ha z=>?_⟩
 obtain ⟨xs,e,_⟩:=q2.isl a ha
 rw [e] at z
 cases z
theorem Znr {a:Addr}{ds:List D}{vs:List V}{B:List Addr}{Hc:Hp}(r:RpA K C Hc ds vs B)(h:∀H2,Xw Hc H2→SqL K H2 a vs):Goes K C (Itl K a) ds Hc:=Zwb r fun H2 g=>by
 have q:=h H2 g
 exact ⟨fun i hi=>⟨vs,vs[i],q,by simp [hi]⟩,fun i hi=>⟨vs,q,hi⟩,fun i x H3 y=>⟨y.1,fun _=>y.2 vs q⟩⟩
theorem Zrw {lo:Int}{n:Nat}{Hc:Hp}:Goes K C (Itr lo n) (Dl.Zcj lo n) Hc:=Zwb (vs:=Zok lo n) RpA.rng fun H2 _=>by
 have hl:(Zok lo n).length=n:=by simp [Zok]
 refine ⟨fun i hi=>by rw [hl] at hi;exact hi,fun i hi=>by rw [hl] at hi;exact hi,fun i x H3 y=>⟨y.1,fun hi=>?_⟩⟩
 rw [hl] at hi
 rw [y.2]
 simp [Zok,hi]
theorem FzL.keep {a:Addr}{xs:List V}{H Hb:Hp}(h:FzL K H a xs)(hk:∀b o,H b=some o→¬IsM o→Hb b=some o):FzL K Hb a xs:=by
 rcases h with ⟨o,h⟩ | h
 ·exact .inl ⟨o,hk a _ h (fun z=>by cases z)⟩
 ·exact .inr h
theorem FzL.same {a:Addr}{xs:List V}{H Hb:Hp}(h:FzL K H a xs)(g:Xw H Hb):FzL K Hb a xs:=h.keep fun b o q _=>g b o q
theorem Xct {t:TE}{f:FE}(h:EOk K C E Γ Δ m S t f):IOk K C E Γ Δ S (Ztb K t) (Dl.Zba f):=fun H0 Hb H σ ρ A Rr I p=>h H0 Hb H σ ρ A _ I (p.bind.imp (fun d q v H' g r=>by
  obtain ⟨B,r,r',_⟩:=r
  cases d with
  | lst ds =>
    obtain ⟨a,xs,B',rfl,e2,e3,e4⟩:=r
    subst e4
    simp only at q
    split at q
    · rename_i hl
      refine ⟨a,rfl,⟨xs,SqL.of e2⟩,q _ H' (a::B') g (fun b hb=>?_) hl fun Hc h1=>Znr (e3.agree h1 fun b hb=>.tail _ hb) fun H2 g2=>SqL.of (g2 _ _ ((h1.1 a (.head _)).trans e2))⟩
      rcases List.mem_cons.mp hb with z | z
      · rw [z]
        exact ⟨⟨_,e2,.lst⟩,r' a (.head _)⟩
      · exact ⟨e3.isl b z,r' b (.tail _ z)⟩
    · exact q.elim
  | scr ns =>
    obtain ⟨a,rfl,e2,_⟩:=r
    simp only at q
    split at q
    · rename_i hl
      exact ⟨a,rfl,⟨_,e2.sq⟩,q _ H' [] g (fun b hb=>nomatch hb) (by rw [length_map];exact hl) fun Hc h2=>Znr RpA.ints fun H2 g2=>((e2.keep h2.2).same g2).sq⟩
    · exact q.elim
  | _=>exact q.elim) fun c x q H' g'=>q H' g')
theorem Zpv (lo:Int)(n:Nat):(Dl.Zcj lo n).length=n:=by simp [Dl.Zcj]
theorem Xbw {t:TA}{f:FA}(h:AOk K C E Γ Δ m S t f):IOk K C E Γ Δ [] (Xan t) (Dl.Zaq f):=fun H0 Hb H σ ρ A Rr I p=>h H0 Hb H σ ρ A _ I (p.bind.imp (fun ds q vs H' g r=>by
  obtain ⟨B,r,_⟩:=r
  split at q
  · split at q
    · rename_i hl
      obtain ⟨v,rfl,r1⟩:=r.one'
      obtain ⟨rfl,_⟩:=r1
      exact ⟨_,rfl,by omega,by omega,q _ H' [] g (fun b hb=>nomatch hb) (by rw [Zpv];show _≤1000000;omega) fun Hc _=>Zrw⟩
    · exact q.elim
  · exact q.elim) fun c x q H' g'=>q H' g')
theorem Zys {t:TA}{f:FA}(h:AOk K C E Γ Δ m S t f):IOk K C E Γ Δ [] (Zyc t) (Dl.Zwx f):=fun H0 Hb H σ ρ A Rr I p=>h H0 Hb H σ ρ A _ I (p.bind.imp (fun ds q vs H' g r=>by
  obtain ⟨B,r,_⟩:=r
  split at q
  · split at q
    · rename_i hl
      obtain ⟨v,w,B,B',rfl,r1,r2⟩:=r.two'
      obtain ⟨rfl,_⟩:=r1
      obtain ⟨rfl,_⟩:=r2
      obtain ⟨h1,h2,h3,h4,h5⟩:=hl
      exact ⟨_,_,rfl,⟨by omega,by omega,by omega,by omega⟩,q _ H' [] g (fun b hb=>nomatch hb) (by rw [Zpv];exact h5) fun Hc _=>Zrw⟩
    · exact q.elim
  · exact q.elim) fun c x q H' g'=>q H' g')
theorem Zql {J:It}{ds:List D}{Hc H:Hp}{Dd:Addr}{k:Nat}{g:TG}{tc:TT}{te:TE}{σ:St}{Rr:Hp→Prop}(go:Goes K C J ds Hc)(Pv:Nat→Hp→Prop)(h0:Pv 0 (upd H Dd (.lst [])))(hb:∀i H,Pv i H→Xw Hc H)
    (hs:∀i d x B H H3,ds[i]?=some d→Pv i H→Xw H H3→Rp K C H3 d x B→(∀a∈B,Hc a≠none)→∀os:St,os.length=k→g x (σ++os) H3 fun σ' Hg=>(∃os',os'.length=k∧σ'=σ++os')∧tc σ' Hg fun b H2=>if b=true then te σ' H2 fun v H3=>∃ys,H3 Dd=some (.lst ys)∧ys.length<sizeLine∧Pv (i+1) (upd H3 Dd (.lst (ys++[v]))) else Pv (i+1) H2)
    (hd:∀H,Pv ds.length H→Rr H) :
    ∃W:Nat→Nat→Hp→Prop,(∃m,W 0 m (upd H Dd (.lst [])))∧∀i m H,W i m H→
      (J.stop i H∧Rr H)∨(J.go i H∧∃N:Hp→Prop,(∀H',N H'→∃m',m'<m∧W (i+1) m' H')∧∀x H',J.yld i H x H'→∀os:St,os.length=k→g x (σ++os) H' fun σ' Hg=>(∃os',os'.length=k∧σ'=σ++os')∧tc σ' Hg fun b H2 =>
        if b=true then te σ' H2 fun v H3=>∃ys,H3 Dd=some (.lst ys)∧ys.length<sizeLine∧N (upd H3 Dd (.lst (ys++[v])))
        else N H2):=by
  refine ⟨fun i m H=>m=ds.length - i∧i≤ds.length∧Pv i H,⟨ds.length,by simp,zero_le _,h0⟩,?_⟩
  rintro i m H1 ⟨rfl,hi,p⟩
  obtain ⟨g1,g2,g3⟩:=go H1 (hb i H1 p)
  by_cases hlt:i<ds.length
  · refine .inr ⟨g1 i hlt,Pv (i+1),fun H' p'=>⟨ds.length - (i+1),by omega,rfl,hlt,p'⟩,fun x H' y=>?_⟩
    obtain ⟨e,d,B,y1,y2,y3⟩:=g3 i x H' hlt y
    exact hs i d x B H1 H' y1 p e y2 y3
  · have e:i=ds.length:=by omega
    subst e
    exact .inl ⟨g2 _ (le_refl _),hd H1 p⟩
theorem Xey {J:It}{ds:List D}{Hc H:Hp}{g:TG}{tb:TS}{Dd:Ends}{σ:St}(go:Goes K C J ds Hc)(Pv:Nat→St→Hp→Prop)(h0:Pv 0 σ H)(hb:∀i σ H,Pv i σ H→Xw Hc H)
  (hs:∀i d x B σ H H3,ds[i]?=some d→Pv i σ H→Xw H H3→Rp K C H3 d x B→(∀a∈B,Hc a≠none)→g x σ H3 fun σ2 H2=>tb {Dd with nx:=Pv (i+1),ct:=Pv (i+1),bk:=Dd.nx} σ2 H2) (hd:∀σ H,Pv ds.length σ H→Dd.nx σ H) :
  ∃W:Nat→Nat→St→Hp→Prop,(∃m,W 0 m σ H)∧∀i m σ H,W i m σ H→
   (J.stop i H∧Dd.nx σ H)∨(J.go i H∧∃N:St→Hp→Prop,(∀σ' H',N σ' H'→∃m',m'<m∧W (i+1) m' σ' H')∧∀x H',J.yld i H x H'→g x σ H' fun σ2 H2=>tb {Dd with nx:=N,ct:=N,bk:=Dd.nx} σ2 H2):=by
 refine ⟨fun i m σ H=>m=ds.length - i∧i≤ds.length∧Pv i σ H,⟨ds.length,by simp,zero_le _,h0⟩,?_⟩
 rintro i m σ H1 ⟨rfl,hi,p⟩
 obtain ⟨g1,g2,g3⟩:=go H1 (hb i σ H1 p)
 by_cases hlt:i<ds.length
 ·refine .inr ⟨g1 i hlt,Pv (i+1),fun σ' H' p'=>⟨ds.length - (i+1),by omega,rfl,hlt,p'⟩,fun x H' y=>?_⟩
  obtain ⟨e,d,B,y1,y2,y3⟩:=g3 i x H' hlt y
  exact hs i d x B σ H1 H' y1 p e y2 y3
 ·have e:i=ds.length:=by omega
  subst e
  exact .inl ⟨g2 _ (le_refl _),hd σ H1 p⟩
theorem Zy.more {H0 Hb H:Hp}{σ:St}{ρ:Ym}{A:Nat→List Addr}(I:Zy K C H0 Hb H Γ Δ σ ρ A)(os:St):Zy K C H H H [] [] (σ++os) (ρ++List.replicate os.length none) A:=by
 refine ⟨Xw.refl _,Xw.refl _,by rw [length_append,length_append,I.len,length_replicate],fun i e h=>?_,fun i h=>?_,(fun _ h=>nomatch h),(fun _ h=>nomatch h),(fun _ h=>nomatch h)⟩
 ·by_cases hi:i<ρ.length
  ·rw [getElem?_append_left hi] at h
   obtain ⟨w,q1,q2⟩:=I.rep i e h
   refine ⟨w,?_,q2⟩
   rw [getElem?_append_left (by rw [I.len];exact hi)]
   exact q1
  ·rw [getElem?_append_right (by omega)] at h
   have hm:=mem_of_getElem? h
   rw [List.mem_replicate] at hm
   exact absurd hm.2 (by intro z;cases z)
 ·refine I.nil i fun e h'=>h e ?_
  rw [getElem?_append_left (List.getElem?_eq_some_iff.mp h').1]
  exact h'
def NOk (K:Frag)(C:String→Addr)(n k:Nat)(g:TG)(b:FB):Prop:=∀(H:Hp) (σ os:St) (ρ:Ym) (A:Nat→List Addr) (d:D) (v:V) (B:List Addr) (Rr:St→Hp→Prop),σ.length=n→os.length=k→Zy K C H H H [] [] (σ++os) ρ A→Rp K C H d v B→
 Yc (b d ρ) (fun ρ'=>∀os' A',os'.length=k→Zy K C H H H [] [] (σ++os') ρ' A'→Rr (σ++os') H) (fun _ _=>False)→g v (σ++os) H Rr
def Xmm (K:Frag)(C:String→Addr)(n k:Nat)(g:TGs)(b:List D→Ym→R Ym):Prop:=∀(H:Hp) (σ os:St) (ρ:Ym) (A:Nat→List Addr) (d:List D) (v:List V) (B:List Addr) (Rr:St→Hp→Prop),σ.length=n→os.length=k→Zy K C H H H [] [] (σ++os) ρ A→RpA K C H d v B→
 Yc (b d ρ) (fun ρ'=>∀os' A',os'.length=k→Zy K C H H H [] [] (σ++os') ρ' A'→Rr (σ++os') H) (fun _ _=>False)→g v (σ++os) H Rr
theorem Zki (k:Nat)(b:FB)(c:FT)(e:FE)(ρ:Ym)(xs:List D){i:Nat}{x:D}(h:xs[i]?=some x):Dl.Yr k b c e ρ (xs.drop i)=(b x (ρ++List.replicate k none)).calm.bind fun ρ1=>(c ρ1).bind fun t=>if t then (e ρ1).bind fun y=>(Dl.Yr k b c e ρ (xs.drop (i+1))).bind fun ys=>.ok (y::ys) else Dl.Yr k b c e ρ (xs.drop (i+1)):=by
 obtain ⟨hi,rfl⟩:=List.getElem?_eq_some_iff.mp h
 rw [List.drop_eq_getElem_cons hi]
 rfl
theorem Zbn {α:Type}{r:R α}{ok:α→Prop}{er:String→Option Int→Prop}(h:Yc r.calm ok er):Yc r ok (fun _ _=>False):=by
 cases r with
 | ok a=>exact h
 | err c x=>exact h
 | bad=>exact h
theorem get_set {α:Type}{l:List α}{i j:Nat}{x y:α}(h:(l.set i x)[j]?=some y):(j=i∧i<l.length∧y=x)∨(j≠i∧l[j]?=some y):=by
 by_cases e:i=j
 ·subst e
  rw [List.getElem?_set_self'] at h
  by_cases hi:i<l.length
  ·rw [getElem?_eq_getElem hi] at h
   simp at h
   exact .inl ⟨rfl,hi,h.symm⟩
  ·rw [getElem?_eq_none (by omega)] at h
   cases h
 ·rw [getElem?_set_ne e] at h
  exact .inr ⟨fun z=>e z.symm,h⟩
theorem Zy.put {H0 Hb H:Hp}{σ:St}{ρ:Ym}{A:Nat→List Addr}{i:Nat}{d:D}{v:V}{B:List Addr}(I:Zy K C H0 Hb H Γ Δ σ ρ A)(r:Rp K C H d v B)
  (h1:∀j∈Γ',j≠i→j∈Γ∧∀a l,A j=a::l→a∉B)
  (h2:i∈Γ'→(∀a∈B,H0 a=none)∧∀a l,B=a::l→Hb a=none∧a∉l∧∀j,j≠i→a∉A j)
  (h3:∀j∈Δ',j≠i→j∈Δ∧∀a∈A j,a∉B)
  (h4:i∈Δ'→B.Nodup∧(∀j,j≠i→∀a∈B,a∉A j)∧∀a∈B,Hb a=none):∃A',Zy K C H0 Hb H Γ' Δ' (σ.set i (some v)) (ρ.set i (some d)) A'∧∀j a,a∈A' j→a∈B∨a∈A j:=by
 by_cases hi:i<ρ.length
 ·refine ⟨fun j=>if j=i then B else A j,⟨I.s0,I.same,by rw [length_set,length_set,I.len],fun j e h=>?_,fun j h=>?_,fun j hj a ha=>?_,fun j hj a l e=>?_,fun j hj=>?_⟩,fun j a ha=>?_⟩
  ·rcases get_set h with ⟨e1,_,e2⟩ | ⟨e1,e2⟩
   ·subst e1
    cases e2
    refine ⟨v,?_,by rw [if_pos rfl];exact r⟩
    rw [getElem?_set_self (by rw [I.len];exact hi)]
   ·obtain ⟨w,q1,q2⟩:=I.rep j e e2
    refine ⟨w,?_,by rw [if_neg e1];exact q2⟩
    rw [getElem?_set_ne (fun z=>e1 z.symm)]
    exact q1
  ·by_cases e:j=i
   ·subst e
    exact absurd (getElem?_set_self hi) (h d)
   ·rw [if_neg e]
    refine I.nil j fun x hx=>h x ?_
    rw [getElem?_set_ne (fun z=>e z.symm)]
    exact hx
  ·by_cases e:j=i
   ·subst e
    rw [if_pos rfl] at ha
    exact (h2 hj).1 a ha
   ·rw [if_neg e] at ha
    exact I.loc j (h1 j hj e).1 a ha
  ·by_cases e':j=i
   ·subst e'
    rw [if_pos rfl] at e
    obtain ⟨q0,q1,q2⟩:=(h2 hj).2 a l e
    refine ⟨q0,q1,fun k hk=>?_⟩
    rw [if_neg hk]
    exact q2 k hk
   ·rw [if_neg e'] at e
    obtain ⟨q0,q⟩:=h1 j hj e'
    obtain ⟨q3,q1,q2⟩:=I.top j q0 a l e
    refine ⟨q3,q1,fun k hk=>?_⟩
    by_cases ek:k=i
    ·rw [if_pos ek];exact q a l e
    ·rw [if_neg ek];exact q2 k hk
  ·by_cases e:j=i
   ·subst e
    rw [if_pos rfl]
    obtain ⟨q1,q2,q3⟩:=h4 hj
    refine ⟨q1,fun k hk a ha=>?_,q3⟩
    rw [if_neg hk]
    exact q2 k hk a ha
   ·rw [if_neg e]
    obtain ⟨q0,q⟩:=h3 j hj e
    obtain ⟨q1,q2,q3⟩:=I.deep j q0
    refine ⟨q1,fun k hk a ha=>?_,q3⟩
    by_cases ek:k=i
    ·rw [if_pos ek];exact q a ha
    ·rw [if_neg ek];exact q2 k hk a ha
  ·have ha:a∈(if j=i then B else A j):=ha
   by_cases e:j=i
   ·rw [if_pos e] at ha;exact .inl ha
   ·rw [if_neg e] at ha;exact .inr ha
 ·have e1:ρ.set i (some d)=ρ:=List.set_eq_of_length_le (by omega)
  have e2:σ.set i (some v)=σ:=List.set_eq_of_length_le (by rw [I.len];omega)
  have e3:A i=[]:=I.nil i fun x h=>by
   have:=(List.getElem?_eq_some_iff.mp h).1
   omega
  refine ⟨A,?_,fun j a ha=>.inr ha⟩
  rw [e1,e2]
  refine ⟨I.s0,I.same,I.len,I.rep,I.nil,fun j hj a ha=>?_,fun j hj a l e=>?_,fun j hj=>?_⟩
  ·by_cases e:j=i
   ·subst e;rw [e3] at ha;cases ha
   ·exact I.loc j (h1 j hj e).1 a ha
  ·by_cases e':j=i
   ·subst e';rw [e3] at e;cases e
   ·exact I.top j (h1 j hj e').1 a l e
  ·by_cases e:j=i
   ·subst e
    rw [e3]
    exact ⟨nodup_nil,fun _ _ _ h=>(nomatch h),fun _ h=>(nomatch h)⟩
   ·exact I.deep j (h3 j hj e).1
theorem Zy.writeO {H0 Hb H:Hp}{σ:St}{ρ:Ym}{A:Nat→List Addr}{i:Nat}{es:List D}{ys:List V}{o':HO}{d':D}{B':List Addr}{a:Addr}{l:List Addr}(I:Zy K C H0 Hb H Γ Δ σ ρ A)(hi:i∈Γ)(hA:A i=a::l)(hl:i<ρ.length)(hs:σ[i]?=some (some (.ref a)))
  (mk:∀H',H' a=some o'→RpA K C H' es ys B'→Rp K C H' d' (.ref a) (a::B')) (r:RpA K C H es ys B') (hn:∀b∈B',H0 b=none) (ha:a∉B')
  (h1:∀j∈Γ',j≠i→j∈Γ∧∀b l,A j=b::l→b∉B')
  (h2:∀j∈Δ',j≠i→j∈Δ∧∀b∈A j,b∉B')
  (h3:i∈Δ'→B'.Nodup∧(∀j,j≠i→∀b∈B',b∉A j)∧∀b∈B',Hb b=none):∃A',Zy K C H0 Hb (upd H a o') Γ' Δ' σ (ρ.set i (some d')) A':=by
 obtain ⟨xs,hxs,hm⟩:=I.is (j:=i) (a:=a) (by rw [hA];exact .head _)
 have hne:∀j,j≠i→a∉A j:=(I.top i hi a l hA).2.2
 have hb0:Hb a=none:=(I.top i hi a l hA).1
 have h0:H0 a=none:=I.loc i hi a (by rw [hA];exact .head _)
 have ext:Ext (fun b=>b=a) H (upd H a o'):=fun b o h=>by
  by_cases e:b=a
  ·subst e
   rw [hxs] at h
   cases h
   exact .inr ⟨rfl,hm⟩
  ·rw [Xo e]
   exact .inl h
 refine ⟨fun j=>if j=i then a::B' else A j,I.s0,fun b o h=>?_,by rw [length_set,I.len],fun j e h=>?_,fun j h=>?_,fun j hj b hb=>?_,fun j hj b l' e=>?_,fun j hj=>?_⟩
 ·rw [Xo (Xf h hb0)]
  exact I.same b o h
 ·rcases get_set h with ⟨e1,_,e2⟩ | ⟨e1,e2⟩
  ·subst e1
   cases e2
   refine ⟨.ref a,hs,?_⟩
   rw [if_pos rfl]
   exact mk _ Yd (r.ext ext (fun b hb h=>ha (by rw [h] at hb;exact hb)))
  ·obtain ⟨w,q1,q2⟩:=I.rep j e e2
   refine ⟨w,q1,?_⟩
   rw [if_neg e1]
   exact q2.ext ext fun b hb h=>hne j e1 (by rw [h] at hb;exact hb)
 ·by_cases e:j=i
  ·subst e
   exact absurd (getElem?_set_self hl) (h _)
  ·rw [if_neg e]
   refine I.nil j fun x hx=>h x ?_
   rw [getElem?_set_ne (fun z=>e z.symm)]
   exact hx
 ·by_cases e:j=i
  ·subst e
   rw [if_pos rfl] at hb
   rcases List.mem_cons.mp hb with z | z
   ·rw [z];exact h0
   ·exact hn b z
  ·rw [if_neg e] at hb
   exact I.loc j (h1 j hj e).1 b hb
 ·by_cases e':j=i
  ·subst e'
   rw [if_pos rfl] at e
   cases e
   refine ⟨hb0,ha,fun k hk=>?_⟩
   rw [if_neg hk]
   exact hne k hk
  ·rw [if_neg e'] at e
   obtain ⟨q0,q⟩:=h1 j hj e'
   obtain ⟨q3,q1,q2⟩:=I.top j q0 b l' e
   refine ⟨q3,q1,fun k hk=>?_⟩
   by_cases ek:k=i
   ·rw [if_pos ek]
    intro z
    rcases List.mem_cons.mp z with z | z
    ·exact hne j e' (by rw [e,z];exact .head _)
    ·exact q b l' e z
   ·rw [if_neg ek];exact q2 k hk
 ·by_cases e:j=i
  ·subst e
   rw [if_pos rfl]
   obtain ⟨q1,q2,q3⟩:=h3 hj
   refine ⟨List.nodup_cons.mpr ⟨ha,q1⟩,fun k hk b hb=>?_,fun b hb=>?_⟩
   ·rw [if_neg hk]
    rcases List.mem_cons.mp hb with z | z
    ·rw [z];exact hne k hk
    ·exact q2 k hk b z
   ·rcases List.mem_cons.mp hb with z | z
    ·rw [z];exact hb0
    ·exact q3 b z
  ·rw [if_neg e]
   obtain ⟨q0,q⟩:=h2 j hj e
   obtain ⟨q1,q2,q3⟩:=I.deep j q0
   refine ⟨q1,fun k hk b hb=>?_,q3⟩
   by_cases ek:k=i
   ·rw [if_pos ek]
    intro z
    rcases List.mem_cons.mp z with z | z
    ·exact hne j e (by rw [← z];exact hb)
    ·exact q b hb z
   ·rw [if_neg ek];exact q2 k hk b hb
theorem Zy.write {H0 Hb H:Hp}{σ:St}{ρ:Ym}{A:Nat→List Addr}{i:Nat}{es:List D}{ys:List V}{B':List Addr}{a:Addr}{l:List Addr}(I:Zy K C H0 Hb H Γ Δ σ ρ A)(hi:i∈Γ)(hA:A i=a::l)(hl:i<ρ.length)(hs:σ[i]?=some (some (.ref a)))
  (r:RpA K C H es ys B') (hn:∀b∈B',H0 b=none) (ha:a∉B')
  (h1:∀j∈Γ',j≠i→j∈Γ∧∀b l,A j=b::l→b∉B')
  (h2:∀j∈Δ',j≠i→j∈Δ∧∀b∈A j,b∉B')
  (h3:i∈Δ'→B'.Nodup∧(∀j,j≠i→∀b∈B',b∉A j)∧∀b∈B',Hb b=none):∃A',Zy K C H0 Hb (upd H a (.lst ys)) Γ' Δ' σ (ρ.set i (some (.lst es))) A':=I.writeO hi hA hl hs (fun _ q1 q2=>⟨a,_,_,rfl,q1,q2,rfl⟩) r hn ha h1 h2 h3
theorem Xcj {n k:Nat}(i:Nat)(h1:n≤i)(h2:i<n+k):NOk K C n k (Yj i) (Dl.Zn i):=fun H σ os ρ A d v B Rr hσ hos I r p=>by
 have e:(σ++os).set i (some v)=σ++os.set (i - n) (some v):=by rw [← hσ,set_append_right _ _ (by omega)]
 obtain ⟨A',I',_⟩:=I.put (Γ':=[]) (Δ':=[]) (i:=i) r (fun _ h=>nomatch h) (fun h=>nomatch h) (fun _ h=>nomatch h) (fun h=>nomatch h)
 show Rr ((σ++os).set i (some v)) H
 rw [e] at I' ⊢
 exact p _ A' (by rw [length_set];exact hos) I'
theorem Xgb {n k:Nat}:Xmm K C n k Zqr Dl.Zcv:=fun H σ os ρ A d v B Rr hσ hos I r p=>by
 cases d with
 | nil=>exact ⟨r.1,p _ A hos I⟩
 | cons _ _=>exact p.elim
theorem Xbs {n k:Nat}{g:TG}{gs:TGs}{b:FB}{bs:List D→Ym→R Ym}(h1:NOk K C n k g b)(h2:Xmm K C n k gs bs):Xmm K C n k (Zcb g gs) (Dl.Xh b bs):=fun H σ os ρ A d v B Rr hσ hos I r p=>by
 cases d with
 | nil=>exact p.elim
 | cons d ds =>
  obtain ⟨x,l,B1,B2,e1,e2,e3,e4⟩:=r
  subst e1 e4
  exact ⟨x,l,rfl,h1 H σ os ρ A d x B1 _ hσ hos I e2 (Yc.imp (Yc.bind p) (fun ρ1 q os1 A1 ho1 I1=>h2 H σ os1 ρ1 A1 ds l B2 Rr hσ ho1 I1 e3 q) fun _ _ z=>z)⟩
theorem Xfj {n k:Nat}{gs:TGs}{bs:List D→Ym→R Ym}{l:Nat}(hn:∀ds ρ ρ',bs ds ρ=.ok ρ'→ds.length=l)(h:Xmm K C n k gs bs):NOk K C n k (Zdy K l gs) (Dl.Zdb bs):=fun H σ os ρ A d v B Rr hσ hos I r p=>by
 cases d with
 | tup ds =>
  obtain ⟨a,xs,rfl,e2,e3⟩:=r
  have p':Yc (bs ds ρ) (fun ρ'=>∀os' A',os'.length=k→Zy K C H H H [] [] (σ++os') ρ' A'→Rr (σ++os') H) (fun _ _=>False):=p
  have hl:xs.length=l:=by
   rw [e3.len]
   cases e:bs ds ρ with
   | ok ρ'=>exact hn ds ρ ρ' e
   | err _ _=>rw [e] at p';exact p'.elim
   | bad=>rw [e] at p';exact p'.elim
  exact ⟨a,xs,rfl,SqT.of e2,hl,h H σ os ρ A ds xs B Rr hσ hos I e3 p'⟩
 | _=>exact p.elim
theorem Zls {n k:Nat}{g:TG}{wi:TI}{tc:TT}{te:TE}{fi:FI}{fb:FB}{fc:FT}{fe:FE}(hi:IOk K C E Γ Δ S wi fi)(hg:NOk K C n k g fb)(hc:TOk K C E0 [] [] tc fc)(he:EOk K C E0 [] [] 2 [] te fe):EOk K C E Γ Δ 2 [] (Zcz k g wi tc te) (Dl.Jg n k fi fb fc fe):=fun H0 Hb H σ ρ A Q I p=>by
  unfold Dl.Jg at p
  split at p
  · rename_i hn
    refine hi H0 Hb H σ ρ A _ I (p.bind.imp (fun ds q J H1 W g1 hW hlen hJ Dd hD=>?_) fun c x q H' g'=>q H' g')
    have I1:=I.mono g1
    have go:Goes K C J ds H1:=hJ H1 ⟨fun _ _=>rfl,fun b o h _=>h⟩
    have q':=Zbn q.bind
    refine Zql go (fun i H2=>Xw H1 H2∧∃(us:List D) (ys:List V) (B':List Addr),H2 Dd=some (.lst ys)∧us.length≤i∧RpA K C H2 us ys B'∧B'.Nodup∧Dd∉B'∧(∀a∈B',H1 a=none)∧
      Yc (Dl.Yr k fb fc fe ρ (ds.drop i)) (fun zs=>∀v H',Xw H H'→Res K C 2 [] H A (.lst (us++zs)) v H'→Q v H') (fun _ _=>False)) ⟨sameNew hD _,[],[],[],Yd,le_refl _,RpA.nil,nodup_nil,(fun h=>nomatch h),(fun _ h=>nomatch h),q'⟩ (fun _ _ h=>h.1) ?_ ?_
    · rintro i x v Bx H2a H2 hx ⟨g2a,us,ys,B',hD2,hul,ru,nd,hDB,hnew,pq⟩ g2b rx _ os hos
      have g2:=g2a.trans g2b
      have hil:=(List.getElem?_eq_some_iff.mp hx).1
      rw [Zki _ _ _ _ _ _ hx] at pq
      have I2:=(I1.mono g2).more os
      have pq':=Zbn pq.bind
      rw [← hos] at pq'
      refine hg H2 σ os _ A x v Bx _ (by rw [I.len,hn]) hos I2 rx (pq'.imp (fun ρ1 pq os1 A1 ho1 I3=>⟨⟨os1,ho1,rfl⟩,?_⟩) fun _ _ z=>z)
      refine hc H2 H2 H2 _ _ _ _ I3 (pq.bind.imp (fun b pq H3 g3=>?_) fun _ _ z=>z.elim)
      have hD2':=g2b _ _ hD2
      have ru':=ru.same g2b
      cases b with
      | false =>
        simp only [Bool.false_eq_true,if_false] at pq ⊢
        rw [hos] at pq
        exact ⟨g2.trans g3,us,ys,B',g3 _ _ hD2',by omega,ru'.same g3,nd,hDB,hnew,pq⟩
      | true =>
        simp only [if_true] at pq ⊢
        refine he H2 H2 H3 _ _ _ _ (I3.mono g3) (pq.bind.imp (fun y pq w H4 g4 r4=>?_) fun _ _ z=>z.elim)
        rw [hos] at pq
        obtain ⟨By,ry,hy1,_,hy2⟩:=r4
        have g24:=g3.trans g4
        have hD4:=g24 _ _ hD2'
        have hnewy:∀a∈By,H3 a=none:=fun a ha=>(hy1 a ha).elim id fun z=>z.none.elim
        have hDy:Dd∉By:=fun h=>by
          have z:=hnewy Dd h
          rw [g3 _ _ hD2'] at z
          cases z
        have ext:Ext (fun a=>a=Dd) H4 (upd H4 Dd (.lst (ys++[w]))):=fun b o h=>by
          by_cases e:b=Dd
          · subst e
            rw [hD4] at h
            cases h
            exact .inr ⟨rfl,.lst⟩
          · rw [Xo e]
            exact .inl h
        have hDB':Dd∉B'++By:=fun h=>(List.mem_append.mp h).elim hDB hDy
        refine ⟨ys,hD4,?_,?_,us++[y],ys++[w],B'++By,Yd,by rw [length_append];simp;omega,?_,?_,hDB',?_,?_⟩
        · rw [ru.len]
          exact Zhm (by omega)
        · intro b o h
          have hb:b≠Dd:=Xf h hD
          rw [Xo hb]
          exact (g2.trans g24) b o h
        · exact ((ru'.same g24).app (RpA.one ry)).ext ext fun a ha h=>hDB' (by rw [h] at ha;exact ha)
        · refine List.nodup_append.mpr ⟨nd,hy2 rfl,fun a ha b hb e=>?_⟩
          subst e
          obtain ⟨xs,z,_⟩:=(ru'.same g3).isl a ha
          rw [hnewy a hb] at z
          cases z
        · intro a ha
          rcases List.mem_append.mp ha with h | h
          · exact hnew a h
          · exact (g2.trans g3).free (hnewy a h)
        · exact pq.bind.imp (fun zs pq v H' g' r=>by
            rw [append_assoc] at r
            exact pq v H' g' r) fun _ _ z=>z
    · rintro H2 ⟨g2,us,ys,B',hD2,hul,ru,nd,hDB,hnew,pq⟩
      rw [List.drop_length] at pq
      have pq:∀v H',Xw H H'→Res K C 2 [] H A (.lst (us++[])) v H'→Q v H':=pq
      rw [append_nil] at pq
      refine pq _ H2 (g1.trans g2) ⟨Dd::B',⟨Dd,ys,B',rfl,hD2,ru,rfl⟩,fun a ha=>.inl ?_,(fun z=>nomatch z),fun _=>List.nodup_cons.mpr ⟨hDB,nd⟩⟩
      rcases List.mem_cons.mp ha with h | h
      · rw [h];exact g1.free hD
      · exact g1.free (hnew a h)
  · exact p.elim
end
section
variable {K:Frag}{C:String→Addr}{E:XK}{Γ Δ Γ' Δ' Γ1 Δ1 Γl Δl Γk Δk:List Nat}{m m1 m2 m3 mr:Nat}{S S1 S2 S3:List (Nat×Bool)}{H:Hp}{Q:VK}
theorem Zjf.weak {H0 Hb:Hp}{D:Ends}{r:R Fl}(h:Zjf K C E mr Γl Δl Γ' Δ' H0 Hb D r)(h1:∀i∈Γ',i∈Γ1)(h2:∀i∈Δ',i∈Δ1):Zjf K C E mr Γl Δl Γ1 Δ1 H0 Hb D r:=by
 unfold Zjf at *
 refine Yc.imp h (fun fl q=>?_) fun _ _ q=>q
 cases fl with
 | nx ρ'=>exact fun σ' H' A' I=>q σ' H' A' (I.weak h1 h2)
 | ret d=>exact q
 | brk ρ'=>exact q
 | cnt ρ'=>exact q
theorem Xcb {t:TS}{f:FS}(h:SOk K C E mr Γl Δl Γ Δ Γ1 Δ1 t f)(h1:∀i∈Γ',i∈Γ1:=by decide)(h2:∀i∈Δ',i∈Δ1:=by decide):SOk K C E mr Γl Δl Γ Δ Γ' Δ' t f:=fun H0 Hb H σ ρ A D I p =>
 h H0 Hb H σ ρ A D I (p.weak h1 h2)
theorem Xoi:SOk K C E mr Γl Δl Γ Δ Γ Δ Xaq Dl.sNx:=fun _ _ H σ _ A _ I p=>p σ H A I
theorem Zxs:SOk K C E mr Γl Δl Γ Δ Γ' Δ' Zqb Dl.Zqi:=fun _ _ _ _ _ _ _ _ p=>p.elim
theorem Zwo {t u:TS}{f g:FS}(h1:SOk K C E mr Γl Δl Γ Δ Γ1 Δ1 t f)(h2:SOk K C E mr Γl Δl Γ1 Δ1 Γ' Δ' u g):SOk K C E mr Γl Δl Γ Δ Γ' Δ' (Zup t u) (Dl.Xk f g):=fun H0 Hb H σ ρ A D I p =>
  h1 H0 Hb H σ ρ A _ I (Yc.imp (Yc.bind p) (fun fl q=>by
    cases fl with
    | nx ρ'=>exact fun σ' H' A' I'=>h2 H0 Hb H' σ' ρ' A' D I' q
    | ret d=>exact q
    | brk ρ'=>exact q
    | cnt ρ'=>exact q) fun _ _ q=>q)
theorem Xw.from0 {H0 Hb H H':Hp}{σ:St}{ρ:Ym}{A:Nat→List Addr}(I:Zy K C H0 Hb H Γ Δ σ ρ A)(g:Xw H H'):Xw H0 H':=I.s0.trans (I.same.trans g)
theorem Zy.top_out {H0 Hb H:Hp}{σ:St}{ρ:Ym}{A:Nat→List Addr}(I:Zy K C H0 Hb H Γ Δ σ ρ A){j:Nat}(hj:j∈Γ)(hS:(j,false)∉S){a:Addr}{l:List Addr}(e:A j=a::l):¬InS A S a:=fun h=>by
 obtain ⟨q0,q1,q2⟩:=I.top j hj a l e
 obtain ⟨p,hp,q⟩:=h
 split at q
 ·by_cases ep:p.1=j
  ·rw [ep,e] at q
   exact q1 q
  ·exact q2 p.1 ep (List.mem_of_mem_tail q)
 ·rename_i hf
  by_cases ep:p.1=j
  ·refine hS ?_
   have:p=(j,false):=by
    obtain ⟨p1,p2⟩:=p
    simp at ep hf
    rw [ep,hf]
   rw [← this]
   exact hp
  ·exact q2 p.1 ep q
theorem Zy.deep_out {H0 Hb H:Hp}{σ:St}{ρ:Ym}{A:Nat→List Addr}(I:Zy K C H0 Hb H Γ Δ σ ρ A){j:Nat}(hj:j∈Δ)(hS:∀p∈S,p.1≠j){a:Addr}(e:a∈A j):¬InS A S a:=fun h=>by
 obtain ⟨p,hp,q⟩:=h.mem
 exact (I.deep j hj).2.1 p.1 (hS p hp) a e q
theorem Zqj {i:Nat}{te:TE}{fe:FE}(he:EOk K C E Γ Δ 2 [] te fe)(h1:∀j∈Γ',j=i∨j∈Γ:=by decide)(h2:∀j∈Δ',j=i∨j∈Δ:=by decide):SOk K C E mr Γl Δl Γ Δ Γ' Δ' (Zgr te (Yj i)) (Dl.Yi i fe):=fun H0 Hb H σ ρ A D I p =>
  he H0 Hb H σ ρ A _ I (Yc.imp (Yc.bind p) (fun d q v H1 g1 r=>by
    obtain ⟨B,r1,r2,r3,r4⟩:=r
    have hn:∀a∈B,H a=none:=fun a ha=>(r2 a ha).elim id fun z=>z.none.elim
    have nd:=r4 rfl
    obtain ⟨A',I',_⟩:=(I.mono g1).put (Γ':=Γ') (Δ':=Δ') (i:=i) r1 (fun j hj e=>⟨(h1 j hj).elim (fun z=>absurd z e) id,fun a l e' ha=>I.ne (j:=j) (by rw [e'];exact .head _) (hn a ha)⟩)
      (fun _=>⟨fun a ha=>I.s0.free (I.same.free (hn a ha)),fun a l e=>by subst e;exact ⟨I.same.free (hn a (.head _)),(List.nodup_cons.mp nd).1,fun j _ h=>I.ne h (hn a (.head _))⟩⟩)
      (fun j hj e=>⟨(h2 j hj).elim (fun z=>absurd z e) id,fun a ha hB=>I.ne ha (hn a hB)⟩)
      (fun _=>⟨nd,fun j _ a ha h=>I.ne h (hn a ha),fun a ha=>I.same.free (hn a ha)⟩)
    exact q _ H1 A' I') fun c x q H' g'=>q H' (Xw.from0 I g'))
theorem Zqw {i:Nat}{te:TE}{fe:FE}(he:EOk K C E Γ Δ 1 S te fe)(h0:∀p∈S,p.1∈Γ:=by decide)(h1:∀j∈Γ',j=i∨(j∈Γ∧(j,false)∉S):=by decide)(h2:∀j∈Δ',j≠i∧j∈Δ∧∀p∈S,p.1≠j:=by decide) :
    SOk K C E mr Γl Δl Γ Δ Γ' Δ' (Zgr te (Yj i)) (Dl.Yi i fe):=fun H0 Hb H σ ρ A D I p =>
  he H0 Hb H σ ρ A _ I (Yc.imp (Yc.bind p) (fun d q v H1 g1 r=>by
    obtain ⟨B,r1,r2,r3,r4⟩:=r
    obtain ⟨A',I',_⟩:=(I.mono g1).put (Γ':=Γ') (Δ':=Δ') (i:=i) r1 (fun j hj e=>by
        obtain ⟨q1,q2⟩:=(h1 j hj).elim (fun z=>absurd z e) id
        exact ⟨q1,fun a l e' ha=>(r2 a ha).elim (fun z=>I.ne (j:=j) (by rw [e'];exact .head _) z) (I.top_out q1 q2 e')⟩)
      (fun _=>⟨fun a ha=>(r2 a ha).elim (fun z=>I.s0.free (I.same.free z)) fun z=>by
          obtain ⟨p,hp,z⟩:=z.mem
          exact I.loc p.1 (h0 p hp) a z,fun a l e=>⟨I.same.free (r3 rfl a l e).1,(r3 rfl a l e).2,fun j _ h=>I.ne h (r3 rfl a l e).1⟩⟩)
      (fun j hj e=>⟨(h2 j hj).2.1,fun a ha hB=>(r2 a hB).elim (fun z=>I.ne ha z) (I.deep_out (h2 j hj).2.1 (h2 j hj).2.2 ha)⟩)
      (fun hj=>absurd rfl (h2 i hj).1)
    exact q _ H1 A' I') fun c x q H' g'=>q H' (Xw.from0 I g'))
theorem Xbg {te:TE}{fe:FE}(he:EOk K C E Γ Δ 2 S te fe)(h0:∀p∈S,p.1∈Δ:=by decide):SOk K C E 2 Γl Δl Γ Δ Γ' Δ' (Xji te) (Dl.Jy fe):=fun H0 Hb H σ ρ A D I p =>
  he H0 Hb H σ ρ A _ I (Yc.imp (Yc.bind p) (fun d q v H1 g1 r=>by
    obtain ⟨B,r1,r2,r3,r4⟩:=r
    refine q v H1 (Xw.from0 I g1) ⟨B,r1,fun a ha=>.inl ((r2 a ha).elim (fun z=>I.s0.free (I.same.free z)) fun z=>?_),(fun z=>nomatch z),r4⟩
    obtain ⟨p,hp,z⟩:=z.mem
    exact I.s0.free ((I.deep p.1 (h0 p hp)).2.2 a z)) fun c x q H' g'=>q H' (Xw.from0 I g'))
theorem Xbk {te:TE}{fe:FE}(he:EOk K C E Γ Δ m S te fe)(h0:∀p∈S,p.1∈Γ:=by decide):SOk K C E 0 Γl Δl Γ Δ Γ' Δ' (Xji te) (Dl.Jy fe):=fun H0 Hb H σ ρ A D I p =>
  he H0 Hb H σ ρ A _ I (Yc.imp (Yc.bind p) (fun d q v H1 g1 r=>by
    obtain ⟨B,r1,r2,r3,r4⟩:=r
    refine q v H1 (Xw.from0 I g1) ⟨B,r1,fun a ha=>.inl ((r2 a ha).elim (fun z=>I.s0.free (I.same.free z)) fun z=>?_),(fun z=>nomatch z),(fun z=>nomatch z)⟩
    obtain ⟨p,hp,z⟩:=z.mem
    exact I.loc p.1 (h0 p hp) a z) fun c x q H' g'=>q H' (Xw.from0 I g'))
theorem Xnv {tc:TT}{t u:TS}{fc:FT}{f g:FS}(hc:TOk K C E Γ Δ tc fc)(h1:SOk K C E mr Γl Δl Γ Δ Γ' Δ' t f)(h2:SOk K C E mr Γl Δl Γ Δ Γ' Δ' u g):SOk K C E mr Γl Δl Γ Δ Γ' Δ' (tIfS tc t u) (Dl.sIf fc f g):=fun H0 Hb H σ ρ A D I p =>
  hc H0 Hb H σ ρ A _ I (Yc.imp (Yc.bind p) (fun b q H1 g1=>by
    cases b with
    | true=>exact h1 H0 Hb H1 σ ρ A D (I.mono g1) q
    | false=>exact h2 H0 Hb H1 σ ρ A D (I.mono g1) q) fun c x q H' g'=>q H' (Xw.from0 I g'))
theorem Zqv {H0 Hb H:Hp}{σ:St}{ρ:Ym}{A:Nat→List Addr}{i:Nat}{ds:List D}(I:Zy K C H0 Hb H Γ Δ σ ρ A)(e:ρ[i]?=some (some (.lst ds))):∃a xs l,σ[i]?=some (some (.ref a))∧H a=some (.lst xs)∧RpA K C H ds xs l∧A i=a::l∧i<ρ.length:=by
 obtain ⟨v,q1,a,xs,l,rfl,q3,q4,q5⟩:=I.rep i _ e
 exact ⟨a,xs,l,q1,q3,q4,q5,(List.getElem?_eq_some_iff.mp e).1⟩
theorem Zyd {i:Nat}{te:TE}{fe:FE}(hi:i∈Γ:=by decide)(he:EOk K C E Γ Δ 2 [] te fe):SOk K C E mr Γl Δl Γ Δ Γ Δ (Zms (tBM K "list" Zcr (Zmr i) (Zbj te Zmh))) (Dl.Zhe i fe):=fun H0 Hb H σ ρ A D I p=>by
  unfold Dl.Zhe at p
  split at p
  · rename_i ds e
    obtain ⟨a,xs,l,s1,h1,r1,hA,hl⟩:=Zqv I e
    refine ⟨.ref a,s1,.inl ⟨rfl,xs,SqL.of h1⟩,he H0 Hb H σ ρ A _ I (Yc.imp (Yc.bind p) (fun d q v H1 g1 r=>?_) fun c x q H' g'=>q H' (Xw.from0 I g'))⟩
    split at q
    · rename_i hz
      obtain ⟨B,r2,r3,_,r4⟩:=r
      have hn:∀a∈B,H a=none:=fun a ha=>(r3 a ha).elim id fun z=>z.none.elim
      have h1':=g1 _ _ h1
      show Zcr (.ref a) [v] H1 fun _ H3=>D.nx σ H3
      refine Xmb h1' (by rw [r1.len];exact Zhm hz) ?_
      obtain ⟨tb,ta,tt⟩:=I.top i hi a l hA
      have I1:=I.mono g1
      have haB:a∉B:=fun z=>by
        have:=hn a z
        rw [h1] at this
        cases this
      have w1:∀b∈l++B,H0 b=none:=fun b hb=>by
        rcases List.mem_append.mp hb with z | z
        · exact I.loc i hi b (by rw [hA];exact .tail _ z)
        · exact I.s0.free (I.same.free (hn b z))
      have w2:∀j∈Γ,j≠i→j∈Γ∧∀b l',A j=b::l'→b∉l++B:=fun j hj e=>⟨hj,fun b l' e' z=>by
        rcases List.mem_append.mp z with z | z
        · exact (I.top j hj b l' e').2.2 i (fun w=>e w.symm) (by rw [hA];exact .tail _ z)
        · exact I.ne (j:=j) (by rw [e'];exact .head _) (hn b z)⟩
      have w3:∀j∈Δ,j≠i→j∈Δ∧∀b∈A j,b∉l++B:=fun j hj e=>⟨hj,fun b hb z=>by
        rcases List.mem_append.mp z with z | z
        · exact (I.deep j hj).2.1 i (fun w=>e w.symm) b hb (by rw [hA];exact .tail _ z)
        · exact I.ne hb (hn b z)⟩
      have w4:i∈Δ→(l++B).Nodup∧(∀j,j≠i→∀b∈l++B,b∉A j)∧∀b∈l++B,Hb b=none:=fun hd=>by
        obtain ⟨d1,d2,d3⟩:=I.deep i hd
        rw [hA] at d1 d2 d3
        refine ⟨List.nodup_append.mpr ⟨(List.nodup_cons.mp d1).2,r4 rfl,fun x hx y hy e=>?_⟩,fun j hj b hb=>?_,fun b hb=>?_⟩
        · subst e
          exact I.ne (j:=i) (by rw [hA];exact .tail _ hx) (hn x hy)
        · rcases List.mem_append.mp hb with z | z
          · exact d2 j hj b (.tail _ z)
          · exact fun w=>I.ne w (hn b z)
        · rcases List.mem_append.mp hb with z | z
          · exact d3 b (.tail _ z)
          · exact I.same.free (hn b z)
      obtain ⟨A',I'⟩:=I1.write (Γ':=Γ) (Δ':=Δ) hi hA hl s1 ((r1.same g1).app (RpA.one r2)) w1 (fun z=>(List.mem_append.mp z).elim ta haB) w2 w3 w4
      exact q _ _ A' I'
    · exact q.elim
  · exact p.elim
def BOk (K:Frag)(C:String→Addr)(Γ Δ:List Nat)(g:TG)(b:FB):Prop:=∀(H0 Hb H:Hp) (σ:St) (ρ:Ym) (A:Nat→List Addr) (d:D) (v:V) (B:List Addr) (Rr:St→Hp→Prop),Zy K C H0 Hb H Γ Δ σ ρ A→Rp K C H d v B→(∀a∈B,Hb a≠none)→
 Yc (b d ρ) (fun ρ'=>∀σ' A',Zy K C H0 Hb H Γ Δ σ' ρ' A'→Rr σ' H) (fun _ _=>False)→g v σ H Rr
def BsOk (K:Frag)(C:String→Addr)(Γ Δ:List Nat)(g:TGs)(b:List D→Ym→R Ym):Prop:=∀(H0 Hb H:Hp) (σ:St) (ρ:Ym) (A:Nat→List Addr) (d:List D) (v:List V) (B:List Addr) (Rr:St→Hp→Prop),Zy K C H0 Hb H Γ Δ σ ρ A→RpA K C H d v B→(∀a∈B,Hb a≠none)→
 Yc (b d ρ) (fun ρ'=>∀σ' A',Zy K C H0 Hb H Γ Δ σ' ρ' A'→Rr σ' H) (fun _ _=>False)→g v σ H Rr
theorem Zzm {i:Nat}(h1:i∉Γ:=by decide)(h2:i∉Δ:=by decide):BOk K C Γ Δ (Yj i) (Dl.Zn i):=fun H0 Hb H σ ρ A d v B Rr I r hB p=>by
 obtain ⟨A',I',_⟩:=I.put (Γ':=Γ) (Δ':=Δ) (i:=i) r (fun j hj e=>⟨hj,fun a l e' ha=>hB a ha (I.top j hj a l e').1⟩) (fun hj=>absurd hj h1) (fun j hj e=>⟨hj,fun a ha hb=>hB a hb ((I.deep j hj).2.2 a ha)⟩) (fun hj=>absurd hj h2)
 exact p _ A' I'
theorem Xdx (ds:List D)(ρ ρ':Ym)(h:Dl.Zcv ds ρ=.ok ρ'):ds.length=0:=by
 cases ds with
 | nil=>rfl
 | cons _ _=>cases h
theorem Zuv {n:Nat}{b:FB}{bs:List D→Ym→R Ym}(hb:∀ds ρ ρ',bs ds ρ=.ok ρ'→ds.length=n)(ds:List D)(ρ ρ':Ym)(h:Dl.Xh b bs ds ρ=.ok ρ'):ds.length=n+1:=by
 cases ds with
 | nil=>cases h
 | cons d ds =>
  have h:((b d ρ).bind fun ρ'=>bs ds ρ')=.ok ρ':=h
  cases e:b d ρ with
  | ok ρ1 =>
   rw [e] at h
   rw [length_cons,hb ds ρ1 ρ' h]
  | err _ _=>rw [e] at h;cases h
  | bad=>rw [e] at h;cases h
noncomputable def ownAt (A:Nat→List Addr)(Γ Δ:List Nat):List Addr:=Γ.flatMap (fun i=>(A i).take 1)++Δ.flatMap A
theorem Zlf {A:Nat→List Addr}{a:Addr}(h:a∈ownAt A Γ Δ):(∃i∈Γ,∃l,A i=a::l)∨∃i∈Δ,a∈A i:=by
 rcases List.mem_append.mp h with h | h
 ·obtain ⟨i,hi,h⟩:=List.mem_flatMap.mp h
  left
  refine ⟨i,hi,?_⟩
  cases e:A i with
  | nil=>rw [e] at h;cases h
  | cons b l =>
   rw [e] at h
   simp only [List.take_succ_cons,List.take_zero,List.mem_singleton] at h
   rw [h]
   exact ⟨l,rfl⟩
 ·obtain ⟨i,hi,h⟩:=List.mem_flatMap.mp h
  exact .inr ⟨i,hi,h⟩
theorem Xgk {A:Nat→List Addr}{i:Nat}(hi:i∈Γ){a:Addr}{l:List Addr}(e:A i=a::l):a∈ownAt A Γ Δ:=mem_append_left _ (List.mem_flatMap.mpr ⟨i,hi,by rw [e];simp⟩)
theorem Xae {A:Nat→List Addr}{i:Nat}(hi:i∈Δ){a:Addr}(h:a∈A i):a∈ownAt A Γ Δ:=mem_append_right _ (List.mem_flatMap.mpr ⟨i,hi,h⟩)
theorem Zsq (b:FB)(s:FS)(xs:List D){i:Nat}{x:D}(h:xs[i]?=some x)(ρ:Ym):Dl.Zdc b s (xs.drop i) ρ=(b x ρ).calm.bind fun ρ1=>(s ρ1).bind fun fl=>match fl with
  | .nx ρ2=>Dl.Zdc b s (xs.drop (i+1)) ρ2
  | .cnt ρ2=>Dl.Zdc b s (xs.drop (i+1)) ρ2
  | .brk ρ2=>.ok (.nx ρ2)
  | .ret d=>.ok (.ret d):=by
 obtain ⟨hi,rfl⟩:=List.getElem?_eq_some_iff.mp h
 rw [List.drop_eq_getElem_cons hi]
 rfl
theorem Xfr {wi:TI}{g:TG}{tb:TS}{fi:FI}{fb:FB}{fs:FS}(hi:IOk K C E Γ Δ S wi fi)(hb:BOk K C Γl Δl g fb)(hs:SOk K C E mr Γl Δl Γl Δl Γl Δl tb fs)
    (h1:∀i∈Γl,i∈Γ:=by decide) (h2:∀i∈Δl,i∈Δ:=by decide) (h3:∀p∈S,p.1∉Γl∧p.1∉Δl:=by decide):SOk K C E mr Γk Δk Γ Δ Γl Δl (Xjm wi g tb) (Dl.Zid fi fb fs):=fun H0 Hb H σ ρ A D I p=>by
  refine hi H0 Hb H σ ρ A _ I (Yc.imp (Yc.bind p) (fun ds q J H1 W g1 hW hlen hJ=>?_) fun c x q H' g'=>q H' (Xw.from0 I g'))
  have I1:=(I.mono g1).weak h1 h2
  have hlst:∀a∈ownAt A Γl Δl,∃o,H1 a=some o∧IsM o:=fun a ha=>by
    rcases Zlf ha with ⟨i,_,l,e⟩ | ⟨i,_,e⟩
    · exact I1.is (j:=i) (by rw [e];exact .head _)
    · exact I1.is e
  have hbn:∀a∈ownAt A Γl Δl,Hb a=none:=fun a ha=>by
    rcases Zlf ha with ⟨i,hi,l,e⟩ | ⟨i,hi,e⟩
    · exact (I1.top i hi a l e).1
    · exact (I1.deep i hi).2.2 a e
  have hout:∀a∈W,a∉ownAt A Γl Δl:=fun a ha ho=>by
    rcases (hW a ha).2 with z | z
    · rcases Zlf ho with ⟨i,hi,l,e⟩ | ⟨i,hi,e⟩
      · exact I.ne (j:=i) (by rw [e];exact .head _) z
      · exact I.ne e z
    · rcases Zlf ho with ⟨i,hi,l,e⟩ | ⟨i,hi,e⟩
      · exact I1.top_out hi (fun h=>(h3 _ h).1 hi) e z
      · exact I1.deep_out hi (fun p hp e'=>(h3 p hp).2 (by rw [e'];exact hi)) e z
  let Hc:Hp:=fun b=>if b∈ownAt A Γl Δl then none else H1 b
  have c1:Xw Hc H1:=fun b o h=>by
    show H1 b=some o
    have h:(if b∈ownAt A Γl Δl then none else H1 b)=some o:=h
    split at h
    · cases h
    · exact h
  have c2:Xw Hb Hc:=fun b o h=>by
    show (if b∈ownAt A Γl Δl then none else H1 b)=some o
    rw [if_neg fun ho=>by rw [hbn b ho] at h;cases h]
    exact I1.same b o h
  have c3:∀a,a∉ownAt A Γl Δl→Hc a=H1 a:=fun a ha=>if_neg ha
  have c4:∀a∈ownAt A Γl Δl,Hc a=none:=fun a ha=>if_pos ha
  have I2:Zy K C H0 Hc H1 Γl Δl σ ρ A:=⟨I1.s0.trans c2,c1,I1.len,I1.rep,I1.nil,I1.loc,fun i hi a l e=>⟨c4 a (Xgk hi e),(I1.top i hi a l e).2⟩,fun i hi=>⟨(I1.deep i hi).1,(I1.deep i hi).2.1,fun a ha=>c4 a (Xae hi ha)⟩⟩
  have back:∀{σ':St} {ρ':Ym} {H':Hp} {A':Nat→List Addr},Zy K C H0 Hc H' Γl Δl σ' ρ' A'→Zy K C H0 Hb H' Γl Δl σ' ρ' A':=fun I' =>
    ⟨I1.s0,c2.trans I'.same,I'.len,I'.rep,I'.nil,I'.loc,fun i hi a l e=>⟨c2.free (I'.top i hi a l e).1,(I'.top i hi a l e).2⟩,fun i hi=>⟨(I'.deep i hi).1,(I'.deep i hi).2.1,fun a ha=>c2.free ((I'.deep i hi).2.2 a ha)⟩⟩
  have go:Goes K C J ds Hc:=hJ Hc ⟨fun a ha=>c3 a (hout a ha),fun b o h hn=>(c3 b fun ho=>by
    obtain ⟨xs,e,hm⟩:=hlst b ho
    rw [e] at h
    cases h
    exact hn hm).trans h⟩
  refine Xey go (fun k σ' H'=>∃ρ' A',Zy K C H0 Hc H' Γl Δl σ' ρ' A'∧Zjf K C E mr Γk Δk Γl Δl H0 Hb D (Dl.Zdc fb fs (ds.drop k) ρ')) ⟨ρ,A,I2,q⟩ (fun _ _ _ ⟨_,_,I',_⟩=>I'.same) ?_ ?_
  · rintro k d x Bx σ' Ha H' hd ⟨ρ',A',Ia,pq⟩ ga rx hBx
    have I':=Ia.mono ga
    rw [Zsq _ _ _ hd] at pq
    have pq':=Zbn (Yc.bind pq)
    refine hb H0 Hc H' σ' ρ' A' d x Bx _ I' rx hBx (Yc.imp pq' (fun ρ1 pq σ1 A1 I1'=>?_) fun _ _ z=>z)
    refine hs H0 Hc H' σ1 ρ1 A1 _ I1' (Yc.imp (Yc.bind pq) (fun fl pq=>?_) fun _ _ z=>z)
    cases fl with
    | nx ρ2=>exact fun σ2 H2 A2 I2'=>⟨ρ2,A2,I2',pq⟩
    | cnt ρ2=>exact fun σ2 H2 A2 I2'=>⟨ρ2,A2,I2',pq⟩
    | brk ρ2=>exact fun σ2 H2 A2 I2'=>pq σ2 H2 A2 (back I2')
    | ret d=>exact pq
  · rintro σ' H' ⟨ρ',A',I',pq⟩
    rw [List.drop_length] at pq
    exact pq σ' H' A' (back I')
theorem Zxl {n:Nat}{tc:TT}{tb:TS}{fc:FT}{fs:FS}(hc:TOk K C E Γ Δ tc fc)(hs:SOk K C E mr Γ Δ Γ Δ Γ Δ tb fs):SOk K C E mr Γk Δk Γ Δ Γ Δ (Zqz tc tb) (Dl.Zjy n fc fs):=fun H0 Hb H σ ρ A D I p=>by
 refine ⟨fun k σ' H'=>∃ρ' A',Zy K C H0 Hb H' Γ Δ σ' ρ' A'∧Zjf K C E mr Γk Δk Γ Δ H0 Hb D (Dl.Zci fc fs k ρ'),⟨n,ρ,A,I,p⟩,?_⟩
 rintro k σ' H' ⟨ρ',A',I',pq⟩
 cases k with
 | zero=>exact pq.elim
 | succ k =>
  refine hc H0 Hb H' σ' ρ' A' _ I' (Yc.imp (Yc.bind pq) (fun b pq H1 g1=>?_) fun c x q H' g'=>q H' (Xw.from0 I' g'))
  cases b with
  | false =>
   simp only [Bool.false_eq_true,if_false] at pq ⊢
   exact pq σ' H1 A' (I'.mono g1)
  | true =>
   simp only [if_true] at pq ⊢
   refine ⟨fun σ2 H2=>∃ρ2 A2,Zy K C H0 Hb H2 Γ Δ σ2 ρ2 A2∧Zjf K C E mr Γk Δk Γ Δ H0 Hb D (Dl.Zci fc fs k ρ2),fun σ2 H2 h=>⟨k,Nat.lt_succ_self k,h⟩,?_⟩
   refine hs H0 Hb H1 σ' ρ' A' _ (I'.mono g1) (Yc.imp (Yc.bind pq) (fun fl pq=>?_) fun _ _ z=>z)
   cases fl with
   | nx ρ2=>exact fun σ2 H2 A2 I2'=>⟨ρ2,A2,I2',pq⟩
   | cnt ρ2=>exact fun σ2 H2 A2 I2'=>⟨ρ2,A2,I2',pq⟩
   | brk ρ2=>exact fun σ2 H2 A2 I2'=>pq σ2 H2 A2 I2'
   | ret d=>exact pq
theorem Zly {N:Nat}{ds:List D}{vs:List V}{B:List Addr}{H:Hp}(r:RpA K C H ds vs B):∃A,Zy K C H H H [] [] (vs.map some++List.replicate (N - vs.length) none) (ds.map some++List.replicate (N - ds.length) none) A:=by
 have hl:=r.len
 have key:∀{ds:List D} {vs:List V} {B:List Addr},RpA K C H ds vs B→∃A:Nat→List Addr,(∀(i:Nat) d,ds[i]?=some d→∃v,vs[i]?=some v∧Rp K C H d v (A i))∧∀i,ds.length≤i→A i=[]:=by
  intro ds
  induction ds with
  | nil=>intro vs B r;exact ⟨fun _=>[],fun i d h=>by simp at h,fun _ _=>rfl⟩
  | cons d ds ih =>
   intro vs B r
   obtain ⟨x,l,B1,B2,e1,e2,e3,e4⟩:=r
   obtain ⟨A,h1,h2⟩:=ih e3
   subst e1
   refine ⟨fun i=>match i with | 0=>B1 | i+1=>A i,fun i d' h=>?_,fun i h=>?_⟩
   ·cases i with
    | zero=>simp at h;subst h;exact ⟨x,rfl,e2⟩
    | succ i=>simp at h;obtain ⟨v,q1,q2⟩:=h1 i d' h;exact ⟨v,by simpa using q1,q2⟩
   ·cases i with
    | zero=>simp at h
    | succ i=>exact h2 i (by simpa using h)
 obtain ⟨A,h1,h2⟩:=key r
 refine ⟨A,Xw.refl _,Xw.refl _,by simp [hl],fun i d h=>?_,fun i h=>?_,(fun _ h=>nomatch h),(fun _ h=>nomatch h),(fun _ h=>nomatch h)⟩
 ·by_cases hi:i<ds.length
  ·rw [getElem?_append_left (by simpa using hi),getElem?_map] at h
   obtain ⟨d',hd,e⟩:=Option.map_eq_some_iff.mp h
   cases e
   obtain ⟨v,q1,q2⟩:=h1 i d hd
   refine ⟨v,?_,q2⟩
   rw [getElem?_append_left (by simp [hl,hi]),getElem?_map,q1]
   rfl
  ·rw [getElem?_append_right (by simpa using hi)] at h
   have:=mem_of_getElem? h
   rw [List.mem_replicate] at this
   exact absurd this.2 (by intro z;cases z)
 ·by_cases hi:i<ds.length
  ·exact absurd (by rw [getElem?_append_left (by simpa using hi),getElem?_map,getElem?_eq_getElem hi];rfl) (h ds[i])
  ·exact h2 i (by omega)
theorem Zkm {N:Nat}{t:TS}{f:FS}{E:XK}{ds:List D}{vs:List V}{B:List Addr}{H:Hp}{Q:VK}(h:SOk K C E mr [] [] [] [] Γ' Δ' t f)(r:RpA K C H ds vs B)
  (p:Yc (Dl.run N f ds) (fun d=>∀v H',Xw H H'→Res K C mr [] H (fun _=>[]) d v H'→Q v H') (fun c x=>∀H',Xw H H'→EC C E c x H')) :
  t {nx:=fun _ H'=>Q .non H',rt:=Q} (vs.map some++List.replicate (N - vs.length) none) H:=by
 obtain ⟨A,I⟩:=Zly (N:=N) r
 refine h H H H _ _ A _ I (Yc.imp (Yc.bind p) (fun fl q=>?_) fun _ _ q=>q)
 cases fl with
 | nx ρ'=>exact fun σ' H' A' I'=>q _ H' I'.same (Res.flat ⟨rfl,rfl⟩)
 | ret d=>exact q
 | brk _=>exact q.elim
 | cnt _=>exact q.elim
end
structure JE (X:Cx)(C:String→Addr)(E:XK)(Γ Δ:List Nat)(m:Nat)(S:List (Nat×Bool))(e:Expr)(t:TE)(f:FE):Prop where
 q:QE X e t
 o:EOk X.K C E Γ Δ m S t f
structure JT (X:Cx)(C:String→Addr)(E:XK)(Γ Δ:List Nat)(e:Expr)(t:TT)(f:FT):Prop where
 q:QT X e t
 o:TOk X.K C E Γ Δ t f
structure JW (X:Cx)(C:String→Addr)(E:XK)(Γ Δ:List Nat)(e:Expr)(t:TT)(f:FT):Prop where
 q:QW X e t
 o:TOk X.K C E Γ Δ t f
structure JA (X:Cx)(C:String→Addr)(E:XK)(Γ Δ:List Nat)(m:Nat)(S:List (Nat×Bool))(e:List Expr)(n:Nat)(t:TA)(f:FA):Prop where
 q:QA X e t
 o:AOk X.K C E Γ Δ m S t f
 n:∀ρ ds,f ρ=.ok ds→ds.length=n
structure JO (X:Cx)(C:String→Addr)(E:XK)(Γ Δ:List Nat)(e:Option Expr)(t:TO)(f:FO):Prop where
 q:QO X e t
 o:OOk X.K C E Γ Δ t f
structure JI (X:Cx)(C:String→Addr)(E:XK)(Γ Δ:List Nat)(S:List (Nat×Bool))(tg e:Expr)(t:TI)(f:FI):Prop where
 q:QI X tg e t
 o:IOk X.K C E Γ Δ S t f
structure JG (X:Cx)(C:String→Addr)(Γ Δ:List Nat)(e:Expr)(t:TG)(f:FB):Prop where
 q:QG X e t
 o:BOk X.K C Γ Δ t f
structure JGs (X:Cx)(C:String→Addr)(Γ Δ:List Nat)(es:List Expr)(n:Nat)(t:TGs)(f:List D→Ym→R Ym):Prop where
 q:QGs X es t
 o:BsOk X.K C Γ Δ t f
 n:∀ds ρ ρ',f ds ρ=.ok ρ'→ds.length=n
structure JS (X:Cx)(C:String→Addr)(E:XK)(mr:Nat)(Γl Δl Γ Δ Γ' Δ':List Nat)(s:Stmt)(t:TS)(f:FS):Prop where
 q:QS X s t
 o:SOk X.K C E mr Γl Δl Γ Δ Γ' Δ' t f
structure JSs (X:Cx)(C:String→Addr)(E:XK)(mr:Nat)(Γl Δl Γ Δ Γ' Δ':List Nat)(s:List Stmt)(t:TS)(f:FS):Prop where
 q:QSs X s t
 o:SOk X.K C E mr Γl Δl Γ Δ Γ' Δ' t f
structure JIf (X:Cx)(C:String→Addr)(E:XK)(Γ Δ:List Nat)(e:List Expr)(t:TT)(f:FT):Prop where
 q:QIf X e t
 o:TOk X.K C E Γ Δ t f
section
variable {X:Cx}{C:String→Addr}{E:XK}{Γ Δ Γ' Δ' Γ1 Δ1 Γl Δl Γk Δk:List Nat}{m m1 m2 m3 mr:Nat}{S S1 S2 S3:List (Nat×Bool)}{a b c e st o tg iter:Expr}{es rest:List Expr}{ta tb tc te ts:TE}{fa fb fc fe fs:FE}{t:TA}{f:FA}{pos p p2 apos cpos:Pos}{n:Nat}
theorem Ze {i:Int}{j:Nat}:JE X C E Γ Δ 2 [] (.Constant (.int i) j pos) (tC (.int i)) (Dl.fC (.int i)):=⟨Ztz,Xcg fun _=>rpI⟩
theorem Zit {i:Bool}{j:Nat}:JE X C E Γ Δ 2 [] (.Constant (.bool i) j pos) (tC (.bl i)) (Dl.fC (.bl i)):=⟨qe_bl,Xcg fun _=>rpB⟩
theorem Zry {j:Nat}:JE X C E Γ Δ 2 [] (.Constant .none j pos) (tC .non) (Dl.fC .non):=⟨Xjq,Xcg fun _=>⟨rfl,rfl⟩⟩
theorem Zbc {x:Str}{j:Nat}(h:PyData.strOk x=true:=by decide +kernel):JE X C E Γ Δ 2 [] (.Constant (.str x) j pos) (tC (.str x)) (Dl.fC (.str x)):=⟨Xns,Xcg fun _=>⟨rfl,h,rfl⟩⟩
theorem Zl (i:Nat){x:Str}(hN:X.N[i]?=some x:=by rfl)(hv:autoParam (Vis X.env.scope x) aT3._auto_1)(hd:(x==("__debug__":Str))=false:=by decide)
  (hcd:(x==("__classdict__":Str))=false:=by decide):JE X C E Γ Δ 0 [(i,false)] (.Name x pos) (Zmr i) (Dl.fV i):=⟨qv i hN hv hd hcd,eok_v⟩
theorem Zgi (i:Nat){x:Str}(hi:i∈Δ:=by decide)(hN:X.N[i]?=some x:=by rfl)(hv:autoParam (Vis X.env.scope x) aT3._auto_1)(hd:(x==("__debug__":Str))=false:=by decide)
  (hcd:(x==("__classdict__":Str))=false:=by decide):JE X C E Γ Δ 2 [(i,false)] (.Name x pos) (Zmr i) (Dl.fV i):=⟨qv i hN hv hd hcd,Xof hi⟩
theorem Xl (h:JE X C E Γ Δ m S e te fe):JE X C E Γ Δ 2 [] e te (Dl.f1 Dl.Xt fe):=⟨h.q,Xcn h.o⟩
theorem Zv {op:Operator}{r:R2}{g:D→D→Option D}(ho:OpR X (binaryOp op) r)(hg:GOk X.K C r g)(ha:JE X C E Γ Δ m1 S1 a ta fa)(hb:JE X C E Γ Δ m2 S2 b tb fb):JE X C E Γ Δ 2 [] (.BinOp a op b pos) (tOp r ta tb) (Dl.f2 g fa fb):=⟨Xlw ho ha.q hb.q,Zvz hg ha.o hb.o⟩
theorem Zkg (ha:JE X C E Γ Δ m1 S1 a ta fa):JE X C E Γ Δ 2 [] (.UnaryOp .USub a pos) (tUn (rU fun i=>.int (-i)) ta) (Dl.f1 Dl.Zuw fa):=⟨qe_un Xjv ha.q,Xla (fun H x d vx Bx Q r e q=>by
  unfold Dl.Zuw at e
  split at e
  · cases e
    obtain ⟨rfl,_⟩:=r
    exact rd_U (Out.flat q rpI)
  · cases e) ha.o⟩
theorem Zjq {op:CmpOp}{r:R2}{g:D→D→Option D}(ho:OpR X (compareOp op) r)(hg:GOk X.K C r g)(ha:JE X C E Γ Δ m1 S1 a ta fa)(hb:JE X C E Γ Δ m2 S2 b tb fb)(hm:behindInMarks op b=false):JE X C E Γ Δ 2 [] (.Compare a [op] [b] pos) (tOp r ta tb) (Dl.f2 g fa fb):=⟨Xgh ho ha.q hb.q hm,Zvz hg ha.o hb.o⟩
theorem Xs {op:CmpOp}{r:R2}{g:D→D→Option D}(ho:OpR X (compareOp op) r)(hg:GOk X.K C r g)(ha:JE X C E Γ Δ m1 S1 a ta fa)(hb:JE X C E Γ Δ m2 S2 b tb fb)(hm:behindInMarks op b=false):JT X C E Γ Δ (.Compare a [op] [b] pos) (Zzl (tOp r ta tb)) (Dl.cE (Dl.f2 g fa fb)):=⟨Xex ho ha.q hb.q hm,Zzq (Zvz hg ha.o hb.o)⟩
theorem Xbf {op op':CmpOp}{r r':R2}{g g':D→D→Option D}(ho:OpR X (compareOp op) r)(ho':OpR X (compareOp op') r')(hg:GOk X.K C r g)(hg':GOk X.K C r' g')(hbl:∀{x y d},g x y=some d→∃b,d=.bl b)(ha:JE X C E Γ Δ m1 S1 a ta fa)(hb:JE X C E Γ Δ m2 S2 b tb fb)(hc:JE X C E Γ Δ m3 S3 c tc fc)
  (hm:lastMarks [op,op'] [b,c]=false:=by with_unfolding_all rfl):JE X C E Γ Δ 2 [] (.Compare a [op,op'] [b,c] pos) (Zqp r r' ta tb tc) (Dl.Zjp g g' fa fb fc):=⟨Xao ho ho' ha.q hb.q hc.q hm,Ztv hg hg' (fun _ _ _=>hbl) ha.o hb.o hc.o⟩
theorem Xcv {op:BoolOp}(h:JE X C E Γ Δ m S a ta fa):JE X C E Γ Δ m S (.BoolOp op [a] pos) ta fa:=⟨Xlo h.q,h.o⟩
theorem Xdp (ha:JE X C E Γ Δ m1 S1 a ta fa)(hb:JE X C E Γ Δ m S (.BoolOp .And (b::rest) pos) tb fb):JE X C E Γ Δ m S (.BoolOp .And (a::b::rest) pos) (Zzy ta tb) (Dl.Xjh fa fb):=⟨Xnd ha.q hb.q,Xil ha.o hb.o⟩
theorem Xmx (ha:JE X C E Γ Δ m1 S1 a ta fa):JE X C E Γ Δ 2 [] (.UnaryOp .Not a pos) (Xat ta) (Dl.f1 Dl.gNot fa):=⟨Xnn ha.q,Xfm ha.o⟩
theorem Xnu {tA:TT}{fA:FT}(hc:JT X C E Γ Δ c tA fA)(ha:JE X C E Γ Δ m S a ta fa)(hb:JE X C E Γ Δ m S b tb fb):JE X C E Γ Δ m S (.IfExp c a b pos) (tIf tA ta tb) (Dl.fIf fA fa fb):=⟨Zzs hc.q ha.q hb.q,Xmz hc.o ha.o hb.o⟩
theorem Zde (h:JE X C E Γ Δ m S e te fe)(he:∀whole,isTrue e X.env whole=(do let v ← whole;standAt e.pos;holding [v] (truthy v)):=by intro _;rfl):JT X C E Γ Δ e (tB te) (Dl.cE fe):=⟨Xlx h.q he,tok_B h.o⟩
theorem Zgx {tA:TT}{fA:FT}(ha:JT X C E Γ Δ a tA fA):JT X C E Γ Δ (.UnaryOp .Not a pos) (tNot tA) (Dl.Ztp fA):=⟨Xkg ha.q,Xio ha.o⟩
theorem Zpa {tA:TT}{fA:FT}(ha:JT X C E Γ Δ a tA fA):JW X C E Γ Δ (.BoolOp .And [a] pos) tA fA:=⟨Xix ha.q,ha.o⟩
theorem Zic {tA:TT}{fA:FT}(ha:JT X C E Γ Δ a tA fA):JW X C E Γ Δ (.BoolOp .Or [a] pos) tA fA:=⟨Xmf ha.q,ha.o⟩
theorem Zvx {tA tB':TT}{fA fB:FT}(ha:JT X C E Γ Δ a tA fA)(hb:JW X C E Γ Δ (.BoolOp .And (b::rest) pos) tB' fB):JW X C E Γ Δ (.BoolOp .And (a::b::rest) pos) (tAnd tA tB') (Dl.Zwt fA fB):=⟨Xog ha.q hb.q,Xez ha.o hb.o⟩
theorem Zhu {tA tB':TT}{fA fB:FT}(ha:JT X C E Γ Δ a tA fA)(hb:JW X C E Γ Δ (.BoolOp .Or (b::rest) pos) tB' fB):JW X C E Γ Δ (.BoolOp .Or (a::b::rest) pos) (tOr tA tB') (Dl.cOr fA fB):=⟨qw_or ha.q hb.q,Xno ha.o hb.o⟩
theorem Zyb {tA:TT}{fA:FT}(h:JW X C E Γ Δ a tA fA):JT X C E Γ Δ a tA fA:=⟨qt_w h.q,h.o⟩
theorem Zh:JA X C E Γ Δ 2 [] [] 0 Zmh Dl.Zt:=⟨Zme,Zvt,Xfp⟩
theorem Zb (ha:JE X C E Γ Δ m1 S1 e te fe)(hr:JA X C E Γ Δ m2 S2 es n t f)(hs:starEach (e::es) X.env=(false,eval e X.env)::starEach es X.env):JA X C E Γ Δ 0 (S1++S2) (e::es) (n+1) (Zbj te t) (Dl.Zc fe f):=⟨Zdl ha.q hr.q hs,Zqh ha.o hr.o,Zkn hr.n⟩
theorem Zhh (S:List (Nat×Bool))(ha:JE X C E Γ Δ 2 S1 e te fe)(hr:JA X C E Γ Δ 2 S2 es n t f)(hs:starEach (e::es) X.env=(false,eval e X.env)::starEach es X.env)(h1:∀p∈S1,p.1∈Δ:=by decide)(h2:∀p∈S1,∀q∈S2,p.1≠q.1:=by decide)(hS:S1++S2=S:=by rfl):JA X C E Γ Δ 2 S (e::es) (n+1) (Zbj te t) (Dl.Zc fe f):=by
 subst hS
 exact ⟨Zdl ha.q hr.q hs,Znf ha.o hr.o h1 h2,Zkn hr.n⟩
theorem Zi (ha:JE X C E Γ Δ 2 [] e te fe)(hr:JA X C E Γ Δ 2 [] es n t f)(hs:starEach (e::es) X.env=(false,eval e X.env)::starEach es X.env):JA X C E Γ Δ 2 [] (e::es) (n+1) (Zbj te t) (Dl.Zc fe f):=
 ⟨Zdl ha.q hr.q hs,Znf (S1:=[]) (S2:=[]) ha.o hr.o (fun _ h=>nomatch h) (fun _ h=>nomatch h),Zkn hr.n⟩
theorem Zju {x1:Nat}(h:JA X C E Γ Δ 2 S es n t f):JE X C E Γ Δ 2 S (.Tuple es x1 pos) (tTup t) (Dl.fA Dl.Zdy f):=⟨Xki h.q,Xgz (.inr rfl) h.o⟩
theorem Yq (h:JA X C E Γ Δ 2 S es n t f):JE X C E Γ Δ 2 S (.List es pos) (Xjj t) (Dl.fA Dl.Zae f):=⟨Xcx h.q,Xfa h.o⟩
theorem Zgg (h:JA X C E Γ Δ m S es n t f):JE X C E Γ Δ 1 S (.List es pos) (Xjj t) (Dl.fA Dl.Zae f):=⟨Xcx h.q,Xcs h.o⟩
theorem Zx (K:Frag)(ha:JE X C E Γ Δ m1 S1 a ta fa)(hb:JE X C E Γ Δ m2 S2 b tb fb)(hs:Zca b)(hK:X.K=K:=by rfl):JE X C E Γ Δ 0 S1 (.Subscript a b pos) (tOp (rIx K) ta tb) (Dl.f2 Dl.gIx fa fb):=by
 subst hK
 exact ⟨Zxj Znx ha.q hb.q hs,Xkb ha.o hb.o⟩
theorem Zus:JO X C E Γ Δ none Zkv Dl.Zsk:=⟨Xfg,Zyw⟩
theorem Zkz (h:JE X C E Γ Δ m S e te fe):JO X C E Γ Δ (some e) (Xcd te) (Dl.Zmt fe):=⟨Xfc h.q,Xav h.o⟩
theorem Xep (K:Frag){lo hi:Option Expr}{tl th:TO}{fl fh:FO}(he:JE X C E Γ Δ m S e te fe)(hl:JO X C E Γ Δ lo tl fl)(hu:JO X C E Γ Δ hi th fh)(hK:X.K=K:=by rfl):JE X C E Γ Δ 2 [] (.Subscript e (.Slice lo hi none p2) pos) (tSl (rSlL K) te tl th) (Dl.fSl Dl.gSl fe fl fh):=by
 subst hK
 exact ⟨Zyn Xfn he.q hl.q hu.q,Xoa he.o hl.o hu.o⟩
theorem Zw {K:Frag}{CX:CXT}{k:Nat}{ps:List Str}{F:List D→R D}{x:Str}(Df:Def X.prog X.w X.K X.mg X.base CX k x ps (spD K C n mr F))(hr:Zec k X.A)(hg:Gl X x)(hx:Zho CX X E)
  (ha:JA X C E Γ Δ m S (e::es) n t f) (hdb:(x==("__debug__":Str))=false:=by decide) (he:starEach (e::es) X.env=(false,eval e X.env)::starEach es X.env:=by rfl) (hpl:(backTo pos (starEach es X.env)).any (·.1)=false:=by rfl) (hK:X.K=K:=by rfl) :
  JE X C E Γ Δ mr [] (.Call (.Name x p) (e::es) [] pos) (Zpn (spD K C n mr F) [] E t) (Dl.Xr F f):=by
 subst hK
 exact ⟨Xaj Df hr hg hx ha.q hdb he hpl,Zqc ha.o ha.n⟩
theorem Zr {x:Str}{id:String}{r:List V→Hp→VK→Prop}{g:List D→Option D}(hc:Zav X (.builtin id) r)(hgk:GAk X.K C r g)(hg:Gl X x)(hm:X.mg x=none)(hv:bootBuiltins x=some (.builtin id))(ha:JA X C E Γ Δ m S (e::es) n t f)(hn:x≠"__name__":=by decide)(hdb:(x==("__debug__":Str))=false:=by decide)
  (he:starEach (e::es) X.env=(false,eval e X.env)::starEach es X.env:=by rfl) (hpl:(backTo pos (starEach es X.env)).any (·.1)=false:=by rfl):JE X C E Γ Δ 2 [] (.Call (.Name x p) (e::es) [] pos) (tCB r t) (Dl.fA g f):=⟨Zsf hc hg hm hv ha.q hn hdb he hpl,Zvm hgk ha.o⟩
theorem Zdo {x:Str}{T:String}{r:List V→Hp→VK→Prop}{g:List D→Option D}(hc:Zav X (.type T) r)(hgk:GAk X.K C r g)(hg:Gl X x)(hm:X.mg x=none)(hv:bootBuiltins x=some (.type T))(ha:JA X C E Γ Δ m S (e::es) n t f)(hn:x≠"__name__":=by decide)(hdb:(x==("__debug__":Str))=false:=by decide)
  (he:starEach (e::es) X.env=(false,eval e X.env)::starEach es X.env:=by rfl) (hpl:(backTo pos (starEach es X.env)).any (·.1)=false:=by rfl):JE X C E Γ Δ 2 [] (.Call (.Name x p) (e::es) [] pos) (tCB r t) (Dl.fA g f):=⟨Zvg hc hg hm hv ha.q hn hdb he hpl,Zvm hgk ha.o⟩
theorem Yw (h:JE X C E Γ Δ m S e te fe):JI X C E Γ Δ S tg e (Ztb X.K te) (Dl.Zba fe):=⟨Zxw h.q,Xct h.o⟩
theorem Jc (hg:Gl X "range")(hm:X.mg "range"=none)(ha:JA X C E Γ Δ m S [a] n t f)(hs:starEach [a] X.env=[(false,eval a X.env)]:=by rfl):JI X C E Γ Δ [] tg (.Call (.Name "range" p) [a] [] pos) (Xan t) (Dl.Zaq f):=⟨Zwg hg hm ha.q hs,Xbw ha.o⟩
theorem Xik (hg:Gl X "range")(hm:X.mg "range"=none)(ha:JA X C E Γ Δ m S [a,b] n t f)(hs:starEach [a,b] X.env=[(false,eval a X.env),(false,eval b X.env)]:=by rfl)(hs2:starEach [b] X.env=[(false,eval b X.env)]:=by rfl):JI X C E Γ Δ [] tg (.Call (.Name "range" p) [a,b] [] pos) (Zyc t) (Dl.Zwx f):=⟨Zxk hg hm ha.q hs hs2,Zys ha.o⟩
theorem Je {i:Nat}{x:Str}(h1:i∉Γ:=by decide)(h2:i∉Δ:=by decide)(hN:X.N.Nodup)(hi:X.N[i]?=some x)(hx:Loc X.env.scope x)(hf:autoParam (X.fn x=true∨X.env.scope.names.lookup x=some .local) aT0._auto_1):JG X C Γ Δ (.Name x pos) (Yj i) (Dl.Zn i):=⟨Zlt hN hi hx hf,Zzm h1 h2⟩
theorem Yp:JIf X C E Γ Δ [] tYes Dl.Zbm:=⟨Xfb,Xhe⟩
theorem Zpp {tA:TT}{fA:FT}(h:JT X C E Γ Δ c tA fA):JIf X C E Γ Δ [c] tA fA:=⟨Xhz h.q,h.o⟩
structure JB (X:Cx)(C:String→Addr)(n k:Nat)(e:Expr)(t:TG)(f:FB):Prop where
 q:QG X e t
 o:NOk X.K C n k t f
structure JBs (X:Cx)(C:String→Addr)(n k:Nat)(es:List Expr)(l:Nat)(t:TGs)(f:List D→Ym→R Ym):Prop where
 q:QGs X es t
 o:Xmm X.K C n k t f
 n:∀ds ρ ρ',f ds ρ=.ok ρ'→ds.length=l
theorem Xx {k:Nat}(i:Nat){x:Str}(hN:X.N.Nodup:=by decide +kernel)(hi:X.N[i]?=some x:=by rfl)(hx:Loc X.env.scope x:=by exact .inl rfl)(hf:X.fn x=true∨X.env.scope.names.lookup x=some .local:=by exact .inr rfl)(h1:n≤i:=by decide)(h2:i<n+k:=by decide):JB X C n k (.Name x pos) (Yj i) (Dl.Zn i):=⟨Zlt hN hi hx hf,Xcj i h1 h2⟩
theorem Zln {k:Nat}:JBs X C n k [] 0 Zqr Dl.Zcv:=⟨Ztx,Xgb,Xdx⟩
theorem Zbr {k l:Nat}{tt:TG}{u:TGs}{fb:FB}{fu:List D→Ym→R Ym}(h1:JB X C n k e tt fb)(h2:JBs X C n k es l u fu)(hs:(assignEach (e::es) X.env).map (·.2)=assign e X.env::(assignEach es X.env).map (·.2):=by rfl):JBs X C n k (e::es) (l+1) (Zcb tt u) (Dl.Xh fb fu):=⟨Zsc h1.q h2.q hs,Xbs h1.o h2.o,Zuv h2.n⟩
theorem Zsa (K:Frag){k l kk:Nat}{u:TGs}{fu:List D→Ym→R Ym}(h:JBs X C n k es l u fu)(hc:X.calm=true:=by rfl)(hn:(assignEach es X.env).length=l:=by rfl)(hst:(assignEach es X.env).findIdx? (·.1)=none:=by rfl)(hK:X.K=K:=by rfl):JB X C n k (.Tuple es kk pos) (Zdy K l u) (Dl.Zdb fu):=by
 subst hK
 exact ⟨Zur hc h.q hn hst,Xfj h.n h.o⟩
theorem Jd {elt:Expr}{ifs:List Expr}{sc:Scope}{wi:TI}{tc:TT}{gg:TG}{fi:FI}{fc:FT}{fg:FB}(esc:Scope)(N N2 xs:List Str)(B:Zya sc esc xs N N2)(hi:JI X C E Γ Δ S tg iter wi fi)(hg:∀cl C' s0 H0 fp,JB (X.blkN N2 xs sc cl C' s0 H0 fp) C n xs.length tg gg fg)(ht:∀cl C' s0 H0 fp,JIf (X.blkN N2 xs sc cl C' s0 H0 fp) C E0 [] [] ifs tc fc)(he:∀cl C' s0 H0 fp,JE (X.blkN N2 xs sc cl C' s0 H0 fp) C E0 [] [] 2 [] elt te fe)
  (hesc:X.env.scope=esc:=by rfl) (hN:X.N=N:=by rfl) (hc:X.calm=true:=by rfl) (hs:∀v,foldedSetIterable iter X.env v=pure v:=by intro _;rfl):JE X C E Γ Δ 2 [] (.ListComp elt [⟨tg,iter,ifs,0⟩] sc pos) (Zcz xs.length gg wi tc te) (Dl.Jg n xs.length fi fg fc fe):=
 ⟨Xbu esc N N2 xs B hi.q (fun cl C' s0 H0 fp=>(hg cl C' s0 H0 fp).q) (fun cl C' s0 H0 fp=>(ht cl C' s0 H0 fp).q) (fun cl C' s0 H0 fp=>(he cl C' s0 H0 fp).q) hesc hN hc hs,Zls hi.o (hg [] 0 X.s₀ X.H₀ []).o (ht [] 0 X.s₀ X.H₀ []).o (he [] 0 X.s₀ X.H₀ []).o⟩
variable {s1:Stmt}{ss body other:List Stmt}{u v:TS}{g h:FS}{pos':Pos}
theorem Xv:JSs X C E mr Γl Δl Γ Δ Γ Δ [] Xaq Dl.sNx:=⟨Xhj,Xoi⟩
theorem Zg (Γ1 Δ1:List Nat)(h1:JS X C E mr Γl Δl Γ Δ Γ1 Δ1 s1 u g)(h2:JSs X C E mr Γl Δl Γ1 Δ1 Γ' Δ' ss v h):JSs X C E mr Γl Δl Γ Δ Γ' Δ' (s1::ss) (Zup u v) (Dl.Xk g h):=⟨Zle h1.q h2.q,Zwo h1.o h2.o⟩
theorem Zm (h1:JS X C E mr Γl Δl Γ Δ Γ' Δ' s1 u g):JSs X C E mr Γl Δl Γ Δ Γ' Δ' [s1] u g:=⟨Zub h1.q,h1.o⟩
theorem Zbe (Γ1 Δ1:List Nat)(h:JSs X C E mr Γl Δl Γ Δ Γ1 Δ1 ss u g)(h1:∀i∈Γ',i∈Γ1:=by decide)(h2:∀i∈Δ',i∈Δ1:=by decide):JSs X C E mr Γl Δl Γ Δ Γ' Δ' ss u g:=⟨h.q,Xcb h.o h1 h2⟩
theorem Xbn:JS X C E mr Γl Δl Γ Δ Γ' Δ' s1 Zqb Dl.Zqi:=⟨Zzx,Zxs⟩
theorem Xg (he:JE X C E Γ Δ 2 S e te fe)(h0:∀p∈S,p.1∈Δ:=by decide):JS X C E 2 Γl Δl Γ Δ Γ' Δ' (.Return (some e) pos) (Xji te) (Dl.Jy fe):=⟨Xda he.q,Xbg he.o h0⟩
theorem Xhp (he:JE X C E Γ Δ m S e te fe)(h0:∀p∈S,p.1∈Γ:=by decide):JS X C E 0 Γl Δl Γ Δ Γ' Δ' (.Return (some e) pos) (Xji te) (Dl.Jy fe):=⟨Xda he.q,Xbk he.o h0⟩
theorem Ju {tA:TT}{fA:FT}(hc:JT X C E Γ Δ c tA fA)(ha:JSs X C E mr Γl Δl Γ Δ Γ' Δ' body u g)(hb:JSs X C E mr Γl Δl Γ Δ Γ' Δ' other v h):JS X C E mr Γl Δl Γ Δ Γ' Δ' (.If c body other pos) (tIfS tA u v) (Dl.sIf fA g h):=⟨qs_if hc.q ha.q hb.q,Xnv hc.o ha.o hb.o⟩
theorem Zu {i:Nat}{x:Str}(hN:X.N.Nodup)(hi:X.N[i]?=some x)(hx:Loc X.env.scope x)(he:JE X C E Γ Δ 2 [] e te fe)(hs:swapsWith e (some (.Name x pos')) pos.line X.env=pure false:=by rfl)(hf:autoParam (X.fn x=true∨X.env.scope.names.lookup x=some .local) aT0._auto_1)
  (h1:∀j∈Γ',j=i∨j∈Γ:=by decide) (h2:∀j∈Δ',j=i∨j∈Δ:=by decide):JS X C E mr Γl Δl Γ Δ Γ' Δ' (.Assign [.Name x pos'] e pos) (Zgr te (Yj i)) (Dl.Yi i fe):=⟨Zmu hN hi hx he.q hs hf,Zqj he.o h1 h2⟩
theorem Xhn {i:Nat}{x:Str}(hN:X.N.Nodup)(hi:X.N[i]?=some x)(hx:Loc X.env.scope x)(he:JE X C E Γ Δ 1 S e te fe)(hs:swapsWith e (some (.Name x pos')) pos.line X.env=pure false:=by rfl)(hf:autoParam (X.fn x=true∨X.env.scope.names.lookup x=some .local) aT0._auto_1)
  (h0:∀p∈S,p.1∈Γ:=by decide) (h1:∀j∈Γ',j=i∨(j∈Γ∧(j,false)∉S):=by decide) (h2:∀j∈Δ',j≠i∧j∈Δ∧∀p∈S,p.1≠j:=by decide):JS X C E mr Γl Δl Γ Δ Γ' Δ' (.Assign [.Name x pos'] e pos) (Zgr te (Yj i)) (Dl.Yi i fe):=⟨Zmu hN hi hx he.q hs hf,Zqw he.o h0 h1 h2⟩
theorem Zll {elt:Expr}{y:Str}{py spos:Pos}{ifs:List Expr}{sc:Scope}{wi:TI}{tc:TT}{gg:TG}{fi:FI}{fc:FT}{fg:FB}{i:Nat}(esc:Scope)(N N2 xs:List Str)(B:Zya sc esc xs N N2)(hy:N[i]?=some y)(hl:esc.names.lookup y=some .local)(hi:JI X C E Γ Δ S tg iter wi fi)(hg:∀cl C' s0 H0 fp,JB (X.blkN N2 xs sc cl C' s0 H0 fp) C n xs.length tg gg fg)(ht:∀cl C' s0 H0 fp,JIf (X.blkN N2 xs sc cl C' s0 H0 fp) C E0 [] [] ifs tc fc)(he:∀cl C' s0 H0 fp,JE (X.blkN N2 xs sc cl C' s0 H0 fp) C E0 [] [] 2 [] elt te fe)
  (hesc:X.env.scope=esc:=by rfl) (hN:X.N=N:=by rfl) (hc:X.calm=true:=by rfl) (hsw:swapsWith (.ListComp elt [⟨tg,iter,ifs,0⟩] sc pos) (some (.Name y py)) spos.line X.env=pure true:=by rfl) (hs:∀v,foldedSetIterable iter X.env v=pure v:=by intro _;rfl)
  (h1:∀j∈Γ',j=i∨j∈Γ:=by decide) (h2:∀j∈Δ',j=i∨j∈Δ:=by decide):JS X C E mr Γl Δl Γ Δ Γ' Δ' (.Assign [.Name y py] (.ListComp elt [⟨tg,iter,ifs,0⟩] sc pos) spos) (Zgr (Zcz xs.length gg wi tc te) (Yj i)) (Dl.Yi i (Dl.Jg n xs.length fi fg fc fe)):=
 ⟨Zrq esc N N2 xs B hy hl hi.q (fun cl C' s0 H0 fp=>(hg cl C' s0 H0 fp).q) (fun cl C' s0 H0 fp=>(ht cl C' s0 H0 fp).q) (fun cl C' s0 H0 fp=>(he cl C' s0 H0 fp).q) hesc hN hc hsw hs,Zqj (Zls hi.o (hg [] 0 X.s₀ X.H₀ []).o (ht [] 0 X.s₀ X.H₀ []).o (he [] 0 X.s₀ X.H₀ []).o) h1 h2⟩
theorem Zak {i:Nat}{x:Str}(hi:i∈Γ:=by decide)(hN:X.N[i]?=some x:=by rfl)(hv:autoParam (Vis X.env.scope x) aT3._auto_1)(hd:(x==("__debug__":Str))=false:=by decide)(hcd:(x==("__classdict__":Str))=false:=by decide)
  (he:JE X C E Γ Δ 2 [] e te fe) (hse:starEach [e] X.env=(false,eval e X.env)::starEach [] X.env)
  (hbase:attributeBase (.Name x p) "append" X.env (eval (.Name x p) X.env)=eval (.Name x p) X.env:=by rfl)
  (hfew:((backTo cpos (starEach [e] X.env)).all (fun x=>!x.1)&&(backToKw cpos (keywordEach [] X.env)).all (fun x=>x.1.isSome)&&decide (([e]:List Expr).length+([]:List Keyword).length+(if ([]:List Keyword).isEmpty then 0 else 1)<30))=true:=by rfl)
  (hline:(apos.endLine==cpos.line)=true:=by rfl) (hplain:(backTo cpos (starEach ([]:List Expr) X.env)).any (·.1)=false:=by rfl) (hsw:swapsWith (.Call (.Attribute (.Name x p) "append" apos) [e] [] cpos) none pos.line X.env=pure false:=by rfl) :
  JS X C E mr Γl Δl Γ Δ Γ Δ (.Expr (.Call (.Attribute (.Name x p) "append" apos) [e] [] cpos) pos) (Zms (tBM X.K "list" Zcr (Zmr i) (Zbj te Zmh))) (Dl.Zhe i fe):=
 ⟨Zou (Xel PySem.F.plainAttrs_list PySem.F.slot_list_append PySem.F.type_list_append Zdf (qv i hN hv hd hcd) (Zdl he.q Zme hse) hbase hfew hline hse hplain) hsw,Zyd hi he.o⟩
theorem Zaj {wi:TI}{tt:TG}{fi:FI}{fb:FB}(Γl Δl:List Nat)(hp:PassesOwn (model X.prog X.w) X.A X.env X.xe)(hc:X.calm=true)(hi:JI X C E Γ Δ S tg iter wi fi)(hg:JG X C Γl Δl tg tt fb)(hb:JSs X C E mr Γl Δl Γl Δl Γl Δl body u g)(hs:∀x,foldedSetIterable iter X.env x=pure x:=by intro _;rfl)
  (h1:∀i∈Γl,i∈Γ:=by decide) (h2:∀i∈Δl,i∈Δ:=by decide) (h3:∀p∈S,p.1∉Γl∧p.1∉Δl:=by decide):JS X C E mr Γk Δk Γ Δ Γl Δl (.For tg iter body [] pos) (Xjm wi tt u) (Dl.Zid fi fb g):=⟨Xdm hp hc hi.q hg.q hb.q hs,Xfr hi.o hg.o hb.o h1 h2 h3⟩
theorem Zqy {tA:TT}{fA:FT}(k:Nat)(hp:PassesOwn (model X.prog X.w) X.A X.env X.xe)(hc:JT X C E Γ Δ c tA fA)(hb:JSs X C E mr Γ Δ Γ Δ Γ Δ body u g):JS X C E mr Γk Δk Γ Δ Γ Δ (.While c body [] pos) (Zqz tA u) (Dl.Zjy k fA g):=⟨Xad hp hc.q hb.q,Zxl hc.o hb.o⟩
end
theorem Fun.okC {P:Program}{w:World}{K:Frag}{C:String→Addr}{mg:Str→Option Value}{base:Heap}{x qual:Str}{st:Stmt}{f:Addr}{fd:FuncData}{N ps:List Str}{k n mr:Nat}{Γ' Δ':List Nat}{g:FS}(F:Fun K x qual st f fd)(S:Xd N ps (Zk st))(hn:ps.length=n)
    (hbody:∀(cdv:Value) (A:Around) (outer:List Env) (s:Shared) (H:Hp) (E:XK),Zec k (A.deeper (envOfC qual (Zk st) s.heap.objs.size f cdv))→
      ∃t,JSs (Zxz CX0 P w K mg base N qual (Zk st) f cdv A outer s H E).nox C E0 mr [] [] [] [] Γ' Δ' (Zbo st) t g):Zam P w K mg base CX0 (k+1) f fd ps (spD K C n mr fun ds=>(Dl.run N.length g ds).calm):=
  F.okQ S (fun vs H Q E h=>by
    obtain ⟨ds,B,h1,h2,_⟩:=h
    rw [h2.len,h1,hn]) fun cdv A outer s H vs Q E hr h=>by
    obtain ⟨ds,B,h1,h2,h3⟩:=h
    obtain ⟨t,ht⟩:=hbody cdv A outer s H E hr
    exact ⟨t,ht.q,Zkm (K:=K) ht.o h2 (Yc.imp (Zbn h3) (fun _ q=>q) fun _ _ z=>z.elim)⟩
section
variable {K:Frag}{C:String→Addr}{E:XK}{Γ Δ Γ' Δ' Γ1 Δ1 Γl Δl Γk Δk:List Nat}{m m1 m2 m3 mr:Nat}{S S1 S2 S3:List (Nat×Bool)}{H:Hp}{Q:VK}
def Kit (c:String):Prop:=∀(K:Frag) (d:D) (b:Bool),Dl.Zlw c d=some (.bl b)→kitOne K (.type (Dl.Xdo d)) (.type c)=some b
theorem Xfe:Kit "int":=fun K d b h=>by cases d<;>cases h<;>rfl
theorem Zzh:Kit "bool":=fun K d b h=>by cases d<;>cases h<;>rfl
theorem Zrg:Kit "list":=fun K d b h=>by cases d<;>cases h<;>rfl
theorem kit_tuple:Kit "tuple":=fun K d b h=>by cases d<;>cases h<;>rfl
theorem Xiu {c:String}(hk:Kit c){ta:TE}{fa:FE}(ha:EOk K C E Γ Δ m S ta fa):EOk K C E Γ Δ 2 [] (tCB (Xjn K) (Zbj ta (Zbj (tC (.ty c)) Zmh))) (Dl.f1 (Dl.Zlw c) fa):=fun H0 Hb H σ ρ A Q I p =>
  ha H0 Hb H σ ρ A _ I (p.bind.imp (fun x q v H1 g1 r=>by
    obtain ⟨d,e,q⟩:=Zhb q
    obtain ⟨B,r,_⟩:=r
    have out:∀b t,d=.bl b→TyOf K H1 v t→t=.type (Dl.Xdo x)→Xjn K [v,.ty c] H1 Q:=fun b t ed ty et=>by
      subst ed et
      exact Xlf ty (hk K x b e) (q _ H1 g1 (Res.flat rpB))
    show Xjn K [v,.ty c] H1 Q
    cases x with
    | non=>cases e;exact out _ _ rfl (by rw [r.1];exact .non) rfl
    | bl b=>cases e;exact out _ _ rfl (by rw [r.1];exact .bl _) rfl
    | int i=>cases e;exact out _ _ rfl (by rw [r.1];exact .int _) rfl
    | str z=>cases e;exact out _ _ rfl (by rw [r.1];exact .str _) rfl
    | lst ds =>
      cases e
      obtain ⟨a,xs,B,rfl,e2,_⟩:=r
      exact out _ _ rfl (.lst e2) rfl
    | tup ds =>
      cases e
      obtain ⟨a,xs,rfl,e2,_⟩:=r
      exact out _ _ rfl (.tup e2) rfl
    | scr _=>cases e
    | rng _ _=>cases e
    | exc _ _=>cases e
    | obj _ _ _=>cases e
    | dct _ _=>cases e
    | dtt _ _=>cases e) fun c x q H' g'=>q H' g')
theorem Zy.rewrite {H0 Hb H H1:Hp}{σ:St}{ρ:Ym}{A:Nat→List Addr}{i:Nat}{a:Addr}{l B':List Addr}{es:List D}{ys:List V}(I:Zy K C H0 Hb H Γ Δ σ ρ A)(g1:Xw H H1)(hi:i∈Γ)(hA:A i=a::l)(hl:i<ρ.length)(s1:σ[i]?=some (some (.ref a)))(r:RpA K C H1 es ys B')
    (hB:∀b∈B',b∈l∨H b=none) (hD:i∈Δ→B'.Nodup):∃A',Zy K C H0 Hb (upd H1 a (.lst ys)) Γ Δ σ (ρ.set i (some (.lst es))) A':=by
  obtain ⟨tb,ta,tt⟩:=I.top i hi a l hA
  have ha:a∈A i:=by rw [hA];exact .head _
  have w1:∀b∈B',H0 b=none:=fun b hb=>(hB b hb).elim (fun z=>I.loc i hi b (by rw [hA];exact .tail _ z)) fun z=>I.s0.free (I.same.free z)
  have w0:a∉B':=fun z=>(hB a z).elim ta fun z=>I.ne ha z
  have w2:∀j∈Γ,j≠i→j∈Γ∧∀b l',A j=b::l'→b∉B':=fun j hj e=>⟨hj,fun b l' e' z=>(hB b z).elim
    (fun z=>(I.top j hj b l' e').2.2 i (fun w=>e w.symm) (by rw [hA];exact .tail _ z)) fun z=>I.ne (j:=j) (by rw [e'];exact .head _) z⟩
  have w3:∀j∈Δ,j≠i→j∈Δ∧∀b∈A j,b∉B':=fun j hj e=>⟨hj,fun b hb z=>(hB b z).elim
    (fun z=>(I.deep j hj).2.1 i (fun w=>e w.symm) b hb (by rw [hA];exact .tail _ z)) fun z=>I.ne hb z⟩
  have w4:i∈Δ→B'.Nodup∧(∀j,j≠i→∀b∈B',b∉A j)∧∀b∈B',Hb b=none:=fun hd=>by
    obtain ⟨d1,d2,d3⟩:=I.deep i hd
    rw [hA] at d2 d3
    exact ⟨hD hd,fun j hj b hb=>(hB b hb).elim (fun z=>d2 j hj b (.tail _ z)) fun z w=>I.ne w z,fun b hb=>(hB b hb).elim (fun z=>d3 b (.tail _ z)) fun z=>I.same.free z⟩
  exact (I.mono g1).write (Γ':=Γ) (Δ':=Δ) hi hA hl s1 r w1 w0 w2 w3 w4
def BsN (K:Frag)(C:String→Addr)(Γ Δ Γ' Δ':List Nat)(g:TGs)(b:List D→Ym→R Ym):Prop:=∀(H0 Hb H:Hp) (σ:St) (ρ:Ym) (A:Nat→List Addr) (d:List D) (v:List V) (B:List Addr) (Rr:St→Hp→Prop),Zy K C H0 Hb H Γ Δ σ ρ A→RpA K C H d v B→B.Nodup→(∀a∈B,Hb a=none∧∀j,a∉A j)→
 Yc (b d ρ) (fun ρ'=>∀σ' A',Zy K C H0 Hb H Γ' Δ' σ' ρ' A'→Rr σ' H) (fun _ _=>False)→g v σ H Rr
theorem Xhx (h1:∀i∈Γ',i∈Γ)(h2:∀i∈Δ',i∈Δ):BsN K C Γ Δ Γ' Δ' Zqr Dl.Zcv:=fun H0 Hb H σ ρ A d v B Rr I r _ _ p=>by
 cases d with
 | nil=>exact ⟨r.1,p _ A (I.weak h1 h2)⟩
 | cons _ _=>exact p.elim
theorem Xbr {i:Nat}{gs:TGs}{bs:List D→Ym→R Ym}(h2:BsN K C (i::Γ) (i::Δ) Γ' Δ' gs bs):BsN K C Γ Δ Γ' Δ' (Zcb (Yj i) gs) (Dl.Xh (Dl.Zn i) bs):=fun H0 Hb H σ ρ A d v B Rr I r nd hB p=>by
  cases d with
  | nil=>exact p.elim
  | cons d ds =>
    obtain ⟨x,l,B1,B2,e1,e2,e3,e4⟩:=r
    subst e1 e4
    obtain ⟨n1,n2,n3⟩:=List.nodup_append.mp nd
    have hB1:∀a∈B1,Hb a=none∧∀j,a∉A j:=fun a ha=>hB a (mem_append_left _ ha)
    obtain ⟨A',I',hA'⟩:=I.put (Γ':=i::Γ) (Δ':=i::Δ) (i:=i) e2
      (fun j hj e=>⟨(List.mem_cons.mp hj).elim (fun z=>absurd z e) id,fun a l' e' ha=>(hB1 a ha).2 j (by rw [e'];exact .head _)⟩)
      (fun _=>⟨fun a ha=>I.s0.free (hB1 a ha).1,fun a l' e=>by
        subst e
        exact ⟨(hB1 a (.head _)).1,(List.nodup_cons.mp n1).1,fun j _=>(hB1 a (.head _)).2 j⟩⟩)
      (fun j hj e=>⟨(List.mem_cons.mp hj).elim (fun z=>absurd z e) id,fun a ha hb=>(hB1 a hb).2 j ha⟩)
      (fun _=>⟨n1,fun j _ a ha=>(hB1 a ha).2 j,fun a ha=>(hB1 a ha).1⟩)
    exact ⟨x,l,rfl,h2 H0 Hb H _ _ A' ds l B2 Rr I' e3 n2 (fun a ha=>⟨(hB a (mem_append_right _ ha)).1,fun j h=>(hA' j a h).elim (fun z=>n3 a z a ha rfl) fun z=>(hB a (mem_append_right _ ha)).2 j z⟩) p⟩
theorem Ztn {te:TE}{gs:TGs}{fe:FE}{bs:List D→Ym→R Ym}{n:Nat}(hn:∀ds ρ ρ',bs ds ρ=.ok ρ'→ds.length=n)(he:EOk K C E Γ Δ 2 [] te fe)(hb:BsN K C Γ Δ Γ' Δ' gs bs):SOk K C E mr Γl Δl Γ Δ Γ' Δ' (Zgr te (Zdy K n gs)) (Dl.Zof fe (Dl.Zdb bs)):=fun H0 Hb H σ ρ A D I p=>by
 refine he H0 Hb H σ ρ A _ I (Yc.imp (Yc.bind p) (fun d q v H1 g1 r=>?_) fun c x q H' g'=>q H' (Xw.from0 I g'))
 obtain ⟨B,r1,r2,_,r4⟩:=r
 have hn':∀a∈B,H a=none:=fun a ha=>(r2 a ha).elim id fun z=>z.none.elim
 have q':=Zbn (Yc.bind q)
 cases d with
 | tup ds =>
  obtain ⟨a,xs,rfl,e2,e3⟩:=r1
  have q'':Yc (bs ds ρ) (fun ρ'=>∀σ' H' A',Zy K C H0 Hb H' Γ' Δ' σ' ρ' A'→D.nx σ' H') (fun _ _=>False):=q'
  have hl:xs.length=n:=by
   rw [e3.len]
   cases e:bs ds ρ with
   | ok ρ'=>exact hn ds ρ ρ' e
   | err _ _=>rw [e] at q'';exact q''.elim
   | bad=>rw [e] at q'';exact q''.elim
  exact ⟨a,xs,rfl,SqT.of e2,hl,hb H0 Hb H1 σ ρ A ds xs B D.nx (I.mono g1) e3 (r4 rfl) (fun a ha=>⟨I.same.free (hn' a ha),fun j z=>I.ne z (hn' a ha)⟩) (Yc.imp q'' (fun ρ' q σ' A' I'=>q σ' H1 A' I') fun _ _ z=>z)⟩
 | _=>exact q'.elim
end
section
variable {X:Cx}{C:String→Addr}{E:XK}{Γ Δ Γ' Δ' Γ1 Δ1 Γl Δl Γk Δk:List Nat}{m m1 m2 m3 mr:Nat}{S S1 S2 S3:List (Nat×Bool)}{a b c e st o tg iter:Expr}{es rest:List Expr}{ta tb tc te ts:TE}{fa fb fc fe fs:FE}{t:TA}{f:FA}{pos p p2 apos cpos pos':Pos}{n:Nat}
theorem Zkk (K:Frag){T:String}{ty:Str}(hk:Kit T)(hg:Gl X "isinstance")(hm:X.mg "isinstance"=none)(hgt:Gl X ty)(hmt:X.mg ty=none)(hvt:bootBuiltins ty=some (.type T))(ha:JE X C E Γ Δ m S e te fe)(hse:starEach (e::[.Name ty p2]) X.env=(false,eval e X.env)::starEach [.Name ty p2] X.env)
  (hn:ty≠"__name__":=by decide) (hd:(ty==("__debug__":Str))=false:=by decide) (hpl:(backTo pos (starEach [.Name ty p2] X.env)).any (·.1)=false:=by rfl) (hK:X.K=K:=by rfl) :
  JE X C E Γ Δ 2 [] (.Call (.Name "isinstance" p) [e,.Name ty p2] [] pos) (tCB (Xjn K) (Zbj te (Zbj (tC (.ty T)) Zmh))) (Dl.f1 (Dl.Zlw T) fe):=by
 subst hK
 exact ⟨Zsf Zpr hg hm PyProof.Rows.boot_isinstance (Zdl ha.q (Zdl (Xeq (v:=.ty T) hgt hmt hvt rfl hn hd) Zme Za) hse) (by decide) (by decide) hse hpl,Xiu hk ha.o⟩
structure JN (X:Cx)(C:String→Addr)(Γ Δ Γ' Δ':List Nat)(es:List Expr)(n:Nat)(t:TGs)(f:List D→Ym→R Ym):Prop where
 q:QGs X es t
 o:BsN X.K C Γ Δ Γ' Δ' t f
 n:∀ds ρ ρ',f ds ρ=.ok ρ'→ds.length=n
theorem Zmm (h1:∀i∈Γ',i∈Γ:=by decide)(h2:∀i∈Δ',i∈Δ:=by decide):JN X C Γ Δ Γ' Δ' [] 0 Zqr Dl.Zcv:=⟨Ztx,Xhx h1 h2,Xdx⟩
theorem Zaz {i:Nat}{x:Str}{u:TGs}{fu:List D→Ym→R Ym}(hN:X.N.Nodup)(hi:X.N[i]?=some x)(hx:Loc X.env.scope x)(h2:JN X C (i::Γ) (i::Δ) Γ' Δ' es n u fu)(hf:autoParam (X.fn x=true∨X.env.scope.names.lookup x=some .local) aT0._auto_1)
  (hs:(assignEach (.Name x p::es) X.env).map (·.2)=assign (.Name x p) X.env::(assignEach es X.env).map (·.2):=by rfl):JN X C Γ Δ Γ' Δ' (.Name x p::es) (n+1) (Zcb (Yj i) u) (Dl.Xh (Dl.Zn i) fu):=⟨Zsc (Zlt hN hi hx hf) h2.q hs,Xbr h2.o,Zuv h2.n⟩
theorem Zob {k:Nat}{u:TGs}{fu:List D→Ym→R Ym}(hc:X.calm=true)(he:JE X C E Γ Δ 2 [] e te fe)(hb:JN X C Γ Δ Γ' Δ' es n u fu)(hn:(assignEach es X.env).length=n:=by rfl)(hst:(assignEach es X.env).findIdx? (·.1)=none:=by rfl)
  (hs:swapsWithSole [.Tuple es k p] e pos.line X.env=pure false:=by rfl) (hw:swappedStores [.Tuple es k p] e X.env=pure none:=by rfl) (h1:(assignEach [.Tuple es k p] X.env).map (·.2)=[assign (.Tuple es k p) X.env]:=by rfl) :
  JS X C E mr Γl Δl Γ Δ Γ' Δ' (.Assign [.Tuple es k p] e pos) (Zgr te (Zdy X.K n u)) (Dl.Zof fe (Dl.Zdb fu)):=⟨Xdi he.q (Zur hc hb.q hn hst) hs hw h1,Ztn hb.n he.o hb.o⟩
end
section
variable {K:Frag}{C:String→Addr}{E:XK}{Γ Δ Γ' Δ' Γ1 Δ1 Γl Δl Γk Δk:List Nat}{m m1 m2 m3 mr:Nat}{S S1 S2 S3:List (Nat×Bool)}{H:Hp}{Q:VK}
end
section
variable {X:Cx}{C:String→Addr}{E:XK}{Γ Δ Γ' Δ' Γ1 Δ1 Γl Δl Γk Δk:List Nat}{m m1 m2 m3 mr:Nat}{S S1 S2 S3:List (Nat×Bool)}{a b c e st o tg iter:Expr}{es rest:List Expr}{ta tb tc te ts:TE}{fa fb fc fe fs:FE}{t:TA}{f:FA}{pos p p2 apos cpos pos':Pos}{n:Nat}
end
section
variable {K:Frag}{C:String→Addr}{E:XK}{Γ Δ Γ' Δ' Γ1 Δ1 Γl Δl Γk Δk:List Nat}{m m1 m2 m3 mr:Nat}{S S1 S2 S3:List (Nat×Bool)}{H:Hp}{Q:VK}
def JOk (K:Frag)(C:String→Addr)(E:XK)(Γ Δ:List Nat)(t:TJ)(f:FA):Prop:=∀(H0 Hb H:Hp) (σ:St) (ρ:Ym) (A:Nat→List Addr) (Q:Hp→Prop),Zy K C H0 Hb H Γ Δ σ ρ A→
 Yc (f ρ) (fun _=>∀H',Xw H H'→Q H') (fun c x=>∀H',Xw H H'→EC C E c x H')→t σ H Q
end
section
variable {X:Cx}{C:String→Addr}{E:XK}{Γ Δ Γ' Δ' Γ1 Δ1 Γl Δl Γk Δk:List Nat}{m n mr:Nat}{S:List (Nat×Bool)}{e:Expr}{es:List Expr}{t:TA}{f:FA}{np cpos pos hpos:Pos}
end
section
variable {K:Frag}{C:String→Addr}{E:XK}{Γ Δ Γ' Δ' Γ1 Δ1 Γl Δl Γk Δk:List Nat}{m m1 m2 m3 mr:Nat}{S S1 S2 S3:List (Nat×Bool)}{H:Hp}{Q:VK}
end
section
variable {X:Cx}{C:String→Addr}{E:XK}{Γ Δ Γ' Δ' Γ1 Δ1 Γl Δl Γk Δk:List Nat}{m m1 m2 m3 mr:Nat}{S S1 S2 S3:List (Nat×Bool)}{a b c e st o tg iter:Expr}{es rest:List Expr}{ta tb tc te ts:TE}{fa fb fc fe fs:FE}{t:TA}{f:FA}{pos p p2 apos cpos pos':Pos}{n:Nat}{body:List Stmt}{u:TS}{g:FS}
end
structure ClsIn (K:Frag)(C:Addr):Prop where
 ty:typeIn K (.ref C)=some (.type "type")
 cl:∃c,clsIn K C=some c
 se:subIn K (.ref C) (.ref C)=some true
section
variable {K:Frag}{C:String→Addr}{E:XK}{Γ Δ Γ' Δ' Γ1 Δ1 Γl Δl Γk Δk:List Nat}{m m1 m2 m3 mr:Nat}{S S1 S2 S3:List (Nat×Bool)}{H:Hp}{Q:VK}
end
structure JJ (X:Cx)(C:String→Addr)(E:XK)(Γ Δ:List Nat)(es:List Expr)(t:TJ)(f:FA):Prop where
 q:QJ X es t
 o:JOk X.K C E Γ Δ t f
section
variable {X:Cx}{C:String→Addr}{E:XK}{Γ Δ Γ' Δ' Γ1 Δ1 Γl Δl Γk Δk:List Nat}{m m1 m2 m3 mr:Nat}{S S1 S2 S3:List (Nat×Bool)}{a b c e st o tg iter:Expr}{es rest:List Expr}{ta tb tc te ts:TE}{fa fb fc fe fs:FE}{t:TA}{f:FA}{pos p p2 apos cpos pos' np jp:Pos}{n:Nat}{body:List Stmt}{s:Stmt}{u:TS}{g:FS}{tj:TJ}
end
section
variable {K:Frag}{C:String→Addr}{E:XK}{Γ Δ Γ' Δ' Γ1 Δ1 Γl Δl Γk Δk:List Nat}{m m1 m2 m3 mr:Nat}{S S1 S2 S3:List (Nat×Bool)}{H:Hp}{Q:VK}
end
section
variable {X:Cx}{C:String→Addr}{E:XK}{Γ Δ Γ' Δ' Γ1 Δ1 Γl Δl Γk Δk:List Nat}{m m1 m2 m3 mr:Nat}{S S1 S2 S3:List (Nat×Bool)}{a b c e st o tg iter:Expr}{es rest:List Expr}{ta tb tc te ts:TE}{fa fb fc fe fs:FE}{t:TA}{f:FA}{pos p p2 apos cpos pos' np jp:Pos}{n:Nat}{tj:TJ}
end
section
variable {K:Frag}{C:String→Addr}{E:XK}{Γ Δ Γ' Δ' Γ1 Δ1 Γl Δl Γk Δk:List Nat}{m m1 m2 m3 mr:Nat}{S S1 S2 S3:List (Nat×Bool)}{H:Hp}{Q:VK}
end
section
variable {X:Cx}{C:String→Addr}{E:XK}{Γ Δ:List Nat}{m:Nat}{S:List (Nat×Bool)}{e:Expr}{es:List Expr}{te:TE}{fe:FE}{f:FA}{pos:Pos}{tj:TJ}
end
section
variable {K:Frag}{C:String→Addr}{E:XK}{Γ Δ Γ' Δ' Γ1 Δ1 Γl Δl Γk Δk:List Nat}{m m1 m2 m3 mr:Nat}{S S1 S2 S3:List (Nat×Bool)}{H:Hp}{Q:VK}
end
section
variable {X:Cx}{C:String→Addr}{E:XK}{Γ Δ Γ' Δ' Γ1 Δ1 Γl Δl Γk Δk:List Nat}{mr:Nat}{np pos hpos:Pos}
end
section
variable {K:Frag}{C:String→Addr}{E:XK}{Γ Δ Γ' Δ' Γ1 Δ1 Γl Δl Γk Δk:List Nat}{m m1 m2 m3 mr:Nat}{S S1 S2 S3:List (Nat×Bool)}{H:Hp}{Q:VK}
end
section
variable {X:Cx}{C:String→Addr}{E:XK}{Γ Δ Γ' Δ' Γ1 Δ1 Γl Δl Γk Δk:List Nat}{m m1 m2 m3 mr:Nat}{S S1 S2 S3:List (Nat×Bool)}{a b c e st o tg iter:Expr}{es rest:List Expr}{ta tb tc te ts:TE}{fa fb fc fe fs:FE}{pos p p2 apos cpos pos':Pos}
end
section
variable {X:Cx}{pins:List (Addr×Obj)}{σ:St}{H:Hp}{s:Shared}{h':Heap}
theorem Inv.turnTup {t':Nat}{ch:List Addr}{p:Addr}{xs:List V}{its:List Value}(I:Inv X pins σ H s)(k:∀b o,b∉ch→s.heap.get? b=some o→h'.get? b=some o)(hf:∀b∈ch,Zjl X pins H b)
  (hp:s.heap.objs.size≤p) (hz:xs.length≤sizeLine) (hv:Jn xs its) (ho:IsTup h' p its.toArray):Inv X pins σ (upd H p (.tup xs)) {s with heap:=h',toks:=t'}:=by
 have hn:H p=none:=I.hok.fresh hp
 have nch:∀b u,H b=some u→b∉ch:=fun b u e z=>by rw [(hf b z).1] at e;cases e
 refine I.step (g':=s.gens) (d':=s.drawn) (ch:=ch) (fun b hb=>⟨(hf b hb).2.2.2.1,(hf b hb).2.1,(hf b hb).2.2.2.2.1,(hf b hb).2.2.2.2.2⟩) (fun b o _ _ hc e _=>k b o hc e) (fun b o _ _ hc e _=>⟨o.slots,k b o hc e⟩) (fun b o _ e n=>?_)
  (fun b o hc e=>⟨o,k b o hc e⟩) (fun b ys e=>by rw [Xo (Xf e hn)];exact e) (fun b o u e=>by rw [Xo (Xf e hn)];exact e) (fun b p n e=>by rw [Xo (Xf e hn)];exact e) (fun m hm=>?_) (fun b u e=>?_) I.bare
 ·rw [Xo]
  ·exact n
  ·exact ne_of_lt (lt_of_lt_of_le (lt_size e) hp)
 ·obtain ⟨o,es,ep,ho,r⟩:=hm
  exact ⟨o,es,ep,k _ o (fun z=>(hf _ z).2.1 rfl) ho,r⟩
 ·by_cases hb:b=p
  ·subst hb
   rw [Yd] at e
   cases e
   exact ⟨hz,its,hv,ho⟩
  ·rw [Xo hb] at e
   refine (I.hok b u e).stay (fun c v hc q=>k c v ?_ q) (fun c q=>by rw [Xo (Xf q hn)];exact q) (fun c ys q=>by rw [Xo (Xf q hn)];exact q) fun c ob u q=>by rw [Xo (Xf q hn)];exact q
   rcases hc with z | z
   ·rw [z];exact nch b u e
   ·exact nch c _ z
theorem Inv.turneds {t':Nat}{ch:List Addr}(I:Inv X pins σ H s)(k:∀b o,b∉ch→s.heap.get? b=some o→h'.get? b=some o)(hf:∀b∈ch,Zjl X pins H b):Inv X pins σ H {s with heap:=h',toks:=t'}:=by
 have nch:∀b u,H b=some u→b∉ch:=fun b u e z=>by rw [(hf b z).1] at e;cases e
 refine I.step (g':=s.gens) (d':=s.drawn) (ch:=ch) (fun b hb=>⟨(hf b hb).2.2.2.1,(hf b hb).2.1,(hf b hb).2.2.2.2.1,(hf b hb).2.2.2.2.2⟩) (fun b o _ _ hc e _=>k b o hc e) (fun b o _ _ hc e _=>⟨o.slots,k b o hc e⟩) (fun _ _ _ _ n=>n)
  (fun b o hc e=>⟨o,k b o hc e⟩) (fun _ _ e=>e) (fun _ _ _ e=>e) (fun _ _ _ e=>e) (fun m hm=>?_) (fun b u e=>?_) I.bare
 ·obtain ⟨o,es,ep,ho,r⟩:=hm
  exact ⟨o,es,ep,k _ o (fun z=>(hf _ z).2.1 rfl) ho,r⟩
 ·refine (I.hok b u e).stay (fun c v hc q=>k c v ?_ q) (fun _ q=>q) (fun _ _ q=>q) fun _ _ _ q=>q
  rcases hc with z | z
  ·rw [z];exact nch b u e
  ·exact nch c _ z
end
noncomputable def Itz (K:Frag)(a b:Addr):It:=
  ⟨fun i H=>∃xs ys x y,SqL K H a xs∧SqL K H b ys∧xs[i]?=some x∧ys[i]?=some y,
   fun i H v H'=>∃p,v=.ref p∧H p=none∧∀xs ys,SqL K H a xs→SqL K H b ys→∃x y,xs[i]?=some x∧ys[i]?=some y∧H'=upd H p (.tup [x,y]),
   fun i H=>∃xs ys,SqL K H a xs∧SqL K H b ys∧(xs.length≤i∨ys.length≤i)⟩
noncomputable def Ite (K:Frag)(a:Addr):It:=
  ⟨fun i H=>∃xs x,SqL K H a xs∧xs[i]?=some x,
   fun i H v H'=>∃p,v=.ref p∧H p=none∧∀xs,SqL K H a xs→∃x,xs[i]?=some x∧H'=upd H p (.tup [.int i,x]),
   fun i H=>∃xs,SqL K H a xs∧xs.length≤i⟩
theorem Zpw {x y:V}{u v:Value}(h1:RelV x u)(h2:RelV y v):Jn [x,y] [u,v]:=.cons h1 (.cons h2 .nil)
theorem Zyu {P:Program}{w:World}{K:Frag}{elts:List Expr}{x1:Nat}{pos:Pos}{a b z TI TO i1 i2:Addr}(Dd:ZipApart z TI TO i1 i2 a b) :
    Turn P w K (.Tuple elts x1 pos) (Itz K a b) [z,TI,TO,i1,i2] z (fun i h=>IsZip h z TI TO .none∧IsPair h TI (.ref i1) (.ref i2)∧(∃u v,IsPair h TO u v)∧h.IsListIter i1 a i∧h.IsListIter i2 b i) where
  mem:=by simp
  obj:=fun i h st c hc=>by
    obtain ⟨h1,h2,⟨u,v,h3⟩,⟨o4,e4,_,d4⟩,⟨o5,e5,_,d5⟩⟩:=st
    simp only [mem_cons,not_mem_nil,or_false] at hc
    rcases hc with rfl | rfl | rfl | rfl | rfl
    · exact ⟨_,h1,fun v z=>by cases z⟩
    · exact ⟨_,h2,fun v z=>by cases z⟩
    · exact ⟨_,h3,fun v z=>by cases z⟩
    · exact ⟨_,e4,fun v z=>by rw [d4] at z;cases z⟩
    · exact ⟨_,e5,fun v z=>by rw [d5] at z;cases z⟩
  keep:=fun i h h' st k=>by
    obtain ⟨h1,h2,⟨u,v,h3⟩,h4,h5⟩:=st
    exact ⟨k z (by simp) _ h1,k TI (by simp) _ h2,⟨u,v,k TO (by simp) _ h3⟩,h4.at fun o e=>k i1 (by simp) o e,h5.at fun o e=>k i2 (by simp) o e⟩
  item:=by
    intro X hP hw hK hc i pins s σ H E I hf st hg
    subst hP hw hK
    obtain ⟨xs,ys,x,y,hq1,hq2,hx,hy⟩:=hg
    obtain ⟨h1,h2,⟨u0,v0,h3⟩,h4,h5⟩:=st
    obtain ⟨its1,rv1,p1,hz1⟩:=I.list hq1
    obtain ⟨its2,rv2,p2,hz2⟩:=I.list hq2
    obtain ⟨u,hu,ru⟩:=rv1.get hx
    obtain ⟨v,hv,rv⟩:=rv2.get hy
    refine wpAny_pyNext_zip_item Dd h1 h2 h3 h4 h5 p1.isList p2.isList (x:=u) (y:=v) (by simpa using hu) (by simpa using hv) fun h' a1 a2 a3 a4 a5 a6 a7=>?_
    refine ⟨_,rfl,wpAny_letOwnedTupleGo_zip a1 fun h'' b1 b2=>?_⟩
    have hne:s.heap.objs.size≠z:=fun e=>absurd (lt_size h1) (by rw [← e];exact lt_irrefl _)
    have ht:IsPair h'' s.heap.objs.size u v:=b2.extBut _ _ hne a5
    have I2:=I.turnTup (t':=s.toks) (h':=h'') (ch:=[z,TO,i1,i2]) (p:=s.heap.objs.size) (xs:=[x,y]) (its:=[u,v]) (fun c o hc e=>by
        simp only [mem_cons,not_mem_nil,or_false,not_or] at hc
        exact b2.extBut _ _ hc.1 (a7 c o hc.1 hc.2.1 hc.2.2.1 hc.2.2.2 e)) (fun c hc=>hf c (by
        simp only [mem_cons,not_mem_nil,or_false] at hc ⊢
        rcases hc with h | h | h | h<;>simp [h])) (le_refl _) (by show 2≤sizeLine;decide) (Zpw ru rv) ⟨_,ht,rfl,_,rfl⟩
    refine ⟨.ref s.heap.objs.size,_,I2,rfl,⟨_,rfl,I.hok.fresh (le_refl _),fun xs' ys' e1 e2=>⟨x,y,by rw [I.list_inj e1 hq1];exact hx,by rw [I.list_inj e2 hq2];exact hy,rfl⟩⟩,⟨b1,?_,⟨u,v,b2.extBut _ _ Dd.TOz a2⟩,a3.extBut b2.extBut Dd.i1z,a4.extBut b2.extBut Dd.i2z⟩,fun c hc=>?_⟩
    · exact b2.extBut _ _ Dd.TIz (a7 _ _ Dd.TIz Dd.TITO Dd.TIi1 Dd.TIi2 h2)
    · rw [Xo]
      · exact (hf c hc).1
      · rintro rfl
        have:∃o,s.heap.get? s.heap.objs.size=some o:=by
          simp only [mem_cons,not_mem_nil,or_false] at hc
          rcases hc with e | e | e | e | e
          · exact ⟨_,by rw [e];exact h1⟩
          · exact ⟨_,by rw [e];exact h2⟩
          · exact ⟨_,by rw [e];exact h3⟩
          · obtain ⟨o,q,_⟩:=h4;exact ⟨o,by rw [e];exact q⟩
          · obtain ⟨o,q,_⟩:=h5;exact ⟨o,by rw [e];exact q⟩
        obtain ⟨o,q⟩:=this
        exact absurd (lt_size q) (lt_irrefl _)
  done:=by
    intro X hP hw hK hc i pins s σ H E I hf st hg
    subst hP hw hK
    obtain ⟨xs,ys,hq1,hq2,hl⟩:=hg
    obtain ⟨h1,h2,⟨u0,v0,h3⟩,h4,h5⟩:=st
    obtain ⟨its1,rv1,p1,hz1⟩:=I.list hq1
    obtain ⟨its2,rv2,p2,hz2⟩:=I.list hq2
    have l1:=rv1.length
    have l2:=rv2.length
    refine wpAny_pyNext_zip_end (I.ok.hd hc) Dd h1 h2 h3 h4 h5 p1.isList p2.isList ?_ fun h' k=>⟨rfl,I.turneds (t':=s.toks) (ch:=[z,TO,i1,i2]) (fun c o hc e=>by
        simp only [mem_cons,not_mem_nil,or_false,not_or] at hc
        exact k c o hc.1 hc.2.1 hc.2.2.1 hc.2.2.2 e) (fun c hc=>hf c (by
        simp only [mem_cons,not_mem_nil,or_false] at hc ⊢
        rcases hc with h | h | h | h<;>simp [h]))⟩
    rcases hl with hl | hl
    · exact .inl (by simp;omega)
    · exact .inr (by simp;omega)
  self:=fun _ _ _ _ _ st h=>wpAny_pyIter_zip st.1 h
theorem Zuy {P:Program}{w:World}{K:Frag}{elts:List Expr}{x1:Nat}{pos:Pos}{a e it:Addr}(hne:e≠it) :
    Turn P w K (.Tuple elts x1 pos) (Ite K a) [e,it] e (fun i h=>(∃old,IsEnum h e it i old)∧h.IsListIter it a i) where
  mem:=by simp
  obj:=fun i h st c hc=>by
    obtain ⟨⟨old,h1⟩,⟨o5,e5,_,d5⟩⟩:=st
    simp only [mem_cons,not_mem_nil,or_false] at hc
    rcases hc with rfl | rfl
    · exact ⟨_,h1,fun v z=>by cases z⟩
    · exact ⟨_,e5,fun v z=>by rw [d5] at z;cases z⟩
  keep:=fun i h h' st k=>by
    obtain ⟨⟨old,h1⟩,h5⟩:=st
    exact ⟨⟨old,k e (by simp) _ h1⟩,h5.at fun o q=>k it (by simp) o q⟩
  item:=by
    intro X hP hw hK hc i pins s σ H E I hf st hg
    subst hP hw hK
    obtain ⟨xs,x,hq1,hx⟩:=hg
    obtain ⟨⟨old,h1⟩,h4⟩:=st
    obtain ⟨its1,rv1,p1,hz1⟩:=I.list hq1
    obtain ⟨u,hu,ru⟩:=rv1.get hx
    refine wpAny_pyNext_enum_item h1 h4 p1.isList (x:=u) (by simpa using hu) hne fun h' a1 a2 a3 a4 a5=>?_
    refine ⟨_,rfl,wpAny_letOwnedTupleGo_enum a1 fun h'' b1 b2=>?_⟩
    have hne1:s.heap.objs.size≠e:=fun q=>absurd (lt_size h1) (by rw [← q];exact lt_irrefl _)
    have ht:h''.get? s.heap.objs.size=some {cls:=.type "tuple",data:=.seq #[.int i s.toks,u]}:=b2.extBut _ _ hne1 a3
    have I2:=I.turnTup (t':=s.toks+1) (h':=h'') (ch:=[e,it]) (p:=s.heap.objs.size) (xs:=[.int i,x]) (its:=[.int i s.toks,u]) (fun c o hc q=>by
        simp only [mem_cons,not_mem_nil,or_false,not_or] at hc
        exact b2.extBut _ _ hc.1 (a5 c o hc.1 hc.2 q)) (fun c hc=>hf c hc) (le_refl _) (by show 2≤sizeLine;decide) (Zpw ⟨_,rfl⟩ ru) ⟨_,ht,rfl,_,rfl⟩
    refine ⟨.ref s.heap.objs.size,_,I2,rfl,⟨_,rfl,I.hok.fresh (le_refl _),fun xs' e1=>⟨x,by rw [I.list_inj e1 hq1];exact hx,rfl⟩⟩,⟨⟨_,b1⟩,a2.extBut b2.extBut hne.symm⟩,fun c hc=>?_⟩
    rw [Xo]
    · exact (hf c hc).1
    · rintro rfl
      have:∃o,s.heap.get? s.heap.objs.size=some o:=by
        simp only [mem_cons,not_mem_nil,or_false] at hc
        rcases hc with q | q
        · exact ⟨_,by rw [q];exact h1⟩
        · obtain ⟨o,q',_⟩:=h4;exact ⟨o,by rw [q];exact q'⟩
      obtain ⟨o,q⟩:=this
      exact absurd (lt_size q) (lt_irrefl _)
  done:=by
    intro X hP hw hK hc i pins s σ H E I hf st hg
    subst hP hw hK
    obtain ⟨xs,hq1,hl⟩:=hg
    obtain ⟨⟨old,h1⟩,h4⟩:=st
    obtain ⟨its1,rv1,p1,hz1⟩:=I.list hq1
    have l1:=rv1.length
    refine wpAny_pyNext_enum_end (I.ok.hd hc) h1 h4 p1.isList (by simp;omega) fun h' k=>⟨rfl,I.turneds (t':=s.toks) (ch:=[e,it]) (fun c o hc q=>by
        simp only [mem_cons,not_mem_nil,or_false,not_or] at hc
        exact k c o hc.2 q) (fun c hc=>hf c hc)⟩
  self:=fun _ _ _ _ _ st h=>by
    obtain ⟨⟨old,h1⟩,_⟩:=st
    exact wpAny_pyIter_enum h1 h
section
variable {X:Cx}{a b e:Expr}{ta tb te:TE}{elts:List Expr}{x1:Nat}{tpos p pos:Pos}{tg:Expr}
noncomputable def iZip (K:Frag)(ta tb:TE):TI:=fun σ H R=>Zbj ta (Zbj tb Zmh) σ H fun vs H1=>∃p q,vs=[.ref p,.ref q]∧(∃xs,SqL K H1 p xs)∧(∃ys,SqL K H1 q ys)∧R (Itz K p q) H1
noncomputable def Xew (K:Frag)(ta:TE):TI:=fun σ H R=>Zbj ta Zmh σ H fun vs H1=>∃p,vs=[.ref p]∧(∃xs,SqL K H1 p xs)∧R (Ite K p) H1
theorem SqL.lt {pins:List (Addr×Obj)}{σ:St}{H:Hp}{s:Shared}{p:Addr}{xs:List V}(I:Inv X pins σ H s)(h:SqL X.K H p xs):p<s.heap.objs.size:=by
 obtain ⟨its,_,⟨o,n,e,_⟩,_⟩:=I.list h
 exact lt_size e
theorem Xlk (hg:Gl X "zip")(hm:X.mg "zip"=none)(ha:PE X a ta)(hb:PE X b tb)(hs:starEach [a,b] X.env=(false,eval a X.env)::starEach [b] X.env)(hs2:starEach [b] X.env=(false,eval b X.env)::starEach [] X.env)(hs3:starEach ([]:List Expr) X.env=[]:=by rfl) :
  PI X (.Tuple elts x1 tpos) (.Call (.Name "zip" p) [a,b] [] pos) (iZip X.K ta tb):=by
 intro pins s σ H R I h
 refine Call_ (Zez I hg hm boot_zip (PyProof.Rows.callWith_type1 (thn (Zgh ha (Zgh hb Znl hs2) hs pos pins s σ H _ I h) fun us s1 ⟨vs,H1,I1,r1,q1⟩=>?_) (by rw [hs,hs2]) (by rw [hs2,hs3];rfl)))
 obtain ⟨l1,l2,rfl,⟨xs,hq1⟩,⟨ys,hq2⟩,q⟩:=q1
 obtain ⟨u,v,rfl,rx,ry⟩:=vals2 r1
 cases rx
 cases ry
 obtain ⟨its1,rv1,p1,hz1⟩:=I1.list hq1
 obtain ⟨its2,rv2,p2,hz2⟩:=I1.list hq2
 have lt1:@LT.lt Nat _ l1 s1.heap.objs.size:=SqL.lt I1 hq1
 have lt2:@LT.lt Nat _ l2 s1.heap.objs.size:=SqL.lt I1 hq2
 refine call_zip_2 p1.isList p2.isList fun h' z1 z2 z3 z4 z5 z6 z7=>?_
 refine wpAny_pyIter_zip z1 ?_
 have I2:Inv X pins σ H1 {s1 with heap:=h'}:=I1.kept (t':=s1.toks) z7
 refine ⟨_,[s1.heap.objs.size+4,s1.heap.objs.size+2,s1.heap.objs.size+3,s1.heap.objs.size,s1.heap.objs.size+1],_,_,H1,rfl,I2,Zyu (a:=l1) (b:=l2) ?_,⟨z1,z2,⟨_,_,z3⟩,z4,z5⟩,fun c hc=>?_,q⟩
 ·constructor<;>first | exact ne_of_lt (by omega) | exact Nat.ne_of_gt (by omega)
 ·have hc':s1.heap.objs.size≤c:=by
   simp only [mem_cons,not_mem_nil,or_false] at hc
   rcases hc with rfl | rfl | rfl | rfl | rfl<;>first | exact le_refl _ | exact le_add_right _ _
  exact I1.fpOk hc' (I1.hok.fresh hc')
theorem Xfz (hg:Gl X "enumerate")(hm:X.mg "enumerate"=none)(ha:PE X a ta)(hs:starEach [a] X.env=(false,eval a X.env)::starEach [] X.env)(hs3:starEach ([]:List Expr) X.env=[]:=by rfl) :
  PI X (.Tuple elts x1 tpos) (.Call (.Name "enumerate" p) [a] [] pos) (Xew X.K ta):=by
 intro pins s σ H R I h
 refine Call_ (Zez I hg hm boot_enumerate (PyProof.Rows.callWith_type1 (thn (Zgh ha Znl hs pos pins s σ H _ I h) fun us s1 ⟨vs,H1,I1,r1,q1⟩=>?_) (by rw [hs]) (by rw [hs3];rfl)))
 obtain ⟨l1,rfl,⟨xs,hq1⟩,q⟩:=q1
 obtain ⟨u,rfl,rx⟩:=vals1 r1
 cases rx
 obtain ⟨its1,rv1,p1,hz1⟩:=I1.list hq1
 refine call_enumerate_list p1.isList fun h' z1 z4 z6 z7=>?_
 refine wpAny_pyIter_enum z1 ?_
 have I2:Inv X pins σ H1 {s1 with heap:=h'}:=I1.kept (t':=s1.toks) z7
 refine ⟨_,[s1.heap.objs.size+1,s1.heap.objs.size],_,_,H1,rfl,I2,Zuy (a:=l1) (Nat.ne_of_gt (Nat.lt_succ_self _)),⟨⟨_,z1⟩,z4⟩,fun c hc=>?_,q⟩
 have hc':s1.heap.objs.size≤c:=by
   simp only [mem_cons,not_mem_nil,or_false] at hc
   rcases hc with rfl | rfl<;>first | exact le_refl _ | exact le_add_right _ _
 exact I1.fpOk hc' (I1.hok.fresh hc')
end
section
variable {K:Frag}{C:String→Addr}{E:XK}{Γ Δ Γ' Δ':List Nat}{m m1 m2:Nat}{S S1 S2:List (Nat×Bool)}{H:Hp}
theorem RpA.two {d e:D}{v w:V}{A B:List Addr}(r:Rp K C H d v A)(q:Rp K C H e w B):RpA K C H [d,e] [v,w] (A++B):=(RpA.one r).app (RpA.one q)
theorem Zvu {a:Addr}{ds:List D}{vs:List V}{B:List Addr}{Hc:Hp}(r:RpA K C Hc ds vs B)(h:∀H2,Xw Hc H2→SqL K H2 a vs):Goes K C (Ite K a) (Dl.Zir ds) Hc:=fun H2 g=>by
 have q:=h H2 g
 have hl:=r.len
 have he:(Dl.Zir ds).length=ds.length:=by simp [Dl.Zir]
 refine ⟨fun i hi=>⟨vs,vs[i]'(by omega),q,getElem?_eq_getElem (by omega)⟩,fun i hi=>⟨vs,q,by omega⟩,fun i x H3 hi y=>?_⟩
 obtain ⟨p,rfl,hp,y⟩:=y
 obtain ⟨x,hx,rfl⟩:=y vs q
 obtain ⟨d,Bd,q1,q2,q3⟩:=r.get' hx
 have sm:=sameNew hp (.tup [.int i,x])
 refine ⟨sm,.tup [.int i,d],Bd,by simp [Dl.Zir,List.getElem?_mapIdx,q1],⟨p,[.int i,x],rfl,Yd,?_⟩,fun a ha z=>?_⟩
 ·exact ⟨.int i,[x],[],Bd,rfl,⟨rfl,rfl⟩,RpA.one ((q2.same g).same sm),rfl⟩
 ·obtain ⟨xs,e,_⟩:=q2.isl a ha
  rw [e] at z
  cases z
theorem Xcm {a b:Addr}{ds es:List D}{vs ws:List V}{B1 B2:List Addr}{Hc:Hp}(r:RpA K C Hc ds vs B1)(r':RpA K C Hc es ws B2)(h:∀H2,Xw Hc H2→SqL K H2 a vs∧SqL K H2 b ws):Goes K C (Itz K a b) (Dl.Zws ds es) Hc:=fun H2 g=>by
 obtain ⟨qa,qb⟩:=h H2 g
 have hl:=r.len
 have hl':=r'.len
 have he:(Dl.Zws ds es).length=min ds.length es.length:=by simp [Dl.Zws]
 refine ⟨fun i hi=>⟨vs,ws,vs[i]'(by omega),ws[i]'(by omega),qa,qb,getElem?_eq_getElem (by omega),getElem?_eq_getElem (by omega)⟩,fun i hi=>⟨vs,ws,qa,qb,by omega⟩,fun i x H3 hi y=>?_⟩
 obtain ⟨p,rfl,hp,yy⟩:=y
 obtain ⟨x,y,hx,hy,rfl⟩:=yy vs ws qa qb
 obtain ⟨d,Bd,q1,q2,q3⟩:=r.get' hx
 obtain ⟨e,Be,p1,p2,p3⟩:=r'.get' hy
 have sm:=sameNew hp (.tup [x,y])
 refine ⟨sm,.tup [d,e],Bd++Be,by simp [Dl.Zws,List.getElem?_zipWith,q1,p1],⟨p,[x,y],rfl,Yd,RpA.two ((q2.same g).same sm) ((p2.same g).same sm)⟩,fun a ha z=>?_⟩
 rcases List.mem_append.mp ha with ha | ha
 ·obtain ⟨xs,e,_⟩:=q2.isl a ha
  rw [e] at z
  cases z
 ·obtain ⟨xs,e,_⟩:=p2.isl a ha
  rw [e] at z
  cases z
theorem Zyo {t:TE}{f:FE}(h:EOk K C E Γ Δ m S t f):IOk K C E Γ Δ S (Xew K t) (Dl.Zyg f):=fun H0 Hb H σ ρ A Rr I p=>h H0 Hb H σ ρ A _ I (p.bind.imp (fun d q v H' g r=>by
  obtain ⟨B,r,r',_⟩:=r
  cases d with
  | lst ds =>
    obtain ⟨a,xs,B',rfl,e2,e3,e4⟩:=r
    subst e4
    simp only at q
    split at q
    · rename_i hl
      refine ⟨a,rfl,⟨xs,SqL.of e2⟩,q _ H' (a::B') g (fun b hb=>?_) (by simpa [Dl.Zir] using hl) fun Hc h1=>Zvu (e3.agree h1 fun b hb=>.tail _ hb) fun H2 g2=>SqL.of (g2 _ _ ((h1.1 a (.head _)).trans e2))⟩
      rcases List.mem_cons.mp hb with z | z
      · rw [z]
        exact ⟨⟨_,e2,.lst⟩,r' a (.head _)⟩
      · exact ⟨e3.isl b z,r' b (.tail _ z)⟩
    · exact q.elim
  | _=>exact q.elim) fun c x q H' g'=>q H' g')
theorem Xgr {t u:TE}{f f':FE}(h:EOk K C E Γ Δ m1 S1 t f)(h':EOk K C E Γ Δ m2 S2 u f'):IOk K C E Γ Δ (S1++S2) (iZip K t u) (Dl.Xht f f'):=fun H0 Hb H σ ρ A Rr I p=>h H0 Hb H σ ρ A _ I (p.bind.imp (fun d q v H1 g1 r=>h' H0 Hb H1 σ ρ A _ (I.mono g1) (q.bind.imp (fun e q w H2 g2 r2=>by
  obtain ⟨B,r,r',_⟩:=r
  obtain ⟨B2,r2,r2',_⟩:=r2
  cases d with
  | lst ds =>
    cases e with
    | lst es =>
      obtain ⟨a,xs,B',rfl,e2,e3,e4⟩:=r
      obtain ⟨b,ys,B2',rfl,f2,f3,f4⟩:=r2
      subst e4 f4
      simp only at q
      split at q
      · rename_i hl
        refine ⟨a,b,rfl,⟨xs,SqL.of (g2 _ _ e2)⟩,⟨ys,SqL.of f2⟩,q _ H2 (a::B'++b::B2') (g1.trans g2) (fun c hc=>?_) (by simp only [Dl.Zws,List.length_zipWith];omega) fun Hc h1=>Xcm ((e3.same g2).agree h1 fun b hb=>mem_append_left _ (.tail _ hb)) (f3.agree h1 fun b hb=>mem_append_right _ (.tail _ hb)) fun H2' g2' =>
          ⟨SqL.of (g2' _ _ ((h1.1 a (mem_append_left _ (.head _))).trans (g2 _ _ e2))),SqL.of (g2' _ _ ((h1.1 b (mem_append_right _ (.head _))).trans f2))⟩⟩
        rcases List.mem_append.mp hc with z | z
        · refine ⟨?_,(r' c z).imp id (·.left)⟩
          rcases List.mem_cons.mp z with z | z
          · rw [z];exact ⟨_,g2 _ _ e2,.lst⟩
          · obtain ⟨zs,q,hm⟩:=e3.isl c z;exact ⟨zs,g2 _ _ q,hm⟩
        · refine ⟨?_,(r2' c z).imp (fun q=>g1.free q) (·.right)⟩
          rcases List.mem_cons.mp z with z | z
          · rw [z];exact ⟨_,f2,.lst⟩
          · exact f3.isl c z
      · exact q.elim
    | _=>exact q.elim
  | _=>cases e<;>exact q.elim) fun c x q H' g'=>q H' (g1.trans g'))) fun c x q H' g'=>q H' g')
end
section
variable {X:Cx}{C:String→Addr}{E:XK}{Γ Δ Γ' Δ':List Nat}{m m1 m2:Nat}{S S1 S2:List (Nat×Bool)}{a b e:Expr}{ta tb te:TE}{fa fb fe:FE}{elts:List Expr}{x1:Nat}{tpos p pos:Pos}{tg:Expr}
theorem Zuj (hg:Gl X "zip")(hm:X.mg "zip"=none)(ha:JE X C E Γ Δ m1 S1 a ta fa)(hb:JE X C E Γ Δ m2 S2 b tb fb)(hs:starEach [a,b] X.env=(false,eval a X.env)::starEach [b] X.env)(hs2:starEach [b] X.env=(false,eval b X.env)::starEach [] X.env) :
  JI X C E Γ Δ (S1++S2) (.Tuple elts x1 tpos) (.Call (.Name "zip" p) [a,b] [] pos) (iZip X.K ta tb) (Dl.Xht fa fb):=⟨⟨Xlk hg hm ha.q.out hb.q.out hs hs2⟩,Xgr ha.o hb.o⟩
theorem Xgx (hg:Gl X "enumerate")(hm:X.mg "enumerate"=none)(ha:JE X C E Γ Δ m1 S1 a ta fa)(hs:starEach [a] X.env=(false,eval a X.env)::starEach [] X.env) :
  JI X C E Γ Δ S1 (.Tuple elts x1 tpos) (.Call (.Name "enumerate" p) [a] [] pos) (Xew X.K ta) (Dl.Zyg fa):=⟨⟨Xfz hg hm ha.q.out hs⟩,Zyo ha.o⟩
end
section
variable {X:Cx}
def Xkq:List V→Hp→VK→Prop:=fun vs H Q=>∃b,vs=[.bl b]∧Q (.int (if b=true then 1 else 0)) H
theorem Znb:Zav X (.type "int") Xkq:=by
 intro pins s σ H xs us Q I r h
 obtain ⟨b,rfl,q⟩:=h
 obtain ⟨u,rfl,rx⟩:=vals1 r
 cases rx
 exact call_int_bool ⟨.int (if b=true then 1 else 0),H,I.tok _,⟨_,rfl⟩,q⟩
def Zwh (K:Frag):List V→Hp→VK→Prop:=fun vs H Q=>∃(a:Addr) (ns:List Int),vs=[.ref a]∧SqL K H a (ns.map V.int)∧ns.length<64∧∀(ns':List Int) (r:Addr),ns'.Perm ns→ns'.Pairwise (·≤·)→H r=none→Q (.ref r) (upd H r (.lst (ns'.map V.int)))
theorem Zoj:Zav X (.builtin "sorted") (Zwh X.K):=by
 intro pins s σ H xs us Q I r h
 obtain ⟨a,ns,rfl,hq,hl,q⟩:=h
 obtain ⟨u,rfl,rx⟩:=vals1 r
 cases rx
 obtain ⟨its,rv,p,hz⟩:=I.list hq
 have hlen:=rv.length
 rw [length_map] at hlen
 refine sorted_ints p.isList (intsAre_of rv) (by omega) fun out ns' h1 h2 h3=>?_
 obtain ⟨e,he⟩:=sortedAll_at s.heap its out
 have hn:H (s.heap.objs.size+1)=none:=I.hok.fresh (le_succ _)
 have hv:=Zdi h1
 have hl':=hv.length
 have I2:=I.laid (t':=s.toks) (o:=.lst (ns'.map V.int)) (h':=sortedAll s.heap its out) (fun b o q=>sortedAll_old q) (le_succ _) ⟨by rw [length_map,h2.length_eq];exact le_of_lt (lt_of_lt_of_le hl (by decide)),out.toList,e,hv,by simpa [seqObj] using he⟩
 exact ⟨.ref (s.heap.objs.size+1),_,I2,rfl,q ns' _ h2 h3 hn⟩
variable {K:Frag}{C:String→Addr}{E:XK}{Γ Δ Γ' Δ' Γ1 Δ1 Γl Δl Γk Δk:List Nat}{m m1 m2 m3 mr:Nat}{S S1 S2 S3:List (Nat×Bool)}{H:Hp}{Q:VK}
theorem Zum:GAk K C Xkq Dl.Xdv:=by
 intro H xs d vs Bx Q r e q
 unfold Dl.Xdv at e
 split at e
 ·rename_i b
  cases e
  obtain ⟨v,rfl,r1⟩:=r.one'
  obtain ⟨rfl,_⟩:=r1
  exact ⟨b,rfl,Out.flat q rpI⟩
 ·cases e
theorem Zrn {ns ns':List Int}(h:ns'.Perm ns)(o:ns'.Pairwise (·≤·)):ns'=Dl.sortI ns:=by
 refine PySem.W.ksm_same (h.trans (List.mergeSort_perm ns _).symm) o ?_
 have:=List.pairwise_mergeSort (le:=fun a b:Int=>decide (a≤b)) (fun a b c h1 h2=>by simp at *;omega) (fun a b=>by simp;omega) ns
 exact this.imp fun h=>by simpa using h
theorem Zzf:GAk K C (Zwh K) Dl.Ztg:=by
 intro H xs d vs Bx Q r e q
 unfold Dl.Ztg at e
 split at e
 ·rename_i ds
  obtain ⟨ns,h1,h2⟩:=Option.bind_eq_some_iff.mp e
  split at h2
  ·rename_i hl
   cases h2
   obtain ⟨v,rfl,r1⟩:=r.one'
   obtain ⟨a,ys,B,rfl,e2,e3,_⟩:=r1
   have z:=RpA.ofInts e3 h1
   subst z
   refine ⟨a,ns,rfl,SqL.of e2,hl,fun ns' r hp ho hr=>?_⟩
   rw [Zrn hp ho]
   exact Out.lst q RpA.ints hr
  ·cases h2
 ·cases e
theorem Zvl {i j:Nat}{r:R2}{g:D→D→Option D}{ta:TE}{fa:FE}(hg:GOk K C r g)(ha:EOk K C E Γ Δ m1 S1 ta fa)(hj:j∈Γ:=by decide)(hij:i≠j:=by decide)(h1:∀k∈Γ',k=i∨k∈Γ:=by decide)(h2:∀k∈Δ',k=i∨k∈Δ:=by decide) :
    SOk K C E mr Γl Δl Γ Δ Γ' Δ' (Zgr (tOp r ta (tBM0 K "list" rPop (Zmr j))) (Yj i)) (Dl.Znn i j g fa):=fun H0 Hb H σ ρ A D I p=>by
  refine ha H0 Hb H σ ρ A _ I (Yc.imp (Yc.bind p) (fun x q v H1 g1 rx=>?_) fun c x q H' g'=>q H' (Xw.from0 I g'))
  have I1:=I.mono g1
  unfold Dl.Zuq at q
  split at q
  · rename_i k ds e
    split at q
    · rename_i n en
      split at q
      · rename_i z ez
        split at q
        · rename_i hfl
          obtain ⟨a,xs,l,s1,hh,r1,hA,hl⟩:=Zqv I1 e
          obtain ⟨Bx,rx,_⟩:=rx
          obtain ⟨rfl,_⟩:=rx
          have hle:=r1.len
          have hne:ds≠[]:=by rintro rfl;cases en
          have hlen:0<ds.length:=List.length_pos_iff.mpr hne
          rw [List.getLast?_eq_getElem?] at en
          obtain ⟨y,By,q1,q2,_⟩:=r1.get en
          obtain ⟨rfl,_⟩:=q2
          obtain ⟨A',I'⟩:=I1.rewrite (Xw.refl _) hj hA hl s1 (es:=ds.dropLast) (ys:=xs.dropLast) (B':=[]) (by
            rw [List.dropLast_eq_take,List.dropLast_eq_take,hle]
            exact RpA.flatTake hfl r1 _) (fun _ hb=>nomatch hb) fun _=>nodup_nil
          refine ⟨.ref a,s1,.inl ⟨rfl,xs,SqL.of hh⟩,a,xs,.int n,rfl,rfl,hh,by rw [hle];exact q1,?_⟩
          refine hg _ (.int k) (.int n) (.int z) (.int k) (.int n) [] [] _ rpI rpI ez fun w H3 B g3 rw hn hB=>?_
          obtain ⟨rfl,rfl⟩:=rw
          obtain ⟨A2,I2,_⟩:=(I'.mono g3).put (Γ':=Γ') (Δ':=Δ') (i:=i) (d:=.int z) (v:=.int z) (B:=[]) rpI (fun j hj e=>⟨(h1 j hj).elim (fun z=>absurd z e) id,fun _ _ _ z=>nomatch z⟩)
            (fun _=>⟨(fun _ z=>nomatch z),(fun _ _ z=>nomatch z)⟩) (fun j hj e=>⟨(h2 j hj).elim (fun z=>absurd z e) id,fun _ _ z=>nomatch z⟩) (fun _=>⟨nodup_nil,(fun _ _ _ z=>nomatch z),(fun _ z=>nomatch z)⟩)
          exact q _ H3 A2 I2
        · exact q.elim
      · exact q.elim
    · exact q.elim
  · exact q.elim
variable {kx e:Expr}{tk te:TE}{p p2 pos:Pos}{x:Str}{i:Nat}
end
section
variable {X:Cx}{C:String→Addr}{E:XK}{Γ Δ Γ' Δ' Γ1 Δ1 Γl Δl Γk Δk:List Nat}{m m1 m2 m3 mr:Nat}{S S1 S2 S3:List (Nat×Bool)}{a b c e st o tg iter:Expr}{es rest:List Expr}{ta tb tc te ts tk:TE}{fa fb fc fe fs fk:FE}{t:TA}{f:FA}{pos p p2 apos cpos pos' bpos:Pos}{n:Nat}
theorem Zyq {i j:Nat}{x y:Str}{op:Operator}{r:R2}{g:D→D→Option D}(ho:OpR X (binaryOp op) r)(hg:GOk X.K C r g)(hN:X.N.Nodup)(hi:X.N[i]?=some x)(hx:Loc X.env.scope x)(ha:JE X C E Γ Δ m1 S1 a ta fa)
  (hj:j∈Γ:=by decide) (hij:i≠j:=by decide) (hNy:X.N[j]?=some y:=by rfl) (hv:autoParam (Vis X.env.scope y) aT3._auto_1) (hd:(y==("__debug__":Str))=false:=by decide) (hcd:(y==("__classdict__":Str))=false:=by decide)
  (hbase:attributeBase (.Name y p) "pop" X.env (eval (.Name y p) X.env)=eval (.Name y p) X.env:=by rfl) (hline:(apos.endLine==cpos.line)=true:=by rfl)
  (hs:swapsWith (.BinOp a op (.Call (.Attribute (.Name y p) "pop" apos) [] [] cpos) bpos) (some (.Name x pos')) pos.line X.env=pure false:=by rfl) (hf:autoParam (X.fn x=true∨X.env.scope.names.lookup x=some .local) aT0._auto_1)
  (h1:∀k∈Γ',k=i∨k∈Γ:=by decide) (h2:∀k∈Δ',k=i∨k∈Δ:=by decide) :
  JS X C E mr Γl Δl Γ Δ Γ' Δ' (.Assign [.Name x pos'] (.BinOp a op (.Call (.Attribute (.Name y p) "pop" apos) [] [] cpos) bpos) pos) (Zgr (tOp r ta (tBM0 X.K "list" rPop (Zmr j))) (Yj i)) (Dl.Znn i j g fa):=
 ⟨Zmu hN hi hx (Xlw ho ha.q (Xkh PySem.F.plainAttrs_list PySem.F.slot_list_pop PySem.F.type_list_pop Xnq (qv j hNy hv hd hcd) hbase hline)) hs hf,Zvl hg ha.o hj hij h1 h2⟩
end
def Zxd (K:Frag):List V→Hp→VK→Prop:=fun vs H Q=>∃(a:Addr) (ns:List Int),vs=[.ref a]∧SqL K H a (ns.map V.int)∧ns.length<64∧∀(ns':List Int) (r:Addr),ns'.Perm ns→ns'.Pairwise (·≥·)→H r=none→Q (.ref r) (upd H r (.lst (ns'.map V.int)))
section
variable {X:Cx}{e:Expr}{te:TE}{p pos cp kp:Pos}{k:Nat}
theorem Xbb (hg:Gl X "sorted")(hm:X.mg "sorted"=none)(he:PE X e te)(hs:starEach [e] X.env=(false,eval e X.env)::starEach [] X.env)(hs3:starEach ([]:List Expr) X.env=[]:=by rfl) :
  PE X (.Call (.Name "sorted" p) [e] [⟨some "reverse",.Constant (.bool true) k cp,kp⟩] pos) (tCB (Zxd X.K) (Zbj te Zmh)):=by
 intro pins s σ H Q I h
 refine wpAny_Call_Name_kw (Zez I hg hm boot_sorted ?_ (by decide) (by decide))
 refine callWith_kw (thn (Zgh he Znl hs pos pins s σ H _ I h) fun us s1 ⟨vs,H1,I1,r1,q1⟩=>?_) (by rw [hs,hs3];rfl) (by rw [hs,hs3];rfl) rfl rfl
 obtain ⟨a,ns,rfl,hq,hl,q⟩:=q1
 obtain ⟨u,rfl,rx⟩:=vals1 r1
 cases rx
 obtain ⟨its,rv,pl,hz⟩:=I1.list hq
 have hlen:=rv.length
 rw [length_map] at hlen
 refine kws_cons (thn (Xmd pins s1 σ H1 (fun y H2=>y=.bl true∧H2=H1) I1 ⟨rfl,rfl⟩) fun u s2 ⟨y,H2,I2,ry,ey,eH⟩=>?_)
 subst ey eH
 cases ry
 refine kws_nil ?_
 obtain ⟨its2,rv2,pl2,hz2⟩:=I2.list hq
 have hlen2:=rv2.length
 rw [length_map] at hlen2
 refine sorted_ints_rev (b:=true) pl2.isList (intsAre_of rv2) (by omega) fun out ns' h1 h2 h3=>?_
 obtain ⟨e,he⟩:=sortedAll_at s2.heap its2 out
 have hn:H2 (s2.heap.objs.size+1)=none:=I2.hok.fresh (le_succ _)
 have hv:=Zdi h1
 have I3:=I2.laid (t':=s2.toks) (o:=.lst (ns'.map V.int)) (h':=sortedAll s2.heap its2 out) (fun b o q=>sortedAll_old q) (le_succ _) ⟨by rw [length_map,h2.length_eq];exact le_of_lt (lt_of_lt_of_le hl (by decide)),out.toList,e,hv,by simpa [seqObj] using he⟩
 exact ⟨.ref (s2.heap.objs.size+1),_,I3,rfl,q ns' _ h2 (by simpa [Ordered] using h3) hn⟩
end
section
variable {K:Frag}{C:String→Addr}{E:XK}{Γ Δ Γ' Δ' Γ1 Δ1 Γl Δl Γk Δk:List Nat}{m m1 m2 m3 mr:Nat}{S S1 S2 S3:List (Nat×Bool)}{H:Hp}{Q:VK}
theorem Zxq:GAk K C (Zxd K) Dl.Zjs:=by
 intro H xs d vs Bx Q r e q
 unfold Dl.Zjs at e
 split at e
 ·rename_i ds
  obtain ⟨ns,h1,h2⟩:=Option.bind_eq_some_iff.mp e
  split at h2
  ·rename_i hl
   cases h2
   obtain ⟨v,rfl,r1⟩:=r.one'
   obtain ⟨a,ys,B,rfl,e2,e3,_⟩:=r1
   have z:=RpA.ofInts e3 h1
   subst z
   refine ⟨a,ns,rfl,SqL.of e2,hl,fun ns' r hp ho hr=>?_⟩
   have e':=Zrn (ns:=ns) (ns':=ns'.reverse) ((List.reverse_perm _).trans hp) (List.pairwise_reverse.mpr ho)
   rw [← List.reverse_reverse ns',e']
   exact Out.lst q RpA.ints hr
  ·cases h2
 ·cases e
end
section
variable {X:Cx}{C:String→Addr}{E:XK}{Γ Δ Γ' Δ' Γ1 Δ1 Γl Δl Γk Δk:List Nat}{m m1 m2 m3 mr:Nat}{S S1 S2 S3:List (Nat×Bool)}{a b c e st o tg iter:Expr}{es rest:List Expr}{ta tb tc te ts:TE}{fa fb fc fe fs:FE}{pos p p2 apos cpos pos' cp kp:Pos}{k:Nat}
theorem Xbc (K:Frag)(hg:Gl X "sorted")(hm:X.mg "sorted"=none)(he:JE X C E Γ Δ m S e te fe)(hs:starEach [e] X.env=(false,eval e X.env)::starEach [] X.env)(hK:X.K=K:=by rfl) :
  JE X C E Γ Δ 2 [] (.Call (.Name "sorted" p) [e] [⟨some "reverse",.Constant (.bool true) k cp,kp⟩] pos) (tCB (Zxd K) (Zbj te Zmh)) (Dl.fA Dl.Zjs (Dl.Zc fe Dl.Zt)):=by
 subst hK
 exact ⟨⟨Xbb hg hm he.q.out hs⟩,Zvm Zxq (Zqh he.o Zvt)⟩
variable {pins:List (Addr×Obj)}{σ:St}{H:Hp}{s:Shared}
end
section
variable {X:Cx}{C:String→Addr}{E:XK}{Γ Δ Γ' Δ' Γk Δk:List Nat}{m mr:Nat}{S:List (Nat×Bool)}{c tg iter:Expr}{body:List Stmt}{u:TS}{g:FS}{pos:Pos}
end
section
variable {K:Frag}{C:String→Addr}{E:XK}{Γ Δ Γ' Δ' Γ1 Δ1 Γl Δl:List Nat}{m m1 m2 mr:Nat}{S S1 S2:List (Nat×Bool)}{H:Hp}
theorem Xhb {i j:Nat}{t:TA}{f:FA}{bs:List D→Ym→R Ym}(hn:∀ρ ds,f ρ=.ok ds→ds.length=2)(ha:AOk K C E Γ Δ 2 [] t f)(hb:BsN K C Γ Δ Γ' Δ' (Zcb (Yj i) (Zcb (Yj j) Zqr)) bs) :
  SOk K C E mr Γl Δl Γ Δ Γ' Δ' (tPar i j t) (Dl.Zof (Dl.fA Dl.Zdy f) (Dl.Zdb bs)):=fun H0 Hb H σ ρ A D I p=>by
 have p1:=Yc.bind (Yc.bind p)
 cases ef:f ρ with
 | bad=>rw [ef] at p1;exact p1.elim
 | err c x =>
  rw [ef] at p1
  refine ha H0 Hb H σ ρ A _ I ?_
  rw [ef]
  exact fun H' g'=>p1 H' (Xw.from0 I g')
 | ok ds =>
  rw [ef] at p1
  have hl:=hn ρ ds ef
  have eg:Dl.Zdy ds=some (.tup ds):=by unfold Dl.Zdy;rw [if_pos (by rw [hl];show 2≤1000000;omega)]
  have p2:Yc ((Dl.oR (Dl.Zdy ds))) _ _:=p1
  rw [eg] at p2
  have q':=Zbn (Yc.bind p2)
  refine ha H0 Hb H σ ρ A _ I ?_
  rw [ef]
  intro vs H1 g1 r
  obtain ⟨B,r1,r2,r4⟩:=r
  have hn':∀a∈B,H a=none:=fun a ha=>(r2 a ha).elim id fun z=>z.none.elim
  have:=hb H0 Hb H1 σ ρ A ds vs B D.nx (I.mono g1) r1 (r4 rfl) (fun a ha=>⟨I.same.free (hn' a ha),fun j z=>I.ne z (hn' a ha)⟩) (Yc.imp q' (fun ρ' q σ' A' I'=>q σ' H1 A' I') fun _ _ z=>z)
  obtain ⟨v,l,rfl,w,l2,rfl,rfl,q⟩:=this
  exact ⟨v,w,rfl,q⟩
end
section
variable {X:Cx}{C:String→Addr}{E:XK}{Γ Δ Γ' Δ' Γl Δl:List Nat}{m mr:Nat}{a b:Expr}{t:TA}{f:FA}{p p1 p2 pos pt2:Pos}{x y:Str}{i j k k2:Nat}
theorem Xdw (hc:X.calm=true)(hN:X.N.Nodup)(hi:X.N[i]?=some x)(hj:X.N[j]?=some y)(ha:JA X C E Γ Δ 2 [] [a,b] 2 t f)(hb:JN X C Γ Δ Γ' Δ' [.Name x p1,.Name y p2] 2 (Zcb (Yj i) (Zcb (Yj j) Zqr)) (Dl.Xh (Dl.Zn i) (Dl.Xh (Dl.Zn j) Dl.Zcv)))
  (hij:i≠j:=by decide) (hx:X.env.scope.names.lookup x=some .local:=by rfl) (hy:X.env.scope.names.lookup y=some .local:=by rfl)
  (hw:swappedStores [.Tuple [.Name x p1,.Name y p2] k p] (.Tuple [a,b] k2 pt2) X.env=pure (some [x,y]):=by rfl) (hs:swapsWithSole [.Tuple [.Name x p1,.Name y p2] k p] (.Tuple [a,b] k2 pt2) pos.line X.env=pure false:=by rfl) :
  JS X C E mr Γl Δl Γ Δ Γ' Δ' (.Assign [.Tuple [.Name x p1,.Name y p2] k p] (.Tuple [a,b] k2 pt2) pos) (tPar i j t) (Dl.Zof (Dl.fA Dl.Zdy f) (Dl.Zdb (Dl.Xh (Dl.Zn i) (Dl.Xh (Dl.Zn j) Dl.Zcv)))):=
 ⟨⟨Xks hc hN hi hj hij hx hy ha.q.out hw hs⟩,Xhb ha.n ha.o hb.o⟩
end
section
variable {K:Frag}{C:String→Addr}{E:XK}{Γ Δ Γ' Δ' Γ1 Δ1 Γl Δl Γk Δk:List Nat}{m m1 m2 m3 mr:Nat}{S S1 S2 S3:List (Nat×Bool)}{H:Hp}{Q:VK}
theorem RpA.one_of:∀{ds:List D} {vs:List V} {B:List Addr} {j:Nat} {d:D},RpA K C H ds vs B→ds[j]?=some d→∃B1 Bj B2 v,B=B1++(Bj++B2)∧vs[j]?=some v∧Rp K C H d v Bj∧
    ∀(W:Addr→Prop) H2 d' Bj',Ext W H H2→(∀a∈B1++B2,¬W a)→Rp K C H2 d' v Bj'→RpA K C H2 (ds.set j d') vs (B1++(Bj'++B2))
  | [],_,_,_,_,_,h=>by simp at h
  | d0::ds,_,_,0,d,r,h=>by
    obtain ⟨x,l,B,B',e1,e2,e3,e4⟩:=r
    simp only [List.getElem?_cons_zero,Option.some.injEq] at h
    subst h e1 e4
    exact ⟨[],B,B',x,rfl,rfl,e2,fun W H2 d' Bj' he hn r'=>⟨x,l,Bj',B',rfl,r',e3.ext he fun a ha=>hn a ha,rfl⟩⟩
  | d0::ds,_,_,j+1,d,r,h=>by
    obtain ⟨x,l,B,B',e1,e2,e3,e4⟩:=r
    simp only [List.getElem?_cons_succ] at h
    obtain ⟨B1,Bj,B2,v,q1,q2,q3,q4⟩:=RpA.one_of e3 h
    subst e1 e4 q1
    refine ⟨B++B1,Bj,B2,v,by rw [append_assoc],by simpa using q2,q3,fun W H2 d' Bj' he hn r'=>?_⟩
    exact ⟨x,l,B,B1++(Bj'++B2),rfl,e2.ext he fun a ha=>hn a (by simp [ha]),q4 W H2 d' Bj' he (fun a ha=>hn a (by
      rcases List.mem_append.mp ha with z | z
      · simp [z]
      · simp [z])) r',by rw [append_assoc]⟩
noncomputable def AtP (K:Frag)(H:Hp):V→List Int→Addr→Prop
 | v,[],b=>v=.ref b
 | v,n::r,b=>∃p xs u,v=.ref p∧(H p=some (.lst xs)∨H p=some (.tup xs))∧atI xs n=some u∧AtP K H u r b
theorem Zis {α:Type}{xs:List α}{n:Int}{j:Nat}{u:α}(hj:Dl.ixD xs.length n=some j)(hu:xs[j]?=some u):atI xs n=some u:=by
 show Dl.atD xs n=some u
 unfold Dl.atD
 rw [hj]
 exact hu
theorem Rp.path {f:List D→Option (List D)}:∀{path:List Int} {d d':D} {v:V} {A:List Addr},Rp K C H d v A→A.Nodup→Dl.Zhc f path d=some d'→
    ∃b ys ds es l A1 A2,AtP K H v path b∧H b=some (.lst ys)∧RpA K C H ds ys l∧f ds=some es∧A=A1++(b::l++A2)∧
      ∀H2 zs l',(∀a o,a≠b→H a=some o→H2 a=some o)→H2 b=some (.lst zs)→RpA K C H2 es zs l'→Rp K C H2 d' v (A1++(b::l'++A2))
  | [],d,d',v,A,r,nd,h=>by
    cases d with
    | lst ds =>
      obtain ⟨es,h1,h2⟩:=Option.map_eq_some_iff.mp (show (f ds).map D.lst=some d' from h)
      subst h2
      obtain ⟨a,xs,B,rfl,e2,e3,rfl⟩:=r
      exact ⟨a,xs,ds,es,B,[],[],rfl,e2,e3,h1,by simp,fun H2 zs l' hk hb r'=>⟨a,zs,l',rfl,hb,r',by simp⟩⟩
    | _=>cases h
  | n::path,d,d',v,A,r,nd,h=>by
    cases d with
    | lst xs =>
      obtain ⟨j,hj,h⟩:=Option.bind_eq_some_iff.mp (show (Dl.ixD xs.length n).bind (fun j=>xs[j]?.bind fun d=>(Dl.Zhc f path d).map fun d'=>D.lst (xs.set j d'))=some d' from h)
      obtain ⟨d0,hd,h⟩:=Option.bind_eq_some_iff.mp h
      obtain ⟨d1,hu,h2⟩:=Option.map_eq_some_iff.mp h
      subst h2
      obtain ⟨a,vs,B,rfl,e2,e3,rfl⟩:=r
      have hl:=e3.len
      obtain ⟨nda,ndB⟩:=List.nodup_cons.mp nd
      obtain ⟨B1,Bj,B2,w,rfl,hw,rw,up⟩:=e3.one_of hd
      have ndj:Bj.Nodup:=(List.nodup_append.mp (List.nodup_append.mp ndB).2.1).1
      obtain ⟨b,ys,ds,es,l,A1,A2,p1,p2,p3,p4,rfl,p6⟩:=Rp.path rw ndj hu
      refine ⟨b,ys,ds,es,l,a::(B1++A1),A2++B2,⟨a,vs,w,rfl,.inl e2,Zis (by rw [hl];exact hj) hw,p1⟩,p2,p3,p4,by simp,fun H2 zs l' hk hb r'=>?_⟩
      have hba:a≠b:=by rintro rfl;exact nda (by simp)
      have r2:=up (fun c=>c=b) H2 d1 _ (fun c o ho=>by
        by_cases e:c=b
        · subst e
          rw [p2] at ho
          cases ho
          exact .inr ⟨rfl,.lst⟩
        · exact .inl (hk c o e ho)) (fun c hc e=>by
          subst e
          have q1:=(List.nodup_append.mp ndB)
          have q2:=(List.nodup_append.mp q1.2.1)
          rcases List.mem_append.mp hc with z | z
          · exact q1.2.2 c z c (by simp) rfl
          · exact q2.2.2 c (by simp) c z rfl) (p6 H2 zs l' hk hb r')
      exact ⟨a,vs,_,rfl,hk a _ hba e2,r2,by simp⟩
    | tup xs =>
      obtain ⟨j,hj,h⟩:=Option.bind_eq_some_iff.mp (show (Dl.ixD xs.length n).bind (fun j=>xs[j]?.bind fun d=>(Dl.Zhc f path d).map fun d'=>D.tup (xs.set j d'))=some d' from h)
      obtain ⟨d0,hd,h⟩:=Option.bind_eq_some_iff.mp h
      obtain ⟨d1,hu,h2⟩:=Option.map_eq_some_iff.mp h
      subst h2
      obtain ⟨a,vs,rfl,e2,e3⟩:=r
      have hl:=e3.len
      obtain ⟨B1,Bj,B2,w,rfl,hw,rw,up⟩:=e3.one_of hd
      have ndj:Bj.Nodup:=(List.nodup_append.mp (List.nodup_append.mp nd).2.1).1
      obtain ⟨b,ys,ds,es,l,A1,A2,p1,p2,p3,p4,rfl,p6⟩:=Rp.path rw ndj hu
      refine ⟨b,ys,ds,es,l,B1++A1,A2++B2,⟨a,vs,w,rfl,.inr e2,Zis (by rw [hl];exact hj) hw,p1⟩,p2,p3,p4,by simp,fun H2 zs l' hk hb r'=>?_⟩
      have hba:a≠b:=by rintro rfl;rw [e2] at p2;cases p2
      have r2:=up (fun c=>c=b) H2 d1 _ (fun c o ho=>by
        by_cases e:c=b
        · subst e
          rw [p2] at ho
          cases ho
          exact .inr ⟨rfl,.lst⟩
        · exact .inl (hk c o e ho)) (fun c hc e=>by
          subst e
          have q1:=(List.nodup_append.mp nd)
          have q2:=(List.nodup_append.mp q1.2.1)
          rcases List.mem_append.mp hc with z | z
          · exact q1.2.2 c z c (by simp) rfl
          · exact q2.2.2 c (by simp) c z rfl) (p6 H2 zs l' hk hb r')
      exact ⟨a,vs,rfl,hk a _ hba e2,by simpa using r2⟩
    | _=>cases h
theorem AtP.same {H H':Hp}(g:Xw H H'):∀{path:List Int} {v:V} {b:Addr},AtP K H v path b→AtP K H' v path b
 | [],_,_,h=>h
 | n::r,v,b,h=>by
  obtain ⟨p,xs,u,e,hq,ha,h⟩:=h
  exact ⟨p,xs,u,e,hq.imp (fun q=>g _ _ q) (fun q=>g _ _ q),ha,AtP.same g h⟩
theorem Zy.deepWrite {H0 Hb H:Hp}{σ:St}{ρ:Ym}{A:Nat→List Addr}{i:Nat}{d':D}{v:V}{b:Addr}{zs:List V}{A':List Addr}(I:Zy K C H0 Hb H Γ Δ σ ρ A)(hi:i∈Δ)(hl:i<ρ.length)(hs:σ[i]?=some (some v))(hb:b∈A i)
  (r:Rp K C (upd H b (.lst zs)) d' v A') (nd:A'.Nodup) (hA:∀a∈A',a∈A i∨(Hb a=Option.none∧∀j,a∉A j)) :
  Zy K C H0 Hb (upd H b (.lst zs)) Γ Δ σ (ρ.set i (some d')) (fun j=>if j=i then A' else A j):=by
 obtain ⟨d1,d2,d3⟩:=I.deep i hi
 obtain ⟨xs,hxs,hm⟩:=I.is hb
 have hA2:∀a∈A',Hb a=Option.none∧∀j,j≠i→a∉A j:=fun a ha=>(hA a ha).elim (fun z=>⟨d3 a z,fun j hj=>d2 j hj a z⟩) fun z=>⟨z.1,fun j _=>z.2 j⟩
 have ext:Ext (fun c=>c=b) H (upd H b (.lst zs)):=fun c o h=>by
  by_cases e:c=b
  ·subst e
   rw [hxs] at h
   cases h
   exact .inr ⟨rfl,hm⟩
  ·rw [Xo e]
   exact .inl h
 refine ⟨I.s0,fun c o h=>?_,by rw [length_set,I.len],fun j e h=>?_,fun j h=>?_,fun j hj c hc=>?_,fun j hj c l' e=>?_,fun j hj=>?_⟩
 ·rw [Xo (Xf h (d3 b hb))]
  exact I.same c o h
 ·rcases get_set h with ⟨e1,_,e2⟩ | ⟨e1,e2⟩
  ·subst e1
   cases e2
   exact ⟨v,hs,by rw [if_pos rfl];exact r⟩
  ·obtain ⟨w,q1,q2⟩:=I.rep j e e2
   refine ⟨w,q1,?_⟩
   rw [if_neg e1]
   exact q2.ext ext fun c hc z=>by subst z;exact d2 j e1 c hb hc
 ·by_cases e:j=i
  ·subst e
   exact absurd (getElem?_set_self hl) (h d')
  ·rw [if_neg e]
   exact I.nil j fun x hx=>h x (by rw [getElem?_set_ne (fun z=>e z.symm)];exact hx)
 ·by_cases e:j=i
  ·subst e
   rw [if_pos rfl] at hc
   exact I.s0.free (hA2 c hc).1
  ·rw [if_neg e] at hc
   exact I.loc j hj c hc
 ·by_cases e':j=i
  ·subst e'
   rw [if_pos rfl] at e
   subst e
   refine ⟨(hA2 c (.head _)).1,(List.nodup_cons.mp nd).1,fun k hk=>?_⟩
   rw [if_neg hk]
   exact (hA2 c (.head _)).2 k hk
  ·rw [if_neg e'] at e
   obtain ⟨t1,t2,t3⟩:=I.top j hj c l' e
   refine ⟨t1,t2,fun k hk=>?_⟩
   by_cases ek:k=i
   ·subst ek
    rw [if_pos rfl]
    exact fun z=>(hA2 c z).2 j (fun w=>hk w.symm) (by rw [e];exact .head _)
   ·rw [if_neg ek]
    exact t3 k hk
 ·by_cases e':j=i
  ·subst e'
   simp only [if_true]
   refine ⟨nd,fun k hk a ha=>?_,fun a ha=>(hA2 a ha).1⟩
   rw [if_neg hk]
   exact (hA2 a ha).2 k hk
  ·simp only [if_neg e']
   obtain ⟨t1,t2,t3⟩:=I.deep j hj
   refine ⟨t1,fun k hk a ha=>?_,t3⟩
   by_cases ek:k=i
   ·subst ek
    rw [if_pos rfl]
    exact fun z=>(hA2 a z).2 j (fun w=>hk w.symm) ha
   ·rw [if_neg ek]
    exact t2 k hk a ha
theorem Zy.pathApp {H0 Hb H:Hp}{σ:St}{ρ:Ym}{A:Nat→List Addr}{i:Nat}{d d' e:D}{path:List Int}(I:Zy K C H0 Hb H Γ Δ σ ρ A)(hi:i∈Δ)(hd:ρ[i]?=some (some d))(hu:Dl.Zhc (Dl.Zgc e) path d=some d') :
  ∃v b ys,σ[i]?=some (some v)∧AtP K H v path b∧H b=some (.lst ys)∧ys.length<sizeLine∧∀H2 w B,Xw H H2→Rp K C H2 e w B→B.Nodup→(∀a∈B,Hb a=Option.none∧∀j,a∉A j)→
   ∃A',Zy K C H0 Hb (upd H2 b (.lst (ys++[w]))) Γ Δ σ (ρ.set i (some d')) A'∧∀j,j≠i→A' j=A j:=by
 obtain ⟨v,hs,r⟩:=I.rep i d hd
 obtain ⟨d1,d2,d3⟩:=I.deep i hi
 obtain ⟨b,ys,ds,es,l,A1,A2,p1,p2,p3,p4,p5,p6⟩:=r.path d1 hu
 unfold Dl.Zgc at p4
 split at p4
 ·rename_i hz
  cases p4
  have hbA:b∈A i:=by rw [p5];simp
  refine ⟨v,b,ys,hs,p1,p2,by rw [p3.len];exact Zhm hz,fun H2 w B g re nB hB=>?_⟩
  have hbB:b∉B:=fun z=>(hB b z).2 i hbA
  have I2:=I.mono g
  have p2':=g _ _ p2
  have r3:RpA K C (upd H2 b (.lst (ys++[w]))) (ds++[e]) (ys++[w]) (l++B):=by
   have ext:Ext (fun c=>c=b) H2 (upd H2 b (.lst (ys++[w]))):=fun c o h=>by
    by_cases e:c=b
    ·subst e
     rw [p2'] at h
     cases h
     exact .inr ⟨rfl,.lst⟩
    ·rw [Xo e]
     exact .inl h
   have hbl:b∉l:=by
    rw [p5] at d1
    have:=(List.nodup_append.mp d1).2.1
    rw [List.cons_append] at this
    exact fun z=>(List.nodup_cons.mp this).1 (mem_append_left _ z)
   exact ((p3.same g).ext ext fun a ha z=>hbl (by rw [← z];exact ha)).app (RpA.one (re.ext ext fun a ha z=>hbB (by rw [← z];exact ha)))
  have r4:=p6 (upd H2 b (.lst (ys++[w]))) (ys++[w]) (l++B) (fun a o ha h=>by rw [Xo ha];exact g _ _ h) Yd r3
  have hsub:∀a∈A1++(b::(l++B)++A2),a∈A i∨(Hb a=Option.none∧∀j,a∉A j):=fun a ha=>by
   rw [p5]
   simp only [List.mem_append,mem_cons] at ha ⊢
   rcases ha with z | (z | z | z) | z
   ·exact .inl (.inl z)
   ·exact .inl (.inr (.inl (.inl z)))
   ·exact .inl (.inr (.inl (.inr z)))
   ·exact .inr (hB a z)
   ·exact .inl (.inr (.inr z))
  have nd:(A1++(b::(l++B)++A2)).Nodup:=by
   have pm:(A1++(b::(l++B)++A2)).Perm (A i++B):=by
    rw [p5]
    simp only [List.cons_append,append_assoc]
    refine List.Perm.append_left _ (List.Perm.cons _ (List.Perm.append_left _ ?_))
    exact List.perm_append_comm
   refine pm.nodup_iff.mpr (List.nodup_append.mpr ⟨d1,nB,fun x hx y hy e=>?_⟩)
   subst e
   exact (hB x hy).2 i hx
  exact ⟨_,I2.deepWrite hi (List.getElem?_eq_some_iff.mp hd).1 hs hbA r4 nd hsub,fun j hj=>if_neg hj⟩
 ·cases p4
theorem Zro {H:Hp}{v:V}{n:Int}{path:List Int}{b:Addr}{Q:VK}(h:AtP K H v (n::path) b)(q:∀u,AtP K H u path b→Q u H):rIx K v (.int n) H Q:=by
 obtain ⟨p,xs,u,rfl,hq,ha,h⟩:=h
 rcases hq with hq | hq
 ·exact .inl ⟨p,xs,n,u,rfl,rfl,SqL.of hq,ha,q u h⟩
 ·exact .inr (.inl ⟨p,xs,n,u,rfl,rfl,SqT.of hq,ha,q u h⟩)
theorem Res.new' {H1 H2:Hp}{H0 Hb H:Hp}{σ:St}{ρ:Ym}{A A2:Nat→List Addr}{e:D}{w:V}(I:Zy K C H0 Hb H Γ Δ σ ρ A)(g:Xw H H1)(r:Res K C 2 [] H1 A2 e w H2):∃B,Rp K C H2 e w B∧B.Nodup∧∀a∈B,Hb a=Option.none∧∀j,a∉A j:=by
 obtain ⟨B,r1,r2,_,r4⟩:=r
 have hn:∀a∈B,H a=Option.none:=fun a ha=>g.free ((r2 a ha).elim id fun z=>z.none.elim)
 exact ⟨B,r1,r4 rfl,fun a ha=>⟨I.same.free (hn a ha),fun j z=>I.ne z (hn a ha)⟩⟩
theorem Xal {i:Nat}{ks:FA}{fe:FE}{ρ:Ym}{ok:Fl→Prop}{er:String→Option Int→Prop}(p:Yc (Dl.Zne i ks fe ρ) ok er):∃d zs path e d',ρ[i]?=some (some d)∧ks ρ=.ok zs∧Dl.intsOf zs=some path∧fe ρ=.ok e∧Dl.Zhc (Dl.Zgc e) path d=some d'∧ok (.nx (ρ.set i (some d'))):=by
  unfold Dl.Zne at p
  split at p
  · rename_i d ed
    cases ek:ks ρ with
    | bad=>rw [ek] at p;exact p.elim
    | err c x=>rw [ek] at p;exact p.elim
    | ok zs =>
      rw [ek] at p
      have p:Yc (match Dl.intsOf zs with
        | some path=>(fe ρ).calm.bind fun v=>match Dl.Zhc (Dl.Zgc v) path d with
          | some d'=>.ok (Fl.nx (ρ.set i (some d')))
          | none=>.bad
        | none=>.bad) _ _:=p
      split at p
      · rename_i path ep
        cases ef:fe ρ with
        | bad=>rw [ef] at p;exact p.elim
        | err c x=>rw [ef] at p;exact p.elim
        | ok e =>
          rw [ef] at p
          have p:Yc (match Dl.Zhc (Dl.Zgc e) path d with
            | some d'=>.ok (Fl.nx (ρ.set i (some d')))
            | none=>.bad) _ _:=p
          split at p
          · rename_i d' eu
            exact ⟨d,zs,path,e,d',ed,rfl,ep,rfl,eu,p⟩
          · exact p.elim
      · exact p.elim
  · exact p.elim
theorem Zrl {a:FE}{r:FA}{ρ:Ym}{zs:List D}(h:Dl.Zc a r ρ=.ok zs):∃x xs,zs=x::xs∧a ρ=.ok x∧r ρ=.ok xs:=by
 unfold Dl.Zc at h
 cases e:a ρ with
 | bad=>rw [e] at h;cases h
 | err c x=>rw [e] at h;cases h
 | ok x =>
  rw [e] at h
  cases e2:r ρ with
  | bad=>rw [e2] at h;cases h
  | err c x=>rw [e2] at h;cases h
  | ok xs =>
   rw [e2] at h
   cases h
   exact ⟨x,xs,rfl,rfl,rfl⟩
theorem Zug {i:Nat}{tk tl te:TE}{fk fl fe:FE}(hi:i∈Δ:=by decide)(hk:EOk K C E Γ Δ m1 S1 tk fk)(hl:EOk K C E Γ Δ m2 S2 tl fl)(he:EOk K C E Γ Δ 2 [] te fe) :
  SOk K C E mr Γl Δl Γ Δ Γ Δ (Zms (tBM K "list" Zcr (tOp (rIx K) (tOp (rIx K) (Zmr i) tk) tl) (Zbj te Zmh))) (Dl.Zne i (Dl.Zc fk (Dl.Zc fl Dl.Zt)) fe):=fun H0 Hb H σ ρ A D I p=>by
 obtain ⟨d,zs,path,e,d',ed,ek0,ep,ef,eu,q⟩:=Xal p
 obtain ⟨y,r,rfl,ek,er⟩:=Zrl ek0
 obtain ⟨z,r2,rfl,el,er2⟩:=Zrl er
 cases er2
 have en:∃n k,y=.int n∧z=.int k∧path=[n,k]:=by
  cases y<;>simp only [Dl.intsOf] at ep<;>try cases ep
  cases z<;>simp only [Dl.intsOf] at ep<;>try cases ep
  exact ⟨_,_,rfl,rfl,rfl⟩
 obtain ⟨n,k,rfl,rfl,rfl⟩:=en
 obtain ⟨v,b,ys,hs,hat,hb,hz,up⟩:=I.pathApp hi ed eu
 refine ⟨v,hs,hk H0 Hb H σ ρ A _ I ?_⟩
 rw [ek]
 intro w H1 g1 ry
 obtain ⟨By,ry,_⟩:=ry
 obtain ⟨rfl,_⟩:=ry
 refine Zro (hat.same g1) fun u hu=>hl H0 Hb H1 σ ρ A _ (I.mono g1) ?_
 rw [el]
 intro w1 H2 g2 rz
 obtain ⟨Bz,rz,_⟩:=rz
 obtain ⟨rfl,_⟩:=rz
 refine Zro (hu.same g2) fun u hu=>?_
 have hu:u=.ref b:=hu
 subst hu
 have g12:=g1.trans g2
 refine ⟨.inl ⟨rfl,ys,SqL.of (g12 _ _ hb)⟩,he H0 Hb H2 σ ρ A _ (I.mono g12) ?_⟩
 rw [ef]
 intro w2 H3 g3 re
 obtain ⟨B,re,nB,hB⟩:=Res.new' I g12 re
 obtain ⟨A',I',_⟩:=up H3 w2 B (g12.trans g3) re nB hB
 exact ⟨b,ys,w2,rfl,rfl,g3 _ _ (g12 _ _ hb),hz,q σ _ A' I'⟩
theorem Zy.dead {H0 Hb H:Hp}{σ:St}{ρ:Ym}{A:Nat→List Addr}{j:Nat}{σ':St}(I:Zy K C H0 Hb H Γ Δ σ ρ A)(hσ:σ'.length=σ.length)(hk:∀k,k≠j→σ'[k]?=σ[k]?)(h1:j∉Γ)(h2:j∉Δ):Zy K C H0 Hb H Γ Δ σ' (ρ.set j Option.none) (fun k=>if k=j then [] else A k):=by
 refine ⟨I.s0,I.same,by rw [length_set,hσ,I.len],fun k e h=>?_,fun k h=>?_,fun k hk a ha=>?_,fun k hk a l e=>?_,fun k hk=>?_⟩
 ·rcases get_set h with ⟨e1,_,e2⟩ | ⟨e1,e2⟩
  ·cases e2
  ·obtain ⟨w,q1,q2⟩:=I.rep k e e2
   exact ⟨w,(hk k e1).trans q1,by rw [if_neg e1];exact q2⟩
 ·by_cases e:k=j
  ·rw [if_pos e]
  ·rw [if_neg e]
   exact I.nil k fun x hx=>h x (by rw [getElem?_set_ne (fun z=>e z.symm)];exact hx)
 ·have e:k≠j:=fun z=>h1 (by rw [← z];exact hk)
  rw [if_neg e] at ha
  exact I.loc k hk a ha
 ·have e':k≠j:=fun z=>h1 (by rw [← z];exact hk)
  rw [if_neg e'] at e
  obtain ⟨t1,t2,t3⟩:=I.top k hk a l e
  refine ⟨t1,t2,fun i hi=>?_⟩
  by_cases ei:i=j
  ·rw [if_pos ei];exact fun z=>nomatch z
  ·rw [if_neg ei];exact t3 i hi
 ·have e':k≠j:=fun z=>h2 (by rw [← z];exact hk)
  simp only [if_neg e']
  obtain ⟨t1,t2,t3⟩:=I.deep k hk
  refine ⟨t1,fun i hi a ha=>?_,t3⟩
  by_cases ei:i=j
  ·rw [if_pos ei];exact fun z=>nomatch z
  ·rw [if_neg ei];exact t2 i hi a ha
end
section
variable {X:Cx}{C:String→Addr}{E:XK}{Γ Δ Γ' Δ' Γ1 Δ1 Γl Δl Γk Δk:List Nat}{m m1 m2 m3 mr:Nat}{S S1 S2 S3:List (Nat×Bool)}{a b c e st o tg iter kx lx:Expr}{es rest:List Expr}{ta tb tc te ts tk tl:TE}{fa fb fc fe fs fk fl:FE}{pos p p1 p2 apos cpos pos':Pos}{n:Nat}
theorem Zrs {i:Nat}{x:Str}(hk:JE X C E Γ Δ m1 S1 kx tk fk)(hs:Zca kx)(hl:JE X C E Γ Δ m2 S2 lx tl fl)(hs2:Zca lx)(he:JE X C E Γ Δ 2 [] e te fe)(hse:starEach [e] X.env=(false,eval e X.env)::starEach [] X.env)(hi:i∈Δ:=by decide)(hN:X.N[i]?=some x:=by rfl)(hv:autoParam (Vis X.env.scope x) aT3._auto_1)(hd:(x==("__debug__":Str))=false:=by decide)(hcd:(x==("__classdict__":Str))=false:=by decide)
  (hbase:attributeBase (.Subscript (.Subscript (.Name x p) kx p1) lx p2) "append" X.env (eval (.Subscript (.Subscript (.Name x p) kx p1) lx p2) X.env)=eval (.Subscript (.Subscript (.Name x p) kx p1) lx p2) X.env:=by rfl)
  (hfew:((backTo cpos (starEach [e] X.env)).all (fun x=>!x.1)&&(backToKw cpos (keywordEach [] X.env)).all (fun x=>x.1.isSome)&&decide (([e]:List Expr).length+([]:List Keyword).length+(if ([]:List Keyword).isEmpty then 0 else 1)<30))=true:=by rfl)
  (hline:(apos.endLine==cpos.line)=true:=by rfl) (hplain:(backTo cpos (starEach ([]:List Expr) X.env)).any (·.1)=false:=by rfl) (hsw:swapsWith (.Call (.Attribute (.Subscript (.Subscript (.Name x p) kx p1) lx p2) "append" apos) [e] [] cpos) none pos.line X.env=pure false:=by rfl) :
  JS X C E mr Γl Δl Γ Δ Γ Δ (.Expr (.Call (.Attribute (.Subscript (.Subscript (.Name x p) kx p1) lx p2) "append" apos) [e] [] cpos) pos) (Zms (tBM X.K "list" Zcr (tOp (rIx X.K) (tOp (rIx X.K) (Zmr i) tk) tl) (Zbj te Zmh))) (Dl.Zne i (Dl.Zc fk (Dl.Zc fl Dl.Zt)) fe):=
 ⟨Zou (Xel PySem.F.plainAttrs_list PySem.F.slot_list_append PySem.F.type_list_append Zdf (Zxj Znx (Zxj Znx (qv i hN hv hd hcd) hk.q hs) hl.q hs2) (Zdl he.q Zme hse) hbase hfew hline hse hplain) hsw,Zug hi hk.o hl.o he.o⟩
end
section
variable {K:Frag}{C:String→Addr}{E:XK}{Γ Δ Γ' Δ' Γ1 Δ1 Γl Δl Γk Δk:List Nat}{m m1 m2 m3 mr:Nat}{H:Hp}{Q:VK}
end
section
variable {X:Cx}{C:String→Addr}{E:XK}{Γ Δ Γ' Δ' Γl Δl:List Nat}{mr:Nat}{pos p p2 apos cpos:Pos}
end
section
variable {prog:Program}{w:World}{A:Around}{E:Value→Shared→Prop}{s:Shared}{a₀:Array Keyed}
variable {X:Cx}
variable {K:Frag}{C:String→Addr}
end
section
variable {K:Frag}{C:String→Addr}{E:XK}{Γ Δ Γ' Δ' Γl Δl:List Nat}{m mr:Nat}{S:List (Nat×Bool)}
def BsZ (K:Frag)(C:String→Addr)(g:TGs)(b:List D→Ym→R Ym):Prop:=∀(H0 Hb H:Hp) (σ:St) (ρ:Ym) (A:Nat→List Addr) (d:List D) (v:List V) (B:List Addr) (Rr:St→Hp→Prop),Zy K C H0 Hb H [] [] σ ρ A→RpA K C H d v B→
 Yc (b d ρ) (fun ρ'=>∀σ' A',Zy K C H0 Hb H [] [] σ' ρ' A'→Rr σ' H) (fun _ _=>False)→g v σ H Rr
theorem Xhk:BsZ K C Zqr Dl.Zcv:=fun H0 Hb H σ ρ A d v B Rr I r p=>by
 cases d with
 | nil=>exact ⟨r.1,p _ A I⟩
 | cons _ _=>exact p.elim
theorem Zqe {i:Nat}{gs:TGs}{bs:List D→Ym→R Ym}(h2:BsZ K C gs bs):BsZ K C (Zcb (Yj i) gs) (Dl.Xh (Dl.Zn i) bs):=fun H0 Hb H σ ρ A d v B Rr I r p=>by
 cases d with
 | nil=>exact p.elim
 | cons d ds =>
  obtain ⟨x,l,B1,B2,e1,e2,e3,e4⟩:=r
  subst e1 e4
  obtain ⟨A',I',_⟩:=I.put (Γ':=[]) (Δ':=[]) (i:=i) e2 (fun j hj=>nomatch hj) (fun hj=>nomatch hj) (fun j hj=>nomatch hj) (fun hj=>nomatch hj)
  exact ⟨x,l,rfl,h2 H0 Hb H _ _ A' ds l B2 Rr I' e3 p⟩
theorem Zow {te:TE}{gs:TGs}{fe:FE}{bs:List D→Ym→R Ym}{n:Nat}(hn:∀ds ρ ρ',bs ds ρ=.ok ρ'→ds.length=n)(he:EOk K C E Γ Δ m S te fe)(hb:BsZ K C gs bs):SOk K C E mr Γl Δl Γ Δ [] [] (Zgr te (Zdy K n gs)) (Dl.Zof fe (Dl.Zdb bs)):=fun H0 Hb H σ ρ A D I p=>by
 refine he H0 Hb H σ ρ A _ I (Yc.imp (Yc.bind p) (fun d q v H1 g1 r=>?_) fun c x q H' g'=>q H' (Xw.from0 I g'))
 obtain ⟨B,r1,_⟩:=r
 have q':=Zbn (Yc.bind q)
 cases d with
 | tup ds =>
  obtain ⟨a,xs,rfl,e2,e3⟩:=r1
  have q'':Yc (bs ds ρ) (fun ρ'=>∀σ' H' A',Zy K C H0 Hb H' [] [] σ' ρ' A'→D.nx σ' H') (fun _ _=>False):=q'
  have hl:xs.length=n:=by
   rw [e3.len]
   cases e:bs ds ρ with
   | ok ρ'=>exact hn ds ρ ρ' e
   | err _ _=>rw [e] at q'';exact q''.elim
   | bad=>rw [e] at q'';exact q''.elim
  exact ⟨a,xs,rfl,SqT.of e2,hl,hb H0 Hb H1 σ ρ A ds xs B D.nx ((I.mono g1).weak (fun _ h=>nomatch h) (fun _ h=>nomatch h)) e3 (Yc.imp q'' (fun ρ' q σ' A' I'=>q σ' H1 A' I') fun _ _ z=>z)⟩
 | _=>exact q'.elim
end
section
variable {X:Cx}{C:String→Addr}{E:XK}{Γ Δ Γ' Δ' Γl Δl:List Nat}{m mr:Nat}{S:List (Nat×Bool)}{e:Expr}{te:TE}{fe:FE}{p p1 p2 pos:Pos}{x y:Str}{i j k:Nat}
theorem Ztk (hc:X.calm=true)(he:JE X C E Γ Δ m S e te fe)(hb:JN X C [] [] [] [] [.Name x p1,.Name y p2] 2 (Zcb (Yj i) (Zcb (Yj j) Zqr)) (Dl.Xh (Dl.Zn i) (Dl.Xh (Dl.Zn j) Dl.Zcv)))(hn:(assignEach [.Name x p1,.Name y p2] X.env).length=2:=by rfl)(hst:(assignEach [.Name x p1,.Name y p2] X.env).findIdx? (·.1)=none:=by rfl)
  (hs:swapsWithSole [.Tuple [.Name x p1,.Name y p2] k p] e pos.line X.env=pure false:=by rfl) (hw:swappedStores [.Tuple [.Name x p1,.Name y p2] k p] e X.env=pure none:=by rfl) (h1:(assignEach [.Tuple [.Name x p1,.Name y p2] k p] X.env).map (·.2)=[assign (.Tuple [.Name x p1,.Name y p2] k p) X.env]:=by rfl) :
  JS X C E mr Γl Δl Γ Δ [] [] (.Assign [.Tuple [.Name x p1,.Name y p2] k p] e pos) (Zgr te (Zdy X.K 2 (Zcb (Yj i) (Zcb (Yj j) Zqr)))) (Dl.Zof fe (Dl.Zdb (Dl.Xh (Dl.Zn i) (Dl.Xh (Dl.Zn j) Dl.Zcv)))):=⟨Xdi he.q (Zur hc hb.q hn hst) hs hw h1,Zow hb.n he.o (Zqe (Zqe Xhk))⟩
variable {tg:Expr}
end
section
variable {K:Frag}{C:String→Addr}{E:XK}{Γ Δ:List Nat}{m:Nat}{S:List (Nat×Bool)}{H:Hp}
end
section
variable {X:Cx}{C:String→Addr}{E:XK}{Γ Δ:List Nat}{m n:Nat}{S:List (Nat×Bool)}{tg a b c:Expr}{t:TA}{f:FA}{p pos:Pos}
end
section
variable {K:Frag}{C:String→Addr}
end
end L2
namespace L2
open PySem PySem.Spec PyProof.Rows
open Dl (D R FE FT FA FO FS FI FB Fl FM FMT)
section
variable {K:Frag}{C:String→Addr}{E:XK}{Γ Δ Γ' Δ' Γ1 Δ1 Γl Δl:List Nat}{m m1 m2 mr n:Nat}{S S1 S2:List (Nat×Bool)}{H:Hp}
def MOk (K:Frag)(C:String→Addr)(E:XK)(Γ Δ:List Nat)(t:TE)(f:FM):Prop:=∀(H0 Hb H:Hp) (σ:St) (ρ:Ym) (A:Nat→List Addr) (Q:VK),Zy K C H0 Hb H Γ Δ σ ρ A→
 Yc (f ρ) (fun p=>∀v H' A' B,Zy K C H0 Hb H' Γ Δ σ p.2 A'→Rp K C H' p.1 v B→B.Nodup→(∀a∈B,Hb a=none∧∀j,a∉A' j)→Q v H') (fun c x=>∀H',Xw H0 H'→EC C E c x H')→t σ H Q
def MTOk (K:Frag)(C:String→Addr)(E:XK)(Γ Δ:List Nat)(t:TT)(f:FMT):Prop:=∀(H0 Hb H:Hp) (σ:St) (ρ:Ym) (A:Nat→List Addr) (Q:Bool→Hp→Prop),Zy K C H0 Hb H Γ Δ σ ρ A→
 Yc (f ρ) (fun p=>∀H' A',Zy K C H0 Hb H' Γ Δ σ p.2 A'→Q p.1 H') (fun c x=>∀H',Xw H0 H'→EC C E c x H')→t σ H Q
def SOkP (K:Frag)(C:String→Addr)(E:XK)(Γ Δ Γ' Δ':List Nat)(t:TS)(f:FS):Prop:=∀(H0 Hb H:Hp) (σ:St) (ρ:Ym) (A:Nat→List Addr) (D:Ends),Zy K C H0 Hb H Γ Δ σ ρ A→
  Yc (f ρ) (fun fl=>match fl with
    | .nx ρ'=>∀σ' H' A',σ'[0]?=σ[0]?→Zy K C H0 Hb H' Γ' Δ' σ' ρ' A'→D.nx σ' H'
    | _=>False) (fun c x=>∀H',Xw H0 H'→EC C E c x H')→t D σ H
def MBOk (K:Frag)(C:String→Addr)(E:XK)(Γ Δ:List Nat)(t:TS)(G:FM):Prop:=∀(H0 Hb H:Hp) (σ:St) (ρ:Ym) (A:Nat→List Addr) (D:Ends) (Q:VK),Zy K C H0 Hb H Γ Δ σ ρ A→D.rt=Q→(D.nx=fun _ H'=>Q .non H')→
 Yc (G ρ) (fun p=>∀v H' σ' A' B,σ'[0]?=σ[0]?→Zy K C H0 Hb H' [0] [0] σ' p.2 A'→Rp K C H' p.1 v B→B.Nodup→(∀a∈B,Hb a=none∧∀j,a∉A' j)→Q v H') (fun c x=>∀H',Xw H0 H'→EC C E c x H')→t D σ H
end
structure JM (X:Cx)(C:String→Addr)(E:XK)(Γ Δ:List Nat)(e:Expr)(t:TE)(f:FM):Prop where
 q:QE X e t
 o:MOk X.K C E Γ Δ t f
structure JMT (X:Cx)(C:String→Addr)(E:XK)(Γ Δ:List Nat)(e:Expr)(t:TT)(f:FMT):Prop where
 q:QT X e t
 o:MTOk X.K C E Γ Δ t f
structure JMW (X:Cx)(C:String→Addr)(E:XK)(Γ Δ:List Nat)(e:Expr)(t:TT)(f:FMT):Prop where
 q:QW X e t
 o:MTOk X.K C E Γ Δ t f
structure JP (X:Cx)(C:String→Addr)(E:XK)(Γ Δ Γ' Δ':List Nat)(s:Stmt)(t:TS)(f:FS):Prop where
 q:QS X s t
 o:SOkP X.K C E Γ Δ Γ' Δ' t f
structure JMB (X:Cx)(C:String→Addr)(E:XK)(Γ Δ:List Nat)(s:List Stmt)(t:TS)(f:FM):Prop where
 q:QSs X s t
 o:MBOk X.K C E Γ Δ t f
structure MDef (P:Program)(w:World)(K:Frag)(mg:Str→Option Value)(base:Heap)(CX:CXT)(k:Nat)(C:Addr)(x:Str)(ps:List Str)(sp:Sp):Prop where
 ex:∃f fd,Meth K C x f∧Binds K fd ps []∧Zam P w K mg base CX k f fd ps sp
structure MkDef (P:Program)(w:World)(K:Frag)(mg:Str→Option Value)(base:Heap)(CX:CXT)(k:Nat)(C:Addr)(ps:List Str)(sp:Sp):Prop where
 ex:∃f fd,Mk K C f∧Binds K fd ps []∧Zam P w K mg base CX k f fd ps sp
section
variable {X:Cx}{C:String→Addr}{E:XK}{Γ Δ Γ' Δ' Γ1 Δ1 Γl Δl:List Nat}{m m1 m2 mr n:Nat}{S S1 S2:List (Nat×Bool)}{a b e o:Expr}{es rest:List Expr}{te:TE}{fe:FE}{t:TA}{fa:FA}{pos p p2 apos cpos:Pos}{c:String}{f md x:Str}{CX:CXT}{k:Nat}{ps:List Str}{s:Stmt}{ss:List Stmt}{tm:TE}{fm:FM}{u:TS}{g:FS}
end
section
variable {K:Frag}{C:String→Addr}{E:XK}{Γ Δ Γ' Δ' Γ1 Δ1 Γl Δl:List Nat}{m m1 m2 mr n:Nat}{S S1 S2:List (Nat×Bool)}{H:Hp}
end
section
variable {X:Cx}{C:String→Addr}{E:XK}{Γ Δ Γ' Δ' Γl Δl:List Nat}{m1 m2 n:Nat}{S2:List (Nat×Bool)}{a b e:Expr}{es:List Expr}{ta tb:TE}{fa fb:FE}{t:TA}{ff:FA}{pos p p2 cpos:Pos}{x y:Str}{CX:CXT}{k:Nat}{ps:List Str}
end
theorem allN0 {P:List Value→Prop}(h:P []):∀us:List Value,us.length=0→P us
 | [],_=>h
theorem Xaz {P:List Value→Prop}(h:∀a0,P [a0])(us:List Value)(hl:us.length=1):P us:=by
 cases us with
 | nil=>exact absurd hl (by decide)
 | cons a us=>exact allN0 (P:=fun z=>P (a::z)) (h a) us (Nat.succ.inj hl)
theorem Zfg {P:List Value→Prop}(h:∀a0 a1,P [a0,a1])(us:List Value)(hl:us.length=2):P us:=by
 cases us with
 | nil=>exact absurd hl (by decide)
 | cons a us=>exact Xaz (P:=fun z=>P (a::z)) (h a) us (Nat.succ.inj hl)
theorem Zgz {P:List Value→Prop}(h:∀a0 a1 a2,P [a0,a1,a2])(us:List Value)(hl:us.length=3):P us:=by
 cases us with
 | nil=>exact absurd hl (by decide)
 | cons a us=>exact Zfg (P:=fun z=>P (a::z)) (h a) us (Nat.succ.inj hl)
theorem Zwz {P:List Value→Prop}(h:∀a0 a1 a2 a3,P [a0,a1,a2,a3])(us:List Value)(hl:us.length=4):P us:=by
 cases us with
 | nil=>exact absurd hl (by decide)
 | cons a us=>exact Zgz (P:=fun z=>P (a::z)) (h a) us (Nat.succ.inj hl)
theorem Xko {P:List Value→Prop}(h:∀a0 a1 a2 a3 a4,P [a0,a1,a2,a3,a4])(us:List Value)(hl:us.length=5):P us:=by
 cases us with
 | nil=>exact absurd hl (by decide)
 | cons a us=>exact Zwz (P:=fun z=>P (a::z)) (h a) us (Nat.succ.inj hl)
theorem Xbt {q:Program}{loose:List Str}{XP:(Str→Option Value)→Heap→Prop}{K:Params→Frag}{as:List Addr}{n t:Nat}{r:PySem.W.RowW}{d:DefRec}{kwd:List (Str×Expr)}{run:Value→List Value→Sem Value}
  (e:∀P,as=(K P).map (·.1)) (W:PySem.W.WalkO q loose XP (PySem.W.InK K) r d kwd run):PySem.W.WalkX q loose XP (PySem.W.X.obsZ as) (PySem.W.X.valZ K n t) r d kwd run:=
 fun w s₀ s₁ mg mb G y a o pm cd doc dV kV ho hd hcd hD hmg hg args vals as' L hpre hlay hrd hwl hlo =>
  W w s₀ s₁ mg mb G (PySem.W.InK.keeps w _ _ (PySem.W.X.z_facts e y).2.1 (PySem.W.Laid.keeps L)) a o pm cd doc dV kV ho hd hcd hD hmg hg args vals as' hpre hlay hrd hwl hlo
end L2
namespace L2
open PySem PySem.Spec PyProof.Rows
open Dl (D R FE FT FA FO FS FI FB Fl)
section
variable {K:Frag}{C:String→Addr}{E:XK}{Γ Δ Γ' Δ' Γl Δl:List Nat}{mr:Nat}
end
section
variable {X:Cx}{C:String→Addr}{E:XK}{Γ Δ Γl Δl:List Nat}{m2 mr n k:Nat}{S2:List (Nat×Bool)}{es:List Expr}{t:TA}{ff:FA}{pos p p2 p3 cpos:Pos}{x y:Str}{CX:CXT}{ps:List Str}
end
end L2
namespace L2
open PySem PySem.Spec PyProof.Rows
noncomputable def Xjt (K:Frag)(C:Addr)(bmB:List Value)(newId:String)(fI:Addr):Bool:=match K.lookup C with
  | some ⟨.type "type",_,.cls cd,sl⟩=>(match cd.mro,sl.toList with
    | .ref C'::bm,[_,_,_,_,some (.builtin n),_]=>C'==C&&n==newId&&!cd.hasDel&&cd.hasDict&&PySem.W.tailIn K bmB bm&&PySem.W.nsOkIn K cd.ns&&nsIn K cd.ns "__init__"==some (some (.ref fI))
    | _,_=>false)
  | _=>false
section
variable {prog:Program}{w:World}{A:Around}{E:Value→Shared→Prop}{h:Heap}{g:Array GenState}{d:Drawn}{t:Nat}{os:OsState}
variable {nm q:Str}{C N:Addr}{bs bm bmB:List Value}{hdct:Bool}{sn:List Str}{sub:List Value}{ab:Bool}{col:Option Bool}{dd:Option Addr}{k0 k1 k2 k3 k5:Option Value}{B newId initId:String}
end
section
variable {prog:Program}{w:World}{A:Around}{E:Value→Shared→Prop}{s:Shared}{env:Env}
variable {nm q:Str}{C N:Addr}{bs bm bmB:List Value}{hdct:Bool}{sn:List Str}{sub:List Value}{ab:Bool}{col:Option Bool}{dd:Option Addr}{k0 k1 k2 k3 k5:Option Value}{B newId initId:String}
end
end L2
namespace L2
open PySem PySem.Spec PyProof.Rows
open PySem.W (Looks)
open Builtin Builtin.ObjectAttr
section
variable {prog:Program}{w:World}{A:Around}{E:Value→Shared→Prop}{h:Heap}{g:Array GenState}{d:Drawn}{t:Nat}{os:OsState}
variable {nm q:Str}{C N x:Addr}{bs bm bmB:List Value}{sn:List Str}{sub:List Value}{ab:Bool}{col:Option Bool}{dd:Option Addr}{k0 k1 k2 k3 k5:Option Value}{B newId sa owner:String}
 {name:Str} {v:Value} {fs:Array Value} {sl:Array (Option Value)}
end
end L2
namespace L2
open PySem PySem.Spec PyProof.Rows
open PySem.W (Looks)
section
variable {prog:Program}{w:World}{A:Around}{E:Value→Shared→Prop}{h:Heap}{g:Array GenState}{d:Drawn}{t:Nat}{os:OsState}
variable {nm q:Str}{C N x:Addr}{bs bm bmB:List Value}{hdct:Bool}{sn:List Str}{sub:List Value}{ab:Bool}{col:Option Bool}{dd:Option Addr}{k0 k1 k2 k3 k5:Option Value}{B newId initId:String}
end
section
variable {prog:Program}{w:World}{A:Around}{E:Value→Shared→Prop}{h:Heap}{g:Array GenState}{d:Drawn}{t:Nat}{os:OsState}{a C dx:Addr}{o:Obj}{vs:Array Value}{mA:Str→Option Value}{v:Value}{name:Str}
end
end L2
namespace L2
open PySem PySem.Spec PyProof.Rows
open Dl (D R FE FT FA FO FS FI FB Fl)
structure ErrF (K:Frag)(C:Addr)(nm:Str)(fI:Addr):Prop where
 exc:Xjt K C bmV "ValueError.__new__" fI=true
 sa:findIn K (.ref C) "__setattr__"=some (some (.builtin "object.__setattr__"))
 nf:findIn K (.ref C) nm=some none
 hd:PySem.W.hasDictIn K C=true
noncomputable def exA (e C:Addr)(dx:Option Addr):HO:=.ext fun h=>∃t sl,h.get? e=some {cls:=.ref C,dict:=dx,data:=.fields #[.ref t,.none,.none,.none,.bool false,.none],slots:=sl}
section
variable {X:Cx}{pins:List (Addr×Obj)}{σ:St}{H:Hp}{s:Shared}
end
structure BaseI (K:Frag)(B:Addr):Prop where
 sp:specialIn K (.ref B) "__getattribute__"=some (some (.builtin "type.__getattribute__"))
 rd:PySem.W.readsIn K B (.type "type")=true
 fc:PySem.W.findCls K (.ref B) (.type "type") "__init__"=some (.val (.builtin "ValueError.__init__"))
section
variable {X:Cx}{e o value:Expr}{es:List Expr}{t:TA}{ta tv:TE}{pos pos' apos np:Pos}{b f:Str}{B:Addr}
end
noncomputable def Xlt (K:Frag)(nm:Str):Sp:=fun vs H Q _=>∃e C i fI,vs=[.ref e,.int i]∧H e=some (exA e C none)∧ErrF K C nm fI∧i.natAbs.log2<1920∧∀d,H d=none→Q .non (upd (upd H d (.xd [(nm,.int i)])) e (exA e C (some d)))
section
variable {P:Program}{w:World}{K:Frag}{mg:Str→Option Value}{base:Heap}
structure IDef (P:Program)(w:World)(K:Frag)(mg:Str→Option Value)(base:Heap)(C:Addr)(nm:Str):Prop where
 ex:∃fI fd ps,ErrF K C nm fI∧typeIn K (.ref fI)=some (.type "function")∧ps.length=2∧Binds K fd ps []∧Zam P w K mg base CX0 1 fI fd ps (Xlt K nm)
variable {C:String→Addr}{E:XK}{Γ Δ Γ' Δ' Γl Δl:List Nat}{m mr:Nat}{S:List (Nat×Bool)}
end
section
variable {X:Cx}{C:String→Addr}{E:XK}{Γ Δ Γ' Δ' Γl Δl:List Nat}{m mr:Nat}{S:List (Nat×Bool)}{e:Expr}{te:TE}{fe:FE}{np cpos pos:Pos}
end
section
variable {K:Frag}{C:String→Addr}{E:XK}{Γ Δ Γ' Δ' Γl Δl:List Nat}{m mr:Nat}{S:List (Nat×Bool)}
end
section
variable {X:Cx}{C:String→Addr}{E:XK}{Γ Δ Γ' Δ' Γl Δl:List Nat}{m m1 m2 mr:Nat}{S S1 S2:List (Nat×Bool)}{a b e:Expr}{ta tb te:TE}{fa fb fe:FE}{pos pos':Pos}
end
section
variable {K:Frag}{C:String→Addr}{E:XK}{Γ Δ Γ' Δ' Γk Δk:List Nat}{mr:Nat}{S:List (Nat×Bool)}
end
section
variable {X:Cx}{C:String→Addr}{E:XK}{Γ Δ Γk Δk:List Nat}{mr:Nat}{S:List (Nat×Bool)}{c iter:Expr}{ret:List Stmt}{u:TS}{g:FS}{pos p ip:Pos}{x:Str}{k:Nat}
end
structure Clz where
 c:Value
 i:Option Nat
 th:TS
noncomputable def tClz (K:Frag)(N:Nat)(D:Ends)(e:Addr)(cls:Value)(dx:Option Addr)(H':Hp):List Clz→Prop
  | []=>False
  | z::r=>∃b,exmOne K cls z.c=some b∧if b=true then (match z.i with
      | some i=>∀σ':St,σ'.length=N→z.th {nx:=fun _ H2=>D.nx (List.replicate N none) H2,rt:=D.rt,bk:=fun _ H2=>D.bk (List.replicate N none) H2,ct:=fun _ H2=>D.ct (List.replicate N none) H2} (σ'.set i (some (.ref e))) (upd H' e (exO e cls dx))
      | none=>∀σ':St,σ'.length=N→z.th D σ' H')
    else tClz K N D e cls dx H' r
inductive PClz (X:Cx):List ExceptHandler→List Clz→Prop
 | nil:PClz X [] []
 | named {c n:Str} {np hpos:Pos} {C:Addr} {b₀:Stmt} {suite:List Stmt} {i:Nat} {th:TS} {hs:List ExceptHandler} {zs:List Clz} (hm:X.mg c=some (.ref C)) (hg:Gl X c) (hdb:(c==("__debug__":Str))=false) (hi:X.N[i]?=some n) (hl:X.env.scope.names.lookup n=some .local)
   (hh:∀e:Addr,PSs (X.hand e) (b₀::suite) th) (hr:PClz X hs zs):PClz X (.ExceptHandler (some (.Name c np)) (some n) (b₀::suite) hpos::hs) (⟨.ref C,some i,th⟩::zs)
 | plain {c:Str} {np hpos:Pos} {C:Addr} {b₀:Stmt} {suite:List Stmt} {th:TS} {hs:List ExceptHandler} {zs:List Clz} (hm:X.mg c=some (.ref C)) (hg:Gl X c) (hdb:(c==("__debug__":Str))=false)
   (hh:∀e:Addr,PSs (X.hand e) (b₀::suite) th) (hr:PClz X hs zs):PClz X (.ExceptHandler (some (.Name c np)) none (b₀::suite) hpos::hs) (⟨.ref C,none,th⟩::zs)
section
variable {K:Frag}{C:String→Addr}{E:XK}{Γ Δ Γ1 Δ1 Γl Δl:List Nat}{mr:Nat}
inductive OClz (K:Frag)(C:String→Addr)(N mr:Nat)(Γl Δl Γ1 Δ1:List Nat):List Clz→List (List (String×Bool)×Option Nat×FS)→Prop
 | nil:OClz K C N mr Γl Δl Γ1 Δ1 [] []
 | named {c:Addr} {i:Nat} {th:TS} {fh:FS} {tb:List (String×Bool)} {Γ2 Δ2:List Nat} {Eh:XK} {zs:List Clz} {ds:List (List (String×Bool)×Option Nat×FS)} (ht:∀p∈tb,exmOne K (.ref (C p.1)) (.ref c)=some p.2) (hi:i<N) (hh:SOk K C Eh mr [] [] [] [] Γ2 Δ2 th fh)
   (hr:OClz K C N mr Γl Δl Γ1 Δ1 zs ds):OClz K C N mr Γl Δl Γ1 Δ1 (⟨.ref c,some i,th⟩::zs) ((tb,some i,fh)::ds)
 | plain {c:Addr} {th:TS} {fh:FS} {tb:List (String×Bool)} {Eh:XK} {zs:List Clz} {ds:List (List (String×Bool)×Option Nat×FS)} (ht:∀p∈tb,exmOne K (.ref (C p.1)) (.ref c)=some p.2) (hh:SOk K C Eh mr Γl Δl [] [] Γ1 Δ1 th fh)
   (hr:OClz K C N mr Γl Δl Γ1 Δ1 zs ds):OClz K C N mr Γl Δl Γ1 Δ1 (⟨.ref c,none,th⟩::zs) ((tb,none,fh)::ds)
end
inductive JClz (X:Cx)(C:String→Addr)(mr:Nat)(Γl Δl Γ1 Δ1:List Nat):List ExceptHandler→List Clz→List (List (String×Bool)×Option Nat×FS)→Prop
 | mk {hs:List ExceptHandler} {zs:List Clz} {ds:List (List (String×Bool)×Option Nat×FS)} (p:PClz X hs zs) (o:OClz X.K C X.N.length mr Γl Δl Γ1 Δ1 zs ds):JClz X C mr Γl Δl Γ1 Δ1 hs zs ds
section
variable {X:Cx}{C:String→Addr}{E:XK}{Γ Δ Γ1 Δ1 Γl Δl:List Nat}{mr:Nat}{np hpos pos:Pos}{hs:List ExceptHandler}{zs:List Clz}{ds:List (List (String×Bool)×Option Nat×FS)}{b₀:Stmt}{suite:List Stmt}{th:TS}{fh:FS}
end
section
variable {X:Cx}{C:String→Addr}{E:XK}{Γ Δ Γl Δl:List Nat}{mr:Nat}{e:Expr}{te:TE}{fe:FE}{pos p apos cpos:Pos}
end
section
variable {K:Frag}{C:String→Addr}{E:XK}{Γ Δ Γl Δl:List Nat}{m m1 m2 mr:Nat}{S S1 S2:List (Nat×Bool)}{H:Hp}
end
section
variable {X:Cx}{C:String→Addr}{E:XK}{Γ Δ Γ' Δ' Γl Δl:List Nat}{m m1 m2 mr:Nat}{S S1 S2:List (Nat×Bool)}{a b e tg:Expr}{ta tb te:TE}{fa fb fe:FE}{p p2 pos:Pos}
noncomputable abbrev TX:=Str→St→Hp→VK→Prop
def PX (X:Cx)(es:List Expr)(t:TX):Prop:=
 ∀(out:Str) (pins:List (Addr×Obj)) (s:Shared) (σ:St) (H:Hp) (Q:VK),Inv X pins σ H s→out.length+2000*es.length≤sizeLine→t out σ H Q→
  wpAny (model X.prog X.w) X.A (joinParts out (evalEach es X.env)) (EP X pins σ Q) X.xe s
end
theorem Xhl {a b:Str}(h:a.cps.toList=b.cps.toList):a=b:=by
 cases a
 cases b
 congr 1
 exact Array.toList_inj.mp h
section
variable {K:Frag}{C:String→Addr}{E:XK}{Γ Δ:List Nat}{m m1 m2:Nat}{S S1 S2:List (Nat×Bool)}{H:Hp}
theorem one_of {y:Str}{c:Nat}(h:y.cps.toList=[c]):y=⟨#[c]⟩:=Xhl (by rw [h])
noncomputable def joinL (c:Nat):List (List Nat)→List Nat
 | []=>[]
 | [w]=>w
 | w::v::r=>w++32::c::32::joinL c (v::r)
def XOk (K:Frag)(C:String→Addr)(E:XK)(Γ Δ:List Nat)(t:TX)(f:FA):Prop:=∀(H0 Hb H:Hp) (σ:St) (ρ:Dl.Env) (A:Nat→List Addr) (Q:VK) (out:Str),PyData.strOk out=true→Zy K C H0 Hb H Γ Δ σ ρ A→
 Yc ((f ρ).bind fun xs=>Dl.oR (Dl.catO out xs)) (fun d=>∀v H',Xw H H'→Res K C 2 [] H A d v H'→Q v H') (fun c x=>∀H',Xw H H'→EC C E c x H')→t out σ H Q
end
structure JX (X:Cx)(C:String→Addr)(E:XK)(Γ Δ:List Nat)(es:List Expr)(t:TX)(f:FA):Prop where
 q:PX X es t
 o:XOk X.K C E Γ Δ t f
section
variable {X:Cx}{C:String→Addr}{E:XK}{Γ Δ:List Nat}{m m1 m2:Nat}{S S1 S2:List (Nat×Bool)}{a b e o:Expr}{es:List Expr}{ta tb te:TE}{tx:TX}{fa fb fe:FE}{f:FA}{pos p apos cpos:Pos}
end
section
variable {K:Frag}{C:String→Addr}{E:XK}{Γ Δ Γl Δl:List Nat}{m m1 m2 m3 mr:Nat}{S S1 S2 S3:List (Nat×Bool)}{H:Hp}
end
section
variable {X:Cx}{C:String→Addr}{E:XK}{Γ Δ Γ' Δ' Γl Δl:List Nat}{m m1 m2 m3 mr:Nat}{S S1 S2 S3:List (Nat×Bool)}{a b c e o:Expr}{ta tb tc te:TE}{fa fb fc fe:FE}{p p2 pos apos cpos:Pos}
end
section
variable {K:Frag}{C:String→Addr}{E:XK}{Γ Δ:List Nat}
theorem Xii {σ os:St}{n:Nat}{v w:V}(hσ:σ.length=n)(hos:os.length=2):((σ++os).set n (some v)).set (n+1) (some w)=σ++[some v,some w]:=by
 match os,hos with
 | [a,b],_ =>
  rw [← hσ,set_append_right _ _ (le_refl _),sub_self,set_append_right _ _ (by omega),show σ.length+1 - σ.length=1 by omega]
  rfl
theorem Xai {ρ:Dl.Env}{n:Nat}{v w:D}(hσ:ρ.length=n):((ρ++List.replicate 2 none).set n (some v)).set (n+1) (some w)=ρ++[some v,some w]:=by
 rw [← hσ,set_append_right _ _ (le_refl _),sub_self,set_append_right _ _ (by omega),show ρ.length+1 - ρ.length=1 by omega]
 rfl
end
section
variable {X:Cx}{C:String→Addr}{E:XK}{mr:Nat}{Γ Δ Γ' Δ' Γl Δl:List Nat}{n:Nat}{pos:Pos}
end
end L2
namespace L2
open PySem PyProof.Rows
structure Ask (prog:Program)(w:World)(A:Around)(s:Shared)(κ:SortKind)(P:Keyed→Prop)(r:Keyed→Keyed→Bool):Prop where
 run:∀{x y:Keyed} {Q:Bool→Shared→Prop} {E:Value→Shared→Prop},P x→P y→Q (r x y) s→wpAny (model prog w) A (keyLt' κ x.1 y.1) Q E s
 tr:∀{x y z:Keyed},P x→P y→P z→r y x=false→r z y=false→r z x=false
 as:∀{x y:Keyed},P x→P y→r x y=true→r y x=false
section
variable {prog:Program}{w:World}{A:Around}{E:Value→Shared→Prop}{s:Shared}{κ:SortKind}{P:Keyed→Prop}{r:Keyed→Keyed→Bool}{st:SortSt}
end
section
variable {r:Keyed→Keyed→Bool}
def Up (r:Keyed→Keyed→Bool)(l:List Keyed):Prop:=l.Pairwise fun x y=>r y x=false
structure MI (r:Keyed→Keyed→Bool)(a b out:List Keyed)(ia ib:Nat):Prop where
 pm:out.Perm (a.take ia++b.take ib)
 so:Up r out
 le:∀x∈out,∀y,(y∈a.drop ia∨y∈b.drop ib)→r y x=false
variable {a b out:List Keyed}{ia ib:Nat}{x:Keyed}
structure MJ (r:Keyed→Keyed→Bool)(a b out:List Keyed)(na nb:Nat):Prop where
 pm:out.Perm (a.drop na++b.drop nb)
 so:Up r out
 le:∀x∈out,∀y,(y∈a.take na∨y∈b.take nb)→r x y=false
end
structure SG (st st':SortSt):Prop where
 k:kindOf st'=kindOf st
 a:arrOf st'=arrOf st
 p:pendingOf st'=pendingOf st
 f:failedOf st'=failedOf st
section
variable {prog:Program}{w:World}{A:Around}{E:Value→Shared→Prop}{s:Shared}{κ:SortKind}{P:Keyed→Prop}{r:Keyed→Keyed→Bool}{st:SortSt}
variable {α:Type}
end
section
variable {prog:Program}{w:World}{A:Around}{E:Value→Shared→Prop}{s:Shared}{κ:SortKind}{P:Keyed→Prop}{r:Keyed→Keyed→Bool}{st:SortSt}
structure SC (κ:SortKind)(lo:Nat)(st st':SortSt):Prop where
 k:kindOf st'=κ
 f:failedOf st'=none
 p:pendingOf st'=pendingOf st
 m:(arrOf st').Perm (arrOf st)
 o:∀i,i<lo→(arrOf st')[i]?=(arrOf st)[i]?
variable {d0:Keyed}{lo nrem:Nat}
variable {d0:Keyed}{lo nrem:Nat}
end
noncomputable abbrev Pn:=Nat×Nat×Nat
noncomputable def Pend:Nat→List (List Keyed)→List Pn→Prop
 | _,[],[]=>True
 | off,R::Rs,p::ps=>p.1=off∧p.2.1=R.length∧Pend (off+R.length) Rs ps
 | _,_,_=>False
structure RI (κ:SortKind)(r:Keyed→Keyed→Bool)(a0:List Keyed)(st:SortSt)(Rs:List (List Keyed))(Z:List Keyed):Prop where
 k:kindOf st=κ
 f:failedOf st=none
 m:(arrOf st).toList.Perm a0
 l:(arrOf st).toList=Rs.flatten++Z
 p:Pend 0 Rs (pendingOf st).toList
 u:∀R∈Rs,Up r R∧1≤R.length
section
variable {prog:Program}{w:World}{A:Around}{E:Value→Shared→Prop}{s:Shared}{κ:SortKind}{P:Keyed→Prop}{r:Keyed→Keyed→Bool}{st:SortSt}{d0:Keyed}{a0 Z:List Keyed}{Rs:List (List Keyed)}
end
end L2
namespace L2
open PySem PySem.SeqAt PySem.MeetsSeq PySem.MeetsSeq3
open AutoSeq1 (wpAny_loadPart')
noncomputable def lexI (e l:Nat→Bool)(m n:Nat):List Nat→Bool
 | []=>decide (m<n)
 | j::js=>if e j=true then lexI e l m n js else l j
end L2
namespace L2
open PySem PySem.SeqAt PyProof.Rows
open Dl (Pc sLt pcLt Xms)
noncomputable def pP (p:Pc):PyData:=.tuple [.int p.1,.str p.2]
noncomputable def cP (c:List Pc):PyData:=.list (c.map pP)
section
variable {A:Around}{s:Shared}
end
noncomputable def cutOf (h:Heap)(v:Value):List Pc:=open Classical in if q:∃c as,Reads h v (cP c) as then q.choose else []
section
variable {prog:Program}{w:World}{A:Around}{E:Value→Shared→Prop}{s:Shared}
end
end L2
namespace L2
open PySem PySem.Spec PyProof.Rows
open Dl (D R FE FT FA FO FS FI FB Fl Pc Xms)
section
variable {K:Frag}{C:String→Addr}{E:XK}{Γ Δ Γl Δl:List Nat}{m m1 m2 m3 mr:Nat}{S S1 S2 S3:List (Nat×Bool)}{H:Hp}
variable {X:Cx}
end
section
variable {X:Cx}{C:String→Addr}{E:XK}{Γ Δ Γ' Δ' Γl Δl:List Nat}{m m1 m2 m3 mr:Nat}{S S1 S2 S3:List (Nat×Bool)}{a b c e o kx:Expr}{ta tb tc te tk:TE}{fa fb fc fe fk:FE}{p p1 p2 pos apos cpos:Pos}
end
end L2
namespace L2
open PySem PySem.Spec PyProof.Rows
open Dl (D R FE FT FA FO FS FI FB Fl)
structure RoomH (k:Nat)(A:Around):Prop where
 dp:A.depth+3*k+5<recursionLimit
 un:A.units+16*k+200<cLine
structure FnOkH (P:Program)(w:World)(K:Frag)(mg:Str→Option Value)(base:Heap)(k:Nat)(f:Addr)(fd:FuncData)(ps:List Str)(sp:Sp):Prop where
 len:∀vs H Q E,sp vs H Q E→vs.length=ps.length
 run:∀(A:Around) (outer:List Env) (s:Shared) (H:Hp) (args:Args) (us:List Value) (vs:List V) (Q:VK) (E:XK),RoomH k A→Xjl P w K mg base A outer s H→BindsTo s fd args (ps.zip us)→Jn vs us→sp vs H Q E→
  codeAny (model P w) A (.call (.ref f) args) (CR CX0 outer P w H s Q E) s
structure DefH (P:Program)(w:World)(K:Frag)(mg:Str→Option Value)(base:Heap)(k:Nat)(x:Str)(ps:List Str)(sp:Sp):Prop where
 ex:∃f fd,mg x=some (.ref f)∧keepIn K (.ref f)=true∧Binds K fd ps []∧FnOkH P w K mg base k f fd ps sp
noncomputable abbrev Cx.wild (X:Cx):Cx:={X with calm:=false,xe:=fun _ _=>False}
section
variable {X:Cx}{C:String→Addr}{E:XK}{Γ Δ:List Nat}{m n mr k:Nat}{S:List (Nat×Bool)}{x:Str}{p pos:Pos}{e:Expr}{es:List Expr}{t:TA}
end
end L2
namespace L2
open PySem PySem.Spec PyProof.Rows
open Dl (D R FE FT FA FO FS FI FB Fl Pc Xms)
section
variable {K:Frag}{C:String→Addr}{E:XK}{Γ Δ Γl Δl:List Nat}{m m1 m2 m3 mr:Nat}{S S1 S2 S3:List (Nat×Bool)}{H:Hp}
theorem RpA.getS:∀{ds:List D} {xs:List V} {B:List Addr} {j:Nat} {d:D},RpA K C H ds xs B→ds[j]?=some d→∃v B',xs[j]?=some v∧Rp K C H d v B'∧B'.Sublist B
 | [],_,_,_,_,_,e=>by simp at e
 | x::ds,xs,B,0,d,r,e=>by
  obtain ⟨v,l,B1,B2,rfl,h1,h2,rfl⟩:=r
  cases e
  exact ⟨v,B1,rfl,h1,List.sublist_append_left _ _⟩
 | x::ds,xs,B,j+1,d,r,e=>by
  obtain ⟨v,l,B1,B2,rfl,h1,h2,rfl⟩:=r
  obtain ⟨w,B',q1,q2,q3⟩:=RpA.getS h2 (show ds[j]?=some d from e)
  exact ⟨w,B',q1,q2,q3.trans (List.sublist_append_right _ _)⟩
variable {X:Cx}
end
section
variable {X:Cx}{C:String→Addr}{E:XK}{Γ Δ Γ' Δ' Γl Δl:List Nat}{m m1 m2 m3 mr:Nat}{S S1 S2 S3:List (Nat×Bool)}{a b c e o kx:Expr}{ta tb tc te tk:TE}{fa fb fc fe fk:FE}{p p1 p2 pos apos cpos:Pos}
end
end L2
namespace L2
open PySem PySem.Spec PyProof.Rows
open Dl (D R FE FT FA FO FS FI FB Fl)
section
variable {prog:Program}{w:World}{K:Type}[DecidableEq K]{knd:HeapKind prog w K}{A:Around}{E:Value→Shared→Prop}{s:Shared}
end
section
variable {X:Cx}
variable {K:Frag}{C:String→Addr}{E:XK}{Γ Δ:List Nat}{m:Nat}{S:List (Nat×Bool)}{H:Hp}
variable {e:Expr}{te:TE}{fe:FE}{p pos:Pos}
variable {tg:Expr}
end
section
variable {X:Cx}{C:String→Addr}{E:XK}{Γ Δ:List Nat}{m n:Nat}{S:List (Nat×Bool)}{tg a b c:Expr}{t:TA}{f:FA}{p pos:Pos}
end
end L2
namespace L2
open PySem PySem.Spec PyProof.Rows
noncomputable def cxL (X:Cx)(A:Around)(N:List Str)(qual:Str)(sc:Scope)(f:Addr)(cd:Value)(cl:List (Str×Addr))(s:Shared)(H:Hp):Cx where
 prog:=X.prog
 w:=X.w
 K:=X.K
 mg:=X.mg
 base:=X.base
 A:=A.deeper (envX qual sc s.heap.objs.size f cd cl)
 N:=N
 s₀:=s
 H₀:=H
 env:=envX qual sc s.heap.objs.size f cd cl
 outer:=X.stack
 stack:=envX qual sc s.heap.objs.size f cd cl::X.stack
 ex:=[]
 calm:=true
 fn:=fun x=>(cl.lookup x).isNone
 pn:=[]
 xe:=fun _ _=>False
structure Xgn (X:Cx)(N:List Str)(p:Str)(sc:Scope)(cl:List (Str×Addr)):Prop where
 kind:sc.kind=.function
 co:sc.isCoroutine=false
 gen:sc.isGenerator=false
 nocell:∀x∈sc.names,x.2≠.cell
 par:sc.names.lookup p=some .local
 nd:N.Nodup
 hd:N.head?=some p
 tl:∀x∈N.tail,sc.names.lookup x=some .free
 fr:∀x,sc.names.lookup x=some .free→∃c,cl.lookup x=some c
 cls:∀x c,cl.lookup x=some c→X.env.cells.lookup x=some c
def Xic (X:Cx)(σ:St)(N:List Str)(vs:List V):Prop:=∀(i:Nat) (x:Str) (v:V),N[i]?=some x→vs[i]?=some v→∃j:Nat,X.N[j]?=some x∧σ[j]?=some (some v)∧Vis X.env.scope x∧X.env.kindOf x≠some .local
section
variable {X:Cx}{pins:List (Addr×Obj)}{σ:St}{H:Hp}{s:Shared}
theorem Xfh {A:Around}{N:List Str}{p qual:Str}{sc:Scope}{f:Addr}{cd u:Value}{v:V}{vs:List V}{cl:List (Str×Addr)}{h₁:Heap}{tk:Nat}(I:Inv X pins σ H s)(S:Xgn X N p sc cl)(hA:A.frames=some X.stack)(hh:A.handled=none)
    (hl:vs.length+1=N.length) (hf:Xic X σ N.tail vs) (rv:RelV v u)
    (hns:h₁.Ns s.heap.objs.size (fun x=>[(p,u)].reverse.lookup x)) (hk:∀b o,s.heap.get? b=some o→h₁.get? b=some o) :
    Inv (cxL X A N qual sc f cd cl s H) [] ((v::vs).map some) H {s with heap:=h₁,toks:=tk}:=by
  have e0:=I.env0
  have noA:∀b:Addr,b∉(cxL X A N qual sc f cd cl s H).ex:=fun b z=>absurd (show b∈([]:List Addr) from z) (by simp)
  refine ⟨⟨e0.mod,S.kind,rfl,rfl,le_refl _,fun y z c h1 h2=>I.ok.inj y z c (S.cls y c h1) (S.cls z c h2),fun y hy=>?_,fun y c h0 h=>?_,fun _=>hh,Around.frames_deeper hA,.inr ⟨rfl,rfl⟩,fun b z=>absurd z (noA b),e0.bs,e0.bsz,fun b _ _=>noA b,fun b z=>absurd z (noA b),e0.funs,e0.frf⟩,
    rfl,e0.bare,Un.kept hk,⟨_,hns,fun i y w h1 h2 h3=>?_⟩,fun y c h=>?_,e0.hok.fresh (le_refl _),fun y c h=>I.freeC y c (S.cls y c h),fun q hp=>absurd (show q∈([]:List (Addr×Obj)) from hp) (by simp),e0.hok.kept hk,?_⟩
  · have hy:sc.names.lookup y=some .cell∨sc.names.lookup y=some .free:=hy
    rcases hy with hy | hy
    · exact absurd rfl (S.nocell _ (PySem.mem_of_lookup hy))
    · exact S.fr y hy
  · have h0:(cl.lookup y).isNone=true:=h0
    have h:cl.lookup y=some c:=h
    rw [h] at h0
    cases h0
  · have h1:N[i]?=some y:=h1
    obtain ⟨a,r,rfl⟩:∃a r,N=a::r:=by
      cases N with
      | nil=>simp at hl
      | cons a r=>exact ⟨a,r,rfl⟩
    have ha:a=p:=Option.some.inj S.hd
    subst ha
    cases i with
    | zero =>
      cases h1
      cases h2
      refine ⟨u,rv,.inl ⟨S.par,?_⟩⟩
      show List.lookup y [(y,u)]=some u
      rw [List.lookup_cons_self]
    | succ i =>
      have h1:r[i]?=some y:=h1
      have h2:vs[i]?=some w:=by
        have:(vs.map some)[i]?=some (some w):=h2
        rw [getElem?_map] at this
        cases e:vs[i]? with
        | none=>rw [e] at this;cases this
        | some z=>rw [e] at this;cases this;rfl
      obtain ⟨j,j1,j2,j3,j4⟩:=hf i y w h1 h2
      obtain ⟨m,hm,lk⟩:=I.loc
      obtain ⟨u',ru,lo⟩:=lk j y w j1 j2 j3
      refine ⟨u',ru,?_⟩
      rcases lo with ⟨k1,_⟩ | ⟨_,c,e1,e2⟩
      · exact absurd k1 j4
      · have hy:=S.tl y (mem_of_getElem? h1)
        obtain ⟨c',e3⟩:=S.fr y hy
        have:=S.cls y c' e3
        rw [e1] at this
        cases this
        obtain ⟨o,ho,hd⟩:=e2
        exact .inr ⟨.inr hy,c,e3,o,hk _ _ ho,hd⟩
  · obtain ⟨w,o,ho,hd⟩:=I.cell y c (S.cls y c h)
    exact ⟨w,o,hk _ _ ho,hd⟩
  · show ((v::vs).map some).length=N.length
    rw [length_map,length_cons,hl]
theorem Xed {A:Around}{N:List Str}{p name qual:Str}{sc:Scope}{params:Arguments}{body:Expr}{f c:Addr}{pm ctv u:Value}{v:V}{vs:List V}{cl:List (Str×Addr)}{te:TE}{Q:VK}(I:Inv X pins σ H s)(S:Xgn X N p sc cl)(hA:A.frames=some X.stack)(hh:A.handled=none)(hroom:A.depth<recursionLimit)
    (hl:vs.length+1=N.length) (hf:Xic X σ N.tail vs) (rv:RelV v u)
    (ho:s.heap.get? f=some (kla_obj name qual params body sc cl pm c ctv)) (hcd:s.heap.CodeRec (.ref c) qual)
    (hb:bindArgs (kla_fn name qual params body sc cl pm (.ref c) ctv) ⟨[u],[]⟩=pure [(p,u)])
    (ht:PE (cxL X A N qual sc f (.ref c) cl s H) body te) (hq:te ((v::vs).map some) H Q) :
    codeAny (model X.prog X.w) A (.call (.ref f) ⟨[u],[]⟩) (fun r s'=>match r with
      | .ok (.ret u')=>CE X.stack X.prog X.w H s Q u' s'
      | _=>False) s:=by
  refine PySem.W.kla_callFunE hroom ho rfl S.co S.gen rfl hcd ?_
  rw [hb]
  refine wpAny_pure (wpAny_newFunctionEnv S.nocell (fun x hx=>by rw [List.mem_singleton.mp hx];exact S.par) (fun h₁ hns hsb=>⟨I.nolimit.fresh _ hsb,?_⟩) S.kind)
  have hk:∀b o,s.heap.get? b=some o→h₁.get? b=some o:=fun b o e=>hsb.extBut b o (ne_of_lt (lt_size e)) (get?_push_of_some _ e)
  have J:=Xfh (A:=A) (qual:=qual) (f:=f) (cd:=.ref c) (tk:=s.toks+1) I S hA hh hl hf rv hns hk
  show codeAny _ _ (.expr body (envX qual sc s.heap.objs.size f (.ref c) cl)) _ _
  refine PySem.W.kla_codeExpr (wpAny_mono (ht [] _ _ H _ J hq) (fun u' s' h=>?_) fun e s' h=>False.elim h)
  obtain ⟨w,H',J',r,q⟩:=h
  exact ⟨w,H',J'.os,J'.bare,J'.base,J'.hok,r,q⟩
end
def BMod (base:Heap)(mg:Str→Option Value):Prop:=∃bm ob,mg "__builtins__"=some (.ref bm)∧bm≠builtinsNs∧base.get? bm=some ob∧ob.cls=.type "module"∧ob.dict=some builtinsNs∧ob.data=.plain
def Zvq (H:Hp)(f:Addr)(qual:Str)(params:Arguments)(body:Expr)(sc:Scope)(cl:List (Str×Addr)):Prop:=
 ∃c pm ctv oc vs t,H f=some (.frz (kla_obj "<lambda>" qual params body sc cl pm c ctv) (.own 0))∧H c=some (.frz oc (.own 0))∧oc.data=.fields vs∧vs[1]?=some (.str qual t)
section
variable {X:Cx}{pins:List (Addr×Obj)}{σ:St}{H:Hp}{s:Shared}{P c:Addr}{pos:Pos}{qual:Str}{params:Arguments}{body:Expr}{sc:Scope}{cl:List (Str×Addr)}{E:Value→Shared→Prop}
theorem Inv.bat (I:Inv X pins σ H s)(hB:BMod X.base X.mg)(hP:H P=some (.tbl pos qual)):s.heap.BuiltinsAt X.mg P∧mainGlobals≠P:=by
 obtain ⟨bm,ob,b1,b2,b3,b4,b5,b6⟩:=hB
 obtain ⟨e1,e2⟩:=I.bs bm ob b3
 obtain ⟨og,es,ep,g1,g2,g3⟩:=I.mod.glob
 have n1:bm≠mainGlobals:=fun z=>by
  rw [z,g1] at b3
  cases b3
  rw [g2] at b6
  cases b6
 have n2:bm≠P:=fun z=>by rw [z,hP] at e2;cases e2
 refine ⟨⟨bm,ob,b1,b2,n1,n2,e1,b4,b5,b6⟩,fun z=>?_⟩
 have:=(I.bs mainGlobals og g1).2
 rw [z,hP] at this
 cases this
theorem Inv.lay2 {h':Heap}{fo:Obj}{tk:Nat}(I:Inv X pins σ H s)(hk:∀b o,s.heap.get? b=some o→h'.get? b=some o)(hs:s.heap.objs.size≤h'.objs.size)(hfree:fo.isFreed=false):Inv X pins σ (upd H h'.objs.size (.frz fo (.own 0))) {s with heap:=h'.push fo,toks:=tk}:=by
 have e:=get?_push_size h' (o:=fo) hfree
 exact I.laid (fun b o q=>get?_push_of_some _ (hk b o q)) hs (show Zay X.prog X.w _ (h'.push fo) _ (.frz fo (.own 0)) from ⟨e,_,e⟩)
theorem Xis {v:Value}{ps:Array Value}{Q:Value→Shared→Prop}(I:Inv X pins σ H s)(hB:BMod X.base X.mg)(hP:H P=some (.tbl pos qual))(hcode:X.env.code=.ref c)(C:CodeHd X.base c P)(hcl:closureFor sc X.env=pure cl)
  (e:s.heap.get? P=some (tabObj ps)) (tr:TriplesOk ps.toList) (hv:codeAmong pos ps.toList=some v) (hc:∀v,codeAmong pos ps.toList=some v→∃c o vs t,v=.ref c∧H c=some (.frz o (.own 0))∧o.data=.fields vs∧vs[1]?=some (.str qual t))
  (h:∀f H' s',Inv X pins σ H' s'→(∀b o,H b=some o→H' b=some o)→Zvq H' f qual params body sc cl→Q (.ref f) s') :
  wpAny (model X.prog X.w) X.A (makeFunction "<lambda>" qual params (.expr body) sc X.env [] [] [] pos pos.line) Q E s:=by
 obtain ⟨b1,b2⟩:=I.bat hB hP
 obtain ⟨c',o,vs,t,rfl,e2,e3,e4⟩:=hc v hv
 refine PySem.W.kla_makeFunctionHit (mg:=X.mg) hcl I.ok.glob (I.mod.glob.keeps I.bk) hcode (C.keeps I.bk) e tr hv b1 fun ctv h' tk hk hs=>?_
 have J:=I.lay2 (fo:=kla_obj "<lambda>" qual params body sc cl ((X.mg "__name__").getD .none) c' ctv) (tk:=tk) hk hs rfl
 have hn:H h'.objs.size=none:=I.hok.fresh hs
 refine h _ _ _ J (fun b o q=>by rw [Xo (Xf q hn)];exact q) ⟨c',_,ctv,o,vs,t,Yd,?_,e3,e4⟩
 rw [Xo (Xf e2 hn)]
 exact e2
theorem Xit {ps:Array Value}{Q:Value→Shared→Prop}(I:Inv X pins σ H s)(hB:BMod X.base X.mg)(hP:H P=some (.tbl pos qual))(hcode:X.env.code=.ref c)(C:CodeHd X.base c P)(hcl:closureFor sc X.env=pure cl)
  (e:s.heap.get? P=some (tabObj ps)) (tr:TriplesOk ps.toList) (hv:codeAmong pos ps.toList=none)
  (h:∀f H' s',Inv X pins σ H' s'→(∀b o,H b=some o→H' b=some o)→Zvq H' f qual params body sc cl→Q (.ref f) s') :
  wpAny (model X.prog X.w) X.A (makeFunction "<lambda>" qual params (.expr body) sc X.env [] [] [] pos pos.line) Q E s:=by
 obtain ⟨b1,b2⟩:=I.bat hB hP
 refine PySem.W.kla_makeFunction (mg:=X.mg) hcl I.ok.glob (I.mod.glob.keeps I.bk) hcode (C.keeps I.bk) e tr hv b2 b1 fun c' ctv h' tk hx hge hlt hrec htb=>?_
 obtain ⟨c2,oc,vs,t,e1,e2,e3,e4⟩:=hrec
 cases e1
 have hcn:H c'=none:=I.hok.fresh hge
 have ne:∀b u,H b=some u→b≠c':=fun b u q z=>by rw [z,hcn] at q;cases q
 have sub:∀b u,H b=some u→upd H c' (.frz oc (.own 0)) b=some u:=fun b u q=>by rw [Xo (ne b u q)];exact q
 have tab:codeAmong pos (ps++#[rawInt pos.line,rawInt pos.col,.ref c']).toList=some (.ref c'):=by
  rw [Array.toList_append]
  exact codeAmong_snoc ps.toList tr hv
 have tr2:TriplesOk (ps++#[rawInt pos.line,rawInt pos.col,.ref c']).toList:=by
  rw [Array.toList_append]
  exact TriplesOk_snoc pos.line pos.col (.ref c') ps.toList tr
 have J1:Inv X pins σ (upd H c' (.frz oc (.own 0))) {s with heap:=h',toks:=tk}:=by
  refine I.un ⟨fun b o q n _ _=>hx b o (fun z=>by rw [z,hP] at n;cases n) q,fun b o q n _ _=>⟨o.slots,hx b o (fun z=>by rw [z,hP] at n;cases n) q⟩,fun b o q n _=>by rw [Xo (ne_of_lt (lt_of_lt_of_le (lt_size q) hge))];exact n,fun b o q _=>?_,fun b xs q=>sub b _ q,fun b o u q=>sub b _ q,fun b p n q=>sub b _ q⟩ fun b u q=>?_
  ·by_cases hb:b=P
   ·exact ⟨_,by rw [hb];exact htb⟩
   ·exact ⟨o,hx b o hb q⟩
  ·by_cases hb:b=c'
   ·subst hb
    rw [Yd] at q
    cases q
    exact ⟨e2,_,e2⟩
   ·rw [Xo hb] at q
    by_cases hp:b=P
    ·subst hp
     rw [hP] at q
     cases q
     refine ⟨_,htb,tr2,fun v hv'=>?_⟩
     rw [tab] at hv'
     cases hv'
     exact ⟨c',oc,vs,t,rfl,Yd,e3,e4⟩
    ·refine (I.hok b u q).stay (fun d w hd q2=>hx d w (fun z=>?_) q2) (fun d q2=>sub d _ q2) (fun d xs q2=>sub d _ q2) fun d o u q2=>sub d _ q2
     rcases hd with z2 | z2
     ·exact hp (z2.symm.trans z)
     ·rw [z,hP] at z2
      cases z2
 have J:=J1.lay2 (h':=h') (fo:=kla_obj "<lambda>" qual params body sc cl ((X.mg "__name__").getD .none) c' ctv) (tk:=tk) (fun _ _ q=>q) (le_refl _) rfl
 have hn:upd H c' (.frz oc (.own 0)) h'.objs.size=none:=J1.hok.fresh (le_refl _)
 refine h _ _ _ J (fun b o q=>by rw [Xo (Xf (sub b o q) hn)];exact sub b o q) ⟨c',_,ctv,oc,vs,t,Yd,?_,e3,e4⟩
 rw [Xo (Xf Yd hn)]
 exact Yd
theorem Xag {Q:Value→Shared→Prop}(I:Inv X pins σ H s)(hB:BMod X.base X.mg)(hP:H P=some (.tbl pos qual))(hcode:X.env.code=.ref c)(C:CodeHd X.base c P)(hcl:closureFor sc X.env=pure cl)(hq:X.env.qual++"<lambda>"=qual)(hdef:defaultsOf params X.env=([],[]))
  (h:∀f H' s',Inv X pins σ H' s'→(∀b o,H b=some o→H' b=some o)→Zvq H' f qual params body sc cl→Q (.ref f) s') :
  wpAny (model X.prog X.w) X.A (eval (.Lambda params body sc pos) X.env) Q E s:=by
 refine PySem.W.kla_eval hdef ?_
 rw [hq]
 obtain ⟨ps,e,tr,hc⟩:=(show Zay X.prog X.w H s.heap P (.tbl pos qual) from I.hok P _ hP)
 cases hv:codeAmong pos ps.toList with
 | none=>exact Xit I hB hP hcode C hcl e tr hv h
 | some v=>exact Xis I hB hP hcode C hcl e tr hv hc h
end
noncomputable def Zsv (K:Frag)(a:Addr)(xs:List V)(tb:V→Hp→VK→Prop):List V→Hp→(List Int→Hp→Prop)→Prop
 | [],H,Q=>Q [] H
 | x::r,H,Q=>tb x H fun v H'=>∃k,v=.int k∧SqL K H' a xs∧Zsv K a xs tb r H' fun ks H2=>Q (k::ks) H2
def Zbp (lt:Int→Int→Bool)(ks:List Int)(i:Nat):Prop:=i<ks.length∧(∀j,j<ks.length→lt (ks.getD j 0) (ks.getD i 0)=false)∧∀j,j<i→lt (ks.getD i 0) (ks.getD j 0)=true
theorem Inv.pinIt {X:Cx}{pins:List (Addr×Obj)}{σ:St}{H:Hp}{s:Shared}{b:Addr}{o:Obj}(I:Inv X pins σ H s)(e:s.heap.get? b=some o)(f:Zjl X pins H b)(hd:∀v,o.data≠.cell v):Inv X ((b,o)::pins) σ H s:=
  ⟨I.ok,I.os,I.bare,I.base,I.loc,I.cell,I.free,I.freeC,fun p hp=>by
    rcases List.mem_append.mp hp with z | z
    · exact I.pin p (mem_append_left _ z)
    · rcases List.mem_cons.mp z with z | z
      · subst z
        exact ⟨e,f.1,f.2.1,f.2.2.1,hd⟩
      · exact I.pin p (mem_append_right _ z),I.hok,I.len⟩
theorem Inv.unpin {X:Cx}{pins:List (Addr×Obj)}{σ:St}{H:Hp}{s:Shared}{q:Addr×Obj}(I:Inv X (q::pins) σ H s):Inv X pins σ H s:=
 ⟨I.ok,I.os,I.bare,I.base,I.loc,I.cell,I.free,I.freeC,fun p hp=>I.pin p ((List.mem_append.mp hp).elim (mem_append_left _) fun z=>mem_append_right _ (.tail _ z)),I.hok,I.len⟩
def FpX (X:Cx)(pins:List (Addr×Obj))(b:Addr):Prop:=b≠X.env.locals∧b∉X.fs∧(b∈X.ex∨X.s₀.heap.objs.size≤b)∧(∀x c,X.env.cells.lookup x=some c→c≠b)∧∀p∈X.pn++pins,p.1≠b
section
variable {X:Cx}{pins:List (Addr×Obj)}{σ:St}{H:Hp}{s:Shared}{a f I S:Addr}{xs:List V}{tb:V→Hp→VK→Prop}{R:Result→Shared→Prop}{Q:V→Hp→Prop}
def Zxc (X:Cx)(pins:List (Addr×Obj))(σ:St)(f:Addr)(LP:Hp→Prop)(tb:V→Hp→VK→Prop)(A:Around):Prop:=∀(own:List (Addr×Obj)) (H:Hp) (s:Shared) (x:V) (u:Value) (Q:VK),Inv X (own++pins) σ H s→LP H→RelV x u→tb x H Q→
 wpAny (model X.prog X.w) A (call (.ref f) [u]) (fun u' s'=>∃v H',Inv X (own++pins) σ H' s'∧LP H'∧RelV v u'∧Q v H') (fun _ _=>False) s
theorem Xar {LP:Hp→Prop}(hc:X.calm=true)(hK:Zxc X pins σ f LP tb X.A.in1)(hI:FpX X pins I)(hS:FpX X pins S)(hIS:I≠S)
  (hR:∀(x:V) (u:Value) (H:Hp) (s:Shared),Inv X pins σ H s→RelV x u→Q x H→R (.ok (.ret u)) s) :
  ∀(r:List V) (j:Nat) (H:Hp) (s:Shared) (vb:Value) (kb:Int) (tk:Tok) (c:Nat) (oI:Obj) (i:Nat) (x:V) (dn:List Int),xs.drop (j+1)=r→j+1≤xs.length→dn.length=j+1→Zbp (fun m n=>decide (m > n)) dn i→dn.getD i 0=kb→xs[i]?=some x→RelV x vb→
   Inv X ((S,seqObj "list" #[vb,.int kb tk] c)::(I,oI)::pins) σ H s→LP H→SqL X.K H a xs→a≠I→s.heap.IsListIter I a (j+1)→
   Zsv X.K a xs tb r H (fun ks H'=>∀i x,xs[i]?=some x→Zbp (fun m n=>decide (m > n)) (dn++ks) i→Q x H')→
   codeAny (model X.prog X.w) X.A (.builtin "max.loop" ⟨[.ref I,.ref f,.ref S],[]⟩) R s:=by
 intro r
 induction r with
 | nil =>
  intro j H s vb kb tk c oI i x dn hr hj hdn hfi hkb hx rx J hf hq haI hit q
  have hin:xs.length≤j+1:=by
   have:=congrArg List.length hr
   rw [List.length_drop,length_nil] at this
   omega
  obtain ⟨its,rv,pl,hz⟩:=J.list hq
  have hlen:=rv.length
  obtain ⟨pS,pS1,_⟩:=J.pin (S,seqObj "list" #[vb,.int kb tk] c) (mem_append_right _ (.head _))
  refine codeAny_builtin PySem.F.entry_max_loop ?_
  rw [Around.under_plainId PySem.F.plain_max_loop _]
  show wpAny _ X.A.in1 (seqItems? (.ref S) >>= _) _ _ _
  refine wpAny_bind (wpAny_seqItems pS rfl (show wpAny _ X.A.in1 (tryCatch (pyNext (.ref I)) _ >>= _) _ _ _ from wpAny_bind (wpAny_tryCatch ((Walks.list (prog:=X.prog) (w:=X.w) (A:=X.A.in1) (J.ok.hd hc) I a haI its.toArray).done s _ _ ⟨by rw [size_toArray,← hlen,show xs.length=j+1 by omega];exact hit,pl.isList⟩ fun h' tk' hk'=>?_))))
  have J1:Inv X ((S,seqObj "list" #[vb,.int kb tk] c)::pins) σ H {s with heap:=h',toks:=tk'}:=by
   have J0:Inv X ((S,seqObj "list" #[vb,.int kb tk] c)::pins) σ H s:=⟨J.ok,J.os,J.bare,J.base,J.loc,J.cell,J.free,J.freeC,fun p hp=>J.pin p ((List.mem_append.mp hp).elim (mem_append_left _) fun z=>mem_append_right _ ((List.mem_cons.mp z).elim (fun z=>by rw [z];exact .head _) fun z=>.tail _ (.tail _ z))),J.hok,J.len⟩
   obtain ⟨_,pI1,_⟩:=J.pin (I,oI) (mem_append_right _ (.tail _ (.head _)))
   exact J0.turned (fun b o hb e=>hk' b o (fun z=>hb (List.mem_singleton.mp z)) e) pI1 hI.1 hI.2.2.1 hI.2.2.2.1 fun p hp=>(List.mem_append.mp hp).elim (fun z=>hI.2.2.2.2 p (mem_append_left _ z)) fun z=>(List.mem_cons.mp z).elim (fun z=>by rw [z];exact fun z=>hIS z.symm) fun z=>hI.2.2.2.2 p (mem_append_right _ z)
  have pS2:=(J1.pin (S,seqObj "list" #[vb,.int kb tk] c) (mem_append_right _ (.head _))).1
  have s1:=Heap.SameBut.update h' S (Obj.mapSeq fun _=>(#[]:Array Value))
  show wpAny _ X.A.in1 (updateSeq S (fun _=>#[]) >>= _) _ _ _
  refine wpAny_bind (wpAny_updateSeq pS2 rfl (wpAny_bind (wpAny_letGo (wpAny_pure (hR x vb H _ (J1.unpin.turned (t':=tk') (fun b o hb e=>(s1.2 b hb).trans e) pS1 hS.1 hS.2.2.1 hS.2.2.2.1 hS.2.2.2.2) rx (q i x hx ?_))))))
  rw [append_nil]
  exact hfi
 | cons y r ih =>
  intro j H s vb kb tk c oI i x dn hr hj hdn hfi hkb hx rx J hf hq haI hit q
  have hy:xs[j+1]?=some y:=by
   have:=congrArg (fun l=>l[0]?) hr
   rw [List.getElem?_drop] at this
   exact this
  have hlt:j+1<xs.length:=(List.getElem?_eq_some_iff.mp hy).1
  have hr2:xs.drop (j+1+1)=r:=by
   have:=congrArg List.tail hr
   rw [List.tail_drop] at this
   exact this
  obtain ⟨its,rv,pl,hz⟩:=J.list hq
  have hlen:=rv.length
  obtain ⟨pS,pS1,_⟩:=J.pin (S,seqObj "list" #[vb,.int kb tk] c) (mem_append_right _ (.head _))
  refine codeAny_builtin PySem.F.entry_max_loop ?_
  rw [Around.under_plainId PySem.F.plain_max_loop _]
  show wpAny _ X.A.in1 (seqItems? (.ref S) >>= _) _ _ _
  refine wpAny_bind (wpAny_seqItems pS rfl (show wpAny _ X.A.in1 (tryCatch (pyNext (.ref I)) _ >>= _) _ _ _ from wpAny_bind (wpAny_tryCatch ((Walks.list (prog:=X.prog) (w:=X.w) (A:=X.A.in1) (J.ok.hd hc) I a haI its.toArray).item (j+1) s _ _ (by rw [size_toArray];omega) ⟨hit,pl.isList⟩ fun u h' tk' hP hst' hk'=>?_))))
  have hu:its[j+1]?=some u:=by simpa using hP
  obtain ⟨u2,hu2,ry⟩:=rv.get hy
  rw [hu] at hu2
  cases hu2
  obtain ⟨oI',hoI',hoc,hod⟩:=id hst'.1
  have J1:Inv X ((S,seqObj "list" #[vb,.int kb tk] c)::(I,oI')::pins) σ H {s with heap:=h',toks:=tk'}:=by
   have J0:Inv X ((S,seqObj "list" #[vb,.int kb tk] c)::pins) σ H s:=⟨J.ok,J.os,J.bare,J.base,J.loc,J.cell,J.free,J.freeC,fun p hp=>J.pin p ((List.mem_append.mp hp).elim (mem_append_left _) fun z=>mem_append_right _ ((List.mem_cons.mp z).elim (fun z=>by rw [z];exact .head _) fun z=>.tail _ (.tail _ z))),J.hok,J.len⟩
   obtain ⟨_,pI1,_⟩:=J.pin (I,oI) (mem_append_right _ (.tail _ (.head _)))
   have J2:=J0.turned (t':=tk') (fun b o hb e=>hk' b o (fun z=>hb (List.mem_singleton.mp z)) e) pI1 hI.1 hI.2.2.1 hI.2.2.2.1 fun p hp=>(List.mem_append.mp hp).elim (fun z=>hI.2.2.2.2 p (mem_append_left _ z)) fun z=>(List.mem_cons.mp z).elim (fun z=>by rw [z];exact fun z=>hIS z.symm) fun z=>hI.2.2.2.2 p (mem_append_right _ z)
   have pS2:=(J2.pin (S,seqObj "list" #[vb,.int kb tk] c) (mem_append_right _ (.head _))).1
   exact (J2.unpin.pinIt hoI' ⟨pI1,hI⟩ (fun v z=>by rw [hod] at z;cases z)).pinIt pS2 ⟨pS1,hS.1,hS.2.1,hS.2.2.1,hS.2.2.2.1,fun p hp=>(List.mem_append.mp hp).elim (fun z=>hS.2.2.2.2 p (mem_append_left _ z)) fun z=>(List.mem_cons.mp z).elim (fun z=>by rw [z];exact hIS) fun z=>hS.2.2.2.2 p (mem_append_right _ z)⟩ (fun v z=>by cases z)
  show wpAny _ X.A.in1 (tryCatch (holding [u] (call (.ref f) [u])) _ >>= _) _ _ _
  refine wpAny_bind (wpAny_tryCatch (wpAny_holding (wpAny_mono (hK [(S,seqObj "list" #[vb,.int kb tk] c),(I,oI')] H _ y u _ J1 hf ry q) (fun u' s2 he=>?_) fun _ _ z=>z.elim)))
  obtain ⟨v,H2,J3,hf2,ru,k,rfl,hq2,q2⟩:=he
  obtain ⟨t2,rfl⟩:=ru
  have J3:Inv X ((S,seqObj "list" #[vb,.int kb tk] c)::(I,oI')::pins) σ H2 s2:=J3
  obtain ⟨pS3,pS4,_⟩:=J3.pin (S,seqObj "list" #[vb,.int kb tk] c) (mem_append_right _ (.head _))
  have pI3:=(J3.pin (I,oI') (mem_append_right _ (.tail _ (.head _)))).1
  have hit2:s2.heap.IsListIter I a (j+1+1):=⟨oI',pI3,hoc,hod⟩
  show wpAny _ X.A.in1 (tryCatch (holding [u,.int k t2] (richCompare .Gt (.int k t2) (.int kb tk) >>= _)) _ >>= _) _ _ _
  refine wpAny_bind (wpAny_tryCatch (wpAny_holding (wpAny_bind (PySem.P.gt_int (show wpAny _ X.A.in1 (holding [Value.bool (decide (k > kb))] (truthy (.bool (decide (k > kb)))) >>= _) _ _ _ from wpAny_bind (wpAny_holding (wpAny_truthy_bool (wpAny_bind (wpAny_letGo (wpAny_pure ?_))))))))))
  have fi1:=hfi.1
  have at1:∀m,m<dn.length→(dn++[k]).getD m 0=dn.getD m 0:=fun m hm=>by rw [getD_eq_getElem?_getD,getElem?_append_left hm,← getD_eq_getElem?_getD]
  have at2:(dn++[k]).getD dn.length 0=k:=by rw [getD_eq_getElem?_getD,getElem?_append_right (le_refl _),sub_self];rfl
  have la:(dn++[k]).length=dn.length+1:=by rw [length_append];rfl
  have nxt:Zsv X.K a xs tb r H2 (fun ks H'=>∀i x,xs[i]?=some x→Zbp (fun m n=>decide (m > n)) ((dn++[k])++ks) i→Q x H'):=by
   have:(fun ks H'=>∀i x,xs[i]?=some x→Zbp (fun m n=>decide (m > n)) ((dn++[k])++ks) i→Q x H')=fun ks H'=>(fun ks H'=>∀i x,xs[i]?=some x→Zbp (fun m n=>decide (m > n)) (dn++ks) i→Q x H') (k::ks) H':=by
    funext ks H'
    rw [append_assoc]
    rfl
   rw [this]
   exact q2
  by_cases hb:k > kb
  ·have s1:=Heap.SameBut.update s2.heap S (Obj.mapSeq fun _=>#[u,.int k t2])
   obtain ⟨c2,hc2⟩:∃c2,(s2.heap.update S (Obj.mapSeq fun _=>#[u,.int k t2])).get? S=some (seqObj "list" #[u,.int k t2] c2):=⟨_,get?_update_seq pS3 fun _=>#[u,.int k t2]⟩
   have J4:Inv X ((S,seqObj "list" #[u,.int k t2] c2)::(I,oI')::pins) σ H2 {s2 with heap:=s2.heap.update S (Obj.mapSeq fun _=>#[u,.int k t2])}:=by
    have fp:∀p∈X.pn++((I,oI')::pins),p.1≠S:=fun p hp=>(List.mem_append.mp hp).elim (fun z=>hS.2.2.2.2 p (mem_append_left _ z)) fun z=>(List.mem_cons.mp z).elim (fun z=>by rw [z];exact hIS) fun z=>hS.2.2.2.2 p (mem_append_right _ z)
    exact (J3.unpin.turned (t':=s2.toks) (fun b o hb e=>(s1.2 b hb).trans e) pS4 hS.1 hS.2.2.1 hS.2.2.2.1 fp).pinIt hc2 ⟨pS4,hS.1,hS.2.1,hS.2.2.1,hS.2.2.2.1,fp⟩ (fun v z=>by cases z)
   simp only [hb,decide_true,if_true]
   refine wpAny_bind (wpAny_updateSeq pS3 rfl (wpAny_bind (wpAny_letGo ?_)))
   rw [show (toString "max"++toString ".loop":String)="max.loop" by decide]
   refine wpAny_pure ⟨plainId_quiet PySem.F.plain_max_loop _,ih (j+1) H2 _ u k t2 c2 oI' dn.length y (dn++[k]) hr2 hlt (by rw [la,hdn]) ⟨by omega,fun m hm=>?_,fun m hm=>?_⟩ at2 (by rw [hdn];exact hy) ry J4 hf2 hq2 haI ⟨oI',(s1.2 I hIS).trans pI3,hoc,hod⟩ nxt⟩
   ·rw [at2]
    by_cases e:m=dn.length
    ·rw [e,at2]
     exact decide_eq_false (by omega)
    ·rw [at1 m (by omega)]
     have:=of_decide_eq_false (hfi.2.1 m (by omega))
     exact decide_eq_false (by omega)
   ·rw [at2,at1 m hm]
    have:=of_decide_eq_false (hfi.2.1 m hm)
    exact decide_eq_true (by omega)
  ·simp only [hb,decide_false,Bool.false_eq_true,if_false]
   refine wpAny_bind (wpAny_letGo ?_)
   rw [show (toString "max"++toString ".loop":String)="max.loop" by decide]
   refine wpAny_pure ⟨plainId_quiet PySem.F.plain_max_loop _,ih (j+1) H2 _ vb kb tk c oI' i x (dn++[k]) hr2 hlt (by rw [la,hdn]) ⟨by omega,fun m hm=>?_,fun m hm=>?_⟩ (by rw [at1 i fi1];exact hkb) hx rx J3 hf2 hq2 haI hit2 nxt⟩
   ·rw [at1 i fi1]
    by_cases e:m=dn.length
    ·rw [e,at2,hkb]
     exact decide_eq_false hb
    ·rw [at1 m (by omega)]
     exact hfi.2.1 m (by omega)
   ·rw [at1 i fi1,at1 m (by omega)]
    exact hfi.2.2 m hm
end
section
variable {X:Cx}{pins:List (Addr×Obj)}{σ:St}{H:Hp}{s:Shared}{a f:Addr}{xs:List V}{tb:V→Hp→VK→Prop}{Q:VK}
theorem Xeu {LP:Hp→Prop}(hc:X.calm=true)(hK:Zxc X pins σ f LP tb X.A.in1)(J:Inv X pins σ H s)(hf:LP H)(hq:SqL X.K H a xs)(hne:0<xs.length)
  (q:Zsv X.K a xs tb xs H fun ks H'=>∀i x,xs[i]?=some x→Zbp (fun m n=>decide (m > n)) ks i→Q x H') :
  wpAny (model X.prog X.w) X.A (call (.builtin "max") [.ref a] [(Str.ofString "key",.ref f)]) (EP X pins σ Q) X.xe s:=by
 obtain ⟨its,rv,pl,hz⟩:=J.list hq
 have hlen:=rv.length
 obtain ⟨ol,hol,_⟩:=id pl.isList
 have hll:a<s.heap.objs.size:=lt_size hol
 obtain ⟨I,eI⟩:∃I,I=s.heap.objs.size:=⟨_,rfl⟩
 obtain ⟨h1,e1⟩:∃h1,h1=s.heap.push {cls:=.type "list_iterator",data:=.fields #[.ref a,.int 0 0]}:=⟨_,rfl⟩
 obtain ⟨S,eS⟩:∃S,S=h1.objs.size:=⟨_,rfl⟩
 obtain ⟨h2,e2⟩:∃h2,h2=h1.push (seqObj "list" #[] 0):=⟨_,rfl⟩
 have z1:h1.objs.size=s.heap.objs.size+1:=by rw [e1];exact size_push' ..
 have k1:∀b o,s.heap.get? b=some o→h1.get? b=some o:=fun b o e=>by rw [e1];exact get?_push_of_some _ e
 have k2:∀b o,h1.get? b=some o→h2.get? b=some o:=fun b o e=>by rw [e2];exact get?_push_of_some _ e
 have gI:h2.get? I=some {cls:=.type "list_iterator",data:=.fields #[.ref a,.int 0 0]}:=k2 _ _ (by rw [e1,eI];exact get?_push_size _ rfl)
 have gS:h2.get? S=some (seqObj "list" #[] 0):=by rw [e2,eS];exact get?_push_size _ rfl
 have fI:Zjl X pins H I:=J.fpOk (by rw [eI];exact le_refl _) (J.hok.fresh (by rw [eI];exact le_refl _))
 have fS:Zjl X pins H S:=J.fpOk (by rw [eS,z1];exact le_succ _) (J.hok.fresh (by rw [eS,z1];exact le_succ _))
 have hIS:I≠S:=by rw [eS,z1,eI];exact ne_of_lt (Nat.lt_succ_self _)
 have haI:a≠I:=by rw [eI];exact ne_of_lt hll
 have J2:Inv X pins σ H {s with heap:=h2}:=J.kept (t':=s.toks) fun b o e=>k2 _ _ (k1 _ _ e)
 refine kmk_tree PySem.F.kind_max PySem.F.plain_max PySem.F.entry_max (kmk_max_key _ _) ?_
 show wpAny _ X.A.in1 (Builtin.Builtins.bindParams "max" ["key","default"] 0 ⟨[],[(Str.ofString "key",.ref f)]⟩ >>= _) _ _ s
 refine wpAny_bind (wpAny_of_eq (show Builtin.Builtins.bindParams "max" ["key","default"] 0 ⟨[],[(Str.ofString "key",.ref f)]⟩=pure [some (.ref f),none] from rfl) (wpAny_bind (wpAny_pure (wpAny_bind (wpAny_pyIter_list pl.isList (wpAny_bind (wpAny_newList ?_ (zero_le _))))))))
 rw [show (toString "max"++toString ".loop":String)="max.loop" by decide]
 rw [← e1,← eS,← eI]
 show wpAny _ X.A.in1 (again _) _ _ {s with heap:=h1.push (seqObj "list" #[] 0)}
 rw [← e2]
 refine wpAny_pure ⟨plainId_quiet PySem.F.plain_max_loop _,codeAny_builtin PySem.F.entry_max_loop ?_⟩
 rw [Around.under_plainId PySem.F.plain_max_loop _]
 show wpAny _ X.A.in1 (seqItems? (.ref S) >>= _) _ _ _
 obtain ⟨y,r,rfl⟩:∃y r,xs=y::r:=by
  cases xs with
  | nil=>simp at hne
  | cons y r=>exact ⟨y,r,rfl⟩
 obtain ⟨its2,rv2,pl2,hz2⟩:=J2.list hq
 have hlen2:=rv2.length
 refine wpAny_bind (wpAny_seqItems gS rfl (show wpAny _ X.A.in1 (tryCatch (pyNext (.ref I)) _ >>= _) _ _ _ from wpAny_bind (wpAny_tryCatch ((Walks.list (prog:=X.prog) (w:=X.w) (A:=X.A.in1) (J.ok.hd hc) I a haI its2.toArray).item 0 _ _ _ (by rw [size_toArray,← hlen2];exact hne) ⟨⟨_,gI,rfl,rfl⟩,pl2.isList⟩ fun u h' tk' hP hst' hk'=>?_))))
 have hu:its2[0]?=some u:=by simpa using hP
 obtain ⟨u2,hu2,ry⟩:=rv2.get (i:=0) (x:=y) rfl
 rw [hu] at hu2
 cases hu2
 obtain ⟨oI',hoI',hoc,hod⟩:=id hst'.1
 have gS':h'.get? S=some (seqObj "list" #[] 0):=hk' S _ (fun z=>hIS (List.mem_singleton.mp z).symm) gS
 have fp2:∀p∈X.pn++((I,oI')::pins),p.1≠S:=fun p hp=>(List.mem_append.mp hp).elim (fun z=>fS.2.2.2.2.2 p (mem_append_left _ z)) fun z=>(List.mem_cons.mp z).elim (fun z=>by rw [z];exact hIS) fun z=>fS.2.2.2.2.2 p (mem_append_right _ z)
 have J3:Inv X ((S,seqObj "list" #[] 0)::(I,oI')::pins) σ H {s with heap:=h',toks:=tk'}:=
  ((J2.turned (t':=tk') (fun b o hb e=>hk' b o (fun z=>hb (List.mem_singleton.mp z)) e) fI.1 fI.2.1 fI.2.2.2.1 fI.2.2.2.2.1 fI.2.2.2.2.2).pinIt hoI' fI (fun v z=>by rw [hod] at z;cases z)).pinIt gS' ⟨fS.1,fS.2.1,fS.2.2.1,fS.2.2.2.1,fS.2.2.2.2.1,fp2⟩ (fun v z=>by cases z)
 show wpAny _ X.A.in1 (tryCatch (holding [u] (call (.ref f) [u])) _ >>= _) _ _ _
 refine wpAny_bind (wpAny_tryCatch (wpAny_holding (wpAny_mono (hK [(S,seqObj "list" #[] 0),(I,oI')] H _ y u _ J3 hf ry q) (fun u' s2 he=>?_) fun _ _ z=>z.elim)))
 obtain ⟨v,H2,J4,hf2,ru,k,rfl,hq2,q2⟩:=he
 obtain ⟨t2,rfl⟩:=ru
 have J4:Inv X ((S,seqObj "list" #[] 0)::(I,oI')::pins) σ H2 s2:=J4
 obtain ⟨pS3,pS4,_⟩:=J4.pin (S,seqObj "list" #[] 0) (mem_append_right _ (.head _))
 have pI3:=(J4.pin (I,oI') (mem_append_right _ (.tail _ (.head _)))).1
 have s1:=Heap.SameBut.update s2.heap S (Obj.mapSeq fun _=>#[u,.int k t2])
 obtain ⟨c2,hc2⟩:∃c2,(s2.heap.update S (Obj.mapSeq fun _=>#[u,.int k t2])).get? S=some (seqObj "list" #[u,.int k t2] c2):=⟨_,get?_update_seq pS3 fun _=>#[u,.int k t2]⟩
 have J5:Inv X ((S,seqObj "list" #[u,.int k t2] c2)::(I,oI')::pins) σ H2 {s2 with heap:=s2.heap.update S (Obj.mapSeq fun _=>#[u,.int k t2])}:=
  (J4.unpin.turned (t':=s2.toks) (fun b o hb e=>(s1.2 b hb).trans e) pS4 fS.2.1 fS.2.2.2.1 fS.2.2.2.2.1 fp2).pinIt hc2 ⟨pS4,fS.2.1,fS.2.2.1,fS.2.2.2.1,fS.2.2.2.2.1,fp2⟩ (fun v z=>by cases z)
 show wpAny _ X.A.in1 (updateSeq S (fun _=>#[u,.int k t2]) >>= _) _ _ _
 refine wpAny_bind (wpAny_updateSeq pS3 rfl ?_)
 rw [show (toString "max"++toString ".loop":String)="max.loop" by decide]
 refine wpAny_pure ⟨plainId_quiet PySem.F.plain_max_loop _,Xar (xs:=y::r) (Q:=Q) (R:=fun r s'=>match r with | .ok (.ret v)=>EP X pins σ Q v s' | .ok _=>False | .error e=>X.xe e s') hc hK fI.2 fS.2 hIS (fun x u H s J ru q=>⟨x,H,J,ru,q⟩) r 0 H2 _ u k t2 c2 oI' 0 y [k] rfl hne rfl ⟨Nat.zero_lt_one,fun m hm=>?_,fun m hm=>absurd hm (Nat.not_lt_zero _)⟩ rfl rfl ry J5 hf2 hq2 haI ⟨oI',(s1.2 I hIS).trans pI3,hoc,hod⟩ q2⟩
 have e:m=0:=by
  have:m<1:=hm
  omega
 rw [e]
 exact decide_eq_false (by omega)
end
def Xnk (K:Frag)(lt:Int→Int→Bool)(js:List Nat)(tb:TE)(σ:St)(vs:List V)(H1:Hp)(Q:VK):Prop:=∃a xs ws,vs=[.ref a]∧SqL K H1 a xs∧0<xs.length∧js.map (fun j=>σ[j]?)=ws.map (fun v=>some (some v))∧
 ∀H2,(∀b o,H1 b=some o→H2 b=some o)→Zsv K a xs (fun x H Q=>tb ((x::ws).map some) H Q) xs H2 fun ks H3=>∀i x,xs[i]?=some x→Zbp lt ks i→Q x H3
def Zuf (K:Frag)(lt:Int→Int→Bool)(te:TE)(js:List Nat)(tb:TE):TE:=fun σ H Q=>Zbj te Zmh σ H fun vs H1=>Xnk K lt js tb σ vs H1 Q
structure Ztr (X:Cx)(N:List Str)(p qual:Str)(params:Arguments)(body:Expr)(sc:Scope)(cl:List (Str×Addr))(js:List Nat)(P c:Addr)(lpos:Pos):Prop where
 bm:BMod X.base X.mg
 tab:X.H₀ P=some (.tbl lpos qual)
 code:X.env.code=.ref c
 hd:CodeHd X.base c P
 clo:closureFor sc X.env=pure cl
 qu:X.env.qual++"<lambda>"=qual
 df:defaultsOf params X.env=([],[])
 lsc:Xgn X N p sc cl
 jsx:∀(i:Nat) (x:Str),N.tail[i]?=some x→∃j:Nat,js[i]?=some j∧X.N[j]?=some x∧Vis X.env.scope x∧X.env.kindOf x≠some .local
 len:js.length+1=N.length
 bind:∀(u pm ctv:Value) (c:Addr),bindArgs (kla_fn "<lambda>" qual params body sc cl pm (.ref c) ctv) ⟨[u],[]⟩=pure [(p,u)]
 dep:X.A.in1.depth<recursionLimit
 calm:X.calm=true
theorem SqL.sub {K:Frag}{H H':Hp}{a:Addr}{xs:List V}(h:SqL K H a xs)(s:∀b o,H b=some o→H' b=some o):SqL K H' a xs:=by
 rcases h with (h | ⟨o,h⟩) | h
 ·exact .inl (.inl (s _ _ h))
 ·exact .inl (.inr ⟨o,s _ _ h⟩)
 ·exact .inr h
section
variable {X:Cx}{pins:List (Addr×Obj)}{σ:St}{H:Hp}{s:Shared}{N:List Str}{p qual:Str}{params:Arguments}{body:Expr}{sc:Scope}{cl:List (Str×Addr)}{js:List Nat}{P c:Addr}{lpos:Pos}
theorem Xgw {L:Ztr X N p qual params body sc cl js P c lpos}{vs:List V}(e:js.map (fun j=>σ[j]?)=vs.map (fun v=>some (some v))):Xic X σ N.tail vs:=fun i x v h1 h2=>by
 obtain ⟨j,j1,j2,j3,j4⟩:=L.jsx i x h1
 refine ⟨j,j2,?_,j3,j4⟩
 have:=congrArg (fun l=>l[i]?) e
 simp only [getElem?_map,j1,h2,Option.map_some] at this
 exact Option.some.inj this
theorem Xid {vs:List V}{f:Addr}{tb:TE}(L:Ztr X N p qual params body sc cl js P c lpos)(e:js.map (fun j=>σ[j]?)=vs.map (fun v=>some (some v)))(hb:∀f c s H,PE (cxL X X.A.in1 N qual sc f (.ref c) cl s H) body tb) :
  Zxc X pins σ f (fun H=>Zvq H f qual params body sc cl) (fun x H Q=>tb ((x::vs).map some) H Q) X.A.in1:=fun own H s x u Q I lam rx q=>by
 obtain ⟨c',pm,ctv,oc,ws,t,e1,e2,e3,e4⟩:=lam
 obtain ⟨g1,_⟩:=(show Zay X.prog X.w H s.heap f (.frz _ (.own 0)) from I.hok f _ e1)
 obtain ⟨g2,_⟩:=(show Zay X.prog X.w H s.heap c' (.frz _ (.own 0)) from I.hok c' _ e2)
 have hl:vs.length+1=N.length:=by
  have:=congrArg List.length e
  rw [length_map,length_map] at this
  rw [← this]
  exact L.len
 refine wpAny_call (codeAny_mono (Xed I L.lsc I.ok.frames (I.ok.hd L.calm) L.dep hl (Xgw (L:=L) e) rx g1 ⟨c',oc,ws,t,rfl,g2,e3,e4⟩ (L.bind u pm ctv c') (hb f c' s H) q) fun r s' hr=>?_)
 cases r with
 | error e=>exact hr.elim
 | ok fl =>
  cases fl with
  | ret u' =>
   obtain ⟨v,H',os,bare,un,hok,r,q⟩:=hr
   obtain ⟨v2,H2,J,r2,q2,l2⟩:=I.after (Q:=fun v H=>Q v H∧Zvq H f qual params body sc cl) ⟨v,H',os,bare,un,hok,r,q,c',pm,ctv,oc,ws,t,un.frzs _ _ _ e1,un.frzs _ _ _ e2,e3,e4⟩
   exact ⟨v2,H2,J,l2,r2,q2⟩
  | next=>exact hr.elim
  | brk=>exact hr.elim
  | cont=>exact hr.elim
end
section
variable {X:Cx}{N:List Str}{p qual:Str}{params:Arguments}{body:Expr}{sc:Scope}{cl:List (Str×Addr)}{js:List Nat}{P c:Addr}{lpos np pos kp:Pos}{e:Expr}{te tb:TE}
theorem Xhf (hg:Gl X "max")(hm:X.mg "max"=none)(he:PE X e te)(L:Ztr X N p qual params body sc cl js P c lpos)(hb:∀f c s H,PE (cxL X X.A.in1 N qual sc f (.ref c) cl s H) body tb)(hs:starEach [e] X.env=(false,eval e X.env)::starEach [] X.env)(hs3:starEach ([]:List Expr) X.env=[]:=by rfl) :
  PE X (.Call (.Name "max" np) [e] [⟨some "key",.Lambda params body sc lpos,kp⟩] pos) (Zuf X.K (fun m n=>decide (m > n)) te js tb):=by
 intro pins s σ H Q I h
 refine wpAny_Call_Name_kw (Zez I hg hm boot_max ?_ (by decide) (by decide))
 refine callWith_kw (thn (Zgh he Znl hs pos pins s σ H _ I h) fun us s1 ⟨vs,H1,I1,r1,q1⟩=>?_) (by rw [hs,hs3];rfl) (by rw [hs,hs3];rfl) rfl rfl
 obtain ⟨a,xs,ws,rfl,hq,hne,ew,q⟩:=q1
 obtain ⟨u,rfl,rx⟩:=vals1 r1
 cases rx
 refine kws_cons (Xag I1 L.bm (I1.base.tbls P lpos qual L.tab) L.code L.hd L.clo L.qu L.df fun f H' s' J sub lam=>kws_nil ?_)
 exact Xeu L.calm (Xid L ew hb) J lam (hq.sub sub) hne (q H' sub)
end
end L2
namespace L2
open PySem PySem.Spec PyProof.Rows
open Dl (D R FE FT FA FO FS FI FB Fl)
theorem Zyk {lt:Int→Int→Bool}{ks:List Int}{i:Nat}(h:Dl.Ziw lt ks i=true)(hi:i<ks.length):Zbp lt ks i:=by
 unfold Dl.Ziw at h
 rw [Bool.and_eq_true,all_eq_true,all_eq_true] at h
 refine ⟨hi,fun j hj=>?_,fun j hj=>h.2 j (List.mem_range.mpr hj)⟩
 have:=h.1 j (List.mem_range.mpr hj)
 rw [Bool.not_eq_true'] at this
 exact this
theorem Zua {lt:Int→Int→Bool}{ks:List Int}{i j:Nat}(h:Zbp lt ks i)(g:Zbp lt ks j):i=j:=by
 rcases Nat.lt_trichotomy i j with z | z | z
 ·have:=g.2.2 i z
  rw [h.2.1 j g.1] at this
  cases this
 ·exact z
 ·have:=h.2.2 j z
  rw [g.2.1 i h.1] at this
  cases this
section
variable {K:Frag}{C:String→Addr}{E:XK}{Γ Δ Γ' Δ':List Nat}{m m1 m2 mb:Nat}{S Sb:List (Nat×Bool)}{H:Hp}
theorem Zuz {H0 Hb H:Hp}{σ:St}{ρ:Ym}{A:Nat→List Addr}(I:Zy K C H0 Hb H Γ Δ σ ρ A):∀{js:List Nat} {fs:List D},Dl.Zhf js ρ=.ok fs→∃ws B,js.map (fun j=>σ[j]?)=ws.map (fun v=>some (some v))∧RpA K C H fs ws B
 | [],fs,e=>by
  cases e
  exact ⟨[],[],rfl,rfl,rfl⟩
 | j::r,fs,e=>by
  have e:(Dl.fV j ρ).bind (fun x=>(Dl.Zhf r ρ).bind fun xs=>.ok (x::xs))=.ok fs:=e
  cases h1:Dl.fV j ρ with
  | bad=>rw [h1] at e;cases e
  | err c x=>rw [h1] at e;cases e
  | ok d =>
   rw [h1] at e
   cases h2:Dl.Zhf r ρ with
   | bad =>
    have e:(Dl.Zhf r ρ).bind (fun xs=>R.ok (d::xs))=.ok fs:=e
    rw [h2] at e
    cases e
   | err c x =>
    have e:(Dl.Zhf r ρ).bind (fun xs=>R.ok (d::xs))=.ok fs:=e
    rw [h2] at e
    cases e
   | ok xs =>
    have e:(Dl.Zhf r ρ).bind (fun xs=>R.ok (d::xs))=.ok fs:=e
    rw [h2] at e
    cases e
    obtain ⟨ws,B,e1,e2⟩:=Zuz I h2
    have hd:ρ[j]?=some (some d):=by
     unfold Dl.fV at h1
     split at h1
     ·rename_i d' hd
      cases h1
      exact hd
     ·cases h1
    obtain ⟨v,s1,s2⟩:=I.rep j d hd
    exact ⟨v::ws,A j++B,by rw [map_cons,map_cons,s1,e1],v,ws,A j,B,rfl,s2,e2,rfl⟩
theorem Zxf {a:Addr}{XS:List V}{tb:TE}{fb:FE}{fs:List D}{ws:List V}{H1:Hp}(hb:EOk K C E0 [] [] mb Sb tb fb)(ha:SqL K H1 a XS):∀{ds:List D} {xs:List V} {B Bf:List Addr} {H2:Hp} {ks:List Int} {Q:List Int→Hp→Prop},Xw H1 H2→RpA K C H2 ds xs B→RpA K C H2 fs ws Bf→Dl.Zed fb (fs.map some) ds=.ok ks→(∀H3,Xw H2 H3→Q ks H3)→
  Zsv K a XS (fun x H Q=>tb ((x::ws).map some) H Q) xs H2 Q
 | [],xs,B,Bf,H2,ks,Q,g,r,rf,e,q=>by
  cases e
  rw [r.1]
  exact q H2 (Xw.refl _)
 | d::ds,xs,B,Bf,H2,ks,Q,g,r,rf,e,q=>by
  obtain ⟨x,l,B1,B2,rfl,r1,r2,_⟩:=r
  have e:(fb (some d::fs.map some)).calm.bind (fun k=>match k with | .int k=>(Dl.Zed fb (fs.map some) ds).bind fun ks=>.ok (k::ks) | _=>.bad)=.ok ks:=e
  obtain ⟨A,I⟩:=Zly (N:=0) (K:=K) (C:=C) (ds:=d::fs) (vs:=x::ws) (B:=B1++Bf) (H:=H2) ⟨x,ws,B1,Bf,rfl,r1,rf,rfl⟩
  have hl:(ws.length:Nat)=fs.length:=rf.len
  have I':Zy K C H2 H2 H2 [] [] ((x::ws).map some) ((d::fs).map some) A:=by
   simpa [hl] using I
  show tb ((x::ws).map some) H2 _
  refine hb H2 H2 H2 _ _ A _ I' ?_
  show Yc (fb (some d::fs.map some)) _ _
  cases h1:fb (some d::fs.map some) with
  | bad=>rw [h1] at e;cases e
  | err c x=>rw [h1] at e;cases e
  | ok k =>
   rw [h1] at e
   intro v H' g' rs
   obtain ⟨Bv,rv,_⟩:=rs
   cases k with
   | int k =>
    have e:(Dl.Zed fb (fs.map some) ds).bind (fun ks=>R.ok (k::ks))=.ok ks:=e
    cases h2:Dl.Zed fb (fs.map some) ds with
    | bad=>rw [h2] at e;cases e
    | err c x=>rw [h2] at e;cases e
    | ok ks2 =>
     rw [h2] at e
     cases e
     refine ⟨k,rv.1,ha.sub (fun b o z=>g' _ _ (g _ _ z)),Zxf hb ha (g.trans g') (r2.same g') (rf.same g') h2 fun H3 g3=>q H3 (g'.trans g3)⟩
   | _=>cases e
theorem Zzv {lt:Int→Int→Bool}{fe fb:FE}{js:List Nat}{ρ:Ym}{ok:D→Prop}{er:String→Option Int→Prop}(p:Yc (Dl.Zkc lt fe js fb ρ) ok er):Yc (fe ρ) (fun d=>∃ds fs ks i z,d=.lst ds∧0<ds.length∧Dl.Zhf js ρ=.ok fs∧Dl.Zed fb (fs.map some) ds=.ok ks∧Zbp lt ks i∧ds[i]?=some z∧ok z) er:=by
 refine Yc.imp (Yc.bind p) (fun d q=>?_) fun c x q=>q
 cases d with
 | lst ds =>
  have q:Yc (if ds.isEmpty then R.bad else (Dl.Zhf js ρ).calm.bind fun fs=>(Dl.Zed fb (fs.map some) ds).bind (Dl.Zoh lt ds)) ok er:=q
  split at q
  ·exact q.elim
  ·rename_i hne
   cases h1:Dl.Zhf js ρ with
   | bad=>rw [h1] at q;exact q.elim
   | err c x=>rw [h1] at q;exact q.elim
   | ok fs =>
    rw [h1] at q
    have q:Yc ((Dl.Zed fb (fs.map some) ds).bind (Dl.Zoh lt ds)) ok er:=q
    cases h2:Dl.Zed fb (fs.map some) ds with
    | bad=>rw [h2] at q;exact q.elim
    | err c x =>
     exfalso
     have:∀(l:List D) c x,Dl.Zed fb (fs.map some) l≠.err c x:=fun l=>by
      induction l with
      | nil=>intro c x z;cases z
      | cons y l ih =>
       intro c x z
       have z:(fb (some y::fs.map some)).calm.bind (fun k=>match k with | .int k=>(Dl.Zed fb (fs.map some) l).bind fun ks=>.ok (k::ks) | _=>.bad)=.err c x:=z
       cases h3:fb (some y::fs.map some) with
       | bad=>rw [h3] at z;cases z
       | err c x=>rw [h3] at z;cases z
       | ok k =>
        rw [h3] at z
        cases k with
        | int k =>
         have z:(Dl.Zed fb (fs.map some) l).bind (fun ks=>R.ok (k::ks))=.err c x:=z
         cases h4:Dl.Zed fb (fs.map some) l with
         | bad=>rw [h4] at z;cases z
         | err c' x'=>exact ih c' x' h4
         | ok ks=>rw [h4] at z;cases z
        | _=>cases z
     exact this ds c x h2
    | ok ks =>
     rw [h2] at q
     have q:Yc (Dl.Zoh lt ds ks) ok er:=q
     unfold Dl.Zoh at q
     split at q
     ·rename_i i hi
      obtain ⟨z,e,q⟩:=Zhb q
      have hm:=List.mem_of_find?_eq_some hi
      exact ⟨ds,fs,ks,i,z,rfl,by cases ds with | nil=>simp at hne | cons _ _=>exact Nat.succ_pos _,rfl,h2,Zyk (List.find?_some hi) (List.mem_range.mp hm),e,q⟩
     ·exact q.elim
 | _=>exact q.elim
theorem Zud {lt:Int→Int→Bool}{te tb:TE}{fe fb:FE}{js:List Nat}(he:EOk K C E Γ Δ m S te fe)(hb:EOk K C E0 [] [] mb Sb tb fb):EOk K C E Γ Δ 0 S (Zuf K lt te js tb) (Dl.Zkc lt fe js fb):=fun H0 Hb H σ ρ A Q I p =>
  he H0 Hb H σ ρ A _ I (Yc.imp (Zzv p) (fun d q v H1 g1 r=>by
    obtain ⟨ds,fs,ks,i,z,rfl,hne,h1,h2,h3,h4,q⟩:=q
    obtain ⟨B,r,r',_⟩:=r
    obtain ⟨a,xs,B',rfl,e2,e3,e4⟩:=r
    obtain ⟨ws,Bf,w1,w2⟩:=Zuz (I.mono g1) h1
    show Xnk K lt js tb σ [.ref a] H1 Q
    refine ⟨a,xs,ws,rfl,SqL.of e2,by rw [e3.len];exact hne,w1,fun H2 sub=>Zxf hb (SqL.of e2) sub (e3.same sub) (w2.same sub) h2 fun H3 g3 j x hx hj=>?_⟩
    have:=Zua h3 hj
    subst this
    obtain ⟨v,Bz,z1,z2,z3⟩:=e3.get h4
    rw [hx] at z1
    cases z1
    have gg:Xw H1 H3:=Xw.trans sub g3
    exact q x H3 (g1.trans gg) ⟨Bz,z2.same gg,fun b hb=>r' b (by rw [e4];exact .tail _ (z3 b hb)),(fun z=>nomatch z),(fun z=>nomatch z)⟩) fun c x q H' g'=>q H' g')
end
section
variable {X:Cx}{C:String→Addr}{E:XK}{Γ Δ Γ' Δ' Γl Δl:List Nat}{m mb mr:Nat}{S Sb:List (Nat×Bool)}{N:List Str}{p qual:Str}{params:Arguments}{body:Expr}{sc:Scope}{cl:List (Str×Addr)}{js:List Nat}{P c:Addr}{lpos np pos kp p2:Pos}{e:Expr}{te tb:TE}{fe fb:FE}{x y:Str}{i j:Nat}
theorem Xjd (hg:Gl X "max")(hm:X.mg "max"=none)(he:JE X C E Γ Δ m S e te fe)(L:Ztr X N p qual params body sc cl js P c lpos)(hb:∀f c s H,JE (cxL X X.A.in1 N qual sc f (.ref c) cl s H) C E0 [] [] mb Sb body tb fb)(hs:starEach [e] X.env=(false,eval e X.env)::starEach [] X.env) :
  JE X C E Γ Δ 0 S (.Call (.Name "max" np) [e] [⟨some "key",.Lambda params body sc lpos,kp⟩] pos) (Zuf X.K (fun m n=>decide (m > n)) te js tb) (Dl.Zkc (fun m n=>decide (m > n)) fe js fb):=
 ⟨⟨Xhf hg hm he.q.out L (fun f c s H=>(hb f c s H).q.out) hs⟩,Zud he.o (hb 0 0 X.s₀ X.H₀).o⟩
end
section
variable {K:Frag}{C:String→Addr}{E:XK}{Γ Δ Γ' Δ' Γl Δl:List Nat}{m mr:Nat}{S:List (Nat×Bool)}{H:Hp}
end
section
variable {X:Cx}{C:String→Addr}{E:XK}{Γ Δ Γ' Δ' Γl Δl:List Nat}{m mr:Nat}{e:Expr}{te:TE}{fe:FE}{pos pos':Pos}{x:Str}{i j:Nat}
end
def Zei (ts:List (Addr×Pos×Str))(H:Hp):Prop:=∀t∈ts,H t.1=some (.tbl t.2.1 t.2.2)
noncomputable def spL (ts:List (Addr×Pos×Str))(sp:Sp):Sp:=fun vs H Q E=>Zei ts H∧sp vs H Q E
structure Xgi (K:Frag)(x qual:Str)(st:Stmt)(f:Addr)(fd:FuncData)(c:Addr):Prop where
 ex:∃(oc:Value) (od:Option Addr) (kV doc pm:Value) (an:Option Addr) (ct:Value) (osl:Array (Option Value)),
  fd=fnOf x qual (Zfx st) (Zbo st) (Zk st) .none kV doc pm an (.ref c) ct∧K.lookup f=some ⟨oc,od,.func fd,osl⟩∧codeIn K (.ref c) qual=true
 kp:keepIn K (.ref f)=true
theorem Xgi.one {K:Frag}{x qual:Str}{st:Stmt}{f:Addr}{fd:FuncData}{c:Addr}(F:Xgi K x qual st f fd c):Fun K x qual st f fd:=by
 obtain ⟨oc,od,kV,doc,pm,an,ct,osl,h1,h2,h3⟩:=F.ex
 exact ⟨⟨oc,od,kV,doc,pm,an,.ref c,ct,osl,h1,h2,h3⟩,F.kp⟩
section
variable {P:Program}{w:World}{K:Frag}{C:String→Addr}{mg:Str→Option Value}{base:Heap}{x qual:Str}{st:Stmt}{f c:Addr}{fd:FuncData}{N ps:List Str}{k n mr:Nat}{Γ' Δ':List Nat}{g:FS}{ts:List (Addr×Pos×Str)}
theorem Fun.okL (F:Fun K x qual st f fd)(S:Xd N ps (Zk st))(hn:ps.length=n)
    (hbody:∀(cdv:Value) (A:Around) (outer:List Env) (s:Shared) (H:Hp) (E:XK),Zec k (A.deeper (envOfC qual (Zk st) s.heap.objs.size f cdv))→Zei ts H→
      ∃t,JSs (Zxz CX0 P w K mg base N qual (Zk st) f cdv A outer s H E).nox C E0 mr [] [] [] [] Γ' Δ' (Zbo st) t g):Zam P w K mg base CX0 (k+1) f fd ps (spL ts (spD K C n mr fun ds=>(Dl.run N.length g ds).calm)):=
  F.okQ S (fun vs H Q E h=>by
    obtain ⟨_,ds,B,h1,h2,_⟩:=h
    rw [h2.len,h1,hn]) fun cdv A outer s H vs Q E hr h=>by
    obtain ⟨h0,ds,B,h1,h2,h3⟩:=h
    obtain ⟨t,ht⟩:=hbody cdv A outer s H E hr h0
    exact ⟨t,ht.q,Zkm (K:=K) ht.o h2 (Yc.imp (Zbn h3) (fun _ q=>q) fun _ _ z=>z.elim)⟩
theorem Xgi.okL (F:Xgi K x qual st f fd c)(S:Xd N ps (Zk st))(hn:ps.length=n)
    (hbody:∀(A:Around) (outer:List Env) (s:Shared) (H:Hp) (E:XK),Zec k (A.deeper (envOfC qual (Zk st) s.heap.objs.size f (.ref c)))→Zei ts H→
      ∃t,JSs (Zxz CX0 P w K mg base N qual (Zk st) f (.ref c) A outer s H E).nox C E0 mr [] [] [] [] Γ' Δ' (Zbo st) t g):Zam P w K mg base CX0 (k+1) f fd ps (spL ts (spD K C n mr fun ds=>(Dl.run N.length g ds).calm)):=by
  obtain ⟨oc,od,kV,doc,pm,an,ct,osl,rfl,lk,hcd⟩:=F.ex
  refine Xjs lk hcd S (fun vs H Q E h=>by
    obtain ⟨_,ds,B,h1,h2,_⟩:=h
    rw [h2.len,h1,hn]) fun A outer s H vs Q E hr h=>?_
  obtain ⟨h0,ds,B,h1,h2,h3⟩:=h
  obtain ⟨t,ht⟩:=hbody A outer s H E hr h0
  exact ⟨t,ht.q.out.nox,Zkm (K:=K) ht.o h2 (Yc.imp (Zbn h3) (fun _ q=>q) fun _ _ z=>z.elim)⟩
end
section
variable {X:Cx}{C:String→Addr}{E:XK}{Γ Δ:List Nat}{m n mr k:Nat}{S:List (Nat×Bool)}{x:Str}{p pos:Pos}{e:Expr}{es:List Expr}{t:TA}{ts:List (Addr×Pos×Str)}
theorem Xaf {K:Frag}{ps:List Str}{F:List D→R D}{f:FA}(Df:Def X.prog X.w X.K X.mg X.base CX0 k x ps (spL ts (spD K C n mr F)))(hr:Zec k X.A)(hg:Gl X x)(hx:Zho CX0 X E)(hL:Zei ts X.H₀)
  (ha:JA X C E Γ Δ m S (e::es) n t f) (hdb:(x==("__debug__":Str))=false:=by decide) (he:starEach (e::es) X.env=(false,eval e X.env)::starEach es X.env:=by rfl) (hpl:(backTo pos (starEach es X.env)).any (·.1)=false:=by rfl) (hK:X.K=K:=by rfl) :
  JE X C E Γ Δ mr [] (.Call (.Name x p) (e::es) [] pos) (Zpn (spD K C n mr F) [] E t) (Dl.Xr F f):=by
 subst hK
 refine ⟨⟨fun pins s σ H Q I h=>?_⟩,Zqc ha.o ha.n⟩
 have ha':PA X (e::es) fun σ H Q=>∃Q0:List V→Hp→Prop,t σ H Q0∧∀vs H1,Q0 vs H1→Zei ts H1→Q vs H1:=fun pos pins s σ H Q I ⟨Q0,h,hq⟩ =>
  thn (ha.q.out pos pins s σ H Q0 I h) fun us s1 ⟨vs,H1,I1,r,q⟩=>⟨vs,H1,I1,r,hq vs H1 q fun t ht=>I1.base.tbls _ _ _ (hL t ht)⟩
 exact Zsg Df hr hg hx ha' hdb he hpl pins s σ H Q I ⟨_,h,fun vs H1 q l=>⟨l,q⟩⟩
end
end L2
namespace L2
open PySem PySem.Spec PyProof.Rows
noncomputable def Zbb (T:List Addr)(K:Frag):Frag:=K.filter fun p=>!T.contains p.1
theorem Zft {T:List Addr}{a:Addr}(h:T.contains a=true):∀K:Frag,(Zbb T K).lookup a=none
 | []=>rfl
 | (b,o)::K=>by
  unfold Zbb
  rw [filter_cons]
  split
  ·rename_i hb
   rw [lookup_cons]
   split
   ·rename_i e
    have e:=eq_of_beq e
    subst e
    have hb:(!T.contains a)=true:=hb
    rw [h] at hb
    cases hb
   ·exact Zft h K
  ·exact Zft h K
theorem Jl {T:List Addr}{a:Addr}(h:T.contains a=false):∀K:Frag,(Zbb T K).lookup a=K.lookup a
 | []=>rfl
 | (b,o)::K=>by
  unfold Zbb
  rw [filter_cons,lookup_cons]
  split
  ·rw [lookup_cons]
   split
   ·rfl
   ·exact Jl h K
  ·rename_i hb
   have hb:¬(!T.contains b)=true:=hb
   split
   ·rename_i e
    have e:=eq_of_beq e
    subst e
    rw [h] at hb
    exact absurd rfl hb
   ·exact Jl h K
theorem Zpz {T:List Addr}{K:Frag}{h:Heap}(x:K.In h):(Zbb T K).In h:=fun a o e=>by
 cases q:T.contains a with
 | true=>rw [Zft q] at e;cases e
 | false=>rw [Jl q] at e;exact x a o e
section
variable {T:List Addr}{K:Frag}{a f c:Addr}{n x qual:Str}{v:Option Value}
theorem Zp (e:nsIn K a n=some v)(h:T.contains a=false:=by decide):nsIn (Zbb T K) a n=some v:=by
 unfold nsIn at e ⊢
 rw [Jl h]
 exact e
theorem Zth (e:codeIn K (.ref c) qual=true)(h:T.contains c=false:=by decide):codeIn (Zbb T K) (.ref c) qual=true:=by
 unfold codeIn at e ⊢
 simp only [Jl h]
 exact e
theorem Zyx {P:Addr}(e:codeHdIn K c P=true)(h:T.contains c=false:=by decide):codeHdIn (Zbb T K) c P=true:=by
 unfold codeHdIn at e ⊢
 rw [Jl h]
 exact e
theorem Zsz {oc:Value}{od:Option Addr}{fd:FuncData}{osl:Array (Option Value)}(l:K.lookup f=some ⟨oc,od,.func fd,osl⟩)(h:T.contains f=false:=by decide):keepIn (Zbb T K) (.ref f)=true:=by
 unfold keepIn
 simp only [Jl h,l]
theorem Xq {st:Stmt}{oc:Value}{od an:Option Addr}{osl:Array (Option Value)}{kV doc pm ct:Value}(l:K.lookup f=some ⟨oc,od,.func (fnOf x qual (Zfx st) (Zbo st) (Zk st) .none kV doc pm an (.ref c) ct),osl⟩)
  (cd:codeIn K (.ref c) qual=true) (hf:T.contains f=false:=by decide) (hc:T.contains c=false:=by decide):Xgi (Zbb T K) x qual st f (fnOf x qual (Zfx st) (Zbo st) (Zk st) .none kV doc pm an (.ref c) ct) c:=
 ⟨⟨oc,od,kV,doc,pm,an,ct,osl,rfl,by rw [Jl hf];exact l,Zth cd hc⟩,Zsz l hf⟩
theorem Zsm {o:Obj}(l:K.lookup a=some o)(h:T.contains a=false:=by decide):(Zbb T K).lookup a=some o:=by
 rw [Jl h]
 exact l
theorem Xfv {base:Heap}{mg:Str→Option Value}{bm:Addr}{ob:Obj}(KX:K.In base)(G:base.Ns mainGlobals mg)(e:nsIn K mainGlobals "__builtins__"=some (some (.ref bm)))(l:K.lookup bm=some ob)(h:bm≠builtinsNs∧ob.cls=.type "module"∧ob.dict=some builtinsNs∧ob.data=.plain):BMod base mg:=
 ⟨bm,_,mg_of KX G e,h.1,KX _ _ l,h.2.1,h.2.2.1,h.2.2.2⟩
end
def Zyv (ts:List (Addr×Pos×Str))(H:Hp):Prop:=∀b,H b=none∨(∃o xs,H b=some (.frz o (.lst xs)))∨∃t∈ts,b=t.1∧H b=some (.tbl t.2.1 t.2.2)
theorem Zvj {P:Program}{w:World}{K0:Frag}{ts:List (Addr×Pos×Str)}{mg mb:Str→Option Value}{CX:CXT}{k:Nat}{fa a:Addr}{fd:FuncData}{x:Str}{sp:Sp}{s₁:Shared}{vs:List Value}{ns:List Int}
    (KX:K0.In s₁.heap) (hT:∀t∈ts,K0.lookup t.1=some (tabObj #[])) (hC:∀t∈ts,isCodeTable s₁.heap t.1) (hnd:(ts.map (·.1)).Nodup)
    (hns:s₁.heap.Ns mainGlobals mg) (hb:s₁.heap.Ns builtinsNs mb) (hbb:∀x:Str,x≠"__name__"→mb x=bootBuiltins x) (hlim:s₁.heap.NoLimit) (hg:s₁.gens=#[])
    (ha:s₁.heap.get? a=some {cls:=.type "list",data:=.seq vs.toArray}) (hi:IntsAre vs ns) (hl:ns.length≤sizeLine) (hr:Zec k callerA)
    (F:∀base:Heap,(Zbb (ts.map (·.1)) K0).In base→base.Ns mainGlobals mg→Zam P w (Zbb (ts.map (·.1)) K0) mg base CX k fa fd [x] sp) (hbind:∀(s:Shared) (u:Value),BindsTo s fd ⟨[u],[]⟩ [(x,u)])
    (hsp:∀H:Hp,Zei ts H→Zyv ts H→SqL (Zbb (ts.map (·.1)) K0) H a (ns.map V.int)→sp [.ref a] H (fun v _=>v=.bl true) fun _ _ _=>False)
    (hCX:∀H e s',CX [] H s₁ (fun _ _ _=>False) e s'→False) :
    codeAny (model P w) callerA (.call (.ref fa) ⟨[.ref a],[]⟩) (fun r s'=>r=.ok (.ret (.bool true))∧OldK s₁.heap s'.heap∧s'.os=s₁.os∧AllBare s'.gens) s₁:=by
  have rv:=Zdi hi
  have lenV:=hi.length
  have tObj:∀t∈ts,s₁.heap.get? t.1=some (tabObj #[]):=fun t ht=>KX _ _ (hT t ht)
  have aT:∀t∈ts,t.1≠a:=fun t ht z=>by
    have:=tObj t ht
    rw [z,ha] at this
    cases this
  have find:∀b,(∃t∈ts,t.1=b)∨∀t∈ts,t.1≠b:=fun b=>by
    by_cases h:∃t∈ts,t.1=b
    · exact .inl h
    · exact .inr fun t ht e=>h ⟨t,ht,e⟩
  have one:∀{t u:Addr×Pos×Str},t∈ts→u∈ts→t.1=u.1→t=u:=fun {t u} ht hu e=>by
    have:∀(l:List (Addr×Pos×Str)),(l.map (·.1)).Nodup→t∈l→u∈l→t=u:=fun l=>by
      induction l with
      | nil=>intro _ h;cases h
      | cons y l ih =>
        intro nd h1 h2
        rw [map_cons,List.nodup_cons] at nd
        rcases List.mem_cons.mp h1 with z1 | z1<;>rcases List.mem_cons.mp h2 with z2 | z2
        · rw [z1,z2]
        · exact absurd (List.mem_map.mpr ⟨u,z2,by rw [← e,z1]⟩) nd.1
        · exact absurd (List.mem_map.mpr ⟨t,z1,by rw [e,z2]⟩) nd.1
        · exact ih nd.2 z1 z2
    exact this ts hnd ht hu
  have core:∀H:Hp,Zei ts H→Zyv ts H→SqL (Zbb (ts.map (·.1)) K0) H a (ns.map V.int)→HOk P w H s₁.heap→(∀b,H b≠none→b=a∨∃t∈ts,t.1=b)→(H a≠none→K0.lookup a=none)→
      codeAny (model P w) callerA (.call (.ref fa) ⟨[.ref a],[]⟩) (fun r s'=>r=.ok (.ret (.bool true))∧OldK s₁.heap s'.heap∧s'.os=s₁.os∧AllBare s'.gens) s₁:=by
    intro H hLm hO hS hok hA hK
    have base_of:∀{b:Addr} {o:Obj},s₁.heap.get? b=some o→H b=none→(Zrz s₁.heap H).get? b=some o:=fun e n=>Zpx e n
    have noA:∀{b:Addr} {o:Obj} {es:Array DictEntry} {ep:Nat},s₁.heap.get? b=some o→o.data=.dict es ep→H b=none:=fun {b o es ep} e d=>by
      cases q:H b with
      | none=>rfl
      | some u =>
        rcases hA b (by rw [q];simp) with e' | ⟨t,ht,e'⟩
        · subst e'
          rw [ha] at e;cases e
          have d':Data.seq vs.toArray _=Data.dict es ep:=d
          cases d'
        · subst e'
          rw [tObj t ht] at e;cases e
          have d':Data.fields #[]=Data.dict es ep:=d
          cases d'
    have nsK:∀{b:Addr} {m:Str→Option Value},s₁.heap.Ns b m→(Zrz s₁.heap H).Ns b m:=fun {b m} ⟨o,es,ep,e,d,r⟩=>⟨o,es,ep,base_of e (noA e d),d,r⟩
    have hKb:(Zbb (ts.map (·.1)) K0).In (Zrz s₁.heap H):=fun b o e=>base_of (Zpz KX b o e) (by
      cases q:H b with
      | none=>rfl
      | some u =>
        cases q2:(ts.map (·.1)).contains b with
        | true=>rw [Zft q2] at e;cases e
        | false =>
          rcases hA b (by rw [q];simp) with e' | ⟨t,ht,e'⟩
          · subst e'
            rw [Jl q2,hK (by rw [q];simp)] at e;cases e
          · have:(ts.map (·.1)).contains b=true:=List.contains_iff_mem.mpr (List.mem_map.mpr ⟨t,ht,e'⟩)
            rw [this] at q2;cases q2)
    have hM:Mod (Zbb (ts.map (·.1)) K0) mg (Zrz s₁.heap H):=⟨hKb,nsK hns,⟨mb,nsK hb,hbb⟩,let ⟨mc,h1,h2⟩:=hlim;⟨mc,nsK h1,h2⟩⟩
    have e0:Xjl P w (Zbb (ts.map (·.1)) K0) mg (Zrz s₁.heap H) callerA [] s₁ H:=⟨rfl,hM,fun b o e=>Zwa e,Nat.le_of_eq (Zlx _ _),trivial,fun b hb=>absurd (show b∈([]:List Addr) from hb) (by simp),hok,.of_eq hg⟩
    refine codeAny_mono ((F _ hKb (nsK hns)).run callerA [] s₁ H ⟨[.ref a],[]⟩ [.ref a] [.ref a] _ _ hr e0 (hbind s₁ (.ref a)) (.cons rfl .nil) (hsp H hLm hO hS)) fun r s' h=>?_
    cases r with
    | error e=>exact (hCX H e s' h).elim
    | ok fl =>
      cases fl with
      | next=>exact False.elim h
      | brk=>exact False.elim h
      | cont=>exact False.elim h
      | ret u =>
        obtain ⟨v,H',os,bare,un,hok',r',q⟩:=h
        have q':v=.bl true:=q
        subst q'
        obtain rfl:u=Value.bool true:=r'
        refine ⟨rfl,⟨fun b o e=>?_,fun b o e=>un.there b o e (by simp)⟩,os,bare⟩
        cases q:H b with
        | none=>exact .inl (un.keep b o e q (by intro z;exact absurd (show b∈([]:List Addr) from z) (by simp)) (by simp))
        | some u =>
          rcases hO b with z | ⟨ob,xs,z⟩ | ⟨t,ht,hbt,z⟩
          · rw [q] at z;cases z
          · have z2:=un.frzs b ob _ z
            obtain ⟨e1,_⟩:=hok b _ z
            obtain ⟨e2,_⟩:=hok' b _ z2
            rw [e] at e1;cases e1
            exact .inl e2
          · subst hbt
            have z2:=un.tbls _ _ _ z
            obtain ⟨ps,e2,_⟩:=hok' t.1 _ z2
            rw [tObj t ht] at e
            cases e
            refine .inr (.inl ⟨hC t ht,rfl,#[],ps,rfl,?_⟩)
            rw [e2]
            simp
  have tabs:∃H:Hp,Zei ts H∧(∀b,(∀t∈ts,t.1≠b)→H b=none):=by
    refine ⟨fun b=>(ts.find? fun t=>t.1==b).map fun t=>.tbl t.2.1 t.2.2,fun t ht=>?_,fun b hb=>?_⟩
    · have:ts.find? (fun u=>u.1==t.1)=some t:=by
        cases q:ts.find? (fun u=>u.1==t.1) with
        | none=>exact absurd (List.find?_eq_none.mp q t ht) (by simp)
        | some u=>rw [one (List.mem_of_find?_eq_some q) ht (by simpa using List.find?_some q)]
      show (ts.find? fun u=>u.1==t.1).map _=_
      rw [this];rfl
    · have:ts.find? (fun u=>u.1==b)=none:=List.find?_eq_none.mpr fun t ht=>by simpa using hb t ht
      show (ts.find? fun u=>u.1==b).map _=_
      rw [this];rfl
  obtain ⟨H1,hL1,hN1⟩:=tabs
  have okT:∀(H:Hp) (t:Addr×Pos×Str),t∈ts→Zay P w H s₁.heap t.1 (.tbl t.2.1 t.2.2):=fun H t ht=>⟨#[],tObj t ht,by exact trivial,fun v hv=>by cases hv⟩
  cases hk:K0.lookup a with
  | some o =>
    have e:=KX a o hk
    rw [ha] at e
    cases e
    have na:(ts.map (·.1)).contains a=false:=by
      cases q:(ts.map (·.1)).contains a with
      | false=>rfl
      | true =>
        obtain ⟨t,ht,e⟩:=List.mem_map.mp (List.contains_iff_mem.mp q)
        exact absurd e (aT t ht)
    refine core H1 hL1 (fun b=>?_) (.inr ⟨_,vs.toArray,_,by rw [Jl na];exact hk,rfl,rfl,rfl,by rw [size_toArray,lenV];exact hl,by simpa using rv⟩) (fun b u z=>?_) (fun b z=>?_) fun z=>absurd (hN1 a aT) z
    · rcases find b with ⟨t,ht,e⟩ | h
      · exact .inr (.inr ⟨t,ht,e.symm,by rw [← e];exact hL1 t ht⟩)
      · exact .inl (hN1 b h)
    · rcases find b with ⟨t,ht,e⟩ | h
      · subst e
        rw [hL1 t ht] at z
        cases z
        exact okT H1 t ht
      · rw [hN1 b h] at z;cases z
    · rcases find b with h | h
      · exact .inr h
      · exact absurd (hN1 b h) z
  | none =>
    have hne:∀t∈ts,t.1≠a:=aT
    refine core (fun b=>if b=a then some (.frz {cls:=.type "list",data:=.seq vs.toArray} (.lst (ns.map V.int))) else H1 b) (fun t ht=>(if_neg (hne t ht)).trans (hL1 t ht)) (fun b=>?_) (.inl (.inr ⟨{cls:=.type "list",data:=.seq vs.toArray},if_pos rfl⟩)) (fun b u z=>?_) (fun b z=>?_) fun _=>hk
    · by_cases hb:b=a
      · exact .inr (.inl ⟨_,_,if_pos hb⟩)
      · rcases find b with ⟨t,ht,e⟩ | h
        · exact .inr (.inr ⟨t,ht,e.symm,(if_neg hb).trans (by rw [← e];exact hL1 t ht)⟩)
        · exact .inl ((if_neg hb).trans (hN1 b h))
    · by_cases hb:b=a
      · have z':=(if_pos hb).symm.trans z
        cases z'
        subst hb
        exact ⟨ha,by rw [length_map];exact hl,vs,_,rv,ha⟩
      · have z':=(if_neg hb).symm.trans z
        rcases find b with ⟨t,ht,e⟩ | h
        · subst e
          rw [hL1 t ht] at z'
          cases z'
          exact okT _ t ht
        · rw [hN1 b h] at z';cases z'
    · by_cases hb:b=a
      · exact .inl hb
      · rcases find b with h | h
        · exact .inr h
        · exact absurd ((if_neg hb).trans (hN1 b h)) z
theorem Xcc {l:PySem.W.OpenLaw}{n k:Nat}{q:Program}{loose:List Str}{XP:(Str→Option Value)→Heap→Prop}{YP:World→Heap→Prop}{d:DefRec}{K:Params→Frag}{ts:List (Addr×Pos×Str)}{CX:World→CXT}{sp:World→Sp}{x:Str}
    (hn:l.most=some n) (hn2:n≤sizeLine) (hdf:d.params.defaults=[]) (hr:Zec k callerA)
    (hY:∀(w:World) (h:Heap),YP w h→(K w.params).In h)
    (hT:∀w:World,∀t∈ts,(K w.params).lookup t.1=some (tabObj #[])∧∃c,codeHdIn (K w.params) c t.1=true) (hnd:(ts.map (·.1)).Nodup)
    (F:∀(w:World) (mg:Str→Option Value) (fa:Addr) (h:Heap),(K w.params).In h→h.Ns mainGlobals mg→mg d.name=some (.ref fa)→
      ∃fd:FuncData,(∀(s:Shared) (u:Value),BindsTo s fd ⟨[u],[]⟩ [(x,u)])∧
        ∀base:Heap,(Zbb (ts.map (·.1)) (K w.params)).In base→base.Ns mainGlobals mg→Zam l.prog w (Zbb (ts.map (·.1)) (K w.params)) mg base (CX w) k fa fd [x] (sp w))
    (hsp:∀(w:World) (H:Hp) (a:Addr) (ns:List Int),ns.length≤n→Zei ts H→Zyv ts H→SqL (Zbb (ts.map (·.1)) (K w.params)) H a (ns.map V.int)→sp w [.ref a] H (fun v _=>v=.bl true) fun _ _ _=>False)
    (hCX:∀(w:World) (H:Hp) (s:Shared) (e:Value) (s':Shared),CX w [] H s (fun _ _ _=>False) e s'→False) :
    PySem.W.WalkO q loose XP YP l.row.toRowW d [] (fun f vs=>PySem.call f vs):=by
  refine Att.attach_call hn hdf fun w s₀ s₁ mg mb fa o pm cd doc a vs ns G Y ho hd hcd hmg hobj hints hlen hg=>?_
  have KX:=hY w _ Y
  obtain ⟨fd,hb,hF⟩:=F w mg fa _ KX G.T.g hmg
  exact Zvj KX (fun t ht=>(hT w t ht).1) (fun t ht=>by
    obtain ⟨c,e⟩:=(hT w t ht).2
    obtain ⟨o,vs,_,_,_,_,_,_,_,h1,h2,h3,h4,_⟩:=PySem.W.codeHd_of_K KX e
    exact ⟨c,o,vs,h1,h2,h3,h4⟩) hnd G.T.g G.T.b G.T.builtins G.T.nolimit hg hobj hints (le_trans hlen hn2) hr hF hb (fun H hL hO hS=>hsp w H a ns hlen hL hO hS) fun H e s'=>hCX w H s₁ e s'
end L2
namespace L2
open PySem PySem.Spec PyProof.Rows
open Dl (D R FE FT FA FO FS FI FB Fl)
theorem Zpc {k:Option NameKind}(h:k=some .cell):k≠some .local:=fun z=>by rw [h] at z;cases z
theorem Zzc {k:Nat}{A:Around}(r:Zec (k+2) A)(env:Env):Zec k (A.in1.deeper env):=r.in1.deeper env
theorem Xkm {X:Cx}{N:List Str}{p qual:Str}{params:Arguments}{body:Expr}{sc:Scope}{cl:List (Str×Addr)}{js:List Nat}{P c:Addr}{lpos:Pos}{k:Nat}
    (bm:BMod X.base X.mg) (tab:X.H₀ P=some (.tbl lpos qual)) (hd:CodeHd X.base c P) (hr:Zec (k+1) X.A) (calm:X.calm=true)
    (clo:closureFor sc X.env=pure cl) (c1:∀q∈cl,X.env.cells.lookup q.1=some q.2) (c2:∀x∈N.tail,∃c,cl.lookup x=some c)
    (j1:js.map (fun j=>X.N[j]?)=N.tail.map some) (j2:∀x∈N.tail,Vis X.env.scope x∧X.env.kindOf x≠some .local)
    (code:X.env.code=.ref c:=by rfl) (qu:X.env.qual++"<lambda>"=qual:=by rfl) (df:defaultsOf params X.env=([],[]):=by rfl)
    (k1:sc.kind=.function:=by rfl) (k2:sc.isCoroutine=false:=by rfl) (k3:sc.isGenerator=false:=by rfl) (k4:(sc.names.all fun x=>x.2 != .cell)=true:=by rfl) (k5:sc.names.lookup p=some .local:=by rfl) (k6:N.Nodup:=by decide +kernel) (k7:N.head?=some p:=by rfl)
    (k8:(N.tail.all fun x=>sc.names.lookup x==some .free)=true:=by rfl) (k9:(sc.names.all fun y=>y.2 != .free||N.tail.contains y.1)=true:=by rfl) (k10:js.length+1=N.length:=by rfl)
    (bind:∀(u pm ctv:Value) (c:Addr),bindArgs (kla_fn "<lambda>" qual params body sc cl pm (.ref c) ctv) ⟨[u],[]⟩=pure [(p,u)]:=by intros;rfl):Ztr X N p qual params body sc cl js P c lpos where
  bm:=bm
  tab:=tab
  code:=code
  hd:=hd
  clo:=clo
  qu:=qu
  df:=df
  lsc:={
    kind:=k1,co:=k2,gen:=k3,par:=k5,nd:=k6,hd:=k7
    nocell:=fun x hx z=>by
      have:=List.all_eq_true.mp k4 x hx
      rw [z] at this
      cases this
    tl:=fun x hx=>eq_of_beq (List.all_eq_true.mp k8 x hx)
    fr:=fun x hx=>by
      obtain ⟨y,hy,e⟩:∃y∈sc.names,y=(x,NameKind.free):=by
        have:∀l:List (Str×NameKind),l.lookup x=some .free→(x,NameKind.free)∈l:=fun l=>by
          induction l with
          | nil=>intro h;cases h
          | cons a l ih =>
            obtain ⟨b,kd⟩:=a
            intro h
            rw [lookup_cons] at h
            split at h
            · rename_i e
              cases h
              rw [eq_of_beq e]
              exact .head _
            · exact .tail _ (ih h)
        exact ⟨_,this _ hx,rfl⟩
      subst e
      have:=List.all_eq_true.mp k9 _ hy
      have:N.tail.contains x=true:=by simpa using this
      exact c2 x (List.contains_iff_mem.mp this)
    cls:=fun x c hx=>by
      have:∀l:List (Str×Addr),l.lookup x=some c→(x,c)∈l:=fun l=>by
        induction l with
        | nil=>intro h;cases h
        | cons a l ih =>
          obtain ⟨b,kd⟩:=a
          intro h
          rw [lookup_cons] at h
          split at h
          · rename_i e
            cases h
            rw [eq_of_beq e]
            exact .head _
          · exact .tail _ (ih h)
      exact c1 (x,c) (this _ hx)}
  jsx:=fun i x hi=>by
    have:=congrArg (fun l=>l[i]?) j1
    simp only [getElem?_map,hi,Option.map_some] at this
    cases q:js[i]? with
    | none=>rw [q] at this;cases this
    | some j =>
      rw [q] at this
      have h2:X.N[j]?=some x:=Option.some.inj this
      obtain ⟨v1,v2⟩:=j2 x (mem_of_getElem? hi)
      exact ⟨j,rfl,h2,v1,v2⟩
  len:=k10
  bind:=bind
  dep:=hr.in1.depth
  calm:=calm
theorem Xle {K:Frag}{ts:List (Addr×Pos×Str)}{H:Hp}{a:Addr}{xs:List V}(hO:Zyv ts H)(h:SqL K H a xs):FzL K H a xs:=by
 rcases h with (h | h) | h
 ·rcases hO a with z | ⟨o,ys,z⟩ | ⟨t,_,_,z⟩<;>· rw [h] at z;cases z
 ·exact .inl h
 ·exact .inr h
section
variable {K:Frag}{C:String→Addr}{E:XK}{Γ Δ Γ' Δ' Γk Δk:List Nat}{m mr:Nat}{H H2:Hp}
theorem Xhc:∀{path:List Int} {d:D} {v:V} {B:List Addr} {ds:List D},Rp K C H d v B→Dl.goP path d=some (.lst ds)→∃b xs,AtP K H v path b∧H b=some (.lst xs)∧xs.length=ds.length
 | [],d,v,B,ds,r,e=>by
  cases e
  obtain ⟨a,xs,B',rfl,e2,e3,_⟩:=r
  exact ⟨a,xs,rfl,e2,e3.len⟩
 | n::path,d,v,B,ds,r,e=>by
  cases d with
  | lst xs =>
   obtain ⟨j,hj,h⟩:=Option.bind_eq_some_iff.mp (show (Dl.ixD xs.length n).bind (fun j=>xs[j]?.bind (Dl.goP path))=some (.lst ds) from e)
   obtain ⟨d0,hd,h⟩:=Option.bind_eq_some_iff.mp h
   obtain ⟨a,vs,B',rfl,e2,e3,_⟩:=r
   obtain ⟨w,Bw,hw,rw',_⟩:=e3.get hd
   obtain ⟨b,ys,q1,q2,q3⟩:=Xhc rw' h
   exact ⟨b,ys,⟨a,vs,w,rfl,.inl e2,Zis (by rw [e3.len];exact hj) hw,q1⟩,q2,q3⟩
  | tup xs =>
   obtain ⟨j,hj,h⟩:=Option.bind_eq_some_iff.mp (show (Dl.ixD xs.length n).bind (fun j=>xs[j]?.bind (Dl.goP path))=some (.lst ds) from e)
   obtain ⟨d0,hd,h⟩:=Option.bind_eq_some_iff.mp h
   obtain ⟨a,vs,rfl,e2,e3⟩:=r
   obtain ⟨w,Bw,hw,rw',_⟩:=e3.get hd
   obtain ⟨b,ys,q1,q2,q3⟩:=Xhc rw' h
   exact ⟨b,ys,⟨a,vs,w,rfl,.inr e2,Zis (by rw [e3.len];exact hj) hw,q1⟩,q2,q3⟩
  | _=>cases e
theorem Zwp {n:Int}{b b':Addr}{xs:List V}(hb:H b=some (.lst xs)):∀{path:List Int} {v:V},AtP K H v (path++[n]) b'→AtP K H v path b→atI xs n=some (.ref b')
 | [],v,h,g=>by
  obtain ⟨p,zs,u,e,hq,ha,hu⟩:=h
  have g:v=.ref b:=g
  have hu:u=.ref b':=hu
  rw [g] at e
  cases e
  rcases hq with hq | hq
  ·rw [hb] at hq
   cases hq
   rw [ha,hu]
  ·rw [hb] at hq
   cases hq
 | k::path,v,h,g=>by
  obtain ⟨p,zs,u,e,hq,ha,hu⟩:=h
  obtain ⟨p2,zs2,u2,e2,hq2,ha2,hu2⟩:=g
  rw [e] at e2
  cases e2
  have ez:zs=zs2:=by
   rcases hq with hq | hq<;>rcases hq2 with hq2 | hq2<;>rw [hq] at hq2<;>cases hq2<;>rfl
  subst ez
  rw [ha] at ha2
  cases ha2
  exact Zwp hb hu hu2
theorem Xln {b:Addr}{ys:List V}(hb:H b=some (.lst ys)){x x' e:D}{B:List Addr}(r:Rp K C H x (.ref b) B)(hu:Dl.Zhc (Dl.Zgc e) [] x=some x'):b∈B:=by
 cases x with
 | lst ds =>
  obtain ⟨a,xs,B',e1,_,_,e4⟩:=r
  cases e1
  rw [e4]
  exact .head _
 | _=>cases hu
theorem Zkl {n:Int}{b b':Addr}{ys:List V}{e:D}(hy:H b'=some (.lst ys))(hk:∀a o,a≠b'→H a=some o→H2 a=some o) :
  ∀{path:List Int} {d d':D} {v:V} {B:List Addr} {ds:List D},Rp K C H d v B→B.Nodup→Dl.goP path d=some (.lst ds)→Dl.Zhc (Dl.Zgc e) (path++[n]) d=some d'→AtP K H v path b→AtP K H v (path++[n]) b'→AtP K H2 v path b∧b≠b'∧b'∈B
 | [],d,d',v,B,ds,r,nd,eg,eu,g,h=>by
  cases eg
  obtain ⟨j,hj,h1⟩:=Option.bind_eq_some_iff.mp (show (Dl.ixD ds.length n).bind (fun j=>ds[j]?.bind fun d=>(Dl.Zhc (Dl.Zgc e) [] d).map fun d'=>D.lst (ds.set j d'))=some d' from eu)
  obtain ⟨d0,hd,h1⟩:=Option.bind_eq_some_iff.mp h1
  obtain ⟨d1,hu,_⟩:=Option.map_eq_some_iff.mp h1
  obtain ⟨a,vs,B',rfl,e2,e3,rfl⟩:=r
  obtain ⟨w,Bw,hw,rw',sb⟩:=e3.get hd
  obtain ⟨p,zs,u,e1,hq,ha,hu'⟩:=h
  cases e1
  have hu':u=.ref b':=hu'
  have g:V.ref a=.ref b:=g
  cases g
  have ez:zs=vs:=by
   rcases hq with hq | hq<;>rw [e2] at hq<;>cases hq<;>rfl
  subst ez
  rw [Zis (by rw [e3.len];exact hj) hw] at ha
  cases ha
  subst hu'
  have hm:=sb b' (Xln hy rw' hu)
  have hne:b≠b':=fun z=>(List.nodup_cons.mp nd).1 (by rw [z];exact hm)
  exact ⟨rfl,hne,.tail _ hm⟩
 | k::path,d,d',v,B,ds,r,nd,eg,eu,g,h=>by
  obtain ⟨p,zs,u,rfl,hq,ha,hu⟩:=h
  obtain ⟨p2,zs2,u2,e2',hq2,ha2,hu2⟩:=g
  cases e2'
  cases d with
  | lst xs =>
   obtain ⟨j,hj,h1⟩:=Option.bind_eq_some_iff.mp (show (Dl.ixD xs.length k).bind (fun j=>xs[j]?.bind (Dl.goP path))=some (.lst ds) from eg)
   obtain ⟨d0,hd,h1⟩:=Option.bind_eq_some_iff.mp h1
   obtain ⟨j2,hj2,h2⟩:=Option.bind_eq_some_iff.mp (show (Dl.ixD xs.length k).bind (fun j=>xs[j]?.bind fun d=>(Dl.Zhc (Dl.Zgc e) (path++[n]) d).map fun d'=>D.lst (xs.set j d'))=some d' from eu)
   obtain ⟨d2,hd2,h2⟩:=Option.bind_eq_some_iff.mp h2
   obtain ⟨d3,hu3,_⟩:=Option.map_eq_some_iff.mp h2
   cases hj.symm.trans hj2
   cases hd.symm.trans hd2
   obtain ⟨a,vs,B',e1,e2,e3,rfl⟩:=r
   cases e1
   obtain ⟨w,Bw,hw,rw',sb⟩:=e3.getS hd
   have ez:zs=vs∧zs2=vs:=by
    constructor
    ·rcases hq with hq | hq<;>rw [e2] at hq<;>cases hq<;>rfl
    ·rcases hq2 with hq | hq<;>rw [e2] at hq<;>cases hq<;>rfl
   obtain ⟨rfl,rfl⟩:=ez
   have hat:=Zis (by rw [e3.len];exact hj) hw
   rw [hat] at ha ha2
   cases ha
   cases ha2
   obtain ⟨q1,q2,q3⟩:=Zkl hy hk rw' ((List.nodup_cons.mp nd).2.sublist sb) h1 hu3 hu2 hu
   have hne:p≠b':=fun z=>(List.nodup_cons.mp nd).1 (by rw [z];exact sb.subset q3)
   exact ⟨⟨p,_,_,rfl,.inl (hk _ _ hne e2),hat,q1⟩,q2,.tail _ (sb.subset q3)⟩
  | tup xs =>
   obtain ⟨j,hj,h1⟩:=Option.bind_eq_some_iff.mp (show (Dl.ixD xs.length k).bind (fun j=>xs[j]?.bind (Dl.goP path))=some (.lst ds) from eg)
   obtain ⟨d0,hd,h1⟩:=Option.bind_eq_some_iff.mp h1
   obtain ⟨j2,hj2,h2⟩:=Option.bind_eq_some_iff.mp (show (Dl.ixD xs.length k).bind (fun j=>xs[j]?.bind fun d=>(Dl.Zhc (Dl.Zgc e) (path++[n]) d).map fun d'=>D.tup (xs.set j d'))=some d' from eu)
   obtain ⟨d2,hd2,h2⟩:=Option.bind_eq_some_iff.mp h2
   obtain ⟨d3,hu3,_⟩:=Option.map_eq_some_iff.mp h2
   cases hj.symm.trans hj2
   cases hd.symm.trans hd2
   obtain ⟨a,vs,e1,e2,e3⟩:=r
   cases e1
   obtain ⟨w,Bw,hw,rw',sb⟩:=e3.getS hd
   have ez:zs=vs∧zs2=vs:=by
    constructor
    ·rcases hq with hq | hq<;>rw [e2] at hq<;>cases hq<;>rfl
    ·rcases hq2 with hq | hq<;>rw [e2] at hq<;>cases hq<;>rfl
   obtain ⟨rfl,rfl⟩:=ez
   have hat:=Zis (by rw [e3.len];exact hj) hw
   rw [hat] at ha ha2
   cases ha
   cases ha2
   obtain ⟨q1,q2,q3⟩:=Zkl hy hk rw' (nd.sublist sb) h1 hu3 hu2 hu
   have hne:p≠b':=fun z=>by rw [z,hy] at e2;cases e2
   exact ⟨⟨p,_,_,rfl,.inr (hk _ _ hne e2),hat,q1⟩,q2,sb.subset q3⟩
  | _=>cases eg
theorem Zom {i j:Nat}{n1 n2:Int}{te:TE}{fe:FE}(he:EOk K C E [] [] 2 [] te fe)(hi:i∈Δ':=by decide)(hij:i≠j:=by decide)(h3:∀k∈Γ',k∈Γ∧k≠j:=by decide)(h4:∀k∈Δ',k∈Δ∧k≠j:=by decide) :
    SOk K C E mr Γk Δk Γ Δ Γ' Δ' (Xjm (Ztb K (tOp (rIx K) (tOp (rIx K) (Zmr i) (tC (.int n1))) (tC (.int n2)))) (Yj j) (Zms (tBM K "list" Zcr (Zmr j) (Zbj te Zmh)))) (Dl.Zdw i j [n1,n2] fe):=fun H0 Hb H σ ρ A D I p=>by
  unfold Dl.Zdw at p
  split at p
  · rename_i d ed
    split at p
    · rename_i ds eg
      split at p
      · rename_i hlim
        obtain ⟨v,hs,r⟩:=I.rep i d ed
        obtain ⟨b,xs,hat,hb,hlen⟩:=Xhc r eg
        have hl:i<ρ.length:=(List.getElem?_eq_some_iff.mp ed).1
        have nj1:j∉Γ':=fun z=>(h3 j z).2 rfl
        have nj2:j∉Δ':=fun z=>(h4 j z).2 rfl
        have e0:ρ.set i (some d)=ρ:=by
          refine List.ext_getElem? fun k=>?_
          by_cases ek:k=i
          · subst ek
            rw [getElem?_set_self hl,ed]
          · rw [getElem?_set_ne (fun z=>ek z.symm)]
        have I0:=(I.weak (Γ':=Γ') (Δ':=Δ') (fun k hk=>(h3 k hk).1) (fun k hk=>(h4 k hk).1)).dead (σ':=σ) rfl (fun _ _=>rfl) nj1 nj2
        rw [← e0] at I0
        refine ⟨v,hs,Zro hat fun u hu=>Zro hu fun u hu=>?_⟩
        have hu:u=.ref b:=hu
        subst hu
        refine ⟨b,rfl,⟨xs,SqL.of hb⟩,fun k m σ' H'=>m=ds.length - k∧k≤ds.length∧∃(d:Dl.D) (A':Nat→List Addr),H' b=some (.lst xs)∧σ'[i]?=some (some v)∧AtP K H' v [n1,n2] b∧
            Zy K C H0 Hb H' Γ' Δ' σ' ((ρ.set i (some d)).set j Option.none) A'∧Zjf K C E mr Γk Δk Γ' Δ' H0 Hb D (Dl.Zcl i j [n1,n2] fe ρ k (ds.length - k) d),⟨ds.length,rfl,zero_le _,d,_,hb,hs,hat,I0,p⟩,?_⟩
        rintro k m σ' H' ⟨rfl,hkn,d,A',hb',hs',hat',I',pq⟩
        cases hm:ds.length - k with
        | zero =>
          left
          rw [hm] at pq
          exact ⟨⟨xs,SqL.of hb',by omega⟩,pq σ' H' A' I'⟩
        | succ m =>
          have hkl:k<xs.length:=by omega
          right
          rw [hm] at pq
          refine ⟨⟨xs,xs[k],SqL.of hb',getElem?_eq_getElem hkl⟩,fun σ2 H2=>∃(d:Dl.D) (A':Nat→List Addr),H2 b=some (.lst xs)∧σ2[i]?=some (some v)∧AtP K H2 v [n1,n2] b∧
            Zy K C H0 Hb H2 Γ' Δ' σ2 ((ρ.set i (some d)).set j Option.none) A'∧Zjf K C E mr Γk Δk Γ' Δ' H0 Hb D (Dl.Zcl i j [n1,n2] fe ρ (k+1) m d),fun σ2 H2 ⟨d2,A2,q1,q2,q3,q4,q5⟩=>⟨ds.length - (k+1),by omega,rfl,by omega,d2,A2,q1,q2,q3,q4,by rw [show ds.length - (k+1)=m by omega];exact q5⟩,?_⟩
          intro x0 H2 hy
          have hx0:=hy.2 xs (SqL.of hb')
          rw [hy.1]
          clear hy H2
          have hri:((ρ.set i (some d)).set j Option.none)[i]?=some (some d):=by
            rw [getElem?_set_ne (fun z=>hij z.symm),getElem?_set_self hl]
          have pq:Yc (match Dl.goP [n1,n2] d with
            | some (.lst _)=>(fe ((ρ.set i (some d)).set j Option.none)).calm.bind fun v=>match Dl.Zhc (Dl.Zgc v) ([n1,n2]++[(k:Int)]) d with
              | some d'=>Dl.Zcl i j [n1,n2] fe ρ (k+1) m d'
              | none=>.bad
            | _=>.bad) _ _:=pq
          split at pq
          · rename_i ds2 eg2
            cases ef:fe ((ρ.set i (some d)).set j Option.none) with
            | bad=>rw [ef] at pq;exact pq.elim
            | err c y=>rw [ef] at pq;exact pq.elim
            | ok e =>
              rw [ef] at pq
              have pq:Yc (match Dl.Zhc (Dl.Zgc e) ([n1,n2]++[(k:Int)]) d with
                | some d'=>Dl.Zcl i j [n1,n2] fe ρ (k+1) m d'
                | none=>.bad) _ _:=pq
              split at pq
              · rename_i d' eu
                obtain ⟨v2,b',ys,hs2,hat2,hb2,hz,up⟩:=I'.pathApp hi hri eu
                rw [hs'] at hs2
                cases hs2
                have ex:=Zwp hb' hat2 hat'
                rw [Xgu hx0] at ex
                cases ex
                obtain ⟨v3,hs3,r3⟩:=I'.rep i d hri
                rw [hs'] at hs3
                cases hs3
                have nd:=(I'.deep i hi).1
                have hjl:j<σ'.length:=by rw [I'.len,length_set,length_set];exact hlim.2
                have I1:=(I'.weak (Γ':=[]) (Δ':=[]) (fun _ z=>nomatch z) (fun _ z=>nomatch z)).dead (j:=j) (σ':=σ'.set j (some (.ref b'))) (length_set ..) (fun k hk=>getElem?_set_ne (fun z=>hk z.symm)) (fun z=>nomatch z) (fun z=>nomatch z)
                rw [set_set] at I1
                refine ⟨.ref b',getElem?_set_self hjl,.inl ⟨rfl,ys,SqL.of hb2⟩,he H0 Hb H' _ _ _ _ I1 ?_⟩
                rw [ef]
                intro w H2 g2 re
                obtain ⟨B2,re,nB,hB⟩:=Res.new' I' (Xw.refl _) re
                obtain ⟨A2,I2,_⟩:=up H2 w B2 g2 re nB hB
                have hk2:∀a o,a≠b'→H' a=some o→upd H2 b' (.lst (ys++[w])) a=some o:=fun a o ha h=>by rw [Xo ha];exact g2 _ _ h
                obtain ⟨q1,q2,_⟩:=Zkl hb2 hk2 r3 nd eg2 eu hat' hat2
                have I3:=I2.dead (j:=j) (σ':=σ'.set j (some (.ref b'))) (length_set ..) (fun k hk=>getElem?_set_ne (fun z=>hk z.symm)) nj1 nj2
                have ee:((((ρ.set i (some d)).set j Option.none).set i (some d')).set j Option.none)=(ρ.set i (some d')).set j Option.none:=by
                  rw [List.set_comm _ _ (fun z=>hij z.symm),set_set,set_set]
                rw [ee] at I3
                refine ⟨b',ys,w,rfl,rfl,g2 _ _ hb2,hz,d',_,hk2 _ _ q2 hb',?_,q1,I3,pq⟩
                rw [getElem?_set_ne (fun z=>hij z.symm)]
                exact hs'
              · exact pq.elim
          · exact pq.elim
      · exact p.elim
    · exact p.elim
  · exact p.elim
end
section
variable {X:Cx}{C:String→Addr}{E:XK}{Γ Δ Γ' Δ' Γk Δk:List Nat}{m mr:Nat}{e:Expr}{te:TE}{fe:FE}{pos p p1 p2 pa pb pc pd apos cpos:Pos}
theorem Zst {i j u1 u2:Nat}{n1 n2:Int}{x y:Str}{q3:Pos}(hp:PassesOwn (model X.prog X.w) X.A X.env X.xe)(hcalm:X.calm=true)(he:JE X C E [] [] 2 [] e te fe)(hse:starEach [e] X.env=(false,eval e X.env)::starEach [] X.env)
  (hN:X.N.Nodup) (hi:X.N[i]?=some x) (hj:X.N[j]?=some y) (hy:Loc X.env.scope y) (hf:autoParam (X.fn y=true∨X.env.scope.names.lookup y=some .local) aT0._auto_1)
  (hv:autoParam (Vis X.env.scope x) aT3._auto_1) (hd:(x==("__debug__":Str))=false:=by decide) (hcd:(x==("__classdict__":Str))=false:=by decide) (hv2:autoParam (Vis X.env.scope y) aT3._auto_1) (hd2:(y==("__debug__":Str))=false:=by decide) (hcd2:(y==("__classdict__":Str))=false:=by decide)
  (hiΔ:i∈Δ':=by decide) (hij:i≠j:=by decide) (h3:∀k∈Γ',k∈Γ∧k≠j:=by decide) (h4:∀k∈Δ',k∈Δ∧k≠j:=by decide)
  (hs:∀z,foldedSetIterable (.Subscript (.Subscript (.Name x p) (.Constant (.int n1) u1 pa) pb) (.Constant (.int n2) u2 pc) pd) X.env z=pure z:=by intro _;rfl) (hbase:attributeBase (.Name y p2) "append" X.env (eval (.Name y p2) X.env)=eval (.Name y p2) X.env:=by rfl)
  (hfew:((backTo cpos (starEach [e] X.env)).all (fun x=>!x.1)&&(backToKw cpos (keywordEach [] X.env)).all (fun x=>x.1.isSome)&&decide (([e]:List Expr).length+([]:List Keyword).length+(if ([]:List Keyword).isEmpty then 0 else 1)<30))=true:=by rfl)
  (hline:(apos.endLine==cpos.line)=true:=by rfl) (hplain:(backTo cpos (starEach ([]:List Expr) X.env)).any (·.1)=false:=by rfl) (hsw:swapsWith (.Call (.Attribute (.Name y p2) "append" apos) [e] [] cpos) none q3.line X.env=pure false:=by rfl) :
  JS X C E mr Γk Δk Γ Δ Γ' Δ' (.For (.Name y p1) (.Subscript (.Subscript (.Name x p) (.Constant (.int n1) u1 pa) pb) (.Constant (.int n2) u2 pc) pd) [.Expr (.Call (.Attribute (.Name y p2) "append" apos) [e] [] cpos) q3] [] pos) (Xjm (Ztb X.K (tOp (rIx X.K) (tOp (rIx X.K) (Zmr i) (tC (.int n1))) (tC (.int n2)))) (Yj j) (Zms (tBM X.K "list" Zcr (Zmr j) (Zbj te Zmh)))) (Dl.Zdw i j [n1,n2] fe):=
 ⟨Xdm hp hcalm (Zxw (Zxj Znx (Zxj Znx (qv i hi hv hd hcd) Ztz Zj) Ztz Zj)) (Zlt hN hj hy hf) (Zub (Zou (Xel PySem.F.plainAttrs_list PySem.F.slot_list_append PySem.F.type_list_append Zdf (qv j hj hv2 hd2 hcd2) (Zdl he.q Zme hse) hbase hfew hline hse hplain) hsw)) hs,Zom he.o hiΔ hij h3 h4⟩
end
end L2
namespace L2
open PySem PySem.Spec PyProof.Rows
section
variable {P:Program}{w:World}{H H':Hp}{h h':Heap}{a:Addr}{o:HO}
end
section
variable {X:Cx}{pins:List (Addr×Obj)}{σ:St}{H H':Hp}{s:Shared}{a:Addr}{u u':HO}{o:Obj}
variable {tg:Expr}
end
end L2
namespace L2
open PySem PySem.Spec PyProof.Rows
open Dl (D R FE FT FA FO FS FI FB Fl)
section
variable {K:Frag}{C:String→Addr}{E:XK}{Γ Δ Γl Δl:List Nat}{m m1 m2 m3 mr:Nat}{S S1 S2 S3:List (Nat×Bool)}{H:Hp}
end
section
variable {X:Cx}{C:String→Addr}{E:XK}{Γ Δ Γ' Δ' Γl Δl:List Nat}{m m1 m2 m3 mr:Nat}{S S1 S2 S3:List (Nat×Bool)}{a b c e o:Expr}{ta tb tc te:TE}{fa fb fc fe:FE}{p p2 pos apos cpos:Pos}{n:Nat}
end
section
variable {K:Frag}{C:String→Addr}{E:XK}{Γ Δ Γ' Δ' Γ1 Δ1 Γl Δl Γk Δk:List Nat}{m m1 m2 m3 mr:Nat}{H:Hp}{Q:VK}
end
section
variable {X:Cx}{C:String→Addr}{E:XK}{Γ Δ Γ' Δ' Γl Δl:List Nat}{mr:Nat}{pos p p2 apos cpos:Pos}{e:Expr}{te:TE}{fe:FE}
end
section
variable {K:Frag}{C:String→Addr}{E:XK}{Γ Δ Γ' Δ' Γ1 Δ1 Γl Δl Γk Δk:List Nat}{m m1 m2 m3 mr:Nat}{H:Hp}{Q:VK}
theorem Zy.putNew {H0 Hb H H1:Hp}{σ:St}{ρ:Ym}{A:Nat→List Addr}{y:Nat}{d:D}{v:V}{B:List Addr}(I:Zy K C H0 Hb H Γ Δ σ ρ A)(g:Xw H H1)(r:Rp K C H1 d v B)(hB:∀a∈B,H a=Option.none)(hl:y<ρ.length)(h1:∀j∈Γ1,j∈Γ∧j≠y)(h2:∀j∈Δ1,j∈Δ∧j≠y) :
  Zy K C H0 Hb H1 Γ1 Δ1 (σ.set y (some v)) (ρ.set y (some d)) (fun j=>if j=y then B else A j):=by
 have I1:=I.mono g
 have no:∀{j a},a∈A j→a∉B:=fun {j a} ha hb=>I.ne ha (hB a hb)
 refine ⟨I1.s0,I1.same,by rw [length_set,length_set,I1.len],fun j e h=>?_,fun j h=>?_,fun j hj a ha=>?_,fun j hj a l e=>?_,fun j hj=>?_⟩
 ·rcases get_set h with ⟨e1,_,e2⟩ | ⟨e1,e2⟩
  ·subst e1
   cases e2
   refine ⟨v,getElem?_set_self (by rw [I1.len];exact hl),?_⟩
   rw [if_pos rfl]
   exact r
  ·obtain ⟨w,q1,q2⟩:=I1.rep j e e2
   refine ⟨w,?_,?_⟩
   ·rw [getElem?_set_ne fun z=>e1 z.symm]
    exact q1
   ·rw [if_neg e1]
    exact q2
 ·by_cases e:j=y
  ·subst e
   exact absurd (getElem?_set_self hl) (h d)
  ·rw [if_neg e]
   exact I1.nil j fun x hx=>h x (by rw [getElem?_set_ne (fun z=>e z.symm)];exact hx)
 ·have:=h1 j hj
  rw [if_neg this.2] at ha
  exact I1.loc j this.1 a ha
 ·have hj':=h1 j hj
  rw [if_neg hj'.2] at e
  obtain ⟨t1,t2,t3⟩:=I1.top j hj'.1 a l e
  refine ⟨t1,t2,fun k hk=>?_⟩
  by_cases ek:k=y
  ·rw [if_pos ek]
   exact no (j:=j) (by rw [e];exact .head _)
  ·rw [if_neg ek]
   exact t3 k hk
 ·have hj':=h2 j hj
  obtain ⟨t1,t2,t3⟩:=I1.deep j hj'.1
  simp only [if_neg hj'.2]
  refine ⟨t1,fun k hk a ha=>?_,t3⟩
  by_cases ek:k=y
  ·rw [if_pos ek]
   exact no ha
  ·rw [if_neg ek]
   exact t2 k hk a ha
theorem Xck {y x:Nat}{t1 t2:TE}{f1 f2:FE}{S2:List (Nat×Bool)}(Γ1 Δ1:List Nat)(he1:EOk K C E Γ Δ m1 [] t1 f1)(he2:EOk K C E Γ1 Δ1 m2 S2 t2 f2)(hS:∀p∈S2,p.1=y)(g1:∀j∈Γ1,j∈Γ∧j≠y)(g2:∀j∈Δ1,j∈Δ∧j≠y)(g3:∀j∈Γ',j=x∨j∈Γ1)(g4:∀j∈Δ',j=x∨j∈Δ1) :
  SOk K C E mr Γl Δl Γ Δ Γ' Δ' (Zup (Zgr t1 (Yj y)) (Zgr t2 (Yj x))) (Dl.Zpk y x f1 f2):=fun H0 Hb H σ ρ A D I p=>by
 unfold Dl.Zpk at p
 by_cases hl:y<ρ.length
 ·rw [if_pos hl] at p
  refine he1 H0 Hb H σ ρ A _ I (Yc.imp (Yc.bind p) (fun d1 p v1 H1 s1 r1=>?_) fun c x q H' g'=>q H' (Xw.from0 I g'))
  obtain ⟨B1,r1,hB1,_⟩:=r1
  have hB1:∀a∈B1,H a=Option.none:=fun a ha=>(hB1 a ha).elim id fun z=>z.none.elim
  have I1:=I.putNew (Γ1:=Γ1) (Δ1:=Δ1) s1 r1 hB1 hl g1 g2
  refine he2 H0 Hb H1 _ _ _ _ I1 (Yc.imp (Yc.bind p) (fun d2 p v2 H2 s2 r2=>?_) fun c x q H' g'=>q H' (Xw.from0 I1 g'))
  obtain ⟨B2,r2,hB2,_⟩:=r2
  have hB2:∀a∈B2,H a=Option.none:=fun a ha=>by
   rcases hB2 a ha with z | z
   ·exact s1.free z
   ·obtain ⟨p,hp,z⟩:=z.mem
    rw [if_pos (hS p hp)] at z
    exact hB1 a z
  cases d2 with
  | lst ds =>
   have p:Yc (if Dl.Yz ds=true then R.ok (Fl.nx ((ρ.set y Option.none).set x (some (.lst ds)))) else .bad) _ _:=p
   by_cases hf:Dl.Yz ds=true
   ·rw [if_pos hf] at p
    have g:=s1.trans s2
    have nB2:B2.Nodup:=by
     obtain ⟨a,xs,B,_,_,r3,rfl⟩:=r2
     rw [r3.flat hf]
     exact List.nodup_cons.mpr ⟨(fun z=>nomatch z),nodup_nil⟩
    have I2:=((I.mono g).weak (Γ':=Γ1) (Δ':=Δ1) (fun j hj=>(g1 j hj).1) (fun j hj=>(g2 j hj).1)).dead (j:=y) (σ':=σ.set y (some v1)) (length_set ..) (fun k hk=>getElem?_set_ne fun z=>hk z.symm) (fun z=>(g1 y z).2 rfl) (fun z=>(g2 y z).2 rfl)
    have no:∀{j a},a∈(if j=y then [] else A j)→a∉B2:=fun {j a} ha hb=>by
     by_cases e:j=y
     ·rw [if_pos e] at ha;cases ha
     ·rw [if_neg e] at ha;exact I.ne ha (hB2 a hb)
    obtain ⟨A',I3,_⟩:=I2.put (Γ':=Γ') (Δ':=Δ') (i:=x) r2
     (fun j hj e=>⟨(g3 j hj).resolve_left e,fun a l e'=>no (j:=j) (by rw [e'];exact .head _)⟩)
     (fun _=>⟨fun a ha=>I.s0.free (I.same.free (hB2 a ha)),fun a l e=>⟨I.same.free (hB2 a (by rw [e];exact .head _)),by rw [e] at nB2;exact (List.nodup_cons.mp nB2).1,fun j _ z=>no z (by rw [e];exact .head _)⟩⟩)
     (fun j hj e=>⟨(g4 j hj).resolve_left e,fun a ha=>no ha⟩)
     (fun _=>⟨nB2,fun j _ a ha z=>no z ha,fun a ha=>I.same.free (hB2 a ha)⟩)
    exact p _ _ A' I3
   ·rw [if_neg hf] at p
    exact p.elim
  | _=>exact p.elim
 ·rw [if_neg hl] at p
  exact p.elim
theorem Ztq {y x:Nat}{t1 t2:TE}{v:TS}{f1 f2:FE}{h:FS}{S2:List (Nat×Bool)}(Γ1 Δ1 Γ2 Δ2:List Nat)(he1:EOk K C E Γ Δ m1 [] t1 f1)(he2:EOk K C E Γ1 Δ1 m2 S2 t2 f2)(hv:SOk K C E mr Γl Δl Γ2 Δ2 Γ' Δ' v h)(hS:∀p∈S2,p.1=y)(g1:∀j∈Γ1,j∈Γ∧j≠y)(g2:∀j∈Δ1,j∈Δ∧j≠y)(g3:∀j∈Γ2,j=x∨j∈Γ1)(g4:∀j∈Δ2,j=x∨j∈Δ1) :
  SOk K C E mr Γl Δl Γ Δ Γ' Δ' (Zup (Zgr t1 (Yj y)) (Zup (Zgr t2 (Yj x)) v)) (Dl.Xk (Dl.Zpk y x f1 f2) h):=
 show SOk K C E mr Γl Δl Γ Δ Γ' Δ' (Zup (Zup (Zgr t1 (Yj y)) (Zgr t2 (Yj x))) v) _ from Zwo (Xck Γ1 Δ1 he1 he2 hS g1 g2 g3 g4) hv
end
section
variable {X:Cx}{C:String→Addr}{E:XK}{Γ Δ Γ' Δ' Γl Δl:List Nat}{m1 m2 mr:Nat}{pos pos2 p1 p2:Pos}{e1 e2:Expr}{t1 t2:TE}{f1 f2:FE}{x y:Str}{ss:List Stmt}{v:TS}{h:FS}
theorem Zzo {i j:Nat}{S2:List (Nat×Bool)}(Γ1 Δ1 Γ2 Δ2:List Nat)(hN:X.N.Nodup)(hi:X.N[i]?=some y)(hy:Loc X.env.scope y)(hj:X.N[j]?=some x)(hx:Loc X.env.scope x)(he1:JE X C E Γ Δ m1 [] e1 t1 f1)(he2:JE X C E Γ1 Δ1 m2 S2 e2 t2 f2)(hv:JSs X C E mr Γl Δl Γ2 Δ2 Γ' Δ' ss v h)
  (hS:∀p∈S2,p.1=i:=by decide) (g1:∀k∈Γ1,k∈Γ∧k≠i:=by decide) (g2:∀k∈Δ1,k∈Δ∧k≠i:=by decide) (g3:∀k∈Γ2,k=j∨k∈Γ1:=by decide) (g4:∀k∈Δ2,k=j∨k∈Δ1:=by decide)
  (hs1:swapsWith e1 (some (.Name y p1)) pos.line X.env=pure false:=by rfl) (hs2:swapsWith e2 (some (.Name x p2)) pos2.line X.env=pure false:=by rfl)
  (hf1:autoParam (X.fn y=true∨X.env.scope.names.lookup y=some .local) aT0._auto_1) (hf2:autoParam (X.fn x=true∨X.env.scope.names.lookup x=some .local) aT0._auto_1) :
  JSs X C E mr Γl Δl Γ Δ Γ' Δ' (.Assign [.Name y p1] e1 pos::.Assign [.Name x p2] e2 pos2::ss) (Zup (Zgr t1 (Yj i)) (Zup (Zgr t2 (Yj j)) v)) (Dl.Xk (Dl.Zpk i j f1 f2) h):=
 ⟨Zle (Zmu hN hi hy he1.q hs1 hf1) (Zle (Zmu hN hj hx he2.q hs2 hf2) hv.q),Ztq Γ1 Δ1 Γ2 Δ2 he1.o he2.o hv.o hS g1 g2 g3 g4⟩
end
end L2
namespace L2
open PySem PySem.Spec PyProof.Rows
open Dl (D R FE FT FA FO FS FI FB FM Fl)
section
variable {K:Frag}{C:String→Addr}{E:XK}{Γ Δ Γ' Δ' Γ1 Δ1 Γl Δl Γk Δk:List Nat}{m m1 m2 m3 mr n:Nat}{S:List (Nat×Bool)}{H:Hp}{Q:VK}
def MOkF (K:Frag)(C:String→Addr)(E:XK)(Γ Δ:List Nat)(i:Nat)(t:TE)(f:FM):Prop:=∀(H0 Hb H:Hp) (σ:St) (ρ:Ym) (A:Nat→List Addr) (Q:VK),Zy K C H0 Hb H Γ Δ σ ρ A→
 Yc (f ρ) (fun p=>∀v H' A' B,Zy K C H0 Hb H' Γ Δ σ p.2 A'→(∀b o,b∉A i→H b=some o→H' b=some o)→(∀j,j≠i→p.2[j]?=ρ[j]?∧A' j=A j)→Rp K C H' p.1 v B→B.Nodup→(∀a∈B,Hb a=none∧∀j,a∉A' j)→Q v H') (fun c x=>∀H',Xw H0 H'→EC C E c x H')→t σ H Q
end
section
variable {X:Cx}{C:String→Addr}{E:XK}{Γ Δ Γ' Δ' Γl Δl:List Nat}{m m2 mr n:Nat}{S2:List (Nat×Bool)}{e:Expr}{es:List Expr}{t:TA}{fa:FA}{pos p p1 p2 p3 p4 p5 apos cpos mpos mapos:Pos}{c:String}{md x y kx:Str}{CX:CXT}{k:Nat}{ps:List Str}{tm:TE}{fm:FM}
structure JMF (X:Cx)(C:String→Addr)(E:XK)(Γ Δ:List Nat)(j:Nat)(e:Expr)(t:TE)(f:FM):Prop where
 q:QE X e t
 o:MOkF X.K C E Γ Δ j t f
end
end L2
namespace L2
open PySem PySem.Spec PyProof.Rows
@[reducible] noncomputable def Cx.blkC (X:Cx)(N2:List Str)(y:Str)(sc:Scope)(cl:List (Str×Addr))(C:Addr)(s0:Shared)(H0:Hp)(fp:List Addr):Cx:=
 {X with N:=N2++[y],s₀:=s0,H₀:=H0,env:=compEnvC sc cl C X.env,outer:=X.stack,ex:=fp,fn:=fun z=>z==y,pn:=[],xe:=fun _ _=>False}
structure BlkC (sc esc:Scope)(y:Str)(N N2:List Str):Prop where
 kind:sc.kind=.function
 cell:∀n acc,cellsFrom n sc.names acc=(y,n)::acc
 one:∀z∈sc.names,z.2=.cell→z.1=y
 nfree:∀z∈sc.names,z.2=.free→z.1≠y
 loc:∀z∈sc.names,z.2=.local→sc.names.lookup z.1=some .local
 free:∀z∈sc.names,z.2=.free→esc.names.lookup z.1=some .cell∨esc.names.lookup z.1=some .free
 out:∀z∈N2,sc.names.lookup z≠some .local∧z≠y
 nd:N.Nodup
 len:N2.length=N.length
 ren:∀p∈N.zip N2,p.2=p.1∨sc.names.lookup p.2=none
theorem Zcu {env:Env}{w:Str}:∀{names:List (Str×NameKind)} {y:Str} {k:NameKind},(∀z∈names,z.2=.cell→z.1=w)→(k=.cell∨k=.free)→
  (names.map fun (n,k)=>if (k==NameKind.free&&env.scope.kind==.function&&env.kindOf n==some .cell) then (n,NameKind.cell) else (n,k)).lookup y=some k→y=w∨(y,NameKind.free)∈names
 | [],_,_,_,_,hz=>by simp at hz
 | (n,k0)::r,y,k,hc,hk,h=>by
  rw [map_cons] at h
  cases hy:y==n with
  | true =>
   have e:y=n:=by simpa using hy
   subst e
   by_cases hf:k0=.free
   ·subst hf;exact .inr mem_cons_self
   ·have hb:(k0==NameKind.free)=false:=by simpa using hf
    simp only [hb,Bool.false_and,Bool.false_eq_true,if_false,lookup_cons,beq_self_eq_true] at h
    have e1:k0=k:=by simpa using h
    subst e1
    rcases hk with z | z
    ·exact .inl (hc _ mem_cons_self z)
    ·exact absurd z hf
  | false =>
   refine (Zcu (env:=env) (k:=k) (w:=w) (names:=r) (y:=y) (fun z hz=>hc z (mem_cons_of_mem _ hz)) hk ?_).imp id (mem_cons_of_mem _)
   by_cases hc':(k0==NameKind.free&&env.scope.kind==.function&&env.kindOf n==some .cell)=true
   ·simp only [hc',if_true,lookup_cons,hy] at h
    exact h
   ·simp only [hc',Bool.false_eq_true,if_false,lookup_cons,hy] at h
    exact h
theorem Xab {M:Model}{A:Around}{E:Value→Shared→Prop}{s:Shared}{sc:Scope}{g:Addr}{cl:List (Str×Addr)}{qual:Str}{env0:Env}{y:Str}{Q:Env→Shared→Prop}
    (hc:∀n acc,cellsFrom n sc.names acc=(y,n)::acc)
    (h:∀h',h'.Ns s.heap.objs.size (fun _=>none)→h'.IsCell (s.heap.objs.size+1) none→(∀b o,s.heap.get? b=some o→h'.get? b=some o)→
      Q {scope:=sc,locals:=s.heap.objs.size,globals:=g,cells:=(y,s.heap.objs.size+1)::cl,qual:=qual,func:=none,code:=env0.code,frame:=env0.frame,builtins:=env0.builtins} {s with heap:=h'}) :
    wpAny M A (newFunctionEnv sc g cl [] qual none .none (some env0)) Q E s:=by
  simp only [newFunctionEnv,Option.isSome_some,if_true]
  refine wpAny_bind (wpAny_alloc ?_)
  refine wpAny_bind (wpAny_layCells _ (fun name kind cells=>by cases hkc:kind==NameKind.cell<;>simp [hkc]) _ _ _ _ ?_)
  have ok:=cellsFrom_ok sc.names (s.heap.push {cls:=.type "dict",data:=.dict #[]}) (s.heap.objs.size+1) [] ⟨fun _ _ hm=>(nomatch hm),List.Pairwise.nil⟩ (by rw [size_push];exact le_refl _)
  rw [size_push,hc] at ok
  rw [show ({s with heap:=s.heap.push {cls:=.type "dict",data:=.dict #[]}}:Shared).heap.objs.size=s.heap.objs.size+1 from size_push ..,hc]
  refine wpAny_bind (wpAny_pure (wpAny_pure ?_))
  exact h _ ((Heap.Ns.new s.heap (.type "dict")).keeps (pushCells_keeps _ _)) (ok.empty _ _ mem_cons_self).1 fun b o e=>pushCells_keeps _ _ b o (get?_push_of_some _ e)
section
variable {X:Cx}{elt iter tg:Expr}{y:Str}{pos:Pos}{g:TG}{ifs:List Expr}{sc:Scope}{N2:List Str}{wi:TI}{tc:TT}{te:TE}
theorem Ztl {pins:List (Addr×Obj)}{σ:St}{H:Hp}{s s1:Shared}{fp:List Addr}{h':Heap}{m:Str→Option Value}{tk:Nat}{c:Addr}(B:BlkC sc X.env.scope y X.N N2)(I:Inv X pins σ H s)(hf:∀b∈fp,Zjl X pins H b)
    (hfl:∀b∈fp,b<s.heap.objs.size) (hn:h'.Ns s.heap.objs.size m) (hcc:h'.IsCell c none) (hcs:s.heap.objs.size<c) (hk:∀b o,s.heap.get? b=some o→h'.get? b=some o) (e1:s1={s with heap:=h',toks:=tk}) :
    Inv (X.blkC N2 y sc ((y,c)::Yb X.env.cells sc.names []) s.heap.objs.size s H fp) [] (σ++[none]) H s1:=by
  subst e1
  have hcl:∀y∈sc.names,y.2=.free→∃c,X.env.cells.lookup y.1=some c:=fun y hy hf=>I.ok.has y.1 (B.free y hy hf)
  have look:∀y c,(Yb X.env.cells sc.names []).lookup y=some c→X.env.cells.lookup y=some c:=fun y c h=>Zig hcl (fun _ z=>by simp at z) h
  have old:∀z d,X.env.cells.lookup z=some d→d<s.heap.objs.size:=fun z d h=>by
    obtain ⟨v,o,ho,_⟩:=I.cell z d h
    exact lt_size ho
  have look2:∀z d,((y,c)::Yb X.env.cells sc.names []).lookup z=some d→(z=y∧d=c)∨(z≠y∧X.env.cells.lookup z=some d):=fun z d h=>by
    rw [lookup_cons] at h
    cases hz:z==y with
    | true =>
      rw [hz] at h
      exact .inl ⟨by simpa using hz,(Option.some.inj h).symm⟩
    | false =>
      rw [hz] at h
      exact .inr ⟨by simpa using hz,look z d h⟩
  have isfree:∀z,(relabel sc X.env).names.lookup z=some .cell∨(relabel sc X.env).names.lookup z=some .free→z=y∨(z,NameKind.free)∈sc.names:=fun z hz=>by
    rcases hz with hz | hz
    · exact Zcu (env:=X.env) B.one (.inl rfl) hz
    · exact Zcu (env:=X.env) B.one (.inr rfl) hz
  have has2:∀z,(z,NameKind.free)∈sc.names→((y,c)::Yb X.env.cells sc.names []).lookup z=(Yb X.env.cells sc.names []).lookup z:=fun z hz=>by
    have e:(z==y)=false:=by simpa using B.nfree (z,.free) hz rfl
    rw [lookup_cons,e]
  refine ⟨⟨I.ok.mod,B.kind,I.ok.glob,I.ok.blt,le_refl _,fun z w d h1 h2=>?_,fun z hz=>?_,fun z d hz h=>?_,I.ok.hd,I.ok.frames,.inl rfl,fun b hb=>?_,fun b o e=>?_,le_trans I.ok.bsz I.sz,fun b o e hb=>?_,fun b hb hs=>?_,I.stack,I.stkFree⟩,
    rfl,I.bare,Un.kept hk,⟨_,hn,fun i w v h1 h2 h3=>?_⟩,fun z d h=>?_,I.hok.fresh (le_refl _),fun z d h=>?_,fun p hp=>absurd (show p∈([]:List (Addr×Obj)) from hp) (by simp),I.hok.kept hk,?_⟩
  · rcases look2 z d h1 with ⟨a1,a2⟩ | ⟨a1,a2⟩<;>rcases look2 w d h2 with ⟨b1,b2⟩ | ⟨b1,b2⟩
    · rw [a1,b1]
    · exact absurd (lt_trans hcs (a2▸old _ _ b2)) (lt_irrefl _)
    · exact absurd (lt_trans hcs (b2▸old _ _ a2)) (lt_irrefl _)
    · exact I.ok.inj z w d a2 b2
  · rcases isfree z hz with e | e
    · exact ⟨c,by subst e;show List.lookup _ (_::_)=_;rw [lookup_cons,beq_self_eq_true]⟩
    · obtain ⟨d,hd⟩:=Zfb (cells:=X.env.cells) (cs:=[]) e
      exact ⟨d,(has2 z e).trans hd⟩
  · have hz:(z==y)=true:=hz
    rcases look2 z d h with ⟨_,a2⟩ | ⟨a1,_⟩
    · show s.heap.objs.size≤d
      rw [a2]
      exact le_of_lt hcs
    · exact absurd (by simpa using hz) a1
  · refine ⟨ne_of_lt (hfl b hb),fun z d h=>?_⟩
    rcases look2 z d h with ⟨_,a2⟩ | ⟨_,a2⟩
    · rw [a2]
      exact (ne_of_lt (lt_trans (hfl b hb) hcs)).symm
    · exact (hf b hb).2.2.2.2.1 z d a2
  · exact I.bs b o e
  · rcases (hf b hb).2.2.2.1 with z | z
    · exact I.ok.noex b o e z
    · exact absurd (lt_of_lt_of_le (lt_size e) (le_trans I.ok.bsz z)) (lt_irrefl _)
  · rcases List.mem_cons.mp (I.stkSub b hs) with z | z
    · exact (hf b hb).2.1 z
    · exact (hf b hb).2.2.1 z
  · have hlen:=I.len
    have hl2:=B.len
    have h1:(N2++[y])[i]?=some w:=h1
    have h2:(σ++[none])[i]?=some (some v):=h2
    have hi:i<X.N.length:=by
      by_cases hi:i<X.N.length
      · exact hi
      · rw [getElem?_append_right (by omega)] at h2
        have hm:=mem_of_getElem? h2
        rw [List.mem_singleton] at hm
        cases hm
    rw [getElem?_append_left (by omega)] at h1
    rw [getElem?_append_left (by omega)] at h2
    have hw:=B.out w (mem_of_getElem? h1)
    have h3':(relabel sc X.env).names.lookup w=some .cell∨(relabel sc X.env).names.lookup w=some .free:=by
      rcases h3 with z | z
      · exact absurd (Zes (env:=X.env) z) hw.1
      · exact z
    have hfr:(w,NameKind.free)∈sc.names:=(isfree w h3').resolve_left hw.2
    have h1:X.N[i]?=some w:=by
      obtain ⟨z,hz⟩:∃z,X.N[i]?=some z:=⟨X.N[i],getElem?_eq_getElem hi⟩
      rcases B.ren (z,w) (mem_of_getElem? (List.getElem?_zip_eq_some.mpr ⟨hz,h1⟩)) with e | e
      · rw [hz,show w=z from e]
      · exact absurd e (lookup_mem hfr)
    obtain ⟨m3,hn3,hl3⟩:=I.loc
    have hv:X.env.scope.names.lookup w=some .cell∨X.env.scope.names.lookup w=some .free:=B.free (w,.free) hfr rfl
    obtain ⟨u,ru,lk⟩:=hl3 i w v h1 h2 (.inr hv)
    refine ⟨u,ru,.inr ⟨h3',?_⟩⟩
    rcases lk with ⟨k1,_⟩ | ⟨k1,d,ec,zc⟩
    · rcases hv with q | q
      · rw [show X.env.kindOf w=X.env.scope.names.lookup w from rfl,q] at k1
        cases k1
      · rw [show X.env.kindOf w=X.env.scope.names.lookup w from rfl,q] at k1
        cases k1
    · obtain ⟨c',e'⟩:=Zfb (cells:=X.env.cells) (cs:=[]) hfr
      have e2:=look w c' e'
      rw [ec] at e2
      cases e2
      obtain ⟨o,ho,hd⟩:=zc
      exact ⟨d,(has2 w hfr).trans e',o,hk _ _ ho,hd⟩
  · rcases look2 z d h with ⟨_,a2⟩ | ⟨_,a2⟩
    · subst a2
      exact ⟨none,hcc⟩
    · obtain ⟨v,o,ho,hd⟩:=I.cell z d a2
      exact ⟨v,o,hk _ _ ho,hd⟩
  · rcases look2 z d h with ⟨_,a2⟩ | ⟨_,a2⟩
    · subst a2
      exact I.hok.fresh (le_of_lt hcs)
    · exact I.freeC z d a2
  · show (σ++[none]).length=(N2++[y]).length
    rw [length_append,length_append,I.len,B.len]
    rfl
theorem Xbl {pins:List (Addr×Obj)}{σ:St}{H2:Hp}{s2:Shared}{it:Addr}{fp:List Addr}{tn:Nat→Heap→Prop}{J:It}{Q:VK}{E:Value→Shared→Prop}{RR:Value→Addr→Result→Shared→Prop}(hc:X.calm=true)(B:BlkC sc X.env.scope y X.N N2)
    (hg:∀cl C s0 H0 fp,PG (X.blkC N2 y sc cl C s0 H0 fp) tg g) (ht:∀cl C s0 H0 fp,PIf (X.blkC N2 y sc cl C s0 H0 fp) ifs tc) (he:∀cl C s0 H0 fp,PE (X.blkC N2 y sc cl C s0 H0 fp) elt te)
    (I2:Inv X pins σ H2 s2) (T:Turn X.prog X.w X.K tg J fp it tn) (st2:tn 0 s2.heap) (f2:∀b∈fp,Zjl X pins H2 b)
    (hw:∀D,H2 D=none→∃W:Nat→Nat→Hp→Prop,(∃m,W 0 m (upd H2 D (.lst [])))∧∀i m H,W i m H→
      (J.stop i H∧Q (.ref D) H)∨(J.go i H∧∃N:Hp→Prop,(∀H',N H'→∃m',m'<m∧W (i+1) m' H')∧∀x H',J.yld i H x H'→∀os:St,os.length=1→g x (σ++os) H' fun σ' Hg=>(∃os',os'.length=1∧σ'=σ++os')∧tc σ' Hg fun b H2 =>
        if b=true then te σ' H2 fun v H3=>∃ys,H3 D=some (.lst ys)∧ys.length<sizeLine∧N (upd H3 D (.lst (ys++[v])))
        else N H2))
    (fin:∀(D C:Addr) (H':Hp) (s':Shared) (m:Str→Option Value),Inv X pins σ H' s'→s'.heap.Ns C m→Zjl X pins H' C→Q (.ref D) H'→RR (.ref D) C (.ok .next) s') :
    wpAny (model X.prog X.w) X.A (newList []) (fun acc s₃=>wpAny (model X.prog X.w) X.A (newFunctionEnv sc X.env.globals (Yb X.env.cells sc.names []) [] X.env.qual none .none (some X.env)) (fun cenv s₄ =>
      codeAny (model X.prog X.w) X.A (.compStart (.ListComp elt [⟨tg,iter,ifs,0⟩] sc pos) 0 (.ref it) acc {cenv with scope:=relabel sc X.env}) (RR acc cenv.locals) s₄) E s₃) E s2:=by
  refine wpAny_newObj_type (Xab B.cell fun h₁ hns₁ hcc₁ hk₁=>?_)
  have hD:H2 s2.heap.objs.size=none:=I2.fresh
  obtain ⟨W,⟨m0,w0⟩,turn⟩:=hw _ hD
  have I3:Inv X pins σ (upd H2 s2.heap.objs.size (.lst [])) {s2 with heap:=s2.heap.push {cls:=.type "list",data:=.seq ([]:List Value).toArray}}:=I2.lnew (its:=[]) (t':=s2.toks) .nil (zero_le _)
  have fne:∀b∈fp,b<s2.heap.objs.size:=fun b hb=>by
    obtain ⟨o,ho,_⟩:=T.obj _ _ st2 b hb
    exact lt_size ho
  generalize hs3:({s2 with heap:=s2.heap.push {cls:=.type "list",data:=.seq ([]:List Value).toArray}}:Shared)=s3 at I3
  have hs3h:s3.heap=s2.heap.push {cls:=.type "list",data:=.seq ([]:List Value).toArray}:=by rw [← hs3]
  have f3:∀b∈fp,Zjl X pins (upd H2 s2.heap.objs.size (.lst [])) b:=fun b hb=>⟨by rw [Xo (ne_of_lt (fne b hb))];exact (f2 b hb).1,(f2 b hb).2⟩
  have fl3:∀b∈fp,b<s3.heap.objs.size:=fun b hb=>by
    rw [hs3h,size_push]
    exact Nat.lt_succ_of_lt (fne b hb)
  have keep3:∀b o,s3.heap.get? b=some o→h₁.get? b=some o:=fun b o e=>by
    rw [hs3h] at e
    exact hk₁ b o e
  have hns3:h₁.Ns s3.heap.objs.size (fun _=>none):=by
    rw [hs3h]
    exact hns₁
  have hcc3:h₁.IsCell (s3.heap.objs.size+1) none:=by
    rw [hs3h]
    exact hcc₁
  have I4:=Ztl (sc:=sc) (s1:={s3 with heap:=h₁}) (tk:=s3.toks) B I3 f3 fl3 hns3 hcc3 (Nat.lt_succ_self _) keep3 rfl
  have st4:tn 0 h₁:=T.keep _ _ _ st2 fun b hb o e=>keep3 b o (by rw [hs3h];exact get?_push_of_some _ e)
  have stat:∀{H':Hp},(∀b∈fp,H' b=none)→∀b∈fp,Zjl (X.blkC N2 y sc ((y,s3.heap.objs.size+1)::Yb X.env.cells sc.names []) s3.heap.objs.size s3 (upd H2 s2.heap.objs.size (.lst [])) fp) [] H' b:=fun hn b hb =>
    ⟨hn b hb,(I4.ok.exf b hb).1,I4.ok.exfs b hb,.inl hb,(I4.ok.exf b hb).2,fun p hp=>absurd (show p∈([]:List (Addr×Obj)) from hp) (by simp)⟩
  have loop:∀s4:Shared,s4={s3 with heap:=h₁}→
      codeAny (model X.prog X.w) X.A (.compLoop (.ListComp elt [⟨tg,iter,ifs,0⟩] sc pos) 0 (.ref it) (.ref s2.heap.objs.size) (compEnvC sc ((y,s3.heap.objs.size+1)::Yb X.env.cells sc.names []) s3.heap.objs.size X.env)) (RR (.ref s2.heap.objs.size) s3.heap.objs.size) s4:=by
    rintro s4 rfl
    refine Zjr (fun n s'=>∃(i:Nat) (o:St) (H':Hp),o.length=1∧Inv (X.blkC N2 y sc ((y,s3.heap.objs.size+1)::Yb X.env.cells sc.names []) s3.heap.objs.size s3 (upd H2 s2.heap.objs.size (.lst [])) fp) [] (σ++o) H' s'∧tn i s'.heap∧(∀b∈fp,H' b=none)∧W i n H') ?_ m0
      ⟨0,[none],_,by simp,I4,st4,fun b hb=>(f3 b hb).1,w0⟩
    rintro n s5 ⟨i,o,H5,ol5,I5,st5,fr5,w5⟩
    rcases turn i n H5 w5 with ⟨stop,qn⟩ | ⟨go,N,hN,step⟩
    · refine thn (T.done (X.blkC N2 y sc ((y,s3.heap.objs.size+1)::Yb X.env.cells sc.names []) s3.heap.objs.size s3 (upd H2 s2.heap.objs.size (.lst [])) fp) rfl rfl rfl hc i [] s5 (σ++o) H5 _ I5 (stat fr5) st5 stop) fun r s6 ⟨hr,I6⟩=>?_
      subst hr
      obtain ⟨m6,hn6,_⟩:=I6.loc
      refine fin _ _ H5 s6 m6 ?_ hn6 (I3.fpOk (le_refl _) I6.free) qn
      exact I3.call' (ch:=fp) I6.os I6.base I6.hok I6.bare fun b hb=>⟨(f3 b hb).2.2.2.1,(f3 b hb).2.1,(f3 b hb).2.2.2.2.1,(f3 b hb).2.2.2.2.2⟩
    · refine thn (T.item (X.blkC N2 y sc ((y,s3.heap.objs.size+1)::Yb X.env.cells sc.names []) s3.heap.objs.size s3 (upd H2 s2.heap.objs.size (.lst [])) fp) rfl rfl rfl hc i [] s5 (σ++o) H5 _ I5 (stat fr5) st5 go) fun r s6 ⟨u,hr,h6⟩=>?_
      subst hr
      refine thn h6 fun _ s7 hz9=>?_
      obtain ⟨v,H7,I7,r7,y7,st7,fr7⟩:=hz9
      have I7':=I7.pinned (stat fr7) (T.obj _ _ st7)
      refine thn (hg _ _ _ _ _ _ s7 _ H7 v u _ I7' r7 (step v H7 y7 o ol5)) fun _ s8 ⟨σ8,H8,I8,⟨os',ol8,e8⟩,q8⟩=>?_
      subst e8
      have again:∀{H9:Hp} {s9:Shared},Inv (X.blkC N2 y sc ((y,s3.heap.objs.size+1)::Yb X.env.cells sc.names []) s3.heap.objs.size s3 (upd H2 s2.heap.objs.size (.lst [])) fp) ([]++Zjw fp s7.heap) (σ++os') H9 s9→N H9→
          ∃m,m<n∧∃(i:Nat) (o:St) (H':Hp),o.length=1∧Inv (X.blkC N2 y sc ((y,s3.heap.objs.size+1)::Yb X.env.cells sc.names []) s3.heap.objs.size s3 (upd H2 s2.heap.objs.size (.lst [])) fp) [] (σ++o) H' s9∧tn i s9.heap∧(∀b∈fp,H' b=none)∧W i m H':=fun {H9 s9} I9 n9=>by
        obtain ⟨m',hm,w9⟩:=hN H9 n9
        refine ⟨m',hm,i+1,os',H9,ol8,I9.unpinned,T.keep _ _ _ st7 fun b hb o e=>(I9.pin (b,o) (mem_append_right _ (mem_append_right _ (Zbg hb e)))).1,fun b hb=>?_,w9⟩
        obtain ⟨o,e,d⟩:=T.obj _ _ st7 b hb
        exact (I9.pin (b,o) (mem_append_right _ (mem_append_right _ (Zbg hb e)))).2.1
      refine thn (ht _ _ _ _ _ _ s8 _ H8 _ I8 q8) fun ok s9 ⟨H9,I9,q9⟩=>?_
      cases ok with
      | false =>
        rw [if_neg Bool.false_ne_true] at q9 ⊢
        exact again I9 q9
      | true =>
        rw [if_pos rfl] at q9 ⊢
        refine thn (he _ _ _ _ _ _ s9 _ H9 _ I9 q9) fun ue s10 hz9=>?_
        obtain ⟨ve,H10,I10,r10,ys,hy,hz,q10⟩:=hz9
        refine thn (Zdf _ s10 _ H10 (.ref s2.heap.objs.size) [ve] (.ref s2.heap.objs.size) [ue] (fun _ H'=>N H') I10 rfl (.cons r10 .nil) ⟨_,ys,ve,rfl,rfl,hy,hz,q10⟩) fun _ s11 hz9=>?_
        obtain ⟨_,H11,I11,_,q11⟩:=hz9
        exact again I11 q11
  have fin':codeAny (model X.prog X.w) X.A (.compStart (.ListComp elt [⟨tg,iter,ifs,0⟩] sc pos) 0 (.ref it) (.ref s2.heap.objs.size) (compEnvC sc ((y,s3.heap.objs.size+1)::Yb X.env.cells sc.names []) s3.heap.objs.size X.env)) (RR (.ref s2.heap.objs.size) s3.heap.objs.size) {s3 with heap:=h₁}:=
    codeAny_compStart_list (loop _ rfl) (T.self _ 0 _ _ _ st4 (loop _ rfl))
  exact fin'
theorem Xak (hc:X.calm=true)(B:BlkC sc X.env.scope y X.N N2)(hi:PI X tg iter wi)(hg:∀cl C s0 H0 fp,PG (X.blkC N2 y sc cl C s0 H0 fp) tg g)(ht:∀cl C s0 H0 fp,PIf (X.blkC N2 y sc cl C s0 H0 fp) ifs tc)(he:∀cl C s0 H0 fp,PE (X.blkC N2 y sc cl C s0 H0 fp) elt te)
  (hs:∀v,foldedSetIterable iter X.env v=pure v:=by intro _;rfl):PE X (.ListComp elt [⟨tg,iter,ifs,0⟩] sc pos) (Zcz 1 g wi tc te):=by
 intro pins s σ H Q I h
 rw [eval_ListComp]
 have hcl:∀y∈sc.names,y.2=.free→∃c,X.env.cells.lookup y.1=some c:=fun y hy hf=>I.ok.has y.1 (B.free y hy hf)
 refine wpAny_comprehension_free (use:=none) rfl hs (Zcg hcl) B.kind B.loc (thn (hi pins s σ H _ I h) fun v s1 h1=>thn h1 fun itv s2 h2=>?_)
 obtain ⟨it,fp,tn,J,H2,e,I2,T,st2,f2,hw⟩:=h2
 subst e
 refine Xbl (RR:=fun acc C=>compPost (model X.prog X.w) X.A X.xe none (EP X pins σ Q) acc C) hc B hg ht he I2 T st2 f2 hw ?_
 intro D C H' s' m I' hn hC q
 obtain ⟨c0,c1,c2,c3,c4,c5⟩:=hC
 refine ⟨m,hn,fun h'' hs''=>⟨.ref D,H',?_,rfl,q⟩⟩
 exact I'.turned (t':=s'.toks) (fun b o hb e=>hs''.extBut b o hb e) c0 c1 c3 c4 c5
end
end L2
namespace L2
open PySem PySem.Spec PyProof.Rows
open Dl (D R FE FT FA FO FS FI FB FM Fl)
noncomputable def scIn (sc esc:Scope):Scope:={sc with names:=sc.names.map fun (n,k)=>if (k==.free&&esc.kind==.function&&esc.names.lookup n==some .cell) then (n,.cell) else (n,k)}
section
variable {K:Frag}{C:String→Addr}{E:XK}{Γ Δ:List Nat}{S:List (Nat×Bool)}
theorem Xet {H:Hp}{σ:St}{ρ:Ym}{A:Nat→List Addr}{H0 Hb:Hp}{n:Nat}{d1 d2:D}{v1 v2:V}{B1 B2:List Addr}(I:Zy K C H0 Hb H Γ Δ σ ρ A)(hn:ρ.length=n)(r1:Rp K C H d1 v1 B1)(r2:Rp K C H d2 v2 B2) :
  Zy K C H H H [] [] (σ++[some v1,some v2]) (ρ++[some d1,some d2]) (fun k=>if k=n then B1 else if k=n+1 then B2 else A k):=by
 have hσ:σ.length=n:=by rw [I.len,hn]
 have far:∀i,n≤i→(ρ++[some d1,some d2])[i]?=[some d1,some d2][i - n]?:=fun i hi=>by rw [getElem?_append_right (by omega),hn]
 have farσ:∀i,n≤i→(σ++[some v1,some v2])[i]?=[some v1,some v2][i - n]?:=fun i hi=>by rw [getElem?_append_right (by omega),hσ]
 refine ⟨fun _ _ h=>h,fun _ _ h=>h,by rw [length_append,length_append,I.len];rfl,fun i d h=>?_,fun i h=>?_,fun _ h=>(nomatch h),fun _ h=>(nomatch h),fun _ h=>(nomatch h)⟩
 ·by_cases hi:i<n
  ·rw [getElem?_append_left (by omega)] at h
   obtain ⟨v,e,r⟩:=I.rep i d h
   refine ⟨v,by rw [getElem?_append_left (by omega)];exact e,?_⟩
   show Rp K C H d v (if i=n then B1 else if i=n+1 then B2 else A i)
   rw [if_neg (by omega),if_neg (by omega)]
   exact r
  ·rw [far i (by omega)] at h
   rw [farσ i (by omega)]
   by_cases h0:i=n
   ·subst h0
    rw [sub_self] at h ⊢
    have e:d1=d:=by simpa using h
    subst e
    refine ⟨v1,rfl,?_⟩
    show Rp K C H d1 v1 (if i=i then B1 else _)
    rw [if_pos rfl]
    exact r1
   ·by_cases h1:i=n+1
    ·subst h1
     rw [show n+1 - n=1 by omega] at h ⊢
     have e:d2=d:=by simpa using h
     subst e
     refine ⟨v2,rfl,?_⟩
     show Rp K C H d2 v2 (if n+1=n then B1 else if n+1=n+1 then B2 else _)
     rw [if_neg (by omega),if_pos rfl]
     exact r2
    ·rw [getElem?_eq_none (by simp only [length_cons,length_nil];omega)] at h
     cases h
 ·show (if i=n then B1 else if i=n+1 then B2 else A i)=[]
  by_cases hi:i<n
  ·rw [if_neg (by omega),if_neg (by omega)]
   exact I.nil i fun d z=>h d (by rw [getElem?_append_left (by omega)];exact z)
  ·by_cases h0:i=n
   ·subst h0
    exact absurd (by rw [far i (le_refl _),sub_self];rfl) (h d1)
   ·by_cases h1:i=n+1
    ·subst h1
     exact absurd (by rw [far _ (le_succ _),show n+1 - n=1 by omega];rfl) (h d2)
    ·rw [if_neg h0,if_neg h1]
     exact I.nil i fun d z=>by
      rw [getElem?_eq_none (by omega)] at z
      cases z
theorem Zyh {H0 Hb H:Hp}{σ:St}{ρ:Ym}{A:Nat→List Addr}(I:Zy K C H0 Hb H Γ Δ σ ρ A)(j:Nat):∀a∈A j,H a≠Option.none:=fun a ha z=>by
 by_cases h:∃d,ρ[j]?=some (some d)
 ·obtain ⟨d,hd⟩:=h
  obtain ⟨v,_,r⟩:=I.rep j d hd
  obtain ⟨o,e,_⟩:=r.isl a ha
  rw [z] at e
  cases e
 ·rw [I.nil j fun d hd=>h ⟨d,hd⟩] at ha
  cases ha
theorem Zul {n j:Nat}{wi:TI}{tc:TT}{te:TE}{fi:FI}{fc:FT}{fe:FE}(hj:j<n)(hi:IOk K C E Γ Δ S wi fi)(hc:TOk K C E0 [] [] tc fc)(he:EOk K C E0 [] [] 0 [(j,false)] te fe) :
    EOk K C E Γ Δ 1 [(j,false)] (Zcz 2 (Zdy K 2 (Zcb (Yj n) (Zcb (Yj (n+1)) Zqr))) wi tc te) (Dl.Jg n 2 fi (Dl.Zdb (Dl.Xh (Dl.Zn n) (Dl.Xh (Dl.Zn (n+1)) Dl.Zcv))) fc fe):=fun H0 Hb H σ ρ A Q I p=>by
  unfold Dl.Jg at p
  split at p
  · rename_i hn
    refine hi H0 Hb H σ ρ A _ I (p.bind.imp (fun ds q J H1 W g1 hW hlen hJ Dd hD=>?_) fun c x q H' g'=>q H' g')
    have I1:=I.mono g1
    have hσ:σ.length=n:=by rw [I.len];exact hn
    have go:Goes K C J ds H1:=hJ H1 ⟨fun _ _=>rfl,fun b o h _=>h⟩
    have q':=Zbn q.bind
    have hAj:∀a∈A j,H1 a≠none:=Zyh I1 j
    refine Zql go (fun i H2=>Xw H1 H2∧∃(us:List D) (ys:List V) (B':List Addr),H2 Dd=some (.lst ys)∧us.length≤i∧RpA K C H2 us ys B'∧Dd∉B'∧(∀a∈B',H1 a=none∨a∈A j)∧
      Yc (Dl.Yr 2 (Dl.Zdb (Dl.Xh (Dl.Zn n) (Dl.Xh (Dl.Zn (n+1)) Dl.Zcv))) fc fe ρ (ds.drop i)) (fun zs=>∀v H',Xw H H'→Res K C 1 [(j,false)] H A (.lst (us++zs)) v H'→Q v H') (fun _ _=>False)) ⟨sameNew hD _,[],[],[],Yd,le_refl _,RpA.nil,(fun h=>nomatch h),(fun _ h=>nomatch h),q'⟩ (fun _ _ h=>h.1) ?_ ?_
    · rintro i x v Bx H2a H2 hx ⟨g2a,us,ys,B',hD2,hul,ru,hDB,hnew,pq⟩ g2b rx _ os hos
      have g2:=g2a.trans g2b
      have hil:=(List.getElem?_eq_some_iff.mp hx).1
      rw [Zki _ _ _ _ _ _ hx] at pq
      have pq1:=Zbn pq.bind
      cases x with
      | tup es =>
        match es,pq1 with
        | [],z=>exact z.elim
        | [_],z=>exact z.elim
        | [d1,d2],pq2 =>
          obtain ⟨b,vs,rfl,hb,r2⟩:=rx
          obtain ⟨v1,l1,B1,B2,e1,r1,r3,e4⟩:=r2
          obtain ⟨v2,l2,B3,B4,e5,r4,r5,e6⟩:=r3
          obtain ⟨e7,e8⟩:=r5
          subst e1 e5 e7
          have pq3:Yc ((R.ok (((ρ++List.replicate 2 none).set n (some d1)).set (n+1) (some d2)):R Dl.Env)) _ _:=pq2
          have pq4:=pq3
          rw [Xai hn] at pq4
          have I2:=Xet (I1.mono g2) hn r1 r4
          refine ⟨b,[v1,v2],rfl,SqT.of hb,rfl,v1,[v2],rfl,v2,[],rfl,rfl,?_⟩
          show (∃os',os'.length=2∧((σ++os).set n (some v1)).set (n+1) (some v2)=σ++os')∧_
          rw [Xii hσ hos]
          refine ⟨⟨_,rfl,rfl⟩,?_⟩
          have pq5:Yc ((fc (ρ++[some d1,some d2])).bind fun t=>if t then (fe (ρ++[some d1,some d2])).bind fun y=>(Dl.Yr 2 (Dl.Zdb (Dl.Xh (Dl.Zn n) (Dl.Xh (Dl.Zn (n+1)) Dl.Zcv))) fc fe ρ (ds.drop (i+1))).bind fun ys=>.ok (y::ys) else Dl.Yr 2 (Dl.Zdb (Dl.Xh (Dl.Zn n) (Dl.Xh (Dl.Zn (n+1)) Dl.Zcv))) fc fe ρ (ds.drop (i+1))) _ _:=pq4
          have hD2':=g2b _ _ hD2
          have ru':=ru.same g2b
          refine hc _ _ _ _ _ _ _ I2 (pq5.bind.imp (fun t pq H3 g3=>?_) fun _ _ z=>z.elim)
          cases t with
          | false =>
            simp only [Bool.false_eq_true,if_false] at pq ⊢
            exact ⟨g2.trans g3,us,ys,B',g3 _ _ hD2',by omega,ru'.same g3,hDB,hnew,pq⟩
          | true =>
            simp only [if_true] at pq ⊢
            refine he _ _ H3 _ _ _ _ (I2.mono g3) (pq.bind.imp (fun y pq w H4 g4 r=>?_) fun _ _ z=>z.elim)
            obtain ⟨By,ry,hy1,_,_⟩:=r
            have g24:=g3.trans g4
            have hD3:=g3 _ _ hD2'
            have hD4:=g24 _ _ hD2'
            have hnewy:∀a∈By,H3 a=none∨a∈A j:=fun a ha=>(hy1 a ha).imp id fun z=>by
              obtain ⟨p,hp,z⟩:=z
              rw [List.mem_singleton.mp hp,if_neg Bool.false_ne_true] at z
              have z:a∈(if j=n then B1 else if j=n+1 then B3 else A j):=z
              rwa [if_neg (by omega),if_neg (by omega)] at z
            have hDy:Dd∉By:=fun h=>by
              rcases hnewy Dd h with z | z
              · rw [hD3] at z
                cases z
              · exact hAj _ z hD
            have ext:Ext (fun a=>a=Dd) H4 (upd H4 Dd (.lst (ys++[w]))):=fun b o h=>by
              by_cases e:b=Dd
              · subst e
                rw [hD4] at h
                cases h
                exact .inr ⟨rfl,.lst⟩
              · rw [Xo e]
                exact .inl h
            have hDB':Dd∉B'++By:=fun h=>(List.mem_append.mp h).elim hDB hDy
            refine ⟨ys,hD4,?_,?_,us++[y],ys++[w],B'++By,Yd,by rw [length_append];simp only [length_cons,length_nil];omega,?_,hDB',?_,?_⟩
            · rw [ru.len]
              exact Zhm (by omega)
            · intro b o h
              have hb:b≠Dd:=Xf h hD
              rw [Xo hb]
              exact (g2.trans g24) b o h
            · exact ((ru'.same g24).app (RpA.one ry)).ext ext fun a ha h=>hDB' (by rw [h] at ha;exact ha)
            · intro a ha
              rcases List.mem_append.mp ha with h | h
              · exact hnew a h
              · exact (hnewy a h).imp (fun z=>(g2.trans g3).free z) id
            · exact pq.bind.imp (fun zs pq v H' g' r=>by
                rw [append_assoc] at r
                exact pq v H' g' r) fun _ _ z=>z
        | _::_::_::_,z=>exact z.elim
      | _=>exact pq1.elim
    · rintro H2 ⟨g2,us,ys,B',hD2,hul,ru,hDB,hnew,pq⟩
      rw [List.drop_length] at pq
      have pq:∀v H',Xw H H'→Res K C 1 [(j,false)] H A (.lst (us++[])) v H'→Q v H':=pq
      rw [append_nil] at pq
      refine pq _ H2 (g1.trans g2) ⟨Dd::B',⟨Dd,ys,B',rfl,hD2,ru,rfl⟩,fun a ha=>?_,fun _ a r e=>?_,fun z=>by omega⟩
      · rcases List.mem_cons.mp ha with h | h
        · exact .inl (by rw [h];exact g1.free hD)
        · exact (hnew a h).imp (fun z=>g1.free z) fun z=>⟨(j,false),.head _,by rw [if_neg Bool.false_ne_true];exact z⟩
      · cases e
        exact ⟨g1.free hD,hDB⟩
  · exact p.elim
end
section
variable {X:Cx}{C:String→Addr}{E:XK}{mr:Nat}{Γ Δ Γ' Δ' Γl Δl:List Nat}{S:List (Nat×Bool)}{n:Nat}{pos:Pos}{elt iter:Expr}{ifs:List Expr}{sc:Scope}{wi:TI}{tc:TT}{te:TE}{gg:TG}{fi:FI}{fc:FT}{fg:FB}{fe:FE}
theorem Xca {yp:Pos}(esc:Scope)(N N2:List Str)(y:Str)(B:BlkC sc esc y N N2)(hi:JI X C E Γ Δ S (.Name y yp) iter wi fi)(hg:∀cl C' s0 H0 fp,JB (X.blkC N2 y sc cl C' s0 H0 fp) C n 1 (.Name y yp) gg fg)(ht:∀cl C' s0 H0 fp,JIf (X.blkC N2 y sc cl C' s0 H0 fp) C E0 [] [] ifs tc fc)(he:∀cl C' s0 H0 fp,JE (X.blkC N2 y sc cl C' s0 H0 fp) C E0 [] [] 2 [] elt te fe)
  (hesc:X.env.scope=esc:=by rfl) (hN:X.N=N:=by rfl) (hc:X.calm=true:=by rfl) (hs:∀v,foldedSetIterable iter X.env v=pure v:=by intro _;rfl):JE X C E Γ Δ 2 [] (.ListComp elt [⟨.Name y yp,iter,ifs,0⟩] sc pos) (Zcz 1 gg wi tc te) (Dl.Jg n 1 fi fg fc fe):=by
 subst hesc hN
 exact ⟨⟨Xak hc B hi.q.out (fun cl C' s0 H0 fp=>(hg cl C' s0 H0 fp).q.out) (fun cl C' s0 H0 fp=>(ht cl C' s0 H0 fp).q.out) (fun cl C' s0 H0 fp=>(he cl C' s0 H0 fp).q.out) hs⟩,Zls hi.o (hg [] 0 X.s₀ X.H₀ []).o (ht [] 0 X.s₀ X.H₀ []).o (he [] 0 X.s₀ X.H₀ []).o⟩
theorem Zxa {y0:Str}{N0:List Str}{sc0:Scope}{cl0:List (Str×Addr)}{C0:Addr}{s00:Shared}{H00:Hp}{fp0:List Addr}{tg:Expr}(esc0:Scope)(N N2 xs:List Str)(B:Zya sc (scIn sc0 esc0) xs N N2)
  (hi:JI (X.blkC N0 y0 sc0 cl0 C0 s00 H00 fp0) C E Γ Δ S tg iter wi fi) (hg:∀cl C' s0 H0 fp,JB ((X.blkC N0 y0 sc0 cl0 C0 s00 H00 fp0).blkN N2 xs sc cl C' s0 H0 fp) C n xs.length tg gg fg) (ht:∀cl C' s0 H0 fp,JIf ((X.blkC N0 y0 sc0 cl0 C0 s00 H00 fp0).blkN N2 xs sc cl C' s0 H0 fp) C E0 [] [] ifs tc fc) (he:∀cl C' s0 H0 fp,JE ((X.blkC N0 y0 sc0 cl0 C0 s00 H00 fp0).blkN N2 xs sc cl C' s0 H0 fp) C E0 [] [] 2 [] elt te fe)
  (hesc:X.env.scope=esc0:=by rfl) (hN:N0++[y0]=N:=by rfl) (hc:X.calm=true:=by rfl) (hs:∀v,foldedSetIterable iter (X.blkC N0 y0 sc0 cl0 C0 s00 H00 fp0).env v=pure v:=by intro _;rfl):JE (X.blkC N0 y0 sc0 cl0 C0 s00 H00 fp0) C E Γ Δ 2 [] (.ListComp elt [⟨tg,iter,ifs,0⟩] sc pos) (Zcz xs.length gg wi tc te) (Dl.Jg n xs.length fi fg fc fe):=by
 subst hesc hN
 exact Jd (X:=X.blkC N0 y0 sc0 cl0 C0 s00 H00 fp0) (scIn sc0 X.env.scope) (N0++[y0]) N2 xs B hi hg ht he rfl rfl hc hs
theorem Xas {x:Str}{y z:Str}{tp1 tp2 tp3 py spos:Pos}{tk i:Nat}(j:Nat)(esc:Scope)(N N2:List Str)(B:Zya sc esc [y,z] N N2)(hy:N[i]?=some x)(hl:esc.names.lookup x=some .local)(hj:j<n)(hi:JI X C E Γ Δ S (.Tuple [.Name y tp1,.Name z tp2] tk tp3) iter wi fi)
  (hg:∀cl C' s0 H0 fp,JB (X.blkN N2 [y,z] sc cl C' s0 H0 fp) C n 2 (.Tuple [.Name y tp1,.Name z tp2] tk tp3) (Zdy X.K 2 (Zcb (Yj n) (Zcb (Yj (n+1)) Zqr))) (Dl.Zdb (Dl.Xh (Dl.Zn n) (Dl.Xh (Dl.Zn (n+1)) Dl.Zcv))))
  (ht:∀cl C' s0 H0 fp,JIf (X.blkN N2 [y,z] sc cl C' s0 H0 fp) C E0 [] [] ifs tc fc) (he:∀cl C' s0 H0 fp,JE (X.blkN N2 [y,z] sc cl C' s0 H0 fp) C E0 [] [] 0 [(j,false)] elt te fe)
  (hesc:X.env.scope=esc:=by rfl) (hN:X.N=N:=by rfl) (hc:X.calm=true:=by rfl) (hsw:swapsWith (.ListComp elt [⟨.Tuple [.Name y tp1,.Name z tp2] tk tp3,iter,ifs,0⟩] sc pos) (some (.Name x py)) spos.line X.env=pure true:=by rfl) (hs:∀v,foldedSetIterable iter X.env v=pure v:=by intro _;rfl)
  (h0:∀p∈[(j,false)],p.1∈Γ:=by decide) (h1:∀k∈Γ',k=i∨(k∈Γ∧(k,false)∉[(j,false)]):=by decide) (h2:∀k∈Δ',k≠i∧k∈Δ∧∀p∈[(j,false)],p.1≠k:=by decide) :
  JS X C E mr Γl Δl Γ Δ Γ' Δ' (.Assign [.Name x py] (.ListComp elt [⟨.Tuple [.Name y tp1,.Name z tp2] tk tp3,iter,ifs,0⟩] sc pos) spos) (Zgr (Zcz 2 (Zdy X.K 2 (Zcb (Yj n) (Zcb (Yj (n+1)) Zqr))) wi tc te) (Yj i)) (Dl.Yi i (Dl.Jg n 2 fi (Dl.Zdb (Dl.Xh (Dl.Zn n) (Dl.Xh (Dl.Zn (n+1)) Dl.Zcv))) fc fe)):=by
 subst hesc hN
 exact ⟨Zrq _ _ N2 [y,z] B hy hl hi.q (fun cl C' s0 H0 fp=>(hg cl C' s0 H0 fp).q) (fun cl C' s0 H0 fp=>(ht cl C' s0 H0 fp).q) (fun cl C' s0 H0 fp=>(he cl C' s0 H0 fp).q) rfl rfl hc hsw hs,Zqw (Zul hj hi.o (ht [] 0 X.s₀ X.H₀ []).o (he [] 0 X.s₀ X.H₀ []).o) h0 h1 h2⟩
end
end L2
namespace Dl
open PySem
noncomputable def Zri:FS:=
  (Xk (sIf (cOr (cE (f2 gLt (fV 1) (fC (.int 0)))) (cOr (cE (f2 gGt (fV 2) (fA Jk (Zc (fV 0) Zt)))) (cE (f2 gGt (fV 1) (fV 2))))) Zqi sNx)
    (Jy (fA Zvn (Zc (fSl gSl (fV 0) (Zmt (fV 1)) (Zmt (fV 2))) Zt))))
noncomputable def Zeb (ds:List D):R D:=(run 3 Zri ds).calm
noncomputable def Zfu:FS:=
 (Yi 2 (f2 Zjg (f2 Jj (f2 Jj (f2 Zai (fV 2) (fC (.int 48271))) (f2 Zjg (fV 3) (fC (.int 1000003)))) (fC (.int 1))) (fC (.int 2147483647))))
noncomputable def Zoo:FS:=
  (Xk (sIf (cE (f2 gLt (fV 1) (fA Jk (Zc (fV 0) Zt)))) (Jy (f1 Xt (f2 gIx (fV 0) (fV 1)))) sNx)
    (Xk (Yi 2 (fC (.int 5)))
    (Xk (Zid (Zba (fSl gSl (fV 0) Zsk (Zmt (fC (.int 63))))) (Zn 3) Zfu)
    (Jy (f2 Zjg (f2 Jj (fV 2) (f2 Zai (fC (.int 7919)) (fV 1))) (fC (.int 1000003)))))))
noncomputable def Zan (ds:List D):R D:=(run 4 Zoo ds).calm
noncomputable def Ztc:FS:=
  (Xk (Yi 2 (f2 Zjg (f2 Ziz (f2 Jj (f2 Jj (f2 Zjg (fV 0) (fC (.int 2147483629))) (f2 Zai (fC (.int 1013)) (fV 1))) (fC (.int 7919))) (fC (.int 3))) (fC (.int 2147483647))))
    (Xk (Yi 3 (f2 Zjg (f2 Jj (f2 Jj (f2 Zai (fV 2) (fC (.int 40699))) (f2 Zai (f2 Zai (fC (.int 3793)) (fV 1)) (fV 1))) (fC (.int 11))) (fC (.int 2147483399))))
    (Jy (f2 Xjf (fV 3) (fC (.int 101))))))
noncomputable def Zbh (ds:List D):R D:=(run 4 Ztc ds).calm
noncomputable def Zds:FS:=
 (Jy (Xjh (f1 (Zlw "int") (fV 0)) (f1 gNot (f1 (Zlw "bool") (fV 0)))))
noncomputable def Xu (ds:List D):R D:=(run 1 Zds ds).calm
noncomputable def Zct:FS:=
 (Zhe 1 (f2 Jj (f2 gIx (fV 1) (f1 Zuw (fC (.int 1)))) (fV 2)))
noncomputable def Zhz:FS:=
  (Xk (Yi 1 (fA Zae (Zc (fC (.int 0)) Zt)))
    (Xk (Zid (Zba (fV 0)) (Zn 2) Zct)
    (Jy (fV 1))))
noncomputable def Yx (ds:List D):R D:=(run 3 Zhz ds).calm
noncomputable def Zoz:FS:=
  (Xk (Yi 3 (f2 Jj (fV 2) (f2 gIx (fV 1) (fC (.int 1)))))
    (Xk (sIf (cOr (cE (f2 gLt (fV 2) (fC (.int 0)))) (cE (f2 gGe (fV 3) (fA Jk (Zc (fV 0) Zt))))) (Jy (fC (.bl false))) sNx)
    (Jy (f2 gLe (f2 Zot (f2 gIx (fV 0) (fV 3)) (f2 gIx (fV 0) (fV 2))) (f2 gIx (fV 1) (fC (.int 3)))))))
noncomputable def Jv (ds:List D):R D:=(run 4 Zoz ds).calm
noncomputable def Zcc:FS:=
  (Xk (Znn 3 2 Jj (fV 3))
    (Yi 4 (f2 Jj (fV 4) (fC (.int 1)))))
noncomputable def Zdq:FS:=
  (Xk (Yi 2 (fA Ztg (Zc (fV 0) Zt)))
    (Xk (Yi 3 (fC (.int 0)))
    (Xk (Yi 4 (fC (.int 0)))
    (Xk (Zjy 100000 (Zwt (cE (f2 gLt (fV 3) (fV 1))) (cE (f2 gGt (fA Jk (Zc (fV 2) Zt)) (fC (.int 0))))) Zcc)
    (Xk (sIf (cE (f2 gLt (fV 3) (fV 1))) (Jy (f2 Jj (fV 4) (fC (.int 1)))) sNx)
    (Jy (fV 4)))))))
noncomputable def Zbs (ds:List D):R D:=(run 5 Zdq ds).calm
noncomputable def Zjx:FS:=
 (Jy (fA Zvn (Zc (Jg 2 2 (Xht (fV 0) (fV 1)) (Zdb (Xh (Zn 2) (Xh (Zn 3) Zcv))) Zbm (f2 Zai (fV 2) (fV 3))) Zt)))
noncomputable def Zbf (ds:List D):R D:=(run 2 Zjx ds).calm
noncomputable def Zmb:FS:=
 (Jy (Jg 2 2 (Xht (fV 0) (fV 1)) (Zdb (Xh (Zn 2) (Xh (Zn 3) Zcv))) (cE (f2 gGt (fV 3) (fC (.int 0)))) (fA Zdy (Zc (f1 Xt (f2 gIx (fV 2) (fC (.int 0)))) (Zc (f1 Xt (f2 gIx (fV 2) (fC (.int 1)))) (Zc (f1 Xt (fV 3)) (Zc (f1 Xt (f2 gIx (fV 2) (fC (.int 3)))) Zt)))))))
noncomputable def Zaw (ds:List D):R D:=(run 2 Zmb ds).calm
noncomputable def Zdx:FS:=
 (sIf (cE (f2 gGe (fA Zvn (Zc (fSl gSl (fV 2) Zsk (Zmt (fV 3))) Zt)) (fV 1))) (Jy (f1 Xt (fV 3))) sNx)
noncomputable def Zkp:FS:=
  (Xk (Yi 2 (fA Zjs (Zc (fV 0) Zt)))
    (Xk (Zid (Zaq (Zc (f2 Jj (fA Jk (Zc (fV 0) Zt)) (fC (.int 1))) Zt)) (Zn 3) Zdx)
    (Jy (f2 Jj (fA Jk (Zc (fV 0) Zt)) (fC (.int 1))))))
noncomputable def Zck (ds:List D):R D:=(run 4 Zkp ds).calm
noncomputable def Js:FS:=
  (Xk (Zof (f1 Xt (f2 gIx (fV 0) (fV 3))) (Zdb (Xh (Zn 4) (Xh (Zn 5) (Xh (Zn 6) (Xh (Zn 7) Zcv))))))
    (sIf (cE (f2 gGt (f2 gIx (fV 1) (fV 3)) (fC (.int 0)))) (Zhe 2 (fA Zdy (Zc (f1 Xt (fV 4)) (Zc (f1 Xt (fV 5)) (Zc (f1 Xt (f2 gIx (fV 1) (fV 3))) (Zc (f1 Xt (fV 7)) Zt)))))) sNx))
noncomputable def Zeg:FS:=
  (Xk (Yi 2 (fA Zae Zt))
    (Xk (Zid (Zaq (Zc (fA Jk (Zc (fV 0) Zt)) Zt)) (Zn 3) Js)
    (Jy (fV 2))))
noncomputable def Yh (ds:List D):R D:=(run 8 Zeg ds).calm
noncomputable def Zff:FS:=
 (Jy (fA Zvn (Zc (Jg 2 1 (Zaq (Zc (fA Jk (Zc (fV 0) Zt)) Zt)) (Zn 2) Zbm (f2 Zai (f2 gIx (fV 0) (fV 2)) (f2 gIx (fV 1) (fV 2)))) Zt)))
noncomputable def Yo (ds:List D):R D:=(run 2 Zff ds).calm
noncomputable def Zlp:FS:=
 (Jy (Jg 2 2 (Xht (fV 0) (fV 1)) (Zdb (Xh (Zn 2) (Xh (Zn 3) Zcv))) Zbm (fIf (cE (f2 gGt (fV 2) (fC (.int 0)))) (f1 Xt (fV 3)) (fC (.int 0)))))
noncomputable def Yv (ds:List D):R D:=(run 2 Zlp ds).calm
noncomputable def Xlr:FS:=
  (Xk (Yi 3 (f2 Jj (fV 2) (f2 gIx (fV 1) (fC (.int 1)))))
    (Xk (sIf (cOr (cE (f2 gLt (fV 2) (fC (.int 0)))) (cE (f2 gGt (fV 3) (fA Jk (Zc (fV 0) Zt))))) (Jy (fC (.bl false))) sNx)
    (Jy (f2 gLe (Xr Zeb (Zc (fV 0) (Zc (fV 2) (Zc (fV 3) Zt)))) (f2 gIx (fV 1) (fC (.int 3)))))))
noncomputable def Zjv (ds:List D):R D:=(run 4 Xlr ds).calm
noncomputable def Zgj:FS:=
  (sIf (cE (f2 gLt (fV 3) (f2 Ziz (fC (.int 10)) (fC (.int 18))))) (Zhe 5 (f2 Zjg (Xr Zbh (Zc (fV 3) (Zc (fV 6) Zt))) (f2 gIx (fV 2) (fV 6)))) (sIf (cE (f2 gGt (fV 4) (fC (.int 0)))) (Xk (Zhe 5 (f2 Zjg (fV 4) (f2 gIx (fV 2) (fV 6))))
    (Yi 4 (f2 Xjf (fV 4) (f2 gIx (fV 2) (fV 6))))) (Xk (Yi 7 (Xr Zan (Zc (fV 0) (Zc (f2 Zjg (f2 Jj (f2 Jj (fV 1) (fC (.int 1))) (fV 6)) (fC (.int 63))) Zt))))
    (Zhe 5 (f2 Zjg (Xr Zbh (Zc (fV 7) (Zc (fV 6) Zt))) (f2 gIx (fV 2) (fV 6)))))))
noncomputable def Ztj:FS:=
  (Xk (Yi 3 (Xr Zan (Zc (fV 0) (Zc (fV 1) Zt))))
    (Xk (Yi 4 (f1 Xt (fV 3)))
    (Xk (Yi 5 (fA Zae Zt))
    (Xk (Zid (Zaq (Zc (fA Jk (Zc (fV 2) Zt)) Zt)) (Zn 6) Zgj)
    (Jy (fV 5))))))
noncomputable def Xz (ds:List D):R D:=(run 8 Ztj ds).calm
noncomputable def Zda:FS:=
  (Xk (Yi 7 (f2 Zot (fV 4) (f2 gIx (fV 6) (fC (.int 1)))))
    (sIf (cE (Xr Jv (Zc (fV 2) (Zc (fV 6) (Zc (fV 7) Zt))))) (Yi 5 (fA Xbj (Zc (fV 5) (Zc (f2 Jj (f2 gIx (fV 3) (fV 7)) (f2 gIx (fV 6) (fC (.int 2)))) Zt)))) sNx))
noncomputable def Zcw:FS:=
  (Xk (Yi 5 (f1 Xt (f2 gIx (fV 3) (f1 Zuw (fC (.int 1))))))
    (Xk (Zid (Zba (fV 1)) (Zn 6) Zda)
    (Zhe 3 (f1 Xt (fV 5)))))
noncomputable def Zjb:FS:=
  (Xk (Yi 2 (Xr Yx (Zc (fV 0) Zt)))
    (Xk (Yi 3 (fA Zae (Zc (fC (.int 0)) Zt)))
    (Xk (Zid (Zwx (Zc (fC (.int 1)) (Zc (fA Jk (Zc (fV 2) Zt)) Zt))) (Zn 4) Zcw)
    (Jy (fV 3)))))
noncomputable def Ja (ds:List D):R D:=(run 8 Zjb ds).calm
noncomputable def Zej:FS:=
 (sIf (cE (f2 gLt (fV 3) (fC (.int 0)))) (Jy (fC .non)) sNx)
noncomputable def Zek:FS:=
 (sIf (Zwt (cE (Xr Jv (Zc (fV 4) (Zc (fV 6) (Zc (fV 7) Zt))))) (cE (f2 gLt (f2 Zot (f2 gIx (fV 5) (f2 Jj (fV 7) (f2 gIx (fV 6) (fC (.int 1))))) (f2 gIx (fV 5) (fV 7))) (f2 gIx (fV 6) (fC (.int 2)))))) (Jy (fC .non)) sNx)
noncomputable def Zel:FS:=
 (Zid (Zaq (Zc (fA Jk (Zc (fV 0) Zt)) Zt)) (Zn 7) Zek)
noncomputable def Znk:FS:=
  (Xk (sIf (cE (f2 gNe (fA Jk (Zc (fV 2) Zt)) (fA Jk (Zc (fV 0) Zt)))) (Jy (fC .non)) sNx)
    (Xk (Zid (Zba (fV 2)) (Zn 3) Zej)
    (Xk (Yi 4 (Xr Yx (Zc (fV 0) Zt)))
    (Xk (Yi 5 (Xr Yx (Zc (fV 2) Zt)))
    (Xk (Zid (Zba (fV 1)) (Zn 6) Zel)
    (Jy (f1 Xt (f2 gIx (fV 5) (f1 Zuw (fC (.int 1)))))))))))
noncomputable def Zau (ds:List D):R D:=(run 8 Znk ds).calm
noncomputable def Zku:FS:=
 (Jy (Xjh (f1 (Zlw "list") (fV 0)) (fA Zyl (Zc (Jg 1 1 (Zba (fV 0)) (Zn 1) Zbm (Xr Xu (Zc (fV 1) Zt))) Zt))))
noncomputable def Jm (ds:List D):R D:=(run 1 Zku ds).calm
noncomputable def Zqf:FS:=
 (Jy (Jg 3 1 (Zba (fV 1)) (Zn 3) (cE (Xr Zjv (Zc (fV 0) (Zc (fV 3) (Zc (f2 Zot (fV 2) (f2 gIx (fV 3) (fC (.int 1)))) Zt))))) (f1 Xt (fV 3))))
noncomputable def Zcm (ds:List D):R D:=(run 3 Zqf ds).calm
noncomputable def Zbz:FS:=
  (Xk (Yi 9 (f2 Jj (f2 Zai (fC (.int 3)) (fV 8)) (fC (.int 6))))
    (Xk (Yi 10 (f1 Xt (f2 gIx (fA Zae (Zc (fC (.int 1)) (Zc (fC (.int 2)) (Zc (fC (.int 3)) (Zc (fC (.int 4)) (Zc (fC (.int 5)) (Zc (fC (.int 6)) (Zc (fC (.int 2)) (Zc (fC (.int 3)) (Zc (fC (.int 11)) (Zc (fC (.int 40)) (Zc (f2 gIx (fA Zae (Zc (fC (.int 150)) (Zc (fC (.int 200)) Zt))) (f2 Zjg (fV 8) (fC (.int 2)))) Zt)))))))))))) (f2 gIx (fV 4) (fV 9)))))
    (Xk (Yi 11 (f2 Jj (fC (.int 1)) (f2 gIx (fV 4) (f2 Jj (fV 9) (fC (.int 1))))))
    (Xk (sIf (cE (f2 gEq (f2 gIx (fV 4) (fC (.int 3))) (fC (.int 1)))) (Yi 11 (f2 Jj (f2 Zai (fC (.int 3)) (fV 10)) (f2 Zjg (f2 gIx (fV 4) (f2 Jj (fV 9) (fC (.int 1)))) (fC (.int 4))))) sNx)
    (Xk (sIf (cE (f2 gEq (f2 gIx (fV 4) (fC (.int 3))) (fC (.int 2)))) (Yi 11 (f2 Jj (fC (.int 1)) (f2 Zjg (f2 gIx (fV 4) (f2 Jj (fV 9) (fC (.int 1)))) (fC (.int 3))))) sNx)
    (Xk (sIf (cE (f2 gEq (f2 gIx (fV 4) (fC (.int 3))) (fC (.int 3)))) (Yi 11 (f1 Xt (fV 10))) sNx)
    (Xk (Yi 12 (fA Xdh (Zc (f2 Zai (f2 gIx (fA Zae (Zc (fC (.int 0)) (Zc (fC (.int 0)) (Zc (fC (.int 1)) (Zc (fC (.int 2)) (Zc (fC (.int 3)) (Zc (fC (.int 12)) Zt))))))) (f2 gIx (fV 4) (f2 Jj (fV 9) (fC (.int 2))))) (fV 5)) (Zc (f2 Zot (f2 Ziz (fC (.int 10)) (fC (.int 18))) (fC (.int 1))) Zt))))
    (Xk (Yi 13 (f1 Xt (f2 gIx (fV 3) (f2 Zjg (f2 Jj (f2 gIx (fV 4) (fC (.int 4))) (f2 Zai (f2 Jj (f2 Zai (fC (.int 2)) (f2 gIx (fV 4) (fC (.int 5)))) (fC (.int 1))) (fV 8))) (fC (.int 16))))))
    (Zhe 7 (fA Zdy (Zc (f1 Xt (fV 13)) (Zc (f1 Xt (fV 10)) (Zc (fA Xdh (Zc (f2 Zai (fV 11) (fV 6)) (Zc (f2 Ziz (fC (.int 10)) (fC (.int 18))) Zt))) (Zc (f1 Xt (fV 12)) Zt))))))))))))))
noncomputable def Zmn:FS:=
  (Xk (Yi 3 (fA Zae (Zc (fC (.str ("a":Str))) (Zc (fC (.str ("ab":Str))) (Zc (fC (.str ("abc":Str))) (Zc (fC (.str ("b":Str))) (Zc (fC (.str ("ba":Str))) (Zc (fC (.str ("z":Str))) (Zc (fC (.str ("zzzzzzzz":Str))) (Zc (fC (.str ("roll":Str))) (Zc (fC (.str ("cut":Str))) (Zc (fC (.str ("by":Str))) Zt))))))))))))
    (Xk (Yi 3 (f2 Jj (fV 3) (fA Zae (Zc (fC (.str ("aab":Str))) (Zc (fC (.str ("zz":Str))) (Zc (fC (.str ("kind":Str))) (Zc (fC (.str ("qsvw":Str))) (Zc (fC (.str ("fghjmp":Str))) (Zc (fC (.str ("x":Str))) Zt)))))))))
    (Xk (Yi 4 (Xr Xz (Zc (fV 0) (Zc (fV 1) (Zc (f2 Jj (fA Zae (Zc (f2 Jj (fV 2) (fC (.int 1))) (Zc (fC (.int 4)) (Zc (fC (.int 4)) (Zc (fC (.int 4)) (Zc (fC (.int 16)) (Zc (fC (.int 4)) Zt))))))) (f2 Zai (fA Zae (Zc (fC (.int 11)) (Zc (fC (.int 40)) (Zc (fC (.int 6)) Zt)))) (fV 2))) Zt)))))
    (Xk (Yi 5 (f1 Xt (f2 gIx (fA Zae (Zc (fC (.int 1)) (Zc (fC (.int 1)) (Zc (fC (.int 7)) (Zc (f2 Ziz (fC (.int 10)) (fC (.int 17))) Zt))))) (f2 gIx (fV 4) (fC (.int 1))))))
    (Xk (Yi 6 (f1 Xt (f2 gIx (fA Zae (Zc (fC (.int 1)) (Zc (fC (.int 1)) (Zc (f2 Ziz (fC (.int 10)) (fC (.int 6))) (Zc (f2 Zai (fC (.int 25)) (f2 Ziz (fC (.int 10)) (fC (.int 15)))) Zt))))) (f2 gIx (fV 4) (fC (.int 2))))))
    (Xk (Yi 7 (fA Zae Zt))
    (Xk (Zid (Zaq (Zc (f2 gIx (fV 4) (fC (.int 0))) Zt)) (Zn 8) Zbz)
    (Jy (fV 7)))))))))
noncomputable def Zat (ds:List D):R D:=(run 14 Zmn ds).calm
noncomputable def Zpd:FS:=
 (Jy (f1 Xt (f2 gIx (fA Zae (Zc (fC (.int 1)) (Zc (fC (.int 1)) (Zc (fC (.int 7)) (Zc (f2 Ziz (fC (.int 10)) (fC (.int 17))) Zt))))) (f2 gIx (Xr Xz (Zc (fV 0) (Zc (fV 1) (Zc (fA Zae (Zc (f2 Jj (fV 2) (fC (.int 1))) (Zc (fC (.int 4)) Zt))) Zt)))) (fC (.int 1))))))
noncomputable def Zbi (ds:List D):R D:=(run 3 Zpd ds).calm
noncomputable def Zfl:FS:=
  (Xk (Yi 8 (f2 Jj (f2 Zai (fC (.int 2)) (fV 7)) (fC (.int 3))))
    (Xk (Yi 9 (fC (.int 0)))
    (Xk (sIf (cE (f2 gLt (f2 gIx (fV 4) (fV 8)) (f2 gIx (fA Zae (Zc (fC (.int 0)) (Zc (fC (.int 1)) (Zc (fC (.int 3)) (Zc (fC (.int 6)) Zt))))) (f2 gIx (fV 4) (fC (.int 1)))))) (Yi 9 (f1 Xt (f2 gIx (fA Zae (Zc (fV 3) (Zc (fV 3) (Zc (f2 Zai (fC (.int 2)) (fV 3)) (Zc (f2 Zai (fC (.int 3)) (fV 3)) (Zc (fV 5) Zt)))))) (f2 gIx (fV 4) (f2 Jj (fV 8) (fC (.int 1))))))) sNx)
    (Zhe 6 (f1 Xt (fV 9))))))
noncomputable def Zpl:FS:=
  (Xk (Yi 4 (Xr Xz (Zc (fV 0) (Zc (fV 1) (Zc (f2 Jj (fA Zae (Zc (f2 Jj (fV 2) (fC (.int 1))) (Zc (fC (.int 4)) (Zc (fC (.int 3)) Zt)))) (f2 Zai (fA Zae (Zc (fC (.int 8)) (Zc (fC (.int 5)) Zt))) (fV 2))) Zt)))))
    (Xk (Yi 5 (f2 Zai (fC (.int 9)) (fV 3)))
    (Xk (sIf (cE (f2 gEq (f2 gIx (fV 4) (fC (.int 2))) (fC (.int 0)))) (Yi 5 (f2 Ziz (fC (.int 10)) (fC (.int 18)))) sNx)
    (Xk (Yi 6 (fA Zae Zt))
    (Xk (Zid (Zaq (Zc (f2 gIx (fV 4) (fC (.int 0))) Zt)) (Zn 7) Zfl)
    (Jy (fV 6)))))))
noncomputable def Zbk (ds:List D):R D:=(run 10 Zpl ds).calm
noncomputable def Jb:FS:=
  (Xk (Yi 7 (f1 Xt (f2 gIx (fV 4) (f2 Jj (f2 Zai (fC (.int 2)) (fV 6)) (fC (.int 1))))))
    (Xk (sIf (cOr (cE (f2 gEq (f2 gIx (fV 4) (f2 Jj (f2 Zai (fC (.int 2)) (fV 6)) (fC (.int 2)))) (fC (.int 0)))) (Zwt (cE (f2 gEq (f2 gIx (fV 4) (fC (.int 0))) (fC (.int 0)))) (cE (f2 gGt (fV 6) (fC (.int 1)))))) (Yi 7 (fC (.int 0))) sNx)
    (Zhe 5 (f1 Xt (fV 7)))))
noncomputable def Zgo:FS:=
  (Xk (Yi 4 (Xr Xz (Zc (fV 0) (Zc (fV 1) (Zc (f2 Jj (fA Zae (Zc (fC (.int 3)) Zt)) (f2 Zai (fA Zae (Zc (fV 3) (Zc (fC (.int 4)) Zt))) (fC (.int 8)))) Zt)))))
    (Xk (Yi 5 (fA Zae Zt))
    (Xk (Zid (Zaq (Zc (fV 2) Zt)) (Zn 6) Jb)
    (Jy (fV 5)))))
noncomputable def Zdg (ds:List D):R D:=(run 8 Zgo ds).calm
noncomputable def Zte:FS:=
  (Xk (Yi 3 (fA Jk (Zc (fV 2) Zt)))
    (Xk (Yi 4 (Jg 5 1 (Zba (Xr Zcm (Zc (fV 0) (Zc (fV 1) (Zc (fV 3) Zt))))) (Zn 5) Zbm (f2 Jj (f2 gIx (fV 2) (f2 Zot (fV 3) (f2 gIx (fV 5) (fC (.int 1))))) (f2 gIx (fV 5) (fC (.int 2))))))
    (Jy (fA Xbj (Zc (f2 Jj (fA Zae (Zc (f2 gIx (fV 2) (f1 Zuw (fC (.int 1)))) Zt)) (fV 4)) Zt)))))
noncomputable def Zch (ds:List D):R D:=(run 5 Zte ds).calm
noncomputable def Zcf:FS:=
 (Zhe 5 (Xr Zbk (Zc (fV 0) (Zc (f2 Jj (fV 1) (fV 6)) (Zc (fV 3) (Zc (fV 4) Zt))))))
noncomputable def Zgm:FS:=
  (Xk (Yi 5 (fA Zae Zt))
    (Xk (Zid (Zaq (Zc (fV 2) Zt)) (Zn 6) Zcf)
    (Jy (fV 5))))
noncomputable def Jw (ds:List D):R D:=(run 7 Zgm ds).calm
noncomputable def Zim:FS:=
 (Zhe 2 (Xr Zch (Zc (fV 0) (Zc (fV 1) (Zc (fV 2) Zt)))))
noncomputable def Zna:FS:=
  (Xk (Yi 2 (fA Zae (Zc (fC (.int 0)) Zt)))
    (Xk (Zjy 100000 (cE (f2 gLe (fA Jk (Zc (fV 2) Zt)) (fA Jk (Zc (fV 0) Zt)))) Zim)
    (Jy (fV 2))))
noncomputable def Zab (ds:List D):R D:=(run 3 Zna ds).calm
noncomputable def Zzt:FS:=
  (Xk (Yi 2 (Xr Zab (Zc (fV 0) (Zc (fV 1) Zt))))
    (Jy (Jg 3 1 (Zaq (Zc (fA Jk (Zc (fV 0) Zt)) Zt)) (Zn 3) Zbm (f2 Zot (f2 gIx (fV 2) (f2 Jj (fV 3) (fC (.int 1)))) (f2 gIx (fV 2) (fV 3))))))
noncomputable def Zdz (ds:List D):R D:=(run 3 Zzt ds).calm
noncomputable def Zjm:FS:=
  (Xk (Yi 4 (Xr Zaw (Zc (fV 1) (Zc (fV 3) Zt))))
    (Jy (Xr Zck (Zc (Jg 5 1 (Zba (fV 0)) (Zn 5) Zbm (f1 Xt (f2 gIx (Xr Zab (Zc (fV 5) (Zc (fV 4) Zt))) (f1 Zuw (fC (.int 1)))))) (Zc (Xr Zbf (Zc (fV 2) (Zc (fV 3) Zt))) Zt)))))
noncomputable def Jx (ds:List D):R D:=(run 5 Zjm ds).calm
@[simp] theorem ev_fC (d:D)(ρ:Env):fC d ρ=.ok d:=(rfl)
@[simp] theorem ev_f1 (g:D→Option D)(a:FE)(ρ:Env):f1 g a ρ=(a ρ).bind fun x=>oR (g x):=(rfl)
@[simp] theorem ev_f2 (g:D→D→Option D)(a b:FE)(ρ:Env):f2 g a b ρ=(a ρ).bind fun x=>(b ρ).bind fun y=>oR (g x y):=(rfl)
@[simp] theorem ev_aNil (ρ:Env):Zt ρ=.ok []:=(rfl)
@[simp] theorem Zyy (a:FE)(r:FA)(ρ:Env):Zc a r ρ=(a ρ).bind fun x=>(r ρ).bind fun xs=>.ok (x::xs):=(rfl)
@[simp] theorem ev_fA (g:List D→Option D)(a:FA)(ρ:Env):fA g a ρ=(a ρ).bind fun xs=>oR (g xs):=(rfl)
@[simp] theorem Zzb (F:List D→R D)(a:FA)(ρ:Env):Xr F a ρ=(a ρ).bind F:=(rfl)
@[simp] theorem ev_fV0 (d:D)(ρ:Env):fV 0 (some d::ρ)=.ok d:=(rfl)
@[simp] theorem ev_fVs (i:Nat)(o:Option D)(ρ:Env):fV (i+1) (o::ρ)=fV i ρ:=by simp [fV]
@[simp] theorem ev_cE (a:FE)(ρ:Env):cE a ρ=(a ρ).bind fun d=>match d with | .bl b=>.ok b | _=>.bad:=(rfl)
@[simp] theorem Xie (a:FT)(ρ:Env):Ztp a ρ=(a ρ).bind fun b=>.ok (!b):=(rfl)
@[simp] theorem Zun (a b:FT)(ρ:Env):Zwt a b ρ=(a ρ).bind fun x=>if x then b ρ else .ok false:=(rfl)
@[simp] theorem Xdy (a b:FT)(ρ:Env):cOr a b ρ=(a ρ).bind fun x=>if x then .ok true else b ρ:=(rfl)
@[simp] theorem ev_cYes (ρ:Env):Zbm ρ=.ok true:=(rfl)
@[simp] theorem Xeb (a b:FE)(ρ:Env):Xjh a b ρ=(a ρ).bind fun x=>match x with | .bl true=>b ρ | .bl false=>.ok (.bl false) | _=>.bad:=(rfl)
@[simp] theorem ev_fOr (a b:FE)(ρ:Env):fOr a b ρ=(a ρ).bind fun x=>match x with | .bl true=>.ok (.bl true) | .bl false=>b ρ | _=>.bad:=(rfl)
@[simp] theorem Xds (c:FT)(a b:FE)(ρ:Env):fIf c a b ρ=(c ρ).bind fun x=>if x then a ρ else b ρ:=(rfl)
@[simp] theorem Zvr (g g':D→D→Option D)(a b c:FE)(ρ:Env):Zjp g g' a b c ρ=(a ρ).bind fun x=>(b ρ).bind fun y=>(oR (g x y)).bind fun z=>match z with | .bl true=>(c ρ).bind fun w=>oR (g' y w) | .bl false=>.ok (.bl false) | _=>.bad:=(rfl)
@[simp] theorem ev_fSl (g:D→Option Int→Option Int→Option D)(a:FE)(l h:FO)(ρ:Env):fSl g a l h ρ=(a ρ).bind fun x=>(l ρ).bind fun lo=>(h ρ).bind fun hi=>oR (g x lo hi):=(rfl)
@[simp] theorem ev_oNone (ρ:Env):Zsk ρ=.ok none:=(rfl)
@[simp] theorem ev_oSome (a:FE)(ρ:Env):Zmt a ρ=(a ρ).bind fun d=>match d with | .int i=>.ok (some i) | _=>.bad:=(rfl)
@[simp] theorem Xac (a:FE)(ρ:Env):Zba a ρ=(a ρ).bind fun d=>match d with | .lst xs=>if xs.length≤lim then .ok xs else .bad | .scr ns=>if ns.length≤lim then .ok (ns.map D.int) else .bad | _=>.bad:=(rfl)
@[simp] theorem ev_jTup (a:FE)(ρ:Env):jTup a ρ=(a ρ).bind fun d=>match d with | .tup xs=>if xs.length≤lim then .ok xs else .bad | _=>.bad:=(rfl)
@[simp] theorem Zzz (a:FA)(ρ:Env):Zaq a ρ=(a ρ).bind fun ds=>match ds with | [.int j]=>if -1000000000≤j∧j≤1000000 then .ok (Zcj 0 j.toNat) else .bad | _=>.bad:=(rfl)
noncomputable def Zrv (ds:List D):R (List D):=match ds with
 | [.int i,.int j]=>if -1000000000≤i∧i≤1000000000∧-1000000000≤j∧j≤1000000000∧(j - i).toNat≤lim then .ok (Zcj i (j - i).toNat) else .bad
 | _=>.bad
@[simp] theorem Zyp (a:FA)(ρ:Env):Zwx a ρ=(a ρ).bind Zrv:=(rfl)
@[simp] theorem Zzr (n k:Nat)(it:FI)(b:FB)(c:FT)(e:FE)(ρ:Env):Jg n k it b c e ρ=if ρ.length=n then (it ρ).bind fun xs=>(Yr k b c e ρ xs).calm.bind fun ys=>.ok (.lst ys) else .bad:=(rfl)
@[simp] theorem ev_sNx (ρ:Env):sNx ρ=.ok (.nx ρ):=(rfl)
@[simp] theorem Xnw (ρ:Env):Zqi ρ=.bad:=(rfl)
@[simp] theorem Zxb (a b:FS)(ρ:Env):Xk a b ρ=(a ρ).bind fun fl=>match fl with | .nx ρ'=>b ρ' | fl=>.ok fl:=(rfl)
@[simp] theorem Xfo (i:Nat)(e:FE)(ρ:Env):Yi i e ρ=(e ρ).bind fun d=>.ok (.nx (ρ.set i (some d))):=(rfl)
@[simp] theorem Xgs (e:FE)(ρ:Env):Jy e ρ=(e ρ).bind fun d=>.ok (.ret d):=(rfl)
@[simp] theorem Xdc (c:FT)(a b:FS)(ρ:Env):sIf c a b ρ=(c ρ).bind fun x=>if x then a ρ else b ρ:=(rfl)
@[simp] theorem Xhv (i:Nat)(e:FE)(ρ:Env):Zhe i e ρ=(fV i ρ).bind fun v=>match v with | .lst xs=>(e ρ).bind fun d=>if xs.length<lim then .ok (.nx (ρ.set i (some (.lst (xs++[d]))))) else .bad | _=>.bad:=by
 unfold Zhe fV
 split
 ·rename_i xs e;simp [e]
 ·rename_i h
  split
  ·rename_i d e
   cases d<;>simp
   rename_i xs
   exact absurd e (h xs)
  ·rfl
@[simp] theorem Xke (c:String)(f:FA)(ρ:Env):Xna c f ρ=(f ρ).bind fun _=>.err c none:=(rfl)
@[simp] theorem Xhm (it:FI)(b:FB)(s:FS)(ρ:Env):Zid it b s ρ=(it ρ).bind fun xs=>Zdc b s xs ρ:=(rfl)
@[simp] theorem Xlu (n:Nat)(c:FT)(s:FS)(ρ:Env):Zjy n c s ρ=Zci c s n ρ:=(rfl)
@[simp] theorem ev_sAsg (e:FE)(b:FB)(ρ:Env):Zof e b ρ=(e ρ).bind fun d=>(b d ρ).calm.bind fun ρ'=>.ok (.nx ρ'):=(rfl)
@[simp] theorem ev_bName (i:Nat)(d:D)(ρ:Env):Zn i d ρ=.ok (ρ.set i (some d)):=(rfl)
@[simp] theorem ev_bNil (ρ:Env):Zcv [] ρ=.ok ρ:=(rfl)
@[simp] theorem ev_bCons (b:FB)(r:List D→Env→R Env)(d:D)(ds:List D)(ρ:Env):Xh b r (d::ds) ρ=(b d ρ).bind fun ρ'=>r ds ρ':=(rfl)
@[simp] theorem ev_bTup (r:List D→Env→R Env)(ds:List D)(ρ:Env):Zdb r (.tup ds) ρ=r ds ρ:=(rfl)
@[simp] theorem ev_run (N:Nat)(b:FS)(ds:List D):run N b ds=(b (ds.map some++List.replicate (N - ds.length) none)).bind fun fl=>match fl with | .nx _=>.ok .non | .ret d=>.ok d | _=>.bad:=(rfl)
@[simp] theorem forD_nil (b:FB)(s:FS)(ρ:Env):Zdc b s [] ρ=.ok (.nx ρ):=(rfl)
theorem Zmd (b:FB)(s:FS)(x:D)(xs:List D)(ρ:Env):Zdc b s (x::xs) ρ=(b x ρ).calm.bind fun ρ1=>(s ρ1).bind fun fl=>match fl with | .nx ρ2=>Zdc b s xs ρ2 | .cnt ρ2=>Zdc b s xs ρ2 | .brk ρ2=>.ok (.nx ρ2) | .ret d=>.ok (.ret d):=rfl
@[simp] theorem add_ii (i j:Int):Jj (.int i) (.int j)=some (.int (i+j)):=rfl
@[simp] theorem addI_ii (i j:Int):gAddI (.int i) (.int j)=some (.int (i+j)):=rfl
@[simp] theorem sub_ii (i j:Int):Zot (.int i) (.int j)=some (.int (i - j)):=rfl
@[simp] theorem lt_ii (i j:Int):gLt (.int i) (.int j)=some (.bl (decide (i<j))):=rfl
@[simp] theorem le_ii (i j:Int):gLe (.int i) (.int j)=some (.bl (decide (i≤j))):=rfl
@[simp] theorem gt_ii (i j:Int):gGt (.int i) (.int j)=some (.bl (decide (j<i))):=rfl
@[simp] theorem ge_ii (i j:Int):gGe (.int i) (.int j)=some (.bl (decide (j≤i))):=rfl
@[simp] theorem neg_i (i:Int):Zuw (.int i)=some (.int (-i)):=rfl
@[simp] theorem not_b (b:Bool):gNot (.bl b)=some (.bl (!b)):=rfl
@[simp] theorem Zli (i j:Int):gEq (.int i) (.int j)=some (.bl (decide (i=j))):=show some (D.bl (i==j))=_ from congrArg (fun b=>some (D.bl b)) (by by_cases h:i=j<;>simp [h])
@[simp] theorem Xli (i j:Int):gNe (.int i) (.int j)=some (.bl (!decide (i=j))):=show some (D.bl (!(i==j)))=_ from congrArg (fun b=>some (D.bl (!b))) (by by_cases h:i=j<;>simp [h])
@[simp] theorem eq_bb (i j:Bool):gEq (.bl i) (.bl j)=some (.bl (i==j)):=rfl
@[simp] theorem ne_bb (i j:Bool):gNe (.bl i) (.bl j)=some (.bl (!(i==j))):=rfl
@[simp] theorem is_n (x:D):gIs x .non=some (.bl (Zlk x)):=rfl
@[simp] theorem isNot_n (x:D):Xcz x .non=some (.bl (!Zlk x)):=rfl
@[simp] theorem is_b (b c:Bool):gIs (.bl b) (.bl c)=some (.bl (b==c)):=rfl
@[simp] theorem isNot_b (b c:Bool):Xcz (.bl b) (.bl c)=some (.bl (!(b==c))):=rfl
@[simp] theorem Xjz:Zlk .non=true:=rfl
@[simp] theorem isNon_i (i:Int):Zlk (.int i)=false:=rfl
@[simp] theorem isNon_b (i:Bool):Zlk (.bl i)=false:=rfl
@[simp] theorem isNon_l (i:List D):Zlk (.lst i)=false:=rfl
@[simp] theorem isNon_t (i:List D):Zlk (.tup i)=false:=rfl
theorem Zng {i j:Int}(h:(-(2 ^ 64)<i∧i<2 ^ 64)∨(-(2 ^ 64)<j∧j<2 ^ 64)):Zai (.int i) (.int j)=some (.int (i*j)):=by
 have:(short i||short j)=true:=by simp [short];exact h
 simp [Zai,this]
theorem Zcx {i j:Int}(h:0<j):Zjg (.int i) (.int j)=some (.int (i % j)):=by simp [Zjg,h]
theorem div_ii {i j:Int}(h:0<j)(h2:j<2 ^ 200):Xjf (.int i) (.int j)=some (.int (i / j)):=by simp only [Xjf];rw [if_pos ⟨h,h2⟩]
theorem Zkf {i j:Int}(h:0≤j)(h2:j≤1000000)(h3:i.natAbs<2 ^ 64):Ziz (.int i) (.int j)=some (.int (i ^ j.toNat)):=by simp only [Ziz];rw [if_pos ⟨h,h2,h3⟩]
@[simp] theorem pow10_6:Ziz (.int 10) (.int 6)=some (.int 1000000):=by
 rw [Zkf (by omega) (by omega) (by decide)]
 rfl
@[simp] theorem Xco:Ziz (.int 10) (.int 15)=some (.int 1000000000000000):=by
 rw [Zkf (by omega) (by omega) (by decide)]
 rfl
@[simp] theorem Zqq:Ziz (.int 10) (.int 17)=some (.int 100000000000000000):=by
 rw [Zkf (by omega) (by omega) (by decide)]
 rfl
@[simp] theorem Zhg:Ziz (.int 10) (.int 18)=some (.int 1000000000000000000):=by
 rw [Zkf (by omega) (by omega) (by decide)]
 rfl
@[simp] theorem flat_i (i:Int):flat (.int i)=true:=rfl
@[simp] theorem flat_b (i:Bool):flat (.bl i)=true:=rfl
@[simp] theorem flat_s (i:Str):flat (.str i)=true:=rfl
@[simp] theorem flat_n:flat .non=true:=rfl
@[simp] theorem flat_t (xs:List D):flat (.tup xs)=Yz xs:=rfl
@[simp] theorem flatA_n:Yz []=true:=rfl
@[simp] theorem flatA_c (x:D)(xs:List D):Yz (x::xs)=(flat x&&Yz xs):=rfl
theorem Zfh {α:Type}{f:α→D}(h:∀a,flat (f a)=true):∀xs:List α,Yz (xs.map f)=true
 | []=>rfl
 | x::xs=>by simp [h x,Zfh h xs]
@[simp] theorem Zea (ns:List Int):Yz (ns.map D.int)=true:=Zfh (fun _=>rfl) ns
@[simp] theorem gFlat_i (i:Int):Xt (.int i)=some (.int i):=rfl
@[simp] theorem gFlat_b (i:Bool):Xt (.bl i)=some (.bl i):=rfl
@[simp] theorem gFlat_s (i:Str):Xt (.str i)=some (.str i):=rfl
@[simp] theorem gFlat_n:Xt .non=some .non:=rfl
@[simp] theorem ints_map (ns:List Int):intsOf (ns.map D.int)=some ns:=by
 induction ns with
 | nil=>rfl
 | cons n ns ih=>simp [intsOf,ih]
@[simp] theorem Xmj (ns:List Bool):bools (ns.map D.bl)=some ns:=by
 induction ns with
 | nil=>rfl
 | cons n ns ih=>simp [bools,ih]
@[simp] theorem len_l (xs:List D):Jk [.lst xs]=some (.int xs.length):=(rfl)
@[simp] theorem len_t (xs:List D):Jk [.tup xs]=some (.int xs.length):=(rfl)
@[simp] theorem len_scr (xs:List Int):Jk [.scr xs]=some (.int xs.length):=(rfl)
@[simp] theorem sum_ints (ns:List Int):Zvn [.lst (ns.map D.int)]=some (.int ns.sum):=by simp [Zvn]
@[simp] theorem Xkv (i j:Int):Xbj [.int i,.int j]=some (.int (max i j)):=by
 simp only [Xbj]
 congr 2
 by_cases h:j > i
 ·rw [if_pos h];omega
 ·rw [if_neg h];omega
@[simp] theorem Xea (i j:Int):Xdh [.int i,.int j]=some (.int (min i j)):=by
 simp only [Xdh]
 congr 2
 by_cases h:j<i
 ·rw [if_pos h];omega
 ·rw [if_neg h];omega
theorem Xaw {ns:List Int}(h:ns≠[]):Xbj [.lst (ns.map D.int)]=some (.int (Xah ns)):=by simp [Xbj,h]
@[simp] theorem all_bools (ns:List Bool):Zyl [.lst (ns.map D.bl)]=some (.bl (ns.all id)):=by simp [Zyl]
@[simp] theorem isI_i (c:String)(i:Int):Zlw c (.int i)=some (.bl (c=="int")):=rfl
@[simp] theorem isI_b (c:String)(i:Bool):Zlw c (.bl i)=some (.bl (c=="bool"||c=="int")):=rfl
@[simp] theorem isI_l (c:String)(i:List D):Zlw c (.lst i)=some (.bl (c=="list")):=rfl
@[simp] theorem isI_t (c:String)(i:List D):Zlw c (.tup i)=some (.bl (c=="tuple")):=rfl
@[simp] theorem isI_s (c:String)(i:Str):Zlw c (.str i)=some (.bl (c=="str")):=rfl
@[simp] theorem isI_n (c:String):Zlw c .non=some (.bl false):=rfl
theorem Zpg {α:Type}{xs:List α}{i:Int}{k:Nat}{x:α}(e:i=(k:Int))(h:xs[k]?=some x):atD xs i=some x:=by
 subst e
 have hk:=(List.getElem?_eq_some_iff.mp h).1
 unfold atD ixD
 rw [if_pos (by omega),if_pos (by omega)]
 simpa using h
theorem Zye {α:Type}(xs:List α)(x:α):atD (xs++[x]) (-1)=some x:=by
 unfold atD ixD
 rw [if_neg (by omega),if_pos (by simp;omega)]
 simp only [Option.bind_some]
 have:(-1+(((xs++[x]).length:Nat):Int)).toNat=xs.length:=by simp;omega
 rw [this]
 simp
theorem ix_l {xs:List D}{i:Int}{k:Nat}{x:D}(e:i=(k:Int))(h:xs[k]?=some x):gIx (.lst xs) (.int i)=some x:=Zpg e h
theorem Xjk {xs:List D}{i:Int}{k:Nat}{x:D}(e:i=(k:Int))(h:xs[k]?=some x):gIx (.tup xs) (.int i)=some x:=Zpg e h
@[simp] theorem ixL_l (xs:List D)(y:D):gIxL (.lst xs) y=gIx (.lst xs) y:=(rfl)
@[simp] theorem listV_l (xs:List D):Xkc [.lst xs]=some (.lst xs):=(rfl)
@[simp] theorem Xgf (xs:List D)(x:D):gIx (.lst (xs++[x])) (.int (-1))=some x:=Zye xs x
theorem Zac {ns:List Int}{i:Int}{k:Nat}(e:i=(k:Int))(h:k<ns.length):gIx (.lst (ns.map D.int)) (.int i)=some (.int (ns.getD k 0)):=ix_l e (by simp [h,List.getD])
theorem Zqa {ns:List Int}(h:ns≠[]):gIx (.lst (ns.map D.int)) (.int (-1))=some (.int (ns.getD (ns.length - 1) 0)):=by
 have e:=List.dropLast_concat_getLast h
 have e2:ns.getD (ns.length - 1) 0=ns.getLast h:=by
  have hl:ns.length - 1<ns.length:=by have:=List.length_pos_iff.mpr h;omega
  rw [List.getLast_eq_getElem]
  simp [List.getD,hl]
 rw [e2]
 conv=>lhs;rw [← e,map_append,List.map_singleton]
 exact Xgf _ _
@[simp] theorem ix_t0 (a:D)(r:List D):gIx (.tup (a::r)) (.int 0)=some a:=Xjk (k:=0) rfl rfl
@[simp] theorem ix_t1 (a b:D)(r:List D):gIx (.tup (a::b::r)) (.int 1)=some b:=Xjk (k:=1) rfl rfl
@[simp] theorem ix_t3 (a b c d:D)(r:List D):gIx (.tup (a::b::c::d::r)) (.int 3)=some d:=Xjk (k:=3) rfl rfl
theorem Xhs {α β:Type}(f:α→β)(xs:List α)(lo hi:Option Int):cut (xs.map f) lo hi=(cut xs lo hi).map f:=by
 unfold cut
 rw [length_map,map_take,map_drop]
theorem Xnj {α:Type}{xs:List α}{a b:Int}(h0:0≤a)(h1:a≤b)(h2:b≤xs.length):cut xs (some a) (some b)=(xs.drop a.toNat).take (b.toNat - a.toNat):=by
 unfold cut Xjo
 simp only []
 rw [if_neg (by omega),if_neg (by omega),Nat.min_eq_left (by omega),Nat.min_eq_left (by omega)]
theorem Xcw {α:Type}{xs:List α}{b:Int}(h0:0≤b):cut xs none (some b)=xs.take b.toNat:=by
 unfold cut Xjo
 simp only []
 rw [if_neg (by omega),List.drop_zero,Nat.sub_zero]
 by_cases h:b.toNat≤xs.length
 ·rw [Nat.min_eq_left h]
 ·rw [Nat.min_eq_right (by omega),take_of_length_le (le_refl _),take_of_length_le (by omega)]
@[simp] theorem Xeh (ns:List Int)(lo hi:Option Int):gSl (.lst (ns.map D.int)) lo hi=some (.lst ((cut ns lo hi).map D.int)):=by
 simp [gSl,Xhs]
@[simp] theorem sl_scr (ns:List Int)(lo hi:Option Int):gSl (.scr ns) lo hi=some (.lst ((cut ns lo hi).map D.int)):=(rfl)
@[simp] theorem lst_lim (xs:List D)(h:xs.length≤lim):Zae xs=some (.lst xs):=by unfold Zae;rw [if_pos h]
@[simp] theorem gLst_0:Zae []=some (.lst []):=rfl
@[simp] theorem gLst_1 (a:D):Zae [a]=some (.lst [a]):=rfl
@[simp] theorem gLst_2 (a b:D):Zae [a,b]=some (.lst [a,b]):=rfl
@[simp] theorem gLst_3 (a b c:D):Zae [a,b,c]=some (.lst [a,b,c]):=rfl
@[simp] theorem gLst_4 (a0 a1 a2 a3:D):Zae [a0,a1,a2,a3]=some (.lst [a0,a1,a2,a3]):=rfl
@[simp] theorem gLst_5 (a0 a1 a2 a3 a4:D):Zae [a0,a1,a2,a3,a4]=some (.lst [a0,a1,a2,a3,a4]):=rfl
@[simp] theorem gLst_6 (a0 a1 a2 a3 a4 a5:D):Zae [a0,a1,a2,a3,a4,a5]=some (.lst [a0,a1,a2,a3,a4,a5]):=rfl
@[simp] theorem gLst_10 (a0 a1 a2 a3 a4 a5 a6 a7 a8 a9:D):Zae [a0,a1,a2,a3,a4,a5,a6,a7,a8,a9]=some (.lst [a0,a1,a2,a3,a4,a5,a6,a7,a8,a9]):=rfl
@[simp] theorem gLst_11 (a0 a1 a2 a3 a4 a5 a6 a7 a8 a9 a10:D):Zae [a0,a1,a2,a3,a4,a5,a6,a7,a8,a9,a10]=some (.lst [a0,a1,a2,a3,a4,a5,a6,a7,a8,a9,a10]):=rfl
@[simp] theorem gTup_2 (a b:D):Zdy [a,b]=some (.tup [a,b]):=rfl
@[simp] theorem gTup_3 (a b c:D):Zdy [a,b,c]=some (.tup [a,b,c]):=rfl
@[simp] theorem gTup_4 (a b c d:D):Zdy [a,b,c,d]=some (.tup [a,b,c,d]):=rfl
@[simp] theorem Zgk {α β:Type}(a:α)(f:α→R β):((R.ok a).calm).bind f=f a:=(rfl)
theorem Zco {b:FB}{s:FS}{xs:List D}{P:Nat→Env→Prop}{Rr:R Fl→Prop}{ρ:Env}(h0:P 0 ρ)
  (hs:∀i x ρ,xs[i]?=some x→P i ρ→∃ρ1,b x ρ=.ok ρ1∧((∃ρ2,(s ρ1=.ok (.nx ρ2)∨s ρ1=.ok (.cnt ρ2))∧P (i+1) ρ2)∨(∃d,s ρ1=.ok (.ret d)∧Rr (.ok (.ret d)))∨∃ρ2,s ρ1=.ok (.brk ρ2)∧Rr (.ok (.nx ρ2))))
  (hd:∀ρ,P xs.length ρ→Rr (.ok (.nx ρ))):Rr (Zdc b s xs ρ):=by
 have key:∀n i ρ,n+i=xs.length→P i ρ→Rr (Zdc b s (xs.drop i) ρ):=by
  intro n
  induction n with
  | zero =>
   intro i ρ hn p
   rw [List.drop_of_length_le (by omega)]
   have e:i=xs.length:=by omega
   subst e
   exact hd ρ p
  | succ n ih =>
   intro i ρ hn p
   have hi:i<xs.length:=by omega
   rw [List.drop_eq_getElem_cons hi,Zmd]
   obtain ⟨ρ1,e1,h⟩:=hs i xs[i] ρ (getElem?_eq_getElem hi) p
   rw [e1,Zgk]
   rcases h with ⟨ρ2,e2 | e2,p2⟩ | ⟨d,e2,p2⟩ | ⟨ρ2,e2,p2⟩
   ·rw [e2];exact ih (i+1) ρ2 (by omega) p2
   ·rw [e2];exact ih (i+1) ρ2 (by omega) p2
   ·rw [e2];exact p2
   ·rw [e2];exact p2
 have:=key xs.length 0 ρ (by omega) h0
 simpa using this
theorem Xia {b:FB}{s:FS}{xs:List D}{ρ:Env}(st:Nat→Env)(h0:st 0=ρ)(hs:∀i x,xs[i]?=some x→∃ρ1,b x (st i)=.ok ρ1∧s ρ1=.ok (.nx (st (i+1)))):Zdc b s xs ρ=.ok (.nx (st xs.length)):=by
 refine Zco (P:=fun i ρ=>ρ=st i) (Rr:=fun r=>r=.ok (.nx (st xs.length))) h0.symm (fun i x ρ hx e=>?_) (fun ρ e=>by rw [e])
 subst e
 obtain ⟨ρ1,e1,e2⟩:=hs i x hx
 exact ⟨ρ1,e1,.inl ⟨_,.inl e2,rfl⟩⟩
theorem Zym {lo:Int}{n i:Nat}(h:i<n):(Zcj lo n)[i]?=some (.int (lo+i)):=by simp [Zcj,h]
theorem Ziy {lo:Int}{n i:Nat}{x:D}(h:(Zcj lo n)[i]?=some x):i<n∧x=.int (lo+i):=by
 have hi:=(List.getElem?_eq_some_iff.mp h).1
 have hn:i<n:=by simpa [Zcj] using hi
 rw [Zym hn] at h
 exact ⟨hn,(Option.some.inj h).symm⟩
@[simp] theorem Zal (lo:Int)(n:Nat):(Zcj lo n).length=n:=by simp [Zcj]
theorem Ztu {k:Nat}{b:FB}{c:FT}{e:FE}{ρ:Env}{α:Type}{enc:α→D}{ρ1:α→Env}{p:α→Bool}{v:α→D}{xs:List α}(h:∀x∈xs,b (enc x) (ρ++List.replicate k none)=.ok (ρ1 x)∧c (ρ1 x)=.ok (p x)∧(p x=true→e (ρ1 x)=.ok (v x))):Yr k b c e ρ (xs.map enc)=.ok ((xs.filter p).map v):=by
 induction xs with
 | nil=>rfl
 | cons x xs ih =>
  obtain ⟨h0,h1,h2⟩:=h x (.head _)
  have ih:=ih fun y hy=>h y (.tail _ hy)
  rw [map_cons]
  unfold Yr
  rw [h0,Zgk,h1]
  cases hp:p x with
  | false=>simp [ih,hp]
  | true=>simp [ih,hp,h2 hp]
theorem Xmg {n:Nat}{c:FT}{e:FE}{ρ:Env}{α:Type}{enc:α→D}{p:α→Bool}{v:α→D}{xs:List α}(hn:ρ.length=n)(h:∀x∈xs,c (ρ++[some (enc x)])=.ok (p x)∧(p x=true→e (ρ++[some (enc x)])=.ok (v x))):Yr 1 (Zn n) c e ρ (xs.map enc)=.ok ((xs.filter p).map v):=
  Ztu (ρ1:=fun x=>ρ++[some (enc x)]) fun x hx=>⟨by
    show R.ok ((ρ++[none]).set n (some (enc x)))=_
    rw [← hn,set_append_right _ _ (le_refl _),sub_self]
    rfl,h x hx⟩
theorem Zax {n:Nat}{e:FE}{ρ:Env}{α:Type}{enc:α→D}{v:α→D}{xs:List α}(hn:ρ.length=n)(h:∀x∈xs,e (ρ++[some (enc x)])=.ok (v x)):Yr 1 (Zn n) Zbm e ρ (xs.map enc)=.ok (xs.map v):=by
 have:=Xmg (p:=fun _=>true) (c:=Zbm) hn (xs:=xs) (enc:=enc) (e:=e) (v:=v) fun x hx=>⟨rfl,fun _=>h x hx⟩
 rw [this,List.filter_eq_self.mpr fun _ _=>rfl]
theorem Xnr {n:Nat}{c:FT}{e:FE}{ρ:Env}{α:Type}{f g:α→D}{p:α→Bool}{v:α→D}{xs:List α}(hn:ρ.length=n)(h:∀x∈xs,c (ρ++[some (f x),some (g x)])=.ok (p x)∧(p x=true→e (ρ++[some (f x),some (g x)])=.ok (v x))) :
    Yr 2 (Zdb (Xh (Zn n) (Xh (Zn (n+1)) Zcv))) c e ρ (xs.map fun x=>.tup [f x,g x])=.ok ((xs.filter p).map v):=
  Ztu (enc:=fun x=>D.tup [f x,g x]) (ρ1:=fun x=>ρ++[some (f x),some (g x)]) fun x hx=>⟨by
    show R.ok (((ρ++[none,none]).set n (some (f x))).set (n+1) (some (g x)))=_
    rw [← hn,set_append_right _ _ (le_refl _),sub_self,set_append_right _ _ (by omega)]
    simp,h x hx⟩
theorem Xkd {n:Nat}{e:FE}{ρ:Env}{α:Type}{f g:α→D}{v:α→D}{xs:List α}(hn:ρ.length=n)(h:∀x∈xs,e (ρ++[some (f x),some (g x)])=.ok (v x)) :
  Yr 2 (Zdb (Xh (Zn n) (Xh (Zn (n+1)) Zcv))) Zbm e ρ (xs.map fun x=>.tup [f x,g x])=.ok (xs.map v):=by
 have:=Xnr (p:=fun _=>true) (c:=Zbm) hn (xs:=xs) (f:=f) (g:=g) (e:=e) (v:=v) fun x hx=>⟨rfl,fun _=>h x hx⟩
 rw [this,List.filter_eq_self.mpr fun _ _=>rfl]
theorem Xap {c:FT}{s:FS}{ρ:Env}{n:Nat}(m:Nat)(st:Nat→Env)(h0:st 0=ρ)(hn:m<n)(hs:∀i,i<m→c (st i)=.ok true∧s (st i)=.ok (.nx (st (i+1))))(hd:c (st m)=.ok false):Zci c s n ρ=.ok (.nx (st m)):=by
 have key:∀k i n,k+i=m→k<n→Zci c s n (st i)=.ok (.nx (st m)):=by
  intro k
  induction k with
  | zero =>
   intro i n hi hn
   have e:i=m:=by omega
   subst e
   obtain ⟨n,rfl⟩:∃k,n=k+1:=⟨n - 1,by omega⟩
   simp [Zci,hd]
  | succ k ih =>
   intro i n hi hn
   obtain ⟨n,rfl⟩:∃k,n=k+1:=⟨n - 1,by omega⟩
   obtain ⟨h1,h2⟩:=hs i (by omega)
   simp only [Zci,h1,Jq,if_true,h2]
   exact ih (i+1) n (by omega) (by omega)
 rw [← h0]
 exact key m 0 n (by omega) hn
theorem Xn {i:Nat}{e:FE}{ρ:Env}{d:D}(h:e ρ=.ok d):Yi i e ρ=.ok (.nx (ρ.set i (some d))):=by rw [Xfo,h];rfl
theorem Zq {a b:FS}{ρ ρ':Env}{r:R Fl}(h:a ρ=.ok (.nx ρ'))(h2:b ρ'=r):Xk a b ρ=r:=by rw [Zxb,h];exact h2
theorem Zfw {g:D→Option D}{a:FE}{ρ:Env}{x z:D}(ha:a ρ=.ok x)(h:g x=some z):f1 g a ρ=.ok z:=by rw [ev_f1,ha];show oR (g x)=_;rw [h];rfl
theorem Zo {g:D→D→Option D}{a b:FE}{ρ:Env}{x y z:D}(ha:a ρ=.ok x)(hb:b ρ=.ok y)(h:g x y=some z):f2 g a b ρ=.ok z:=by rw [ev_f2,ha,hb];show oR (g x y)=_;rw [h];rfl
theorem Jt {g:List D→Option D}{a:FA}{ρ:Env}{xs:List D}{z:D}(ha:a ρ=.ok xs)(h:g xs=some z):fA g a ρ=.ok z:=by rw [ev_fA,ha];show oR (g xs)=_;rw [h];rfl
theorem Zd {a:FE}{r:FA}{ρ:Env}{x:D}{xs:List D}(ha:a ρ=.ok x)(hr:r ρ=.ok xs):Zc a r ρ=.ok (x::xs):=by rw [Zyy,ha,hr];rfl
theorem Xi {F:List D→R D}{a:FA}{ρ:Env}{xs:List D}{d:D}(ha:a ρ=.ok xs)(h:F xs=.ok d):Xr F a ρ=.ok d:=by rw [Zzb,ha];exact h
theorem Jo {a:FE}{ρ:Env}{b:Bool}(h:a ρ=.ok (.bl b)):cE a ρ=.ok b:=by rw [ev_cE,h];rfl
theorem Zcq {c:FT}{a b:FS}{ρ:Env}{r:R Fl}(hc:c ρ=.ok true)(h:a ρ=r):sIf c a b ρ=r:=by rw [Xdc,hc];exact h
theorem Jf {c:FT}{a b:FS}{ρ:Env}{r:R Fl}(hc:c ρ=.ok false)(h:b ρ=r):sIf c a b ρ=r:=by rw [Xdc,hc];exact h
theorem Zet {i:Nat}{e:FE}{ρ:Env}{xs:List D}{d:D}(hv:fV i ρ=.ok (.lst xs))(h:e ρ=.ok d)(hl:xs.length<lim):Zhe i e ρ=.ok (.nx (ρ.set i (some (.lst (xs++[d]))))):=by rw [Xhv,hv,h];exact if_pos hl
theorem Zah {e:FE}{ρ:Env}{d:D}(h:e ρ=.ok d):Jy e ρ=.ok (.ret d):=by rw [Xgs,h];rfl
theorem Zjj {a:FA}{ρ:Env}{j:Int}(h:a ρ=.ok [.int j])(h1:-1000000000≤j∧j≤1000000):Zaq a ρ=.ok (Zcj 0 j.toNat):=by rw [Zzz,h];exact if_pos h1
theorem Zdt {it:FI}{b:FB}{s:FS}{ρ:Env}{xs:List D}{r:R Fl}(h:it ρ=.ok xs)(h2:Zdc b s xs ρ=r):Zid it b s ρ=r:=by rw [Xhm,h];exact h2
theorem Zag {N:Nat}{q:FS}{ds:List D}{d:D}(h:q (ds.map some++List.replicate (N - ds.length) none)=.ok (.ret d)):(run N q ds).calm=.ok d:=by unfold run;rw [h];rfl
theorem Zpy {a b:Int}(h0:0≤a)(h1:a≤1000000):Zai (.int a) (.int b)=some (.int (a*b)):=Zng (.inl ⟨by omega,by omega⟩)
theorem Zgp {a b:FS}{ρ:Env}{d:D}(h:a ρ=.ok (.ret d)):Xk a b ρ=.ok (.ret d):=by rw [Zxb,h];rfl
theorem mulR {a b:Int}(h0:0≤b)(h1:b≤1000000):Zai (.int a) (.int b)=some (.int (a*b)):=Zng (.inr ⟨by omega,by omega⟩)
theorem Ji {a:FE}{ρ:Env}{xs:List D}(h:a ρ=.ok (.lst xs))(hl:xs.length≤lim):Zba a ρ=.ok xs:=by rw [Xac,h];exact if_pos hl
theorem Xcy {c:FT}{a b:FE}{ρ:Env}{r:R D}(hc:c ρ=.ok true)(h:a ρ=r):fIf c a b ρ=r:=by rw [Xds,hc];exact h
theorem Xdt {c:FT}{a b:FE}{ρ:Env}{r:R D}(hc:c ρ=.ok false)(h:b ρ=r):fIf c a b ρ=r:=by rw [Xds,hc];exact h
theorem Zvo {a b:FT}{ρ:Env}{r:R Bool}(h:a ρ=.ok true)(h2:b ρ=r):Zwt a b ρ=r:=by rw [Zun,h];exact h2
theorem Xhh {a b:FT}{ρ:Env}(h:a ρ=.ok false):Zwt a b ρ=.ok false:=by rw [Zun,h];rfl
theorem Xfu {a b:FE}{ρ:Env}{r:R D}(h:a ρ=.ok (.bl true))(h2:b ρ=r):Xjh a b ρ=r:=by rw [Xeb,h];exact h2
theorem Zod {p:Prop}[Decidable p](h:p):some (D.bl (decide p))=some (D.bl true):=congrArg (fun b=>some (D.bl b)) (decide_eq_true h)
theorem Zoc {p:Prop}[Decidable p](h:¬p):some (D.bl (decide p))=some (D.bl false):=congrArg (fun b=>some (D.bl b)) (decide_eq_false h)
theorem Zgq {a:FT}{ρ:Env}{b:Bool}(h:a ρ=.ok b):Ztp a ρ=.ok (!b):=by rw [Xie,h];rfl
theorem Zeh {a b:FT}{ρ:Env}{r:R Bool}(h:a ρ=.ok false)(h2:b ρ=r):cOr a b ρ=r:=by rw [Xdy,h];exact h2
theorem Xhu {g g':D→D→Option D}{a b c:FE}{ρ:Env}{x y w z:D}(ha:a ρ=.ok x)(hb:b ρ=.ok y)(h1:g x y=some (.bl true))(hc:c ρ=.ok w)(h2:g' y w=some z):Zjp g g' a b c ρ=.ok z:=by
 rw [Zvr,ha]
 show (b ρ).bind _=_
 rw [hb]
 show (oR (g x y)).bind _=_
 rw [h1]
 show (c ρ).bind _=_
 rw [hc]
 show oR (g' y w)=_
 rw [h2]
 rfl
theorem Zzi {e:FE}{b:FB}{ρ ρ':Env}{d:D}(h:e ρ=.ok d)(hb:b d ρ=.ok ρ'):Zof e b ρ=.ok (.nx ρ'):=by
 unfold Zof
 rw [h]
 show (b d ρ).calm.bind _=_
 rw [hb]
 rfl
theorem Xom {a:FA}{ρ:Env}{ds xs:List D}(h:a ρ=.ok ds)(h1:Zrv ds=.ok xs):Zwx a ρ=.ok xs:=by rw [Zyp,h];exact h1
theorem Zaa {n k:Nat}{it:FI}{b:FB}{c:FT}{e:FE}{ρ:Env}{xs ys:List D}(hn:ρ.length=n)(h:it ρ=.ok xs)(h1:Yr k b c e ρ xs=.ok ys):Jg n k it b c e ρ=.ok (.lst ys):=by
 rw [Zzr,if_pos hn,h]
 show (Yr k b c e ρ xs).calm.bind _=_
 rw [h1]
 rfl
theorem Xdj {a b:FT}{ρ:Env}(h:a ρ=.ok true):cOr a b ρ=.ok true:=by rw [Xdy,h];rfl
set_option genInjectivity true in
structure Kd where
 name:Str
 w:Int
 wo:Int
 al:Int
noncomputable def kD (k:Kd):D:=.tup [.str k.name,.int k.w,.int k.wo,.int k.al]
noncomputable def iD (ns:List Int):D:=.lst (ns.map D.int)
noncomputable def tD (ks:List Kd):D:=.lst (ks.map kD)
noncomputable def pD (p:Int×Str):D:=.tup [.int p.1,.str p.2]
@[simp] theorem flat_kD (k:Kd):flat (kD k)=true:=rfl
@[simp] theorem flat_pD (k:Int×Str):flat (pD k)=true:=rfl
@[simp] theorem Zzn (k:Kd):Xt (kD k)=some (kD k):=rfl
@[simp] theorem gFlat_pD (k:Int×Str):Xt (pD k)=some (pD k):=rfl
@[simp] theorem flatA_kD (ks:List Kd):Yz (ks.map kD)=true:=Zfh (fun _=>rfl) ks
@[simp] theorem Zso (k:Kd):gIx (kD k) (.int 1)=some (.int k.w):=Xjk (k:=1) rfl rfl
@[simp] theorem Xjg (k:Kd):gIx (kD k) (.int 2)=some (.int k.wo):=Xjk (k:=2) rfl rfl
@[simp] theorem kD_3 (k:Kd):gIx (kD k) (.int 3)=some (.int k.al):=Xjk (k:=3) rfl rfl
noncomputable def pre (ns:List Int)(i:Nat):Int:=(ns.take i).sum
theorem Xfy (ns:List Int)(a b:Nat)(h:a≤b):((ns.drop a).take (b - a)).sum=pre ns b - pre ns a:=by
 unfold pre
 have e:ns.take b=ns.take a++(ns.drop a).take (b - a):=by
  have:=List.take_add (l:=ns) (i:=a) (j:=b - a)
  rw [show a+(b - a)=b by omega] at this
  exact this
 rw [e,List.sum_append]
 omega
theorem Zrt {ns:List Int}{i:Nat}{x:Int}(h:ns[i]?=some x):pre ns (i+1)=pre ns i+x:=by
 unfold pre
 rw [take_add_one,h,List.sum_append]
 simp
noncomputable def good (ns:List Int)(k:Kd)(p:Int):Bool:=decide (0≤p∧p+k.w≤ns.length∧pre ns (p+k.w).toNat - pre ns p.toNat≤k.al)
theorem Zvs {ns:List Int}{b e:Int}(h0:0≤b)(h1:b≤e)(h2:e≤ns.length):Zeb [iD ns,.int b,.int e]=.ok (.int (pre ns e.toNat - pre ns b.toNat)):=by
 have a1:¬b<0:=by omega
 have a2:¬(ns.length:Int)<e:=by omega
 have a3:¬e<b:=by omega
 simp [-map_take,-map_drop,Zeb,Zri,iD,a1,a2,a3,Xnj h0 h1 h2,Xfy _ _ _ (show b.toNat≤e.toNat by omega)]
theorem Xiq (ns:List Int)(k:Kd)(p:Int)(hw:1≤k.w):Zjv [iD ns,kD k,.int p]=.ok (.bl (good ns k p)):=by
 have l1:Jk [iD ns]=some (.int ns.length):=by simp [iD]
 by_cases h0:p<0
 ·have e:good ns k p=false:=decide_eq_false (by omega)
  rw [e]
  exact Zag (Zq (Xn (Zo rfl (Zo rfl rfl (Zso k)) rfl)) (Zgp (Zcq (Xdj (Jo (Zo rfl rfl (Zod h0)))) (Zah rfl))))
 ·by_cases h1:(ns.length:Int)<p+k.w
  ·have e:good ns k p=false:=decide_eq_false (by omega)
   rw [e]
   exact Zag (Zq (Xn (Zo rfl (Zo rfl rfl (Zso k)) rfl)) (Zgp (Zcq (Zeh (Jo (Zo rfl rfl (Zoc h0))) (Jo (Zo rfl (Jt (Zd rfl rfl) l1) (Zod h1)))) (Zah rfl))))
  ·have hs:=Zvs (ns:=ns) (b:=p) (e:=p+k.w) (by omega) (by omega) (by omega)
   have e:good ns k p=decide (pre ns (p+k.w).toNat - pre ns p.toNat≤k.al):=by
    unfold good
    apply decide_eq_decide.mpr
    constructor
    ·exact fun z=>z.2.2
    ·exact fun z=>⟨by omega,by omega,z⟩
   rw [e]
   exact Zag (Zq (Xn (Zo rfl (Zo rfl rfl (Zso k)) rfl)) (Zq (Jf (Zeh (Jo (Zo rfl rfl (Zoc h0))) (Jo (Zo rfl (Jt (Zd rfl rfl) l1) (Zoc h1)))) rfl) (Zah (Zo (Xi (Zd rfl (Zd rfl (Zd rfl rfl))) hs) (Zo rfl rfl (kD_3 k)) rfl))))
noncomputable def Yl (ns:List Int):List Int:=(List.range (ns.length+1)).map (pre ns)
theorem Zfa (ns:List Int):(Yl ns).length=ns.length+1:=by simp [Yl]
theorem Zpf (ns:List Int){k:Nat}(h:k≤ns.length):(Yl ns).getD k 0=pre ns k:=by
 unfold Yl
 have h':k<ns.length+1:=by omega
 simp [List.getD,h']
theorem Zpm (ns:List Int)(h:ns.length≤1000):Yx [iD ns]=.ok (iD (Yl ns)):=by
  have hl:ns.length≤lim:=by show _≤1000000;omega
  have hf:=Xia (b:=Zn 2) (s:=Zct) (xs:=ns.map D.int) (ρ:=[some (iD ns),some (.lst [.int 0]),none])
    (fun i=>[some (iD ns),some (.lst (((List.range i).map (pre ns)).map D.int++[.int (pre ns i)])),match i with | 0=>none | i+1=>some (.int (ns.getD i 0))]) rfl (fun i x hx=>by
      rw [getElem?_map] at hx
      obtain ⟨y,hy,rfl⟩:=Option.map_eq_some_iff.mp hx
      have hi:=(List.getElem?_eq_some_iff.mp hy).1
      refine ⟨_,rfl,?_⟩
      have hlen:i+1<1000000:=by omega
      simp [-map_map,Zct,hlen,Zrt hy,range_succ,hy])
  simp only [length_map] at hf
  simp [Yx,Zhz,iD,hl] at hf ⊢
  simp [hf,Yl,range_succ]
theorem Zuu (ns:List Int)(k:Kd)(p:Int)(hw:1≤k.w):Jv [iD (Yl ns),kD k,.int p]=.ok (.bl (good ns k p)):=by
 have hsl:=Zfa ns
 have l1:Jk [iD (Yl ns)]=some (.int (Yl ns).length):=by simp [iD]
 by_cases h0:p<0
 ·have e:good ns k p=false:=decide_eq_false (by omega)
  rw [e]
  exact Zag (Zq (Xn (Zo rfl (Zo rfl rfl (Zso k)) rfl)) (Zgp (Zcq (Xdj (Jo (Zo rfl rfl (Zod h0)))) (Zah rfl))))
 ·by_cases h1:((Yl ns).length:Int)≤p+k.w
  ·have e:good ns k p=false:=decide_eq_false (by omega)
   rw [e]
   exact Zag (Zq (Xn (Zo rfl (Zo rfl rfl (Zso k)) rfl)) (Zgp (Zcq (Zeh (Jo (Zo rfl rfl (Zoc h0))) (Jo (Zo rfl (Jt (Zd rfl rfl) l1) (Zod h1)))) (Zah rfl))))
  ·have e:good ns k p=decide (pre ns (p+k.w).toNat - pre ns p.toNat≤k.al):=by
    unfold good
    apply decide_eq_decide.mpr
    constructor
    ·exact fun z=>z.2.2
    ·exact fun z=>⟨by omega,by omega,z⟩
   have i1:=Zac (ns:=Yl ns) (i:=p+k.w) (k:=(p+k.w).toNat) (by omega) (by omega)
   have i2:=Zac (ns:=Yl ns) (i:=p) (k:=p.toNat) (by omega) (by omega)
   rw [Zpf ns (by omega)] at i1 i2
   rw [e]
   exact Zag (Zq (Xn (Zo rfl (Zo rfl rfl (Zso k)) rfl)) (Zq (Jf (Zeh (Jo (Zo rfl rfl (Zoc h0))) (Jo (Zo rfl (Jt (Zd rfl rfl) l1) (Zoc h1)))) rfl) (Zah (Zo (Zo (Zo rfl rfl i1) (Zo rfl rfl i2) rfl) (Zo rfl rfl (kD_3 k)) rfl))))
theorem Zrk (i:Int):Xu [.int i]=.ok (.bl true):=by simp [Xu,Zds]
theorem Zvd (ns:List Int)(hn:ns.length≤63){i:Int}(h0:0≤i)(h1:i<1000000):∃n:Int,Zan [.scr ns,.int i]=.ok (.int n):=by
 have c:(cE (f2 gLt (fV 1) (fA Jk (Zc (fV 0) Zt)))) [some (.scr ns),some (.int i),none,none]=.ok (decide (i<ns.length)):=Jo (Zo rfl (Jt (Zd rfl rfl) rfl) rfl)
 by_cases h:i<ns.length
 ·have hi:i.toNat<ns.length:=(toNat_lt h0).mpr h
  have e:gIx (.scr ns) (.int i)=some (.int (ns.getD i.toNat 0)):=congrArg (Option.map D.int) (Zpg (k:=i.toNat) (Int.toNat_of_nonneg h0).symm (by simp [List.getD,hi]))
  exact ⟨_,Zag (Zgp (Zcq (c.trans (congrArg Dl.R.ok (decide_eq_true h))) (Zah (Zfw (Zo rfl rfl e) rfl))))⟩
 ·have key:∃seed:Int,∃o,Zdc (Zn 3) Zfu ((ns.take 63).map D.int) [some (.scr ns),some (.int i),some (.int 5),none]=.ok (.nx [some (.scr ns),some (.int i),some (.int seed),o]):=by
   refine Zco (P:=fun _ ρ=>∃seed:Int,∃o,ρ=[some (.scr ns),some (.int i),some (.int seed),o]) (Rr:=fun r=>∃seed:Int,∃o,r=.ok (.nx [some (.scr ns),some (.int i),some (.int seed),o])) ⟨5,none,rfl⟩ ?_ ?_
   ·rintro j x ρ hx ⟨seed,o,rfl⟩
    rw [getElem?_map] at hx
    obtain ⟨y,hy,rfl⟩:=Option.map_eq_some_iff.mp hx
    exact ⟨_,rfl,.inl ⟨_,.inl (Xn (Zo (Zo (Zo (Zo rfl rfl (mulR (by decide) (by decide))) (Zo rfl rfl (Zcx (by decide))) rfl) rfl rfl) rfl (Zcx (by decide)))),_,_,rfl⟩⟩
   ·rintro ρ ⟨seed,o,rfl⟩
    exact ⟨seed,o,rfl⟩
  obtain ⟨seed,o,e⟩:=key
  have hc:cut ns none (some 63)=ns.take 63:=Xcw (by decide)
  have hl:(Zba (fSl gSl (fV 0) Zsk (Zmt (fC (.int 63))))) [some (.scr ns),some (.int i),some (.int 5),none]=.ok ((ns.take 63).map D.int):=by
   have hm:min 63 ns.length≤lim:=by show _≤1000000;omega
   simp [-map_take,hc,hm]
  exact ⟨_,Zag (Zq (Jf (c.trans (congrArg Dl.R.ok (decide_eq_false h))) rfl) (Zq (Xn rfl) (Zq (Zdt hl e) (Zah (Zo (Zo rfl (Zo rfl rfl (Zpy (by decide) (by decide))) rfl) rfl (Zcx (by decide)))))))⟩
theorem Xdq (c:Int){k:Int}(h0:0≤k)(h1:k<1000000):∃n:Int,Zbh [.int c,.int k]=.ok (.int n):=by
 have n0:0≤c % 2147483629+1013*k+7919:=Int.add_nonneg (Int.add_nonneg (emod_nonneg _ (by decide)) (mul_nonneg (by decide) h0)) (by decide)
 have n1:c % 2147483629+1013*k+7919<2147483629+1013*1000000+7919:=Int.add_lt_add_right (Int.add_lt_add_of_lt_of_le (emod_lt_of_pos _ (by decide)) (Int.mul_le_mul_of_nonneg_left (Int.le_of_lt h1) (by decide))) _
 have b:(c % 2147483629+1013*k+7919).natAbs<2 ^ 64:=Int.ofNat_lt.mp (by rw [Int.natAbs_of_nonneg n0];exact Int.lt_trans n1 (by decide))
 have e1:=Zkf (i:=c % 2147483629+1013*k+7919) (j:=3) (by decide) (by decide) b
 exact ⟨_,Zag (Zq (Xn (Zo (Zo (Zo (Zo (Zo rfl rfl (Zcx (by decide))) (Zo rfl rfl (Zpy (by decide) (by decide))) rfl) rfl rfl) rfl e1) rfl (Zcx (by decide)))) (Zq (Xn (Zo (Zo (Zo (Zo rfl rfl (mulR (by decide) (by decide))) (Zo (Zo rfl rfl (Zpy (by decide) (by decide))) rfl (mulR h0 (Int.le_of_lt h1))) rfl) rfl rfl) rfl (Zcx (by decide)))) (Zah (Zo rfl rfl (div_ii (by decide) (by decide))))))⟩
structure Row (ms os:List Int):Prop where
 len:os.length=ms.length
 at_:∀k,k<ms.length→0≤os.getD k 0∧os.getD k 0<ms.getD k 0
theorem Row.nil (ms:List Int):Row (ms.take 0) []:=⟨by simp,fun k hk=>by simp at hk⟩
theorem Row.all {ms os:List Int}(h:Row (ms.take ms.length) os):Row ms os:=by
 rw [List.take_length] at h
 exact h
theorem Row.push {ms os:List Int}{k:Nat}{v:Int}(h:Row (ms.take k) os)(hk:k<ms.length)(h0:0≤v)(h1:v<ms.getD k 0):Row (ms.take (k+1)) (os++[v]):=by
 have hl:=h.len
 rw [length_take] at hl
 have hm:min k ms.length=k:=by omega
 have hm':min (k+1) ms.length=k+1:=by omega
 refine ⟨by rw [length_append,length_take,hm',length_singleton];omega,fun j hj=>?_⟩
 rw [length_take,hm'] at hj
 by_cases e:j=k
 ·subst e
  have e1:(os++[v]).getD j 0=v:=by
   have:os.length=j:=by omega
   simp [List.getD,← this]
  have e2:(ms.take (j+1)).getD j 0=ms.getD j 0:=by simp [List.getD,List.getElem?_take]
  rw [e1,e2]
  exact ⟨h0,h1⟩
 ·have hj':j<k:=by omega
  have q:=h.at_ j (by rw [length_take];omega)
  have e1:(os++[v]).getD j 0=os.getD j 0:=by
   have:j<os.length:=by omega
   simp [List.getD,getElem?_append_left this]
  have e2:(ms.take (k+1)).getD j 0=(ms.take k).getD j 0:=by
   have h1:j<k+1:=by omega
   simp [List.getD,List.getElem?_take,hj',h1]
  rw [e1,e2]
  exact q
theorem Zbd {P:Int→Prop}{ws:List Int}{i:Nat}(h:∀w∈ws,P w)(hi:i<ws.length):P (ws.getD i 0):=by
 have e:ws.getD i 0=ws[i]:=by simp [List.getD,hi]
 rw [e]
 exact h _ (getElem_mem hi)
theorem Xhd (ns:List Int)(hn:ns.length≤63){i:Int}(h0:0≤i)(h1:i<1000)(ms:List Int)(hm:ms.length≤2000)(hms:∀m∈ms,0<m∧m<2 ^ 200):∃os,Xz [.scr ns,.int i,iD ms]=.ok (iD os)∧Row ms os:=by
 obtain ⟨c,hc⟩:=Zvd ns hn h0 (show i<1000000 by omega)
 have key:=Zco (b:=Zn 6) (s:=Zgj) (xs:=Zcj 0 ms.length) (ρ:=[some (.scr ns),some (.int i),some (iD ms),some (.int c),some (.int c),some (.lst []),none,none])
  (P:=fun k ρ=>∃(l:Int) (os:List Int) (o6 o7:Option D),Row (ms.take k) os∧ρ=[some (.scr ns),some (.int i),some (iD ms),some (.int c),some (.int l),some (iD os),o6,o7])
  (Rr:=fun r=>∃(l:Int) (os:List Int) (o6 o7:Option D),Row ms os∧r=.ok (.nx [some (.scr ns),some (.int i),some (iD ms),some (.int c),some (.int l),some (iD os),o6,o7]))
  ⟨c,[],none,none,Row.nil ms,rfl⟩ ?_ ?_
 ·obtain ⟨l,os,o6,o7,hr,e⟩:=key
  refine ⟨os,?_,hr⟩
  have b1:-1000000000≤(ms.length:Int)∧(ms.length:Int)≤1000000:=by omega
  have gl:Jk [iD ms]=some (.int ms.length):=by simp [iD]
  exact Zag (Zq (Xn (Xi (Zd rfl (Zd rfl rfl)) hc)) (Zq (Xn (Zfw rfl rfl)) (Zq (Xn rfl) (Zq (Zdt (Zjj (Zd (Jt (Zd rfl rfl) gl) rfl) b1) e) (Zah rfl)))))
 ·rintro k x ρ hx ⟨l,os,o6,o7,hr,rfl⟩
  obtain ⟨hk,rfl⟩:=Ziy hx
  rw [zero_add]
  have hol:os.length=k:=by have:=hr.len;rw [length_take] at this;omega
  have hlim:(os.map D.int).length<lim:=by rw [length_map];show _<1000000;omega
  have c1:∀o5:Option D,(cE (f2 gLt (fV 3) (f2 Ziz (fC (.int 10)) (fC (.int 18))))) [some (.scr ns),some (.int i),some (iD ms),some (.int c),some (.int l),o5,some (.int k),o7]=.ok (decide (c<1000000000000000000)):=fun _=>Jo (Zo rfl (Zo rfl rfl Zhg) rfl)
  have ap:∀v:Int,iD (os++[v])=.lst (os.map D.int++[.int v]):=fun v=>congrArg D.lst map_append
  have hmk:=Zbd hms hk
  have ix:=Zac (ns:=ms) (i:=(k:Int)) (k:=k) rfl hk
  have md:∀z:Int,Zjg (.int z) (.int (ms.getD k 0))=some (.int (z % ms.getD k 0)):=fun z=>Zcx hmk.1
  have nn:∀z:Int,0≤z % ms.getD k 0∧z % ms.getD k 0<ms.getD k 0:=fun z=>⟨emod_nonneg _ (Int.ne_of_gt hmk.1),emod_lt_of_pos _ hmk.1⟩
  have k0:0≤(k:Int)∧(k:Int)<1000000:=by omega
  obtain ⟨x1,hx1⟩:=Xdq c k0.1 k0.2
  obtain ⟨c2,hc2⟩:=Zvd ns hn (i:=(i+1+k) % 63) (emod_nonneg _ (by decide)) (Int.lt_trans (emod_lt_of_pos _ (by decide)) (by decide))
  obtain ⟨x2,hx2⟩:=Xdq c2 k0.1 k0.2
  refine ⟨_,rfl,.inl ?_⟩
  by_cases a1:c<1000000000000000000
  ·refine ⟨[some (.scr ns),some (.int i),some (iD ms),some (.int c),some (.int l),some (iD (os++[x1 % ms.getD k 0])),some (.int k),o7],.inl ?_,l,_,_,o7,hr.push hk (nn x1).1 (nn x1).2,rfl⟩
   rw [ap]
   exact Zcq ((c1 _).trans (congrArg Dl.R.ok (decide_eq_true a1))) (Zet rfl (Zo (Xi (Zd rfl (Zd rfl rfl)) hx1) (Zo rfl rfl ix) (md x1)) hlim)
  ·by_cases a2:0<l
   ·refine ⟨[some (.scr ns),some (.int i),some (iD ms),some (.int c),some (.int (l / ms.getD k 0)),some (iD (os++[l % ms.getD k 0])),some (.int k),o7],.inl ?_,_,_,_,o7,hr.push hk (nn l).1 (nn l).2,rfl⟩
    rw [ap]
    exact Jf ((c1 _).trans (congrArg Dl.R.ok (decide_eq_false a1))) (Zcq (Jo (Zo rfl rfl (congrArg (fun b=>some (D.bl b)) (decide_eq_true a2)))) (Zq (Zet rfl (Zo rfl (Zo rfl rfl ix) (md l)) hlim) (Xn (Zo rfl (Zo rfl rfl ix) (div_ii hmk.1 hmk.2)))))
   ·refine ⟨[some (.scr ns),some (.int i),some (iD ms),some (.int c),some (.int l),some (iD (os++[x2 % ms.getD k 0])),some (.int k),some (.int c2)],.inl ?_,l,_,_,_,hr.push hk (nn x2).1 (nn x2).2,rfl⟩
    rw [ap]
    exact Jf ((c1 _).trans (congrArg Dl.R.ok (decide_eq_false a1))) (Jf (Jo (Zo rfl rfl (congrArg (fun b=>some (D.bl b)) (decide_eq_false a2)))) (Zq (Xn (Xi (Zd rfl (Zd (Zo (Zo (Zo rfl rfl rfl) rfl rfl) rfl (Zcx (by decide))) rfl)) hc2)) (Zet rfl (Zo (Xi (Zd rfl (Zd rfl rfl)) hx2) (Zo rfl rfl ix) (md x2)) hlim)))
 ·rintro ρ ⟨l,os,o6,o7,hr,rfl⟩
  rw [Zal] at hr
  exact ⟨l,os,o6,o7,hr.all,rfl⟩
theorem Zns (ns:List Int)(hn:ns.length≤63){i:Int}(h0:0≤i)(h1:i<1000)(ms:List Int)(hm:ms.length≤1000)(hms:∀m∈ms,0<m∧m<2 ^ 200):∃os,Xz [.scr ns,.int i,iD ms]=.ok (iD os)∧Row ms os:=Xhd ns hn h0 h1 ms (le_trans hm (by decide)) hms
theorem Zgu (ws:List Int){i:Int}(h0:0≤i)(h1:i<ws.length):gIx (.lst (ws.map D.int)) (.int i)=some (.int (ws.getD i.toNat 0)):=Zac (by omega) (by omega)
theorem Zcn (l:List Int):∀n:Nat,(List.replicate n l).flatten.length=n*l.length
 | 0=>by simp
 | n+1=>by rw [replicate_succ,flatten_cons,length_append,Zcn l n,Nat.succ_mul,Nat.add_comm]
theorem Xfk (l:List Int)(n:Nat):(List.replicate n (l.map D.int)).flatten=(List.replicate n l).flatten.map D.int:=by
 rw [List.map_flatten,List.map_replicate]
theorem Zos {ws:List Int}{m:Int}(h0:0≤m)(h1:m≤200)(hl:ws.length≤1000):Zai (.lst (ws.map D.int)) (.int m)=some (iD (List.replicate m.toNat ws).flatten):=by
  simp only [Zai]
  rw [if_pos ⟨by omega,by
    rw [length_map]
    show ws.length*m.toNat≤1000000
    have:ws.length*m.toNat≤1000*200:=Nat.mul_le_mul hl (by omega)
    omega,by omega,Zea ws⟩,Xfk]
  rfl
theorem Zhl {xs ys:List Int}(h:xs.length+ys.length≤1000000):Jj (iD xs) (iD ys)=some (iD (xs++ys)):=by
 show (if (xs.map D.int).length+(ys.map D.int).length≤lim∧Yz (xs.map D.int)∧Yz (ys.map D.int) then some (D.lst (xs.map D.int++ys.map D.int)) else none)=_
 rw [if_pos ⟨by rw [length_map,length_map];exact h,Zea _,Zea _⟩,← map_append]
 rfl
theorem Zlo (x y:Int):∀(n k:Nat),k<n→(List.replicate n [x,y]).flatten.getD (2*k) 0=x∧(List.replicate n [x,y]).flatten.getD (2*k+1) 0=y
 | 0,k,h=>by omega
 | n+1,0,_=>by simp [replicate_succ,flatten_cons,List.getD]
 | n+1,k+1,h=>by
  have q:=Zlo x y n k (by omega)
  have e1:2*(k+1)=2*k+2:=by omega
  rw [replicate_succ,flatten_cons,e1]
  exact q
theorem Zra (x y z:Int):∀(n k:Nat),k<n→(List.replicate n [x,y,z]).flatten.getD (3*k) 0=x∧(List.replicate n [x,y,z]).flatten.getD (3*k+1) 0=y∧(List.replicate n [x,y,z]).flatten.getD (3*k+2) 0=z
 | 0,k,h=>by omega
 | n+1,0,_=>by simp [replicate_succ,flatten_cons,List.getD]
 | n+1,k+1,h=>by
  have q:=Zra x y z n k (by omega)
  have e1:3*(k+1)=3*k+3:=by omega
  rw [replicate_succ,flatten_cons,e1]
  exact q
theorem Zph {l:List Int}{n:Nat}{z:Int}(h:z∈(List.replicate n l).flatten):z∈l:=by
 obtain ⟨l',hl,hz⟩:=List.mem_flatten.mp h
 rwa [(List.mem_replicate.mp hl).2] at hz
noncomputable def Zbx:List Str:=["a","ab","abc","b","ba","z","zzzzzzzz","roll","cut","by","aab","zz","kind","qsvw","fghjmp","x"]
theorem Xaa:∀j:Nat,j<16→∀k:Nat,k<16→Zbx.getD j ""=Zbx.getD k ""→j=k:=by decide +kernel
noncomputable def nameAt (s4 s5:Int)(k:Nat):Str:=Zbx.getD ((s4+(2*s5+1)*(k:Int)) % 16).toNat ""
theorem Xby:∀t:Nat,t<4→∀j:Nat,j<8→∀k:Nat,k<8→((2*(t:Int)+1)*j - (2*(t:Int)+1)*k) % 16=0→j=k:=by decide +kernel
theorem Ztd {s4 s5:Int}(h0:0≤s5)(h1:s5<4){j k:Nat}(hj:j<8)(hk:k<8)(e:nameAt s4 s5 j=nameAt s4 s5 k):j=k:=by
 have lt:∀x:Int,(x % 16).toNat<16:=fun x=>(toNat_lt (emod_nonneg x (by decide))).mpr (emod_lt_of_pos x (by decide))
 have q:=congrArg Int.ofNat (Xaa _ (lt _) _ (lt _) e)
 have q1:(s4+(2*s5+1)*(j:Int)) % 16=(s4+(2*s5+1)*(k:Int)) % 16:=(Int.toNat_of_nonneg (emod_nonneg _ (by decide))).symm.trans (q.trans (Int.toNat_of_nonneg (emod_nonneg _ (by decide))))
 have q2:=Int.emod_eq_emod_iff_emod_sub_eq_zero.mp q1
 rw [Int.add_sub_add_left] at q2
 obtain ⟨t,rfl⟩:=Int.eq_ofNat_of_zero_le h0
 exact Xby t (Int.ofNat_lt.mp h1) j hj k hk q2
theorem Zti (s4 s5:Int)(k:Nat):nameAt s4 s5 k∈Zbx:=by
 unfold nameAt
 have h:((s4+(2*s5+1)*(k:Int)) % 16).toNat<Zbx.length:=by show _<16;omega
 have e:Zbx.getD ((s4+(2*s5+1)*(k:Int)) % 16).toNat ""=Zbx[((s4+(2*s5+1)*(k:Int)) % 16).toNat]:=by simp [List.getD,h]
 rw [e]
 exact getElem_mem h
structure Zqo (k:Kd):Prop where
 nm:k.name∈Zbx
 w1:1≤k.w
 w2:k.w≤200
 o1:1≤k.wo
 o2:k.wo≤1000000000000000000
 a1:0≤k.al
 a2:k.al<1000000000000000000
structure TabOk (ks:List Kd):Prop where
 ok:∀k∈ks,Zqo k
 nd:(ks.map (·.name)).Nodup
theorem Xhr {i:Int}(h0:0≤i)(h1:i<16):gIx (.lst (Zbx.map D.str)) (.int i)=some (.str (Zbx.getD i.toNat "")):=ix_l (k:=i.toNat) (by omega) (by
  have h:i.toNat<Zbx.length:=by show _<16;omega
  simp [List.getD,h])
theorem Zlj {ms:List Int}(h:∀m∈ms,0<m∧m≤1000000):∀m∈ms,0<m∧m<2 ^ 200:=fun m hm=>⟨(h m hm).1,Int.lt_of_le_of_lt (h m hm).2 (by decide)⟩
theorem four {x:Int}(h:0≤x∧x<4):x=0∨x=1∨x=2∨x=3:=by
 obtain ⟨n,rfl⟩:=Int.eq_ofNat_of_zero_le h.1
 match n,Int.ofNat_lt.mp h.2 with
 | 0,_=>exact .inl rfl
 | 1,_=>exact .inr (.inl rfl)
 | 2,_=>exact .inr (.inr (.inl rfl))
 | 3,_=>exact .inr (.inr (.inr rfl))
theorem Zse {x m:Int}(hm:0<m):0≤x % m∧x % m<m:=⟨emod_nonneg _ (Int.ne_of_gt hm),emod_lt_of_pos _ hm⟩
theorem Zzu {d0 d1 d2 o9 o10 o11 o12 o13:Option D}{O:D}{T:List D}{fl gn bw wd am x3 x4 x5 x6 x7 x8:Int}{k:Nat}{nm:Str}
    (j0:gIx O (.int (3*(k:Int)+6))=some (.int x6)) (j1:gIx O (.int (3*(k:Int)+6+1))=some (.int x7)) (j2:gIx O (.int (3*(k:Int)+6+2))=some (.int x8))
    (j3:gIx O (.int 3)=some (.int x3)) (j4:gIx O (.int 4)=some (.int x4)) (j5:gIx O (.int 5)=some (.int x5))
    (ib:gIx (.lst [.int 150,.int 200]) (.int ((k:Int) % 2))=some (.int bw))
    (iw:gIx (.lst [.int 1,.int 2,.int 3,.int 4,.int 5,.int 6,.int 2,.int 3,.int 11,.int 40,.int bw]) (.int x6)=some (.int wd))
    (ia:gIx (.lst [.int 0,.int 0,.int 1,.int 2,.int 3,.int 12]) (.int x8)=some (.int am))
    (iN:gIx (.lst (Zbx.map D.str)) (.int ((x4+(2*x5+1)*(k:Int)) % 16))=some (.str nm))
    (w1:1≤wd∧wd≤200) (c7:0≤x7∧x7<40) (c3:0≤x3∧x3<4) (c5:0≤x5∧x5<4) (m1:0≤am∧am≤12) (sl:T.length<lim) :
    ∃wo:Int,(1≤wo∧wo≤1000)∧Zbz [d0,d1,d2,some (.lst (Zbx.map D.str)),some O,some (.int fl),some (.int gn),some (.lst T),some (.int k),o9,o10,o11,o12,o13] =
      .ok (.nx [d0,d1,d2,some (.lst (Zbx.map D.str)),some O,some (.int fl),some (.int gn),some (.lst (T++[.tup [.str nm,.int wd,.int (min (wo*gn) 1000000000000000000),.int (min (am*fl) 999999999999999999)]])),some (.int k),some (.int (3*(k:Int)+6)),some (.int wd),some (.int wo),some (.int (min (am*fl) 999999999999999999)),some (.str nm)]):=by
  obtain ⟨wo,hb,mid⟩:∃wo:Int,(1≤wo∧wo≤1000)∧∀Q:FS,(Xk (sIf (cE (f2 gEq (f2 gIx (fV 4) (fC (.int 3))) (fC (.int 1)))) (Yi 11 (f2 Jj (f2 Zai (fC (.int 3)) (fV 10)) (f2 Zjg (f2 gIx (fV 4) (f2 Jj (fV 9) (fC (.int 1)))) (fC (.int 4))))) sNx)
    (Xk (sIf (cE (f2 gEq (f2 gIx (fV 4) (fC (.int 3))) (fC (.int 2)))) (Yi 11 (f2 Jj (fC (.int 1)) (f2 Zjg (f2 gIx (fV 4) (f2 Jj (fV 9) (fC (.int 1)))) (fC (.int 3))))) sNx)
    (Xk (sIf (cE (f2 gEq (f2 gIx (fV 4) (fC (.int 3))) (fC (.int 3)))) (Yi 11 (f1 Xt (fV 10))) sNx) Q))) [d0,d1,d2,some (.lst (Zbx.map D.str)),some O,some (.int fl),some (.int gn),some (.lst T),some (.int k),some (.int (3*(k:Int)+6)),some (.int wd),some (.int (1+x7)),o12,o13] =
      Q [d0,d1,d2,some (.lst (Zbx.map D.str)),some O,some (.int fl),some (.int gn),some (.lst T),some (.int k),some (.int (3*(k:Int)+6)),some (.int wd),some (.int wo),o12,o13]:=by
    rcases four c3 with rfl | rfl | rfl | rfl
    · exact ⟨1+x7,⟨Int.le_add_of_nonneg_right c7.1,Int.le_trans (Int.add_le_add_left (Int.le_of_lt c7.2) 1) (by decide)⟩,fun Q=>Zq (Jf (Jo (Zo (Zo rfl rfl j3) rfl rfl)) rfl) (Zq (Jf (Jo (Zo (Zo rfl rfl j3) rfl rfl)) rfl) (Zq (Jf (Jo (Zo (Zo rfl rfl j3) rfl rfl)) rfl) rfl))⟩
    · exact ⟨3*wd+x7 % 4,⟨Int.le_trans (show (1:Int)≤3*1+0 by decide) (Int.add_le_add (Int.mul_le_mul_of_nonneg_left w1.1 (by decide)) (Zse (by decide)).1),Int.le_trans (Int.add_le_add (Int.mul_le_mul_of_nonneg_left w1.2 (by decide)) (Int.le_of_lt (Zse (by decide)).2)) (by decide)⟩,fun Q=>Zq (Zcq (Jo (Zo (Zo rfl rfl j3) rfl rfl)) (Xn (Zo (Zo rfl rfl (Zpy (by decide) (by decide))) (Zo (Zo rfl (Zo rfl rfl rfl) j1) rfl (Zcx (by decide))) rfl))) (Zq (Jf (Jo (Zo (Zo rfl rfl j3) rfl rfl)) rfl) (Zq (Jf (Jo (Zo (Zo rfl rfl j3) rfl rfl)) rfl) rfl))⟩
    · exact ⟨1+x7 % 3,⟨Int.le_add_of_nonneg_right (Zse (by decide)).1,Int.le_trans (Int.add_le_add_left (Int.le_of_lt (Zse (by decide)).2) 1) (by decide)⟩,fun Q=>Zq (Jf (Jo (Zo (Zo rfl rfl j3) rfl rfl)) rfl) (Zq (Zcq (Jo (Zo (Zo rfl rfl j3) rfl rfl)) (Xn (Zo rfl (Zo (Zo rfl (Zo rfl rfl rfl) j1) rfl (Zcx (by decide))) rfl))) (Zq (Jf (Jo (Zo (Zo rfl rfl j3) rfl rfl)) rfl) rfl))⟩
    · exact ⟨wd,⟨w1.1,Int.le_trans w1.2 (by decide)⟩,fun Q=>Zq (Jf (Jo (Zo (Zo rfl rfl j3) rfl rfl)) rfl) (Zq (Jf (Jo (Zo (Zo rfl rfl j3) rfl rfl)) rfl) (Zq (Zcq (Jo (Zo (Zo rfl rfl j3) rfl rfl)) (Xn (Zfw rfl rfl))) rfl))⟩
  exact ⟨wo,hb,Zq (Xn (Zo (Zo rfl rfl (Zpy (by decide) (by decide))) rfl rfl)) (Zq (Xn (Zfw (Zo (Jt (Zd rfl (Zd rfl (Zd rfl (Zd rfl (Zd rfl (Zd rfl (Zd rfl (Zd rfl (Zd rfl (Zd rfl (Zd (Zo rfl (Zo rfl rfl (Zcx (by decide))) ib) rfl))))))))))) rfl) (Zo rfl rfl j0) iw) rfl)) (Zq (Xn (Zo rfl (Zo rfl (Zo rfl rfl rfl) j1) rfl)) ((mid _).trans
    (Zq (Xn (Jt (Zd (Zo (Zo rfl (Zo rfl (Zo rfl rfl rfl) j2) ia) rfl (Zpy m1.1 (Int.le_trans m1.2 (by decide)))) (Zd (Zo (Zo rfl rfl Zhg) rfl (show Zot (.int 1000000000000000000) (.int 1)=some (.int 999999999999999999) from rfl)) rfl)) (Xea _ _)))
    (Zq (Xn (Zfw (Zo rfl (Zo (Zo (Zo rfl rfl j4) (Zo (Zo (Zo rfl (Zo rfl rfl j5) (Zpy (by decide) (by decide))) rfl rfl) rfl (Zpy (Int.add_nonneg (mul_nonneg (by decide) c5.1) (by decide)) (Int.le_trans (Int.add_le_add_right (Int.mul_le_mul_of_nonneg_left (Int.le_of_lt c5.2) (by decide)) 1) (by decide)))) rfl) rfl (Zcx (by decide))) iN) rfl))
    (Zet rfl (Jt (Zd (Zfw rfl rfl) (Zd (Zfw rfl rfl) (Zd (Jt (Zd (Zo rfl rfl (Zpy (Int.le_trans (by decide) hb.1) (Int.le_trans hb.2 (by decide)))) (Zd (Zo rfl rfl Zhg) rfl)) (Xea _ _)) (Zd (Zfw rfl rfl) rfl)))) rfl) sl))))))⟩
theorem under {x m:Int}{k:Nat}(h:k<x.toNat)(hx:x<m+1):k<m.toNat:=by omega
theorem Xcl {P:Int→Prop}{l:List Int}{b:Int}(h:∀z∈l,P z)(hb:P b):∀z∈l++[b],P z:=List.forall_mem_append.mpr ⟨h,fun _ hz=>List.mem_singleton.mp hz▸hb⟩
theorem Xnx {k j m:Nat}(h:k<m)(hj:j<3):3*k+(j+6)<6+m*3:=by omega
theorem Xci (ns:List Int)(hn:ns.length≤63){i m:Int}(h0:0≤i)(h1:i<1000)(m0:0≤m)(m1:m≤8):∃ks,Zat [.scr ns,.int i,.int m]=.ok (tD ks)∧(ks.length:Int)≤m∧TabOk ks:=by
  have m8:m.toNat≤8:=Int.toNat_le.mpr m1
  have m24:6+m.toNat*3≤30:=Nat.add_le_add_left (Nat.mul_le_mul_right 3 m8) 6
  have ms_eq:Jj (iD [m+1,4,4,4,16,4]) (iD (List.replicate m.toNat [11,40,6]).flatten)=some (iD ([m+1,4,4,4,16,4]++(List.replicate m.toNat [11,40,6]).flatten)):=Zhl (by
    rw [Zcn]
    exact le_trans m24 (by decide))
  have mr:=Zos (ws:=[11,40,6]) m0 (Int.le_trans m1 (by decide)) (by decide)
  have hml:([m+1,4,4,4,16,4]++(List.replicate m.toNat [(11:Int),40,6]).flatten).length=6+m.toNat*3:=by rw [length_append,Zcn];rfl
  obtain ⟨os,hos,R⟩:=Zns ns hn h0 h1 ([m+1,4,4,4,16,4]++(List.replicate m.toNat [11,40,6]).flatten) (by rw [hml];exact le_trans m24 (by decide)) (Zlj (List.forall_mem_append.mpr ⟨List.forall_mem_cons.mpr ⟨⟨Int.lt_add_one_of_le m0,Int.le_trans (Int.add_le_add_right m1 1) (by decide)⟩,by decide⟩,fun z hz=>(by decide:∀z∈[(11:Int),40,6],0<z∧z≤1000000) z (Zph hz)⟩))
  have hol:os.length=6+m.toNat*3:=by rw [R.len,hml]
  have hlt:∀{j:Nat},j<6→j<([m+1,4,4,4,16,4]++(List.replicate m.toNat [(11:Int),40,6]).flatten).length:=fun h=>by rw [hml];exact lt_of_lt_of_le h (le_add_right _ _)
  have hlo:∀{j:Nat},j<6→j<os.length:=fun h=>by rw [hol];exact lt_of_lt_of_le h (le_add_right _ _)
  have tri:∀k j:Nat,k<m.toNat→j<3→3*k+(j+6)<6+m.toNat*3:=fun _ _ h hj=>Xnx h hj
  have a0:0≤os.getD 0 0∧os.getD 0 0<m+1:=R.at_ 0 (hlt (by decide))
  have a1:0≤os.getD 1 0∧os.getD 1 0<4:=R.at_ 1 (hlt (by decide))
  have a2:0≤os.getD 2 0∧os.getD 2 0<4:=R.at_ 2 (hlt (by decide))
  have a3:0≤os.getD 3 0∧os.getD 3 0<4:=R.at_ 3 (hlt (by decide))
  have a4:0≤os.getD 4 0∧os.getD 4 0<16:=R.at_ 4 (hlt (by decide))
  have a5:0≤os.getD 5 0∧os.getD 5 0<4:=R.at_ 5 (hlt (by decide))
  have b3:∀k:Nat,k<m.toNat→(0≤os.getD (3*k+6) 0∧os.getD (3*k+6) 0<11)∧(0≤os.getD (3*k+7) 0∧os.getD (3*k+7) 0<40)∧(0≤os.getD (3*k+8) 0∧os.getD (3*k+8) 0<6):=fun k hk=>by
    obtain ⟨g1,g2,g3⟩:=Zra 11 40 6 m.toNat k hk
    have e:∀j:Nat,([m+1,4,4,4,16,4]++(List.replicate m.toNat [(11:Int),40,6]).flatten).getD (j+6) 0=(List.replicate m.toNat [(11:Int),40,6]).flatten.getD j 0:=fun j=>rfl
    have r1:=R.at_ (3*k+6) (by rw [hml];exact tri k 0 hk (by decide))
    have r2:=R.at_ (3*k+7) (by rw [hml];exact tri k 1 hk (by decide))
    have r3:=R.at_ (3*k+8) (by rw [hml];exact tri k 2 hk (by decide))
    rw [e (3*k),g1] at r1
    rw [show 3*k+7=(3*k+1)+6 from rfl,e (3*k+1),g2] at r2
    rw [show 3*k+8=(3*k+2)+6 from rfl,e (3*k+2),g3] at r3
    exact ⟨r1,r2,r3⟩
  have ix:∀k:Nat,k<os.length→∀j:Int,j=(k:Int)→gIx (.lst (os.map D.int)) (.int j)=some (.int (os.getD k 0)):=fun k hk j e=>Zac e hk
  obtain ⟨fl,hfl⟩:∃fl,fl=([1,1,7,100000000000000000]:List Int).getD (os.getD 1 0).toNat 0:=⟨_,rfl⟩
  obtain ⟨gn,hgn⟩:∃gn,gn=([1,1,1000000,25000000000000000]:List Int).getD (os.getD 2 0).toNat 0:=⟨_,rfl⟩
  have fl1:1≤fl∧fl≤100000000000000000:=by
    rw [hfl]
    exact Zbd (P:=fun z=>1≤z∧z≤100000000000000000) (by decide) (show _<4 from (toNat_lt a1.1).mpr a1.2)
  have gn1:1≤gn∧gn≤25000000000000000:=by
    rw [hgn]
    exact Zbd (P:=fun z=>1≤z∧z≤25000000000000000) (by decide) (show _<4 from (toNat_lt a2.1).mpr a2.2)
  have i1:gIx (.lst [.int 1,.int 1,.int 7,.int 100000000000000000]) (.int (os.getD 1 0))=some (.int fl):=by rw [hfl];exact Zgu [1,1,7,100000000000000000] a1.1 a1.2
  have i2:gIx (.lst [.int 1,.int 1,.int 1000000,.int 25000000000000000]) (.int (os.getD 2 0))=some (.int gn):=by rw [hgn];exact Zgu [1,1,1000000,25000000000000000] a2.1 a2.2
  have key:=Zco (b:=Zn 8) (s:=Zbz) (xs:=Zcj 0 (os.getD 0 0).toNat) (ρ:=[some (.scr ns),some (.int i),some (.int m),some (.lst (Zbx.map D.str)),some (iD os),some (.int fl),some (.int gn),some (.lst []),none,none,none,none,none,none])
    (P:=fun k ρ=>∃(ks:List Kd) (o8 o9 o10 o11 o12 o13:Option D),ks.length=k∧(∀x∈ks,Zqo x)∧ks.map (·.name)=(List.range k).map (nameAt (os.getD 4 0) (os.getD 5 0))∧ρ=[some (.scr ns),some (.int i),some (.int m),some (.lst (Zbx.map D.str)),some (iD os),some (.int fl),some (.int gn),some (tD ks),o8,o9,o10,o11,o12,o13])
    (Rr:=fun r=>∃(ks:List Kd) (o8 o9 o10 o11 o12 o13:Option D),ks.length=(os.getD 0 0).toNat∧(∀x∈ks,Zqo x)∧ks.map (·.name)=(List.range ks.length).map (nameAt (os.getD 4 0) (os.getD 5 0))∧r=.ok (.nx [some (.scr ns),some (.int i),some (.int m),some (.lst (Zbx.map D.str)),some (iD os),some (.int fl),some (.int gn),some (tD ks),o8,o9,o10,o11,o12,o13]))
    ⟨[],none,none,none,none,none,none,rfl,(fun _ h=>nomatch h),rfl,rfl⟩ ?_ ?_
  · obtain ⟨ks,o8,o9,o10,o11,o12,o13,kl,kok,knm,e⟩:=key
    have k8:ks.length≤8:=by rw [kl];exact Int.toNat_le.mpr (Int.le_trans (Int.lt_add_one_iff.mp a0.2) m1)
    refine ⟨ks,?_,by rw [kl,Int.toNat_of_nonneg a0.1];exact Int.lt_add_one_iff.mp a0.2,kok,?_⟩
    · have b1:-1000000000≤os.getD 0 0∧os.getD 0 0≤1000000:=⟨Int.le_trans (by decide) a0.1,Int.le_trans (Int.lt_add_one_iff.mp a0.2) (Int.le_trans m1 (by decide))⟩
      have hp:Jj (.lst [.str ("a":Str),.str ("ab":Str),.str ("abc":Str),.str ("b":Str),.str ("ba":Str),.str ("z":Str),.str ("zzzzzzzz":Str),.str ("roll":Str),.str ("cut":Str),.str ("by":Str)]) (.lst [.str ("aab":Str),.str ("zz":Str),.str ("kind":Str),.str ("qsvw":Str),.str ("fghjmp":Str),.str ("x":Str)])=some (.lst (Zbx.map D.str)):=rfl
      have mr':Zai (.lst [.int 11,.int 40,.int 6]) (.int m)=_:=mr
      have ms':Jj (.lst [.int (m+1),.int 4,.int 4,.int 4,.int 16,.int 4]) (iD (List.replicate m.toNat [11,40,6]).flatten)=_:=ms_eq
      generalize iD ([m+1,4,4,4,16,4]++(List.replicate m.toNat [11,40,6]).flatten)=Mv at hos ms'
      generalize iD (List.replicate m.toNat [11,40,6]).flatten=Mw at mr' ms'
      exact Zag (Zq (Xn rfl) (Zq (Xn (Zo rfl rfl hp)) (Zq (Xn (Xi (Zd rfl (Zd rfl (Zd (Zo (Jt (Zd (Zo rfl rfl rfl) rfl) rfl) (Zo rfl rfl mr') ms') rfl))) hos))
        (Zq (Xn (Zfw (Zo (Jt (Zd rfl (Zd rfl (Zd rfl (Zd (Zo rfl rfl Zqq) rfl)))) rfl) (Zo rfl rfl (ix 1 (hlo (by decide)) 1 rfl)) i1) rfl))
        (Zq (Xn (Zfw (Zo (Jt (Zd rfl (Zd rfl (Zd (Zo rfl rfl (show Ziz (.int 10) (.int 6)=some (.int 1000000) by simp)) (Zd (Zo rfl (Zo rfl rfl Xco) (show Zai (.int 25) (.int 1000000000000000)=some (.int 25000000000000000) from Zpy (by decide) (by decide))) rfl)))) rfl) (Zo rfl rfl (ix 2 (hlo (by decide)) 2 rfl)) i2) rfl))
        (Zq (Xn rfl) (Zq (Zdt (Zjj (Zd (Zo rfl rfl (ix 0 (hlo (by decide)) 0 rfl)) rfl) b1) e) (Zah rfl))))))))
    · rw [knm,List.nodup_iff_pairwise_ne,List.pairwise_map]
      refine List.Pairwise.imp_of_mem ?_ (List.nodup_iff_pairwise_ne.mp List.nodup_range)
      intro i j hi hj hij e
      have hi:=List.mem_range.mp hi
      have hj:=List.mem_range.mp hj
      exact hij (Ztd a5.1 a5.2 (lt_of_lt_of_le hi (le_trans k8 (by decide))) (lt_of_lt_of_le hj (le_trans k8 (by decide))) e)
  · rintro k x ρ hx ⟨ks,o8,o9,o10,o11,o12,o13,kl,kok,knm,rfl⟩
    obtain ⟨hk,rfl⟩:=Ziy hx
    rw [zero_add]
    have hkm:k<m.toNat:=under hk a0.2
    obtain ⟨c1,c2,c3⟩:=b3 k hkm
    have j0:=ix (3*k+6) (by rw [hol];exact tri k 0 hkm (by decide)) (3*k+6) rfl
    have j1:=ix (3*k+7) (by rw [hol];exact tri k 1 hkm (by decide)) (3*k+6+1) (Int.add_assoc _ 6 1)
    have j2:=ix (3*k+8) (by rw [hol];exact tri k 2 hkm (by decide)) (3*k+6+2) (Int.add_assoc _ 6 2)
    have j3:=ix 3 (hlo (by decide)) 3 rfl
    have j4:=ix 4 (hlo (by decide)) 4 rfl
    have j5:=ix 5 (hlo (by decide)) 5 rfl
    obtain ⟨bw,hbw⟩:∃bw,bw=([150,200]:List Int).getD ((k:Int) % 2).toNat 0:=⟨_,rfl⟩
    have k2:0≤(k:Int) % 2∧(k:Int) % 2<2:=⟨emod_nonneg _ (by decide),emod_lt_of_pos _ (by decide)⟩
    have bw1:1≤bw∧bw≤200:=by
      rw [hbw]
      exact Zbd (P:=fun z=>1≤z∧z≤200) (by decide) (show _<2 from (toNat_lt k2.1).mpr k2.2)
    have ib:gIx (.lst [.int 150,.int 200]) (.int ((k:Int) % 2))=some (.int bw):=by rw [hbw];exact Zgu [150,200] k2.1 k2.2
    obtain ⟨wd,hwd⟩:∃wd,wd=([1,2,3,4,5,6,2,3,11,40,bw]:List Int).getD (os.getD (3*k+6) 0).toNat 0:=⟨_,rfl⟩
    have wd1:1≤wd∧wd≤200:=by
      rw [hwd]
      exact Zbd (P:=fun z=>1≤z∧z≤200) (Xcl (l:=[1,2,3,4,5,6,2,3,11,40]) (by decide) bw1) (show _<11 from (toNat_lt c1.1).mpr c1.2)
    have iw:gIx (.lst [.int 1,.int 2,.int 3,.int 4,.int 5,.int 6,.int 2,.int 3,.int 11,.int 40,.int bw]) (.int (os.getD (3*k+6) 0))=some (.int wd):=by rw [hwd];exact Zgu [1,2,3,4,5,6,2,3,11,40,bw] c1.1 c1.2
    obtain ⟨am,ham⟩:∃am,am=([0,0,1,2,3,12]:List Int).getD (os.getD (3*k+8) 0).toNat 0:=⟨_,rfl⟩
    have am1:0≤am∧am≤12:=by
      rw [ham]
      exact Zbd (P:=fun z=>0≤z∧z≤12) (by decide) (show _<6 from (toNat_lt c3.1).mpr c3.2)
    have ia:gIx (.lst [.int 0,.int 0,.int 1,.int 2,.int 3,.int 12]) (.int (os.getD (3*k+8) 0))=some (.int am):=by rw [ham];exact Zgu [0,0,1,2,3,12] c3.1 c3.2
    have iN:=Xhr (i:=(os.getD 4 0+(2*os.getD 5 0+1)*(k:Int)) % 16) (emod_nonneg _ (by decide)) (emod_lt_of_pos _ (by decide))
    have sl:(ks.map kD).length<lim:=by rw [length_map,kl];exact lt_of_lt_of_le hkm (le_trans m8 (by decide))
    obtain ⟨wo,wo1,turn⟩:=Zzu (d0:=some (.scr ns)) (d1:=some (.int i)) (d2:=some (.int m)) (o9:=o9) (o10:=o10) (o11:=o11) (o12:=o12) (o13:=o13) (fl:=fl) (gn:=gn) j0 j1 j2 j3 j4 j5 ib iw ia iN wd1 c2 a3 a5 am1 sl
    have pr:0≤am*fl:=mul_nonneg am1.1 (Int.le_trans (by decide) fl1.1)
    have wg:1≤wo*gn:=Int.mul_le_mul wo1.1 gn1.1 (by decide) (Int.le_trans (by decide) wo1.1)
    have kd:Zqo ⟨nameAt (os.getD 4 0) (os.getD 5 0) k,wd,min (wo*gn) 1000000000000000000,min (am*fl) 999999999999999999⟩:=⟨Zti _ _ _,wd1.1,wd1.2,Int.le_min.mpr ⟨wg,by decide⟩,Int.min_le_right _ _,Int.le_min.mpr ⟨pr,by decide⟩,Int.lt_of_le_of_lt (Int.min_le_right _ _) (by decide)⟩
    refine ⟨_,rfl,.inl ⟨[some (.scr ns),some (.int i),some (.int m),some (.lst (Zbx.map D.str)),some (iD os),some (.int fl),some (.int gn),some (tD (ks++[⟨nameAt (os.getD 4 0) (os.getD 5 0) k,wd,min (wo*gn) 1000000000000000000,min (am*fl) 999999999999999999⟩])),some (.int k),some (.int (3*k+6)),some (.int wd),some (.int wo),some (.int (min (am*fl) 999999999999999999)),some (.str (nameAt (os.getD 4 0) (os.getD 5 0) k))],.inl ?_,_,_,_,_,_,_,_,?_,?_,?_,rfl⟩⟩
    · rw [show tD (ks++[⟨nameAt (os.getD 4 0) (os.getD 5 0) k,wd,min (wo*gn) 1000000000000000000,min (am*fl) 999999999999999999⟩])=.lst (ks.map kD++[.tup [.str (nameAt (os.getD 4 0) (os.getD 5 0) k),.int wd,.int (min (wo*gn) 1000000000000000000),.int (min (am*fl) 999999999999999999)]]) from congrArg D.lst map_append]
      exact turn
    · rw [length_append,kl];rfl
    · intro x hx
      rcases List.mem_append.mp hx with h | h
      · exact kok x h
      · rw [List.mem_singleton.mp h];exact kd
    · rw [map_append,knm,range_succ,map_append]
      rfl
  · rintro ρ ⟨ks,o8,o9,o10,o11,o12,o13,kl,kok,knm,rfl⟩
    rw [Zal] at kl
    exact ⟨ks,o8,o9,o10,o11,o12,o13,kl,kok,by rw [kl];rw [Zal] at knm;exact knm,rfl⟩
theorem Xgm (ns:List Int)(hn:ns.length≤63){i m:Int}(h0:0≤i)(h1:i<1000)(m0:0≤m)(m1:m≤1000):∃fl:Int,Zbi [.scr ns,.int i,.int m]=.ok (.int fl)∧1≤fl∧fl≤100000000000000000:=by
 obtain ⟨os,hos,R⟩:=Zns ns hn h0 h1 [m+1,4] (by decide:2≤1000) (Zlj (List.forall_mem_cons.mpr ⟨⟨by omega,by omega⟩,by decide⟩))
 have hol:os.length=2:=R.len
 have a1:0≤os.getD 1 0∧os.getD 1 0<4:=R.at_ 1 (by decide:1<2)
 obtain ⟨fl,hfl⟩:∃fl,fl=([1,1,7,100000000000000000]:List Int).getD (os.getD 1 0).toNat 0:=⟨_,rfl⟩
 have fl1:1≤fl∧fl≤100000000000000000:=by
  rw [hfl]
  exact Zbd (P:=fun z=>1≤z∧z≤100000000000000000) (by decide) (show _<4 from (toNat_lt a1.1).mpr a1.2)
 have i1:gIx (.lst [.int 1,.int 1,.int 7,.int 100000000000000000]) (.int (os.getD 1 0))=some (.int fl):=by rw [hfl];exact Zgu [1,1,7,100000000000000000] a1.1 a1.2
 have i0:=Zac (ns:=os) (i:=1) (k:=1) rfl (by rw [hol];decide)
 exact ⟨fl,Zag (Zah (Zfw (Zo (Jt (Zd rfl (Zd rfl (Zd rfl (Zd (Zo rfl rfl Zqq) rfl)))) rfl) (Zo (Xi (Zd rfl (Zd rfl (Zd (Jt (Zd (Zo rfl rfl rfl) rfl) rfl) rfl))) hos) rfl i0) i1) rfl)),fl1⟩
theorem Xgd (ns:List Int)(hn:ns.length≤63){i m fl:Int}(h0:0≤i)(h1:i<1000)(m0:0≤m)(m1:m≤200)(f0:1≤fl)(f1:fl≤100000000000000000):∃ws,Zbk [.scr ns,.int i,.int m,.int fl]=.ok (iD ws)∧(ws.length:Int)≤m∧∀w∈ws,0≤w∧w≤1000000000000000000:=by
  have ms_eq:Jj (iD [m+1,4,3]) (iD (List.replicate m.toNat [8,5]).flatten)=some (iD ([m+1,4,3]++(List.replicate m.toNat [8,5]).flatten)):=Zhl (by
    rw [Zcn]
    show 3+m.toNat*2≤1000000
    omega)
  have mr:=Zos (ws:=[8,5]) m0 (show m≤200 by omega) (by decide)
  have hml:([m+1,4,3]++(List.replicate m.toNat [(8:Int),5]).flatten).length=3+m.toNat*2:=by rw [length_append,Zcn];rfl
  obtain ⟨os,hos,R⟩:=Zns ns hn h0 h1 ([m+1,4,3]++(List.replicate m.toNat [8,5]).flatten) (by omega) (Zlj (List.forall_mem_append.mpr ⟨List.forall_mem_cons.mpr ⟨⟨by omega,by omega⟩,by decide⟩,fun z hz=>(by decide:∀z∈[(8:Int),5],0<z∧z≤1000000) z (Zph hz)⟩))
  have hol:os.length=3+m.toNat*2:=by rw [R.len,hml]
  have hlt:∀{j:Nat},j<3→j<([m+1,4,3]++(List.replicate m.toNat [(8:Int),5]).flatten).length:=fun h=>by rw [hml];exact lt_of_lt_of_le h (le_add_right _ _)
  have hlo:∀{j:Nat},j<3→j<os.length:=fun h=>by rw [hol];exact lt_of_lt_of_le h (le_add_right _ _)
  have tri:∀k j:Nat,k<m.toNat→j<2→2*k+(j+3)<3+m.toNat*2:=fun k j h hj=>by omega
  have a0:0≤os.getD 0 0∧os.getD 0 0<m+1:=R.at_ 0 (hlt (by decide))
  have a1:0≤os.getD 1 0∧os.getD 1 0<4:=R.at_ 1 (hlt (by decide))
  have a2:0≤os.getD 2 0∧os.getD 2 0<3:=R.at_ 2 (hlt (by decide))
  have b2:∀k:Nat,k<m.toNat→(0≤os.getD (2*k+3) 0∧os.getD (2*k+3) 0<8)∧(0≤os.getD (2*k+4) 0∧os.getD (2*k+4) 0<5):=fun k hk=>by
    obtain ⟨g1,g2⟩:=Zlo 8 5 m.toNat k hk
    have e:∀j:Nat,([m+1,4,3]++(List.replicate m.toNat [(8:Int),5]).flatten).getD (j+3) 0=(List.replicate m.toNat [(8:Int),5]).flatten.getD j 0:=fun j=>rfl
    have r1:=R.at_ (2*k+3) (by rw [hml];exact tri k 0 hk (by decide))
    have r2:=R.at_ (2*k+4) (by rw [hml];exact tri k 1 hk (by decide))
    rw [e (2*k),g1] at r1
    rw [show 2*k+4=(2*k+1)+3 from rfl,e (2*k+1),g2] at r2
    exact ⟨r1,r2⟩
  have ix:∀k:Nat,k<os.length→∀j:Int,j=(k:Int)→gIx (.lst (os.map D.int)) (.int j)=some (.int (os.getD k 0)):=fun k hk j e=>Zac e hk
  obtain ⟨gr,hgr,gr1⟩:∃gr:Int,gr=(if os.getD 2 0=0 then 1000000000000000000 else 9*fl)∧0≤gr∧gr≤1000000000000000000:=by
    refine ⟨_,rfl,?_⟩
    split
    · exact ⟨by decide,by decide⟩
    · exact ⟨mul_nonneg (by decide) (Int.le_trans (by decide) f0),Int.le_trans (Int.mul_le_mul_of_nonneg_left f1 (by decide)) (by decide)⟩
  obtain ⟨th,hth⟩:∃th,th=([0,1,3,6]:List Int).getD (os.getD 1 0).toNat 0:=⟨_,rfl⟩
  have ith:gIx (.lst [.int 0,.int 1,.int 3,.int 6]) (.int (os.getD 1 0))=some (.int th):=by rw [hth];exact Zgu [0,1,3,6] a1.1 a1.2
  have key:=Zco (b:=Zn 7) (s:=Zfl) (xs:=Zcj 0 (os.getD 0 0).toNat) (ρ:=[some (.scr ns),some (.int i),some (.int m),some (.int fl),some (iD os),some (.int gr),some (.lst []),none,none,none])
    (P:=fun k ρ=>∃(ws:List Int) (o7 o8 o9:Option D),ws.length=k∧(∀x∈ws,0≤x∧x≤1000000000000000000)∧ρ=[some (.scr ns),some (.int i),some (.int m),some (.int fl),some (iD os),some (.int gr),some (iD ws),o7,o8,o9])
    (Rr:=fun r=>∃(ws:List Int) (o7 o8 o9:Option D),ws.length=(os.getD 0 0).toNat∧(∀x∈ws,0≤x∧x≤1000000000000000000)∧r=.ok (.nx [some (.scr ns),some (.int i),some (.int m),some (.int fl),some (iD os),some (.int gr),some (iD ws),o7,o8,o9]))
    ⟨[],none,none,none,rfl,(fun _ h=>nomatch h),rfl⟩ ?_ ?_
  · obtain ⟨ws,o7,o8,o9,wl,wok,e⟩:=key
    refine ⟨ws,?_,by omega,wok⟩
    have b1:-1000000000≤os.getD 0 0∧os.getD 0 0≤1000000:=by omega
    have mr':Zai (.lst [.int 8,.int 5]) (.int m)=_:=mr
    have ms':Jj (.lst [.int (m+1),.int 4,.int 3]) (iD (List.replicate m.toNat [8,5]).flatten)=_:=ms_eq
    generalize iD ([m+1,4,3]++(List.replicate m.toNat [8,5]).flatten)=Mv at hos ms'
    generalize iD (List.replicate m.toNat [8,5]).flatten=Mw at mr' ms'
    have t1:Zai (.int 9) (.int fl)=some (.int (9*fl)):=Zpy (by decide) (by decide)
    have body:∀Q r,Q [some (.scr ns),some (.int i),some (.int m),some (.int fl),some (iD os),some (.int gr),none,none,none,none]=r→(Xk (Yi 5 (f2 Zai (fC (.int 9)) (fV 3))) (Xk (sIf (cE (f2 gEq (f2 gIx (fV 4) (fC (.int 2))) (fC (.int 0)))) (Yi 5 (f2 Ziz (fC (.int 10)) (fC (.int 18)))) sNx) Q)) [some (.scr ns),some (.int i),some (.int m),some (.int fl),some (iD os),none,none,none,none,none]=r:=fun Q r h=>by
      have c:∀z:Option D,(cE (f2 gEq (f2 gIx (fV 4) (fC (.int 2))) (fC (.int 0)))) [some (.scr ns),some (.int i),some (.int m),some (.int fl),some (iD os),z,none,none,none,none]=.ok (os.getD 2 0==0):=fun z=>Jo (Zo (Zo rfl rfl (ix 2 (hlo (by decide)) 2 rfl)) rfl rfl)
      by_cases d:os.getD 2 0=0
      · rw [if_pos d] at hgr
        exact Zq (Xn (Zo rfl rfl t1)) (Zq (Zcq ((c _).trans (by rw [d];rfl)) (Xn (Zo rfl rfl Zhg))) (by rw [hgr] at h;exact h))
      · rw [if_neg d] at hgr
        exact Zq (Xn (Zo rfl rfl t1)) (Zq (Jf ((c _).trans (congrArg Dl.R.ok (beq_false_of_ne d))) rfl) (by rw [hgr] at h;exact h))
    exact Zag (Zq (Xn (Xi (Zd rfl (Zd rfl (Zd (Zo (Jt (Zd (Zo rfl rfl rfl) rfl) rfl) (Zo rfl rfl mr') ms') rfl))) hos)) (body _ _ (Zq (Xn rfl) (Zq (Zdt (Zjj (Zd (Zo rfl rfl (ix 0 (hlo (by decide)) 0 rfl)) rfl) b1) e) (Zah rfl)))))
  · rintro k x ρ hx ⟨ws,o7,o8,o9,wl,wok,rfl⟩
    obtain ⟨hk,rfl⟩:=Ziy hx
    rw [zero_add]
    have hkm:k<m.toNat:=under hk a0.2
    obtain ⟨c1,c2⟩:=b2 k hkm
    have j0:=ix (2*k+3) (by rw [hol];exact tri k 0 hkm (by decide)) (2*k+3) rfl
    have j1:=ix (2*k+4) (by rw [hol];exact tri k 1 hkm (by decide)) (2*k+3+1) (Int.add_assoc _ 3 1)
    have jj:=ix 1 (hlo (by decide)) 1 rfl
    have sl:ws.length<lim:=by show _<1000000;omega
    obtain ⟨wt,hwt⟩:∃wt,wt=([fl,fl,2*fl,3*fl,gr]:List Int).getD (os.getD (2*k+4) 0).toNat 0:=⟨_,rfl⟩
    have wt1:0≤wt∧wt≤1000000000000000000:=by
      rw [hwt]
      have g:∀n:Int,1≤n→n≤3→0≤n*fl∧n*fl≤1000000000000000000:=fun n n0 n1=>⟨mul_nonneg (Int.le_trans (by decide) n0) (Int.le_trans (by decide) f0),Int.le_trans (Int.mul_le_mul n1 f1 (Int.le_trans (by decide) f0) (by decide)) (by decide)⟩
      have g1:0≤fl∧fl≤1000000000000000000:=⟨Int.le_trans (by decide) f0,Int.le_trans f1 (by decide)⟩
      exact Zbd (P:=fun z=>0≤z∧z≤1000000000000000000) (List.forall_mem_cons.mpr ⟨g1,List.forall_mem_cons.mpr ⟨g1,List.forall_mem_cons.mpr ⟨g 2 (by decide) (by decide),List.forall_mem_cons.mpr ⟨g 3 (by decide) (by decide),List.forall_mem_cons.mpr ⟨gr1,fun _ h=>nomatch h⟩⟩⟩⟩⟩) (show _<5 from (toNat_lt c2.1).mpr c2.2)
    have iw:gIx (.lst [.int fl,.int fl,.int (2*fl),.int (3*fl),.int gr]) (.int (os.getD (2*k+4) 0))=some (.int wt):=by rw [hwt];exact Zgu [fl,fl,2*fl,3*fl,gr] c2.1 c2.2
    have t1:Zai (.int 2) (.int fl)=some (.int (2*fl)):=Zpy (by decide) (by decide)
    have t2:Zai (.int 3) (.int fl)=some (.int (3*fl)):=Zpy (by decide) (by decide)
    have t3:Zai (.int 2) (.int (k:Int))=some (.int (2*k)):=Zpy (by decide) (by decide)
    have c:(cE (f2 gLt (f2 gIx (fV 4) (fV 8)) (f2 gIx (fA Zae (Zc (fC (.int 0)) (Zc (fC (.int 1)) (Zc (fC (.int 3)) (Zc (fC (.int 6)) Zt))))) (f2 gIx (fV 4) (fC (.int 1)))))) [some (.scr ns),some (.int i),some (.int m),some (.int fl),some (iD os),some (.int gr),some (iD ws),some (.int k),some (.int (2*k+3)),some (.int 0)]=.ok (decide (os.getD (2*k+3) 0<th)):=Jo (Zo (Zo rfl rfl j0) (Zo rfl (Zo rfl rfl jj) ith) (by simp))
    have sl':(ws.map D.int).length<lim:=by rw [length_map];exact sl
    have all:∀z:Int,0≤z∧z≤1000000000000000000→∀x∈ws++[z],0≤x∧x≤1000000000000000000:=fun z hz x hx=>by
      rcases List.mem_append.mp hx with h | h
      · exact wok x h
      · rw [List.mem_singleton.mp h];exact hz
    refine ⟨_,rfl,.inl ?_⟩
    by_cases d:os.getD (2*k+3) 0<th
    · refine ⟨[some (.scr ns),some (.int i),some (.int m),some (.int fl),some (iD os),some (.int gr),some (iD (ws++[wt])),some (.int k),some (.int (2*k+3)),some (.int wt)],.inl ?_,_,_,_,_,by rw [length_append,wl];rfl,all wt wt1,rfl⟩
      rw [show iD (ws++[wt])=.lst (ws.map D.int++[.int wt]) from congrArg D.lst map_append]
      exact Zq (Xn (Zo (Zo rfl rfl t3) rfl rfl)) (Zq (Xn rfl) (Zq (Zcq (c.trans (congrArg Dl.R.ok (decide_eq_true d))) (Xn (Zfw (Zo (Jt (Zd rfl (Zd rfl (Zd (Zo rfl rfl t1) (Zd (Zo rfl rfl t2) rfl)))) rfl) (Zo rfl (Zo rfl rfl rfl) j1) iw) rfl))) (Zet rfl (Zfw rfl rfl) sl')))
    · refine ⟨[some (.scr ns),some (.int i),some (.int m),some (.int fl),some (iD os),some (.int gr),some (iD (ws++[0])),some (.int k),some (.int (2*k+3)),some (.int 0)],.inl ?_,_,_,_,_,by rw [length_append,wl];rfl,all 0 ⟨by decide,by decide⟩,rfl⟩
      rw [show iD (ws++[0])=.lst (ws.map D.int++[.int 0]) from congrArg D.lst map_append]
      exact Zq (Xn (Zo (Zo rfl rfl t3) rfl rfl)) (Zq (Xn rfl) (Zq (Jf (c.trans (congrArg Dl.R.ok (decide_eq_false d))) rfl) (Zet rfl (Zfw rfl rfl) sl')))
  · rintro ρ ⟨ws,o7,o8,o9,wl,wok,rfl⟩
    rw [Zal] at wl
    exact ⟨ws,o7,o8,o9,wl,wok,rfl⟩
end Dl
namespace Dl
noncomputable def S:Nat→(Nat→Int)→Int
 | 0,_=>0
 | n+1,f=>S n f+f n
noncomputable def pth (e:Nat→Nat→Int)(a:Nat):Nat→List Int
 | 0=>[1]
 | d+1=>pth e a d++[S (d+1) fun i=>e (a+i) (a+d+1)*(pth e a d).getD i 0]
noncomputable def W (e:Nat→Nat→Int)(a d:Nat):Int:=(pth e a d).getD d 0
end Dl
namespace Dl
open PySem
theorem Zuh (ns:List Int)(ks:List Kd)(e:Int)(hk:ks.length≤1000)(hw:∀k∈ks,1≤k.w):Zcm [iD ns,tD ks,.int e]=.ok (tD (ks.filter fun k=>good ns k (e - k.w))):=by
 have hl:ks.length≤lim:=by show _≤1000000;omega
 have hc:=Xmg (n:=3) (ρ:=[some (iD ns),some (tD ks),some (.int e)]) (enc:=kD) (p:=fun k=>good ns k (e - k.w)) (v:=kD) (xs:=ks)
  (c:=cE (Xr Zjv (Zc (fV 0) (Zc (fV 3) (Zc (f2 Zot (fV 2) (f2 gIx (fV 3) (fC (.int 1)))) Zt))))) (e:=f1 Xt (fV 3)) rfl fun k hk=>by
   constructor
   ·simp [Xiq ns k (e - k.w) (hw k hk)]
   ·intro _;simp
 simp [Zcm,Zqf,tD,hl] at hc ⊢
 simp [hc]
noncomputable def Xir (ns:List Int)(ks:List Kd)(cs:List Int):Int:=cs.getD (cs.length - 1) 0+((ks.filter fun k=>good ns k ((cs.length:Int) - k.w)).map fun k=>cs.getD ((cs.length:Int) - k.w).toNat 0).sum
noncomputable def cnts (ns:List Int)(ks:List Kd):Nat→List Int
 | 0=>[1]
 | j+1=>cnts ns ks j++[Xir ns ks (cnts ns ks j)]
noncomputable def cnt (ns:List Int)(ks:List Kd)(j:Nat):Int:=(cnts ns ks j).getD j 0
theorem Zge {ns:List Int}{k:Kd}{p:Int}(h:good ns k p=true):0≤p∧p+k.w≤ns.length:=by
 have:=of_decide_eq_true h
 exact ⟨this.1,this.2.1⟩
theorem Zqu {ns:List Int}{j:Nat}(h:ns.length=j+1):gIx (.lst (ns.map D.int)) (.int (-1))=some (.int (ns.getD j 0)):=by
 rw [Zqa (by intro z;rw [z] at h;simp at h),h,Nat.add_sub_cancel]
noncomputable abbrev Cut:=List (Int×Str)×Int
noncomputable def addK (ns:List Int)(rows:List (List Cut))(e:Nat)(k:Kd):List Cut:=if good ns k ((e:Int) - k.w)=true then (rows.getD ((e:Int) - k.w).toNat []).map fun c=>(c.1++[((e:Int) - k.w,k.name)],c.2+k.wo) else []
noncomputable def rowOf (ns:List Int)(ks:List Kd)(rows:List (List Cut)):List Cut:=rows.getD (rows.length - 1) []++(ks.map (addK ns rows rows.length)).flatten
noncomputable def Xod (ns:List Int)(ks:List Kd):Nat→List (List Cut)
 | 0=>[[([],0)]]
 | j+1=>Xod ns ks j++[rowOf ns ks (Xod ns ks j)]
mutual
theorem Zqx:∀d:D,dep d≤20→eqv d d=true
 | .non,_=>rfl
 | .bl b,_=>beq_self_eq_true b
 | .int b,_=>beq_self_eq_true b
 | .str b,_=>beq_self_eq_true b
 | .lst xs,h=>Zii xs (Nat.le_of_succ_le h)
 | .tup xs,h=>Zii xs (Nat.le_of_succ_le h)
 | .scr _,h=>absurd h (by decide:¬100≤20)
 | .rng _ _,h=>absurd h (by decide:¬100≤20)
 | .exc _ _,h=>absurd h (by decide:¬100≤20)
 | .obj _ _ _,h=>absurd h (by decide:¬100≤20)
 | .dct _ _,h=>absurd h (by decide:¬100≤20)
 | .dtt _ _,h=>absurd h (by decide:¬100≤20)
theorem Zii:∀xs:List D,Zja xs≤20→Xgt xs xs=true
 | [],_=>rfl
 | x::xs,h=>by
  have a:dep x≤20∧Zja xs≤20:=Nat.max_le.mp h
  show (eqv x x&&Xgt xs xs)=true
  rw [Zqx x a.1,Zii xs a.2]
  rfl
end
theorem Zrh {d:D}(h:dep d≤20):gEq d d=some (.bl true):=by
 unfold gEq
 rw [if_pos ⟨h,h⟩,Zqx d h]
theorem Zfo {α:Type}{f:α→D}{n:Nat}(h:∀a,dep (f a)≤n):∀xs:List α,Zja (xs.map f)≤n
 | []=>zero_le _
 | x::xs=>by
  rw [map_cons,Zja]
  have:=h x
  have:=Zfo h xs
  omega
theorem Zxo (ns:List Int):dep (iD ns)≤1:=by
 rw [iD,dep]
 have:=Zfo (f:=D.int) (n:=0) (fun _=>by simp [dep]) ns
 omega
theorem Xng (k:Kd):dep (kD k)≤1:=by simp [kD,dep,Zja]
theorem Xnf (ks:List Kd):dep (tD ks)≤2:=by
 rw [tD,dep]
 have:=Zfo (f:=kD) Xng ks
 omega
theorem Zgn:∀(r:List Int) (x:Int),x≤r.foldl max x∧∀y∈r,y≤r.foldl max x
 | [],x=>⟨Int.le_refl _,fun _ h=>nomatch h⟩
 | z::r,x=>by
  obtain ⟨h1,h2⟩:=Zgn r (max x z)
  rw [foldl_cons]
  refine ⟨by omega,fun y hy=>?_⟩
  rcases List.mem_cons.mp hy with e | e
  ·subst e;omega
  ·exact h2 y e
theorem Zue {xs:List Int}{y:Int}(h:y∈xs):y≤Xah xs:=by
 cases xs with
 | nil=>cases h
 | cons x r =>
  obtain ⟨h1,h2⟩:=Zgn r x
  show y≤r.foldl max x
  rcases List.mem_cons.mp h with e | e
  ·subst e;exact h1
  ·exact h2 y e
noncomputable def Zhd (ns:List Int)(ks:List Kd)(ts:List Int):Int:=Xah (ts.getD (ts.length - 1) 0::(ks.filter fun k=>good ns k ((ts.length:Int) - k.w)).map fun k=>ts.getD ((ts.length:Int) - k.w).toNat 0+k.wo)
noncomputable def hts (ns:List Int)(ks:List Kd):Nat→List Int
 | 0=>[0]
 | j+1=>hts ns ks j++[Zhd ns ks (hts ns ks j)]
theorem Zce (ns:List Int)(ks:List Kd):∀j,(hts ns ks j).length=j+1
 | 0=>rfl
 | j+1=>by rw [hts,length_append,Zce ns ks j];rfl
noncomputable def ht (ns:List Int)(ks:List Kd)(j:Nat):Int:=(hts ns ks j).getD j 0
theorem Zkd (ns:List Int)(ks:List Kd):∀(j i:Nat),i≤j→(hts ns ks j).getD i 0=ht ns ks i
 | 0,i,h=>by
  have:i=0:=by omega
  subst this
  rfl
 | j+1,i,h=>by
  by_cases e:i=j+1
  ·subst e;rfl
  ·have:=Zce ns ks j
   rw [← Zkd ns ks j i (by omega),hts]
   simp only [List.getD]
   rw [getElem?_append_left (by omega)]
theorem Xjb (ns:List Int)(ks:List Kd):ht ns ks 0=0:=rfl
theorem Zvk (ns:List Int)(ks:List Kd)(hw:∀k∈ks,1≤k.w)(j:Nat):ht ns ks (j+1)=Xah (ht ns ks j::(ks.filter fun k=>good ns k ((j+1:Nat) - k.w)).map fun k=>ht ns ks (((j+1:Nat):Int) - k.w).toNat+k.wo):=by
 have hl:=Zce ns ks j
 have e:ht ns ks (j+1)=Zhd ns ks (hts ns ks j):=by
  unfold ht
  rw [hts]
  simp only [List.getD]
  rw [getElem?_append_right (by omega),hl]
  simp
 rw [e,Zhd,hl,show j+1 - 1=j by omega,Zkd ns ks j j (le_refl _)]
 congr 2
 refine map_congr_left fun k hk=>?_
 obtain ⟨k1,k2⟩:=List.mem_filter.mp hk
 have:=Zge k2
 have:=hw k k1
 rw [Zkd ns ks j _ (by omega)]
theorem Xeg (ns:List Int)(ks:List Kd)(hw:∀k∈ks,1≤k.w)(j:Nat):ht ns ks j≤ht ns ks (j+1):=by
 rw [Zvk ns ks hw j]
 exact Zue (.head _)
theorem Xig (ns:List Int)(ks:List Kd)(hw:∀k∈ks,1≤k.w){k:Kd}(hk:k∈ks){p:Int}(hg:good ns k p=true):ht ns ks p.toNat+k.wo≤ht ns ks (p+k.w).toNat:=by
 have bd:=Zge hg
 have hw1:=hw k hk
 obtain ⟨j,hj⟩:∃j:Nat,p+k.w=((j+1:Nat):Int):=⟨(p+k.w - 1).toNat,by omega⟩
 have hp:p=((j+1:Nat):Int) - k.w:=by omega
 rw [hj,toNat_natCast,Zvk ns ks hw j,hp]
 refine Zue (.tail _ (List.mem_map.mpr ⟨k,List.mem_filter.mpr ⟨hk,?_⟩,rfl⟩))
 rw [← hp]
 exact hg
theorem Zoy (ns:List Int)(ks:List Kd)(ts:List Int){j:Nat}(hl:ts.length=j+1)(hj:j<1000)(hk:ks.length≤1000)(hw:∀k∈ks,1≤k.w):Zch [iD ns,tD ks,iD ts]=.ok (.int (Zhd ns ks ts)):=by
 have he:=Zuh ns ks (ts.length:Int) hk hw
 have hc:=Zax (n:=5) (ρ:=[some (iD ns),some (tD ks),some (iD ts),some (.int ts.length),none]) (enc:=kD) (v:=fun k:Kd=>.int (ts.getD ((ts.length:Int) - k.w).toNat 0+k.wo)) (xs:=ks.filter fun k=>good ns k ((ts.length:Int) - k.w))
  (e:=f2 Jj (f2 gIx (fV 2) (f2 Zot (fV 3) (f2 gIx (fV 5) (fC (.int 1))))) (f2 gIx (fV 5) (fC (.int 2)))) rfl fun k hk=>by
   obtain ⟨k1,k2⟩:=List.mem_filter.mp hk
   have bd:=Zge k2
   have hw1:=hw k k1
   have ix:=Zac (ns:=ts) (i:=(ts.length:Int) - k.w) (k:=((ts.length:Int) - k.w).toNat) (by omega) (by omega)
   have ix':gIx (iD ts) (.int ((ts.length:Int) - k.w))=_:=ix
   exact Zo (Zo rfl (Zo rfl (Zo rfl rfl (Zso k)) rfl) ix') (Zo rfl rfl (Xjg k)) rfl
 have hlast:=Zqu (ns:=ts) hl
 have hlast':gIx (iD ts) (.int (-1))=_:=hlast
 have hlen:Jk [iD ts]=some (.int ts.length):=by simp [iD]
 have hf:(ks.filter fun k=>good ns k ((ts.length:Int) - k.w)).length≤ks.length:=length_filter_le _ _
 unfold Zhd
 rw [show ts.length - 1=j by omega]
 have hmm:((ks.filter fun k=>good ns k ((ts.length:Int) - k.w)).map fun k:Kd=>D.int (ts.getD ((ts.length:Int) - k.w).toNat 0+k.wo))=((ks.filter fun k=>good ns k ((ts.length:Int) - k.w)).map fun k:Kd=>ts.getD ((ts.length:Int) - k.w).toNat 0+k.wo).map D.int:=by rw [map_map];rfl
 rw [hmm] at hc
 have hML:((ks.filter fun k=>good ns k ((ts.length:Int) - k.w)).map fun k:Kd=>ts.getD ((ts.length:Int) - k.w).toNat 0+k.wo).length≤1000:=by rw [length_map];omega
 have he':Zcm [iD ns,tD ks,.int ts.length]=.ok (.lst ((ks.filter fun k=>good ns k ((ts.length:Int) - k.w)).map kD)):=he
 have hEL':((ks.filter fun k=>good ns k ((ts.length:Int) - k.w)).map kD).length≤lim:=by rw [length_map];show _≤1000000;omega
 have ha:=Zhl (xs:=[ts.getD j 0]) (ys:=(ks.filter fun k=>good ns k ((ts.length:Int) - k.w)).map fun k:Kd=>ts.getD ((ts.length:Int) - k.w).toNat 0+k.wo) (by rw [length_singleton];omega)
 have hmx:=Xaw (ns:=ts.getD j 0::(ks.filter fun k=>good ns k ((ts.length:Int) - k.w)).map fun k:Kd=>ts.getD ((ts.length:Int) - k.w).toNat 0+k.wo) (by simp)
 exact Zag (Zq (Xn (Jt (Zd rfl rfl) hlen)) (Zq (Xn (Zaa rfl (Ji (Xi (Zd rfl (Zd rfl (Zd rfl rfl))) he') hEL') hc)) (Zah (Jt (Zd (Zo (Jt (Zd (Zo rfl (Zfw rfl rfl) hlast') rfl) rfl) rfl ha) rfl) hmx))))
theorem Zjo (ns:List Int)(ks:List Kd)(hn:ns.length≤900)(hk:ks.length≤1000)(hw:∀k∈ks,1≤k.w):Zab [iD ns,tD ks]=.ok (iD (hts ns ks ns.length)):=by
  have h:=Xap (c:=cE (f2 gLe (fA Jk (Zc (fV 2) Zt)) (fA Jk (Zc (fV 0) Zt)))) (s:=Zim) (n:=100000) (ρ:=[some (iD ns),some (tD ks),some (.lst [.int 0])]) ns.length (fun i=>[some (iD ns),some (tD ks),some (iD (hts ns ks i))]) rfl (by omega) (fun i hi=>by
      have hl:=Zce ns ks i
      have nt:=Zoy ns ks (hts ns ks i) (j:=i) hl (by omega) hk hw
      have l1:Jk [iD (hts ns ks i)]=some (.int ((i+1:Nat):Int)):=by simp [iD,hl]
      have l2:Jk [iD ns]=some (.int ns.length):=by simp [iD]
      have e1:iD (hts ns ks (i+1))=.lst ((hts ns ks i).map D.int++[.int (Zhd ns ks (hts ns ks i))]):=by
        rw [hts,iD,map_append]
        rfl
      refine ⟨?_,?_⟩
      · exact Jo (Zo (Jt (Zd rfl rfl) l1) (Jt (Zd rfl rfl) l2) (Zod (Int.ofNat_le.mpr hi)))
      · have hlim':((hts ns ks i).map D.int).length<lim:=by rw [length_map,hl];show _<1000000;omega
        rw [e1]
        exact Zet rfl (Xi (Zd rfl (Zd rfl (Zd rfl rfl))) nt) hlim') (by
      have hl:=Zce ns ks ns.length
      have l1:Jk [iD (hts ns ks ns.length)]=some (.int ((ns.length+1:Nat):Int)):=by simp [iD,hl]
      have l2:Jk [iD ns]=some (.int ns.length):=by simp [iD]
      generalize iD ns=A at *
      generalize iD (hts ns ks ns.length)=T at *
      simp [l1,l2]
      omega)
  generalize iD ns=A at *
  generalize tD ks=B at *
  generalize iD (hts ns ks ns.length)=T at *
  simp [Zab,Zna,h]
theorem eq_str (a b:Str):gEq (.str a) (.str b)=some (.bl (a==b)):=rfl
theorem eq_int (a b:Int):gEq (.int a) (.int b)=some (.bl (a==b)):=rfl
theorem ne_int (a b:Int):gNe (.int a) (.int b)=some (.bl (!(a==b))):=rfl
noncomputable def prL (ns:List Int)(ks:List Kd):List Int:=(List.range ns.length).map fun c=>ht ns ks (c+1) - ht ns ks c
theorem Zhq (ns:List Int)(ks:List Kd):(prL ns ks).length=ns.length:=by simp [prL]
theorem Zlc (ns:List Int)(ks:List Kd):∀i,i≤ns.length→pre (prL ns ks) i=ht ns ks i
 | 0,_=>by simp [pre,Xjb]
 | i+1,h=>by
  have hi:i<ns.length:=by omega
  rw [Zrt (x:=ht ns ks (i+1) - ht ns ks i) (by simp [prL,hi]),Zlc ns ks i (by omega)]
  omega
theorem Xee (ns:List Int)(ks:List Kd):(prL ns ks).sum=ht ns ks ns.length:=by
 rw [← Zlc ns ks ns.length (le_refl _),pre,take_of_length_le (by rw [Zhq];exact le_refl _)]
theorem Zux (ns:List Int)(ks:List Kd)(hn:ns.length≤900)(hk:ks.length≤1000)(hw:∀k∈ks,1≤k.w):Zdz [iD ns,tD ks]=.ok (iD (prL ns ks)):=by
 have hh:=Zjo ns ks hn hk hw
 have hl:=Zce ns ks ns.length
 have at_:∀(q:Nat) (i:Int),i=q→q≤ns.length→gIx (iD (hts ns ks ns.length)) (.int i)=some (.int (ht ns ks q)):=fun q i h1 h2=>by
  have:=Zac (ns:=hts ns ks ns.length) (i:=i) (k:=q) h1 (by rw [hl];exact Nat.lt_succ_of_le h2)
  rw [Zkd ns ks _ _ h2] at this
  exact this
 have hc:=Zax (n:=3) (ρ:=[some (iD ns),some (tD ks),some (iD (hts ns ks ns.length))]) (enc:=fun (c:Nat)=>D.int (0+(c:Int))) (v:=fun c:Nat=>.int (ht ns ks (c+1) - ht ns ks c)) (xs:=List.range ns.length)
  (e:=f2 Zot (f2 gIx (fV 2) (f2 Jj (fV 3) (fC (.int 1)))) (f2 gIx (fV 2) (fV 3))) rfl fun c hc=>by
   have hc':=List.mem_range.mp hc
   exact Zo (Zo rfl (Zo rfl rfl rfl) (at_ (c+1) ((0+(c:Int))+1) (by rw [zero_add];rfl) hc')) (Zo rfl rfl (at_ c (0+(c:Int)) (zero_add _) (le_of_lt hc'))) rfl
 have b1:-1000000000≤(ns.length:Int)∧(ns.length:Int)≤1000000:=⟨Int.le_trans (by decide) (Int.natCast_nonneg _),Int.ofNat_le.mpr (le_trans hn (by decide))⟩
 have l2:Jk [iD ns]=some (.int ns.length):=congrArg (fun n:Nat=>some (D.int n)) (length_map D.int)
 have e:iD (prL ns ks)=.lst ((List.range ns.length).map fun c:Nat=>.int (ht ns ks (c+1) - ht ns ks c)):=by rw [iD,prL,map_map];rfl
 rw [e]
 exact Zag (Zq (Xn (Xi (Zd rfl (Zd rfl rfl)) hh)) (Zah (Zaa rfl (Zjj (Zd (Jt (Zd rfl rfl) l2) rfl) b1) hc)))
inductive Way (ns:List Int)(ks:List Kd):Nat→Nat→Int→Prop where
 | nil (a:Nat):Way ns ks a a 0
 | skip {a b:Nat} {w:Int}:Way ns ks a b w→b+1≤ns.length→Way ns ks a (b+1) w
 | piece {a b:Nat} {w:Int} {k:Kd}:Way ns ks a b w→k∈ks→good ns k (b:Int)=true→Way ns ks a (b+k.w.toNat) (w+k.wo)
section
variable {ns:List Int}{ks:List Kd}
end
theorem Znh (ns:List Int)(ks:List Kd)(ts:List Int)(e:Int):∀(l:List Kd) (m:Int),l.foldl (fun m k=>if good ns k (e - k.w)=true then max m (ts.getD (e - k.w).toNat 0+k.wo) else m) m=((l.filter fun k=>good ns k (e - k.w)).map fun k=>ts.getD (e - k.w).toNat 0+k.wo).foldl max m
 | [],m=>rfl
 | k::l,m=>by
  rw [foldl_cons,Znh ns ks ts e l]
  by_cases h:good ns k (e - k.w)=true
  ·rw [if_pos h,List.filter_cons_of_pos (p:=fun k:Kd=>good ns k (e - k.w)) h,map_cons,foldl_cons]
  ·rw [if_neg h,List.filter_cons_of_neg (p:=fun k:Kd=>good ns k (e - k.w)) h]
theorem Zps (ns:List Int)(ks:List Kd)(hn:ns.length≤900)(hk:ks.length≤1000)(hw:∀k∈ks,1≤k.w):Ja [iD ns,tD ks]=.ok (iD (hts ns ks ns.length)):=by
  have hsum:=Zpm ns (by omega)
  have hsl:=Zfa ns
  have hkl:(ks.map kD).length≤lim:=by rw [length_map];show _≤1000000;omega
  have inner:∀(j:Nat),j<ns.length→∀(o6 o7:Option D),∃o6' o7',Zdc (Zn 6) Zda (ks.map kD) [some (iD ns),some (tD ks),some (iD (Yl ns)),some (iD (hts ns ks j)),some (.int ((j+1:Nat):Int)),some (.int (ht ns ks j)),o6,o7] =
      .ok (.nx [some (iD ns),some (tD ks),some (iD (Yl ns)),some (iD (hts ns ks j)),some (.int ((j+1:Nat):Int)),some (.int (Zhd ns ks (hts ns ks j))),o6',o7']):=by
    intro j hj o6 o7
    have hl:=Zce ns ks j
    refine Zco (P:=fun i ρ=>∃o6 o7,ρ=[some (iD ns),some (tD ks),some (iD (Yl ns)),some (iD (hts ns ks j)),some (.int ((j+1:Nat):Int)),some (.int ((ks.take i).foldl (fun m k=>if good ns k (((j+1:Nat):Int) - k.w)=true then max m ((hts ns ks j).getD (((j+1:Nat):Int) - k.w).toNat 0+k.wo) else m) (ht ns ks j))),o6,o7])
      (Rr:=fun r=>∃o6' o7',r=.ok (.nx [some (iD ns),some (tD ks),some (iD (Yl ns)),some (iD (hts ns ks j)),some (.int ((j+1:Nat):Int)),some (.int (Zhd ns ks (hts ns ks j))),o6',o7'])) ⟨o6,o7,rfl⟩ ?_ ?_
    · rintro i x ρ hx ⟨a6,a7,rfl⟩
      rw [getElem?_map] at hx
      obtain ⟨k,hk',rfl⟩:=Option.map_eq_some_iff.mp hx
      have hkm:=mem_of_getElem? hk'
      have hw1:=hw k hkm
      rw [take_add_one,hk']
      simp only [Option.toList_some,List.foldl_append,foldl_cons,List.foldl_nil]
      generalize (ks.take i).foldl (fun m k=>if good ns k (((j+1:Nat):Int) - k.w)=true then max m ((hts ns ks j).getD (((j+1:Nat):Int) - k.w).toNat 0+k.wo) else m) (ht ns ks j)=M
      have hg:=Zuu ns k (((j+1:Nat):Int) - k.w) hw1
      refine ⟨_,rfl,.inl ?_⟩
      cases hgv:good ns k (((j+1:Nat):Int) - k.w) with
      | false =>
        rw [hgv] at hg
        rw [if_neg (by simp)]
        refine ⟨[some (iD ns),some (tD ks),some (iD (Yl ns)),some (iD (hts ns ks j)),some (.int ((j+1:Nat):Int)),some (.int M),some (kD k),some (.int (((j+1:Nat):Int) - k.w))],.inl ?_,_,_,rfl⟩
        exact Zq (Xn (Zo rfl (Zo rfl rfl (Zso k)) rfl)) (Jf (Jo (Xi (Zd rfl (Zd rfl (Zd rfl rfl))) hg)) rfl)
      | true =>
        rw [hgv] at hg
        rw [if_pos rfl]
        have bd:=Zge hgv
        have ix:=Zac (ns:=hts ns ks j) (i:=((j+1:Nat):Int) - k.w) (k:=(((j+1:Nat):Int) - k.w).toNat) (by omega) (by omega)
        have ix':gIx (iD (hts ns ks j)) (.int (((j+1:Nat):Int) - k.w))=_:=ix
        refine ⟨[some (iD ns),some (tD ks),some (iD (Yl ns)),some (iD (hts ns ks j)),some (.int ((j+1:Nat):Int)),some (.int (max M ((hts ns ks j).getD (((j+1:Nat):Int) - k.w).toNat 0+k.wo))),some (kD k),some (.int (((j+1:Nat):Int) - k.w))],.inl ?_,_,_,rfl⟩
        exact Zq (Xn (Zo rfl (Zo rfl rfl (Zso k)) rfl)) (Zcq (Jo (Xi (Zd rfl (Zd rfl (Zd rfl rfl))) hg)) (Xn (Jt (Zd rfl (Zd (Zo (Zo rfl rfl ix') (Zo rfl rfl (Xjg k)) rfl) rfl)) (Xkv _ _))))
    · rintro ρ ⟨a6,a7,rfl⟩
      refine ⟨a6,a7,?_⟩
      rw [length_map,take_of_length_le (le_refl _),Znh ns ks]
      have e:Zhd ns ks (hts ns ks j)=((ks.filter fun k=>good ns k (((j+1:Nat):Int) - k.w)).map fun k=>(hts ns ks j).getD (((j+1:Nat):Int) - k.w).toNat 0+k.wo).foldl max (ht ns ks j):=by
        unfold Zhd Xah
        rw [hl,show j+1 - 1=j by omega]
        rfl
      rw [e]
  have hf:=Zco (b:=Zn 4) (s:=Zcw) (xs:=Zcj 1 ns.length) (ρ:=[some (iD ns),some (tD ks),some (iD (Yl ns)),some (.lst [.int 0]),none,none,none,none])
    (P:=fun j ρ=>∃o4 o5 o6 o7,ρ=[some (iD ns),some (tD ks),some (iD (Yl ns)),some (iD (hts ns ks j)),o4,o5,o6,o7]) (Rr:=fun r=>∃o4 o5 o6 o7,r=.ok (.nx [some (iD ns),some (tD ks),some (iD (Yl ns)),some (iD (hts ns ks ns.length)),o4,o5,o6,o7])) ⟨none,none,none,none,rfl⟩ (by
      rintro j x ρ hx ⟨o4,o5,o6,o7,rfl⟩
      obtain ⟨hj,rfl⟩:=Ziy hx
      have e1:(1:Int)+(j:Int)=((j+1:Nat):Int):=by omega
      rw [e1]
      obtain ⟨o6',o7',hin⟩:=inner j hj o6 o7
      have hl:=Zce ns ks j
      have ix:=Zqu (ns:=hts ns ks j) hl
      rw [Zkd ns ks j j (le_refl _)] at ix
      have hlim:((hts ns ks j).map D.int).length<lim:=by rw [length_map,hl];show _<1000000;omega
      refine ⟨_,rfl,.inl ⟨[some (iD ns),some (tD ks),some (iD (Yl ns)),some (iD (hts ns ks (j+1))),some (.int ((j+1:Nat):Int)),some (.int (Zhd ns ks (hts ns ks j))),o6',o7'],.inl ?_,_,_,_,_,rfl⟩⟩
      have e:iD (hts ns ks (j+1))=.lst ((hts ns ks j).map D.int++[.int (Zhd ns ks (hts ns ks j))]):=by
        rw [hts,iD,map_append]
        rfl
      rw [e]
      exact Zq (Xn (Zfw (Zo rfl (Zfw rfl rfl) ix) rfl)) (Zq (Zdt (Ji rfl hkl) hin) (Zet rfl (Zfw rfl rfl) hlim))) (fun ρ h=>by
      obtain ⟨o4,o5,o6,o7,rfl⟩:=h
      rw [Zal]
      exact ⟨_,_,_,_,rfl⟩)
  obtain ⟨o4,o5,o6,o7,hf⟩:=hf
  have l1:Jk [iD (Yl ns)]=some (.int ((ns.length:Int)+1)):=by simp [iD,hsl]
  have b1:-1000000000≤(1:Int)∧(1:Int)≤1000000000∧-1000000000≤(ns.length:Int)+1∧(ns.length:Int)+1≤1000000000∧((ns.length:Int)+1 - 1).toNat≤lim:=⟨by omega,by omega,by omega,by omega,by show _≤1000000;omega⟩
  have b2:((ns.length:Int)+1 - 1).toNat=ns.length:=by omega
  have rg:Zrv [.int 1,.int ((ns.length:Int)+1)]=.ok (Zcj 1 ns.length):=by unfold Zrv;simp only [];rw [if_pos b1,b2]
  exact Zag (Zq (Xn (Xi (Zd rfl rfl) hsum)) (Zq (Xn rfl) (Zq (Zdt (Xom (Zd rfl (Zd (Jt (Zd rfl rfl) l1) rfl)) rg) hf) (Zah rfl))))
noncomputable def V {α:Type}:R α→(α→Prop)→Prop
 | .ok a,Q=>Q a
 | .err _ _,_=>False
 | .bad,_=>False
@[simp] theorem V_ok {α:Type}(a:α)(Q:α→Prop):V (.ok a) Q=Q a:=(rfl)
theorem Zmw {α β:Type}(r:R α)(f:α→R β)(Q:β→Prop):V (r.bind f) Q=V r fun a=>V (f a) Q:=by cases r<;>rfl
theorem V.imp {α:Type}{r:R α}{Q Q':α→Prop}(h:V r Q)(g:∀a,Q a→Q' a):V r Q':=by
 cases r with
 | ok a=>exact g a h
 | err _ _=>exact h
 | bad=>exact h
theorem V.ex {α:Type}{r:R α}{Q:α→Prop}(h:V r Q):∃a,r=.ok a∧Q a:=by
 cases r with
 | ok a=>exact ⟨a,rfl,h⟩
 | err _ _=>exact h.elim
 | bad=>exact h.elim
theorem V.of {α:Type}{r:R α}{a:α}{Q:α→Prop}(e:r=.ok a)(h:Q a):V r Q:=by rw [e];exact h
noncomputable def turn (b:FB)(s:FS)(x:D)(ρ:Env):R Fl:=(b x ρ).calm.bind s
noncomputable def Tn (P:Env→Prop)(Q:Fl→Prop):Fl→Prop
 | .nx ρ=>P ρ
 | .cnt ρ=>P ρ
 | .brk ρ=>Q (.nx ρ)
 | .ret d=>Q (.ret d)
@[simp] theorem Tn_nx (P:Env→Prop)(Q:Fl→Prop)(ρ:Env):Tn P Q (.nx ρ)=P ρ:=(rfl)
@[simp] theorem Tn_cnt (P:Env→Prop)(Q:Fl→Prop)(ρ:Env):Tn P Q (.cnt ρ)=P ρ:=(rfl)
@[simp] theorem Tn_brk (P:Env→Prop)(Q:Fl→Prop)(ρ:Env):Tn P Q (.brk ρ)=Q (.nx ρ):=(rfl)
@[simp] theorem Tn_ret (P:Env→Prop)(Q:Fl→Prop)(d:D):Tn P Q (.ret d)=Q (.ret d):=(rfl)
theorem Xbd {b:FB}{s:FS}{Q:Fl→Prop}{P:List D→Env→Prop}(hs:∀x r ρ,P (x::r) ρ→V (turn b s x ρ) (Tn (P r) Q))(hd:∀ρ,P [] ρ→Q (.nx ρ)):∀{xs:List D} {ρ:Env},P xs ρ→V (Zdc b s xs ρ) Q
 | [],ρ,h=>hd ρ h
 | x::xs,ρ,h=>by
  have t:=hs x xs ρ h
  unfold turn at t
  rw [Zmw] at t
  rw [Zmd,Zmw]
  refine t.imp fun ρ1 q=>?_
  rw [Zmw]
  refine q.imp fun fl q=>?_
  cases fl with
  | nx ρ2=>exact Xbd hs hd q
  | cnt ρ2=>exact Xbd hs hd q
  | brk ρ2=>exact q
  | ret d=>exact q
theorem Xmt {α:Type}{enc:α→D}{b:FB}{s:FS}{Q:Fl→Prop}{P:List α→Env→Prop}(hs:∀x r ρ,P (x::r) ρ→V (turn b s (enc x) ρ) (Tn (P r) Q))(hd:∀ρ,P [] ρ→Q (.nx ρ)){xs:List α}{ρ:Env}(h:P xs ρ):V (Zdc b s (xs.map enc) ρ) Q:=by
 refine Xbd (P:=fun ds ρ=>∃ys:List α,ds=ys.map enc∧P ys ρ) (fun x r ρ p=>?_) (fun ρ p=>?_) ⟨xs,rfl,h⟩
 ·obtain ⟨ys,e,p⟩:=p
  cases ys with
  | nil=>cases e
  | cons y ys =>
   rw [map_cons,List.cons.injEq] at e
   obtain ⟨rfl,rfl⟩:=e
   refine (hs y ys ρ p).imp fun fl q=>?_
   cases fl with
   | nx ρ2=>exact ⟨ys,rfl,q⟩
   | cnt ρ2=>exact ⟨ys,rfl,q⟩
   | brk ρ2=>exact q
   | ret d=>exact q
 ·obtain ⟨ys,e,p⟩:=p
  cases ys with
  | nil=>exact hd ρ p
  | cons y ys=>cases e
theorem Xml {b:FB}{s:FS}{Q:Fl→Prop}{P:Nat→Env→Prop}{xs:List D}{ρ:Env}(h0:P 0 ρ)(hs:∀i x ρ,xs[i]?=some x→P i ρ→V (turn b s x ρ) (Tn (P (i+1)) Q))(hd:∀ρ,P xs.length ρ→Q (.nx ρ)):V (Zdc b s xs ρ) Q:=by
 refine Xbd (P:=fun r ρ=>∃i,r=xs.drop i∧i≤xs.length∧P i ρ) (fun x r ρ p=>?_) (fun ρ p=>?_) ⟨0,rfl,zero_le _,h0⟩
 ·obtain ⟨i,e,hi,p⟩:=p
  have hl:i<xs.length:=by
   rcases Nat.lt_or_ge i xs.length with q | q
   ·exact q
   ·rw [List.drop_of_length_le q] at e;cases e
  rw [List.drop_eq_getElem_cons hl,List.cons.injEq] at e
  obtain ⟨rfl,rfl⟩:=e
  refine (hs i _ ρ (getElem?_eq_getElem hl) p).imp fun fl q=>?_
  cases fl with
  | nx ρ2=>exact ⟨i+1,rfl,hl,q⟩
  | cnt ρ2=>exact ⟨i+1,rfl,hl,q⟩
  | brk ρ2=>exact q
  | ret d=>exact q
 ·obtain ⟨i,e,hi,p⟩:=p
  have:i=xs.length:=by
   have:=congrArg List.length e
   rw [List.length_drop,length_nil] at this
   omega
  subst this
  exact hd ρ p
theorem V_rng {b:FB}{s:FS}{Q:Fl→Prop}{P:Nat→Env→Prop}{lo:Int}{n:Nat}{ρ:Env}(h0:P 0 ρ)(hs:∀i ρ,i<n→P i ρ→V (turn b s (.int (lo+i)) ρ) (Tn (P (i+1)) Q))(hd:∀ρ,P n ρ→Q (.nx ρ)):V (Zdc b s (Zcj lo n) ρ) Q:=
  Xml h0 (fun i x ρ hx p=>by
    obtain ⟨hi,rfl⟩:=Ziy hx
    exact hs i ρ hi p) (fun ρ p=>hd ρ (by rw [Zal] at p;exact p))
theorem Zht {b:FB}{s:FS}{Q:Fl→Prop}{P:Nat→Env→Prop}{n:Nat}{ρ:Env}(h0:P 0 ρ)(hs:∀(i:Nat) ρ,i<n→P i ρ→V (turn b s (.int (i:Int)) ρ) (Tn (P (i+1)) Q))(hd:∀ρ,P n ρ→Q (.nx ρ)):V (Zdc b s (Zcj 0 n) ρ) Q:=
 V_rng h0 (fun i ρ hi p=>by rw [zero_add];exact hs i ρ hi p) hd
theorem Xih {c:FT}{s:FS}{Q:Fl→Prop}{P:Nat→Env→Prop}(hs:∀e ρ,P e ρ→V (c ρ) fun b=>if b=true then V (s ρ) (Tn (fun ρ'=>∃e',e'<e∧P e' ρ') Q) else Q (.nx ρ)):∀(e n:Nat) (ρ:Env),e<n→P e ρ→V (Zci c s n ρ) Q:=by
 intro e
 induction e using Nat.strongRecOn with
 | _ e ih =>
  intro n ρ hn p
  obtain ⟨n,rfl⟩:∃k,n=k+1:=⟨n - 1,by omega⟩
  rw [Zci,Zmw]
  refine (hs e ρ p).imp fun b q=>?_
  cases b with
  | false=>exact q
  | true =>
   rw [if_pos rfl,Zmw]
   rw [if_pos rfl] at q
   refine V.imp q fun fl q=>?_
   cases fl with
   | nx ρ2=>obtain ⟨e',he,p'⟩:=q;exact ih e' he n ρ2 (by omega) p'
   | cnt ρ2=>obtain ⟨e',he,p'⟩:=q;exact ih e' he n ρ2 (by omega) p'
   | brk ρ2=>exact q
   | ret d=>exact q
@[simp] theorem Zio (i:Nat)(s:FS)(x:D)(ρ:Env):turn (Zn i) s x ρ=s (ρ.set i (some x)):=(rfl)
@[simp] theorem ev_fJoin (a b:FE)(ρ:Env):fJoin a b ρ=(a ρ).bind fun x=>match x with | .str s=>(b ρ).bind fun y=>oR (Xjr (.str s) y) | _=>.bad:=(rfl)
@[simp] theorem calm_bad {α:Type}:(R.bad:R α).calm=.bad:=(rfl)
@[simp] theorem gLst_7 (a0 a1 a2 a3 a4 a5 a6:D):Zae [a0,a1,a2,a3,a4,a5,a6]=some (.lst [a0,a1,a2,a3,a4,a5,a6]):=rfl
@[simp] theorem gLst_8 (a0 a1 a2 a3 a4 a5 a6 a7:D):Zae [a0,a1,a2,a3,a4,a5,a6,a7]=some (.lst [a0,a1,a2,a3,a4,a5,a6,a7]):=rfl
@[simp] theorem gLst_9 (a0 a1 a2 a3 a4 a5 a6 a7 a8:D):Zae [a0,a1,a2,a3,a4,a5,a6,a7,a8]=some (.lst [a0,a1,a2,a3,a4,a5,a6,a7,a8]):=rfl
theorem add_str {x y:Str}{n m:Nat}(h:plain n x=true)(g:plain m y=true)(e:n+m≤1000):Jj (.str x) (.str y)=some (.str (x++y)):=by
 unfold Jj
 simp only []
 unfold plain at h g
 rw [Bool.and_eq_true] at h g
 have:=of_decide_eq_true h.1
 have:=of_decide_eq_true g.1
 rw [if_pos (by show _≤1000000;omega)]
noncomputable def eL:Nat→List Int→List D
 | _,[]=>[]
 | k,w::r=>.tup [.int (k:Int),.int w]::eL (k+1) r
theorem neX {d:D}(h:dep d≤20):gNe d d=some (.bl false):=by
 have hs:=Zrh h
 simp only [gEq] at hs
 rw [if_pos ⟨h,h⟩] at hs
 have:eqv d d=true:=by simpa using hs
 simp only [gNe]
 rw [if_pos ⟨h,h⟩,this]
 rfl
theorem depI (ws:List Int):dep (iD ws)≤20:=by
 have:=Zxo ws
 omega
noncomputable def rg (k n:Nat):List D:=(List.range' k n).map fun (j:Nat)=>D.int (0+(j:Int))
@[simp] theorem ev_jZip (a b:FE)(ρ:Env):Xht a b ρ=(a ρ).bind fun x=>(b ρ).bind fun y=>match x,y with
 | .lst xs,.lst ys=>if xs.length≤lim∧ys.length≤lim then .ok (Zws xs ys) else .bad
 | _,_=>.bad:=(rfl)
@[simp] theorem Xkr (i j:Nat)(g:D→D→Option D)(a:FE)(ρ:Env):Znn i j g a ρ=(a ρ).bind fun x=>Zuq i j g x ρ:=(rfl)
@[simp] theorem ev_sDrop (e:FE)(ρ:Env):sDrop e ρ=(e ρ).bind fun _=>.ok (.nx ρ):=(rfl)
@[simp] theorem Xmi (a b:FE)(ρ:Env):Xmv a b ρ=(a ρ).bind fun x=>match x with | .lst ds=>(b ρ).bind fun y=>oR (Xdl (.lst ds) y) | _=>.bad:=(rfl)
theorem Zlr {α β:Type}(f:α→D)(g:β→D)(xs:List α)(ys:List β):Zws (xs.map f) (ys.map g)=(xs.zip ys).map fun x=>.tup [f x.1,g x.2]:=by
 unfold Zws
 rw [List.zipWith_map,List.zip,List.map_zipWith]
noncomputable def rsD (rs:List (List Int)):D:=.lst (rs.map iD)
theorem Xgq (rs:List (List Int)):dep (rsD rs)≤2:=by
 rw [rsD,dep]
 have:=Zfo (f:=iD) Zxo rs
 omega
theorem Zdk {α:Type}{f:α→D}{xs:List α}{n:Nat}(h:xs.length≤n)(hn:n≤1000000:=by omega):(xs.map f).length≤lim:=by
 rw [length_map]
 show _≤1000000
 omega
theorem Zvh (ws:List Int):Zjk [iD ws]=some (iD ws):=by simp [Zjk,iD]
theorem Xin (ks:List Kd):Zjk [tD ks]=some (tD ks):=by simp [Zjk,tD]
theorem Zqt (ws:List Int):Jk [iD ws]=some (.int ws.length):=by simp [iD]
theorem Zlz (ks:List Kd):Jk [tD ks]=some (.int ks.length):=by simp [tD]
theorem Zwd (rs:List (List Int)):Jk [rsD rs]=some (.int rs.length):=by simp [rsD]
theorem Znd {ws:List Int}{k:Nat}(h:k<ws.length):gIx (iD ws) (.int (k:Int))=some (.int (ws.getD k 0)):=Zac rfl h
theorem Xmo {ks:List Kd}{k:Nat}(h:k<ks.length):gIx (tD ks) (.int (k:Int))=some (kD ks[k]):=ix_l (k:=k) rfl (by rw [getElem?_map,getElem?_eq_getElem h];rfl)
theorem Zwe {ws:List Int}{v:Int}(h:ws≠[])(e:ws.getD (ws.length - 1) 0=v):gIx (iD ws) (.int (-1))=some (.int v):=by
 have:=Zqa h
 rw [e] at this
 exact this
noncomputable def ptd (ks:List Kd)(ps:List Int):List Kd:=((ks.zip ps).filter fun x=>decide (0<x.2)).map fun x=>{x.1 with wo:=x.2}
theorem Zyf {ks:List Kd}{ps:List Int}(h:∀k∈ks,1≤k.w):∀k∈ptd ks ps,1≤k.w:=fun k hk=>by
 obtain ⟨x,hx,rfl⟩:=List.mem_map.mp hk
 exact h x.1 (of_mem_zip (List.mem_filter.mp hx).1).1
theorem Zin (ks:List Kd)(ps:List Int):(ptd ks ps).length≤ks.length:=by
 unfold ptd
 rw [length_map]
 refine le_trans (length_filter_le _ _) ?_
 rw [length_zip]
 omega
theorem Zka (ks:List Kd)(ps:List Int)(hk:ks.length≤1000)(hp:ps.length≤1000):Zaw [tD ks,iD ps]=.ok (tD (ptd ks ps)):=by
 have hc:Yr 2 (Zdb (Xh (Zn 2) (Xh (Zn 3) Zcv))) (cE (f2 gGt (fV 3) (fC (.int 0)))) (fA Zdy (Zc (f1 Xt (f2 gIx (fV 2) (fC (.int 0)))) (Zc (f1 Xt (f2 gIx (fV 2) (fC (.int 1)))) (Zc (f1 Xt (fV 3)) (Zc (f1 Xt (f2 gIx (fV 2) (fC (.int 3)))) Zt))))) [some (tD ks),some (iD ps)] ((ks.zip ps).map fun x=>.tup [kD x.1,.int x.2])=.ok (((ks.zip ps).filter fun x=>decide (0<x.2)).map fun x=>kD {x.1 with wo:=x.2}):=
  Xnr rfl fun x _=>⟨by simp,fun _=>by simp [kD]⟩
 have hz:=Zlr kD D.int ks ps
 rw [← hz] at hc
 have l1:(ks.map kD).length≤lim:=Zdk hk
 have l2:(ps.map D.int).length≤lim:=Zdk hp
 have e1:tD ks=.lst (ks.map kD):=rfl
 have e2:iD ps=.lst (ps.map D.int):=rfl
 have e3:tD (ptd ks ps)=.lst (((ks.zip ps).filter fun x=>decide (0<x.2)).map fun x=>kD {x.1 with wo:=x.2}):=by rw [tD,ptd,map_map];rfl
 rw [e1,e2] at hc ⊢
 rw [e3]
 generalize (((ks.zip ps).filter fun x=>decide (0<x.2)).map fun x=>kD {x.1 with wo:=x.2})=RR at *
 generalize ks.map kD=KK at *
 generalize ps.map D.int=PP at *
 simp [Zaw,Zmb,l1,l2,hc]
theorem Zhv (ks:List Kd)(ps:List Int)(hk:ks.length≤1000)(hp:ps.length=ks.length):Yh [tD ks,iD ps]=.ok (tD (ptd ks ps)):=by
 have loop:V (Zdc (Zn 3) Js (Zcj 0 ks.length) [some (tD ks),some (iD ps),some (.lst []),none,none,none,none,none]) (fun fl=>∃o3 o4 o5 o6 o7,fl=.nx [some (tD ks),some (iD ps),some (tD (ptd ks ps)),o3,o4,o5,o6,o7]):=by
  refine Zht (P:=fun i ρ=>∃o3 o4 o5 o6 o7,ρ=[some (tD ks),some (iD ps),some (tD (ptd (ks.take i) (ps.take i))),o3,o4,o5,o6,o7]) ⟨none,none,none,none,none,rfl⟩ ?_ ?_
  ·rintro i ρ hi ⟨o3,o4,o5,o6,o7,rfl⟩
   have i1:=Xmo hi
   have i2:=Znd (ws:=ps) (k:=i) (by omega)
   have et:ks.take (i+1)=ks.take i++[ks[i]]:=by rw [take_add_one,getElem?_eq_getElem hi];rfl
   have ep:ps.take (i+1)=ps.take i++[ps.getD i 0]:=by rw [take_add_one,getElem?_eq_getElem (by omega),getD_eq_getElem?_getD,getElem?_eq_getElem (by omega)];rfl
   have es:ptd (ks.take (i+1)) (ps.take (i+1))=ptd (ks.take i) (ps.take i)++if 0<ps.getD i 0 then [{ks[i] with wo:=ps.getD i 0}] else []:=by
    rw [et,ep]
    unfold ptd
    rw [List.zip_append (by rw [length_take,length_take];omega),List.filter_append,map_append]
    by_cases h:0<ps.getD i 0
    ·simp [-getD_eq_getElem?_getD,h]
    ·simp [-getD_eq_getElem?_getD,h]
   have hl:=Zin (ks.take i) (ps.take i)
   rw [length_take] at hl
   have hlm:((ptd (ks.take i) (ps.take i)).map kD).length<lim:=by rw [length_map];show _<1000000;omega
   have e0:tD (ptd (ks.take i) (ps.take i))=.lst ((ptd (ks.take i) (ps.take i)).map kD):=rfl
   have bj:Zdb (Xh (Zn 4) (Xh (Zn 5) (Xh (Zn 6) (Xh (Zn 7) Zcv)))) (kD ks[i])=fun ρ=>.ok ((((ρ.set 4 (some (.str ks[i].name))).set 5 (some (.int ks[i].w))).set 6 (some (.int ks[i].wo))).set 7 (some (.int ks[i].al))):=rfl
   have f1_:=Zzn ks[i]
   rw [es]
   by_cases h:0<ps.getD i 0
   ·rw [if_pos h]
    have e1:tD (ptd (ks.take i) (ps.take i)++[{ks[i] with wo:=ps.getD i 0}])=.lst ((ptd (ks.take i) (ps.take i)).map kD++[.tup [.str ks[i].name,.int ks[i].w,.int (ps.getD i 0),.int ks[i].al]]):=by rw [tD,map_append];rfl
    rw [e1,e0]
    generalize (ptd (ks.take i) (ps.take i)).map kD=PP at *
    generalize ps.getD i 0=v at *
    generalize kD ks[i]=KK at *
    generalize ks[i]=kk at *
    generalize tD ks=T at *
    generalize iD ps=A at *
    generalize (i:Int)=I at *
    simp [Js,i1,i2,f1_,bj,h,hlm]
   ·rw [if_neg h,append_nil]
    generalize tD (ptd (ks.take i) (ps.take i))=PP at *
    generalize ps.getD i 0=v at *
    generalize kD ks[i]=KK at *
    generalize ks[i]=kk at *
    generalize tD ks=T at *
    generalize iD ps=A at *
    generalize (i:Int)=I at *
    simp [Js,i1,i2,f1_,bj,h]
  ·rintro ρ ⟨o3,o4,o5,o6,o7,rfl⟩
   rw [List.take_length,← hp,List.take_length]
   exact ⟨o3,o4,o5,o6,o7,rfl⟩
 obtain ⟨fl,e,o3,o4,o5,o6,o7,rfl⟩:=loop.ex
 have lt:=Zlz ks
 have b1:-1000000000≤(ks.length:Int)∧(ks.length:Int)≤1000000:=by omega
 generalize hR:tD (ptd ks ps)=RR at *
 generalize tD ks=T at *
 generalize iD ps=A at *
 simp [Yh,Zeg,lt,b1,e]
noncomputable def dot (os ps:List Int):Int:=((os.zip ps).map fun x=>x.1*x.2).sum
theorem Zol (os ps:List Int)(ho:os.length≤1000)(hp:ps.length≤1000)(hs:∀o∈os,-(2 ^ 64)<o∧o<2 ^ 64):Zbf [iD os,iD ps]=.ok (.int (dot os ps)):=by
 have hc:Yr 2 (Zdb (Xh (Zn 2) (Xh (Zn 3) Zcv))) Zbm (f2 Zai (fV 2) (fV 3)) [some (iD os),some (iD ps)] ((os.zip ps).map fun x=>.tup [.int x.1,.int x.2])=.ok ((os.zip ps).map fun x=>.int (x.1*x.2)):=
  Xkd rfl fun x hx=>by
   have hm:Zai (.int x.1) (.int x.2)=some (.int (x.1*x.2)):=Zng (.inl (hs x.1 (of_mem_zip hx).1))
   simp [hm]
 have hz:=Zlr D.int D.int os ps
 rw [← hz] at hc
 have l1:(os.map D.int).length≤lim:=Zdk ho
 have l2:(ps.map D.int).length≤lim:=Zdk hp
 have hsum:Zvn [.lst ((os.zip ps).map fun x=>.int (x.1*x.2))]=some (.int (dot os ps)):=by
  have:=sum_ints ((os.zip ps).map fun x=>x.1*x.2)
  rw [map_map] at this
  exact this
 have e1:iD os=.lst (os.map D.int):=rfl
 have e2:iD ps=.lst (ps.map D.int):=rfl
 rw [e1,e2] at hc ⊢
 generalize ((os.zip ps).map fun x=>D.int (x.1*x.2))=RR at *
 generalize os.map D.int=KK at *
 generalize ps.map D.int=PP at *
 simp [Zbf,Zjx,l1,l2,hc,hsum]
theorem Zrd {os ps:List Int}(h:ps.length=os.length):∀i,i<os.length→(os.zip ps)[i]?=some (os.getD i 0,ps.getD i 0):=fun i hi=>by
 have hz:i<(os.zip ps).length:=by rw [length_zip];omega
 rw [getElem?_eq_getElem hz,List.getElem_zip,getD_eq_getElem?_getD,getD_eq_getElem?_getD,getElem?_eq_getElem hi,getElem?_eq_getElem (show i<ps.length by omega)]
 rfl
theorem Zmg (os ps:List Int)(ho:os.length≤1000)(hp:ps.length=os.length)(hs:∀o∈os,-(2 ^ 64)<o∧o<2 ^ 64):Yo [iD os,iD ps]=.ok (.int (dot os ps)):=by
 have hc:Yr 1 (Zn 2) Zbm (f2 Zai (f2 gIx (fV 0) (fV 2)) (f2 gIx (fV 1) (fV 2))) [some (iD os),some (iD ps)] ((List.range os.length).map fun (k:Nat)=>D.int (0+(k:Int)))=.ok ((List.range os.length).map fun k=>.int (os.getD k 0*ps.getD k 0)):=
  Zax rfl fun k hk=>by
   have hk':=List.mem_range.mp hk
   have i1:=Znd (ws:=os) hk'
   have i2:=Znd (ws:=ps) (k:=k) (by omega)
   have hm:Zai (.int (os.getD k 0)) (.int (ps.getD k 0))=some (.int (os.getD k 0*ps.getD k 0)):=Zng (.inl (Zbd hs hk'))
   generalize os.getD k 0=a at *
   generalize ps.getD k 0=b at *
   generalize iD os=A at *
   generalize iD ps=B at *
   simp [i1,i2,hm]
 have ez:((List.range os.length).map fun k=>os.getD k 0*ps.getD k 0)=(os.zip ps).map fun x=>x.1*x.2:=by
  refine List.ext_getElem? fun i=>?_
  rw [getElem?_map,getElem?_map]
  by_cases hi:i<os.length
  ·rw [Zrd hp i hi,List.getElem?_range hi]
   rfl
  ·rw [getElem?_eq_none (by rw [length_range];omega),getElem?_eq_none (by rw [length_zip];omega)]
   rfl
 have hsum:Zvn [.lst ((List.range os.length).map fun k=>.int (os.getD k 0*ps.getD k 0))]=some (.int (dot os ps)):=by
  have:=sum_ints ((List.range os.length).map fun k=>os.getD k 0*ps.getD k 0)
  rw [map_map,ez] at this
  exact this
 have lt:=Zqt os
 have b1:-1000000000≤(os.length:Int)∧(os.length:Int)≤1000000:=by omega
 have er:Zcj 0 os.length=(List.range os.length).map fun (k:Nat)=>D.int (0+(k:Int)):=rfl
 rw [← er] at hc
 generalize ((List.range os.length).map fun k=>D.int (os.getD k 0*ps.getD k 0))=RR at *
 generalize iD os=A at *
 generalize iD ps=B at *
 simp [Yo,Zff,lt,b1,hc,hsum]
noncomputable def few (need:Int):List Int→Int→Int→Int
 | [],n,t=>if need≤t then n else n+1
 | x::r,n,t=>if need≤t then n else few need r (n+1) (t+x)
theorem Xdf {need t:Int}(h:need≤t)(l:List Int)(n:Int):few need l n t=n:=by cases l<;>simp [few,h]
theorem Zmv (ss:List Int):(sortI ss).length=ss.length:=(List.mergeSort_perm ss _).length_eq
noncomputable def Xec (ss:List Int)(need:Int):Int:=few need (sortI ss).reverse 0 0
theorem Zve (ss:List Int)(need:Int)(h:ss.length<64):Zck [iD ss,.int need]=.ok (.int (Xec ss need)):=by
 obtain ⟨L,hL⟩:∃L,L=(sortI ss).reverse:=⟨_,rfl⟩
 have hl:L.length=ss.length:=by rw [hL,List.length_reverse,Zmv]
 have hs:Zjs [iD ss]=some (iD L):=by
  unfold Zjs iD
  simp only [ints_map,Option.bind_some]
  rw [if_pos h,hL]
 have hf:Xec ss need=few need L 0 0:=by rw [hL];rfl
 have loop:V (Zdc (Zn 3) Zdx (Zcj 0 (ss.length+1)) [some (iD ss),some (.int need),some (iD L),none]) (fun fl=>fl=.ret (.int (few need L 0 0))∨((few need L 0 0=ss.length+1)∧∃o,fl=.nx [some (iD ss),some (.int need),some (iD L),o])):=by
  refine Zht (P:=fun i ρ=>(if i≤ss.length then few need L 0 0=few need (L.drop i) i ((L.take i).sum) else few need L 0 0=ss.length+1)∧∃o,ρ=[some (iD ss),some (.int need),some (iD L),o]) ⟨by simp,none,rfl⟩ ?_ ?_
  ·rintro i ρ hi ⟨e,o,rfl⟩
   rw [if_pos (by omega)] at e
   have sl:gSl (iD L) none (some (i:Int))=some (iD (L.take i)):=by
    have:=Xeh L none (some (i:Int))
    rw [Xcw (by omega),toNat_natCast] at this
    exact this
   have su:Zvn [iD (L.take i)]=some (.int (L.take i).sum):=sum_ints _
   by_cases c:need≤(L.take i).sum
   ·rw [Xdf c] at e
    rw [e]
    generalize (L.take i).sum=t at *
    generalize iD (L.take i)=LT at *
    generalize iD L=LL at *
    generalize iD ss=A at *
    generalize (i:Int)=I at *
    simp [Zdx,sl,su,c]
   ·have e2:if i+1≤ss.length then few need L 0 0=few need (L.drop (i+1)) ((i+1:Nat):Int) ((L.take (i+1)).sum) else few need L 0 0=ss.length+1:=by
     by_cases hh:i+1≤ss.length
     ·rw [if_pos hh,e]
      have hi':i<L.length:=by omega
      have et:(L.take (i+1)).sum=(L.take i).sum+L[i]:=by rw [take_add_one,getElem?_eq_getElem hi',List.sum_append];show _+(L[i]+0)=_;omega
      rw [List.drop_eq_getElem_cons hi',few,if_neg c,et]
      rfl
     ·rw [if_neg hh,e,List.drop_of_length_le (by omega),few,if_neg c]
      omega
    refine V.imp (Q:=fun fl=>fl=.nx [some (iD ss),some (.int need),some (iD L),some (.int i)]) ?_ ?_
    ·generalize (L.take i).sum=t at *
     generalize iD (L.take i)=LT at *
     generalize iD L=LL at *
     generalize iD ss=A at *
     generalize (i:Int)=I at *
     simp [Zdx,sl,su,c]
    ·rintro _ rfl
     exact ⟨e2,_,rfl⟩
  ·rintro ρ ⟨e,o,rfl⟩
   rw [if_neg (by omega)] at e
   exact .inr ⟨e,o,rfl⟩
 obtain ⟨fl,e,hfl⟩:=loop.ex
 have ll:=Zqt ss
 have b1:-1000000000≤(ss.length:Int)+1∧(ss.length:Int)+1≤1000000:=by omega
 have et:((ss.length:Int)+1).toNat=ss.length+1:=by omega
 rw [hf]
 rcases hfl with rfl | ⟨e2,o,rfl⟩
 ·generalize iD ss=A at *
  generalize iD L=LL at *
  simp [Zck,Zkp,hs,ll,b1,et,e]
 ·rw [e2]
  generalize iD ss=A at *
  generalize iD L=LL at *
  simp [Zck,Zkp,hs,ll,b1,et,e]
theorem Zmi (ss:List Int)(need:Int)(h:ss.length<64):Zbs [iD ss,.int need]=.ok (.int (Xec ss need)):=by
 obtain ⟨B,hB⟩:∃B,B=sortI ss:=⟨_,rfl⟩
 have hl:B.length=ss.length:=by rw [hB,Zmv]
 have hs:Ztg [iD ss]=some (iD B):=by
  unfold Ztg iD
  simp only [ints_map,Option.bind_some]
  rw [if_pos h,hB]
 have loop:V (Zci (Zwt (cE (f2 gLt (fV 3) (fV 1))) (cE (f2 gGt (fA Jk (Zc (fV 2) Zt)) (fC (.int 0))))) Zcc 100000 [some (iD ss),some (.int need),some (iD B),some (.int 0),some (.int 0)])
   (fun fl=>∃(l:D) (t n:Int),fl=.nx [some (iD ss),some (.int need),some l,some (.int t),some (.int n)]∧Xec ss need=if t<need then n+1 else n):=by
  refine Xih (P:=fun e ρ=>∃(C:List Int) (t n:Int),e=C.length∧Xec ss need=few need C.reverse n t∧ρ=[some (iD ss),some (.int need),some (iD C),some (.int t),some (.int n)]) ?_ B.length 100000 _ (by omega) ⟨B,0,0,rfl,by rw [hB];rfl,rfl⟩
  rintro e ρ ⟨C,t,n,rfl,ef,rfl⟩
  have lc:=Zqt C
  by_cases c1:t<need
  ·rcases List.eq_nil_or_concat C with rfl | ⟨C',x,rfl⟩
   ·have lc0:Jk [iD []]=some (.int 0):=lc
    refine V.of (a:=false) ?_ ?_
    ·generalize iD ss=A at *
     generalize iD []=CC at *
     simp [c1,lc0]
    ·rw [if_neg (by decide)]
     refine ⟨_,t,n,rfl,?_⟩
     rw [ef,if_pos c1]
     show few need [] n t=n+1
     rw [few,if_neg (by omega)]
   ·rw [List.concat_eq_append] at *
    have hpos:(0:Int)<(C'++[x]).length:=by rw [length_append,length_singleton];omega
    refine V.of (a:=true) ?_ ?_
    ·generalize iD ss=A at *
     generalize iD (C'++[x])=CC at *
     generalize ((C'++[x]).length:Int)=LC at *
     simp [c1,lc,hpos]
    ·rw [if_pos rfl]
     have pp:Zuq 3 2 Jj (.int t) [some (iD ss),some (.int need),some (iD (C'++[x])),some (.int t),some (.int n)]=.ok (.nx [some (iD ss),some (.int need),some (iD C'),some (.int (t+x)),some (.int n)]):=by
      have fl:=Zea (C'++[x])
      unfold Zuq iD
      simp only [map_append,map_cons,map_nil] at fl ⊢
      simp [fl]
     refine V.imp (Q:=fun fl=>fl=.nx [some (iD ss),some (.int need),some (iD C'),some (.int (t+x)),some (.int (n+1))]) ?_ ?_
     ·generalize iD ss=A at *
      generalize iD (C'++[x])=CC at *
      generalize iD C'=CD at *
      simp [Zcc,pp]
     ·rintro _ rfl
      refine ⟨C'.length,by simp,C',t+x,n+1,rfl,?_,rfl⟩
      rw [ef,List.reverse_append]
      show few need (x::C'.reverse) n t=_
      rw [few,if_neg (by omega)]
  ·refine V.of (a:=false) ?_ ?_
   ·generalize iD ss=A at *
    generalize iD C=CC at *
    simp [c1]
   ·rw [if_neg (by decide)]
    refine ⟨_,t,n,rfl,?_⟩
    rw [ef,Xdf (by omega),if_neg c1]
 obtain ⟨fl,e,l,t,n,rfl,ef⟩:=loop.ex
 rw [ef]
 generalize iD ss=A at *
 generalize iD B=BB at *
 by_cases c:t<need
 ·simp [Zbs,Zdq,hs,e,c]
 ·simp [Zbs,Zdq,hs,e,c]
noncomputable def tops (rs:List (List Int))(ks:List Kd):List Int:=rs.map fun r=>ht r ks r.length
theorem Zrr {n:Nat}{F:List D→R D}{i j k:Nat}{ρ:Env}(hρ:ρ.length=n)(rs:List (List Int))(ks:List Kd)(hj:ρ[j]?=some (some (tD ks)))(hjn:j<n)(hF:∀r∈rs,F [iD r,tD ks]=.ok (iD (hts r ks r.length))) :
  Yr 1 (Zn n) Zbm (f1 Xt (f2 gIx (Xr F (Zc (fV n) (Zc (fV j) Zt))) (f1 Zuw (fC (.int 1))))) ρ (rs.map iD)=.ok ((tops rs ks).map D.int):=by
 have:=Zax (n:=n) (e:=f1 Xt (f2 gIx (Xr F (Zc (fV n) (Zc (fV j) Zt))) (f1 Zuw (fC (.int 1))))) (ρ:=ρ) (enc:=iD) (v:=fun r=>D.int (ht r ks r.length)) (xs:=rs) hρ fun r hr=>by
  have h1:fV n (ρ++[some (iD r)])=.ok (iD r):=by unfold fV;rw [getElem?_append_right (by omega),hρ,sub_self];rfl
  have h2:fV j (ρ++[some (iD r)])=.ok (tD ks):=by unfold fV;rw [getElem?_append_left (by omega),hj]
  have h3:=hF r hr
  have h4:gIx (iD (hts r ks r.length)) (.int (-1))=some (.int (ht r ks r.length)):=by
   refine Zwe ?_ ?_
   ·intro z
    have:=Zce r ks r.length
    rw [z] at this
    cases this
   ·rw [Zce,Nat.add_sub_cancel,Zkd r ks _ _ (le_refl _)]
  generalize iD (hts r ks r.length)=HH at *
  generalize iD r=RR at *
  generalize tD ks=T at *
  simp [h1,h2,h3,h4]
 rw [this,tops,map_map]
 rfl
theorem Zia (rs:List (List Int))(ks:List Kd)(os ps:List Int)(hr:rs.length<64)(hc:∀r∈rs,r.length≤900)(hk:ks.length≤1000)(hw:∀k∈ks,1≤k.w)(ho:os.length≤1000)(hp:ps.length≤1000)(hs:∀o∈os,-(2 ^ 64)<o∧o<2 ^ 64) :
  Jx [rsD rs,tD ks,iD os,iD ps]=.ok (.int (Xec (tops rs (ptd ks ps)) (dot os ps))):=by
 have h1:=Zka ks ps hk hp
 have h2:=Zol os ps ho hp hs
 have hl:=Zin ks ps
 have h3:=Zrr (F:=Zab) (n:=5) (j:=4) (i:=0) (k:=0) (ρ:=[some (rsD rs),some (tD ks),some (iD os),some (iD ps),some (tD (ptd ks ps))]) rfl rs (ptd ks ps) rfl (by omega) fun r hr=>Zjo r (ptd ks ps) (hc r hr) (by omega) (Zyf hw)
 have h4:=Zve (tops rs (ptd ks ps)) (dot os ps) (by unfold tops;rw [length_map];exact hr)
 have e1:rsD rs=.lst (rs.map iD):=rfl
 have lr:(rs.map iD).length≤lim:=Zdk (n:=64) (by omega)
 have e2:iD (tops rs (ptd ks ps))=.lst ((tops rs (ptd ks ps)).map D.int):=rfl
 rw [e2] at h4
 rw [e1] at h3 ⊢
 generalize (tops rs (ptd ks ps)).map D.int=TT at *
 generalize rs.map iD=RR at *
 generalize tD (ptd ks ps)=TP at *
 generalize tD ks=T at *
 generalize iD os=O at *
 generalize iD ps=P at *
 simp [Jx,Zjm,h1,h2,lr,h3,h4]
theorem Zza (ns:List Int)(hn:ns.length≤63){i m c fl:Int}(h0:0≤i)(m0:0≤m)(h1:i+m<1000)(c0:0≤c)(c1:c≤200)(f0:1≤fl)(f1:fl≤100000000000000000) :
  ∃rs,Jw [.scr ns,.int i,.int m,.int c,.int fl]=.ok (rsD rs)∧(rs.length:Int)=m∧∀r∈rs,(r.length:Int)≤c∧∀w∈r,0≤w∧w≤1000000000000000000:=by
 have loop:V (Zdc (Zn 6) Zcf (Zcj 0 m.toNat) [some (.scr ns),some (.int i),some (.int m),some (.int c),some (.int fl),some (.lst []),none]) (fun f=>∃(rs:List (List Int)) (o:Option D),f=.nx [some (.scr ns),some (.int i),some (.int m),some (.int c),some (.int fl),some (rsD rs),o]∧(rs.length:Int)=m∧∀r∈rs,(r.length:Int)≤c∧∀w∈r,0≤w∧w≤1000000000000000000):=by
  refine Zht (P:=fun k ρ=>∃(rs:List (List Int)) (o:Option D),ρ=[some (.scr ns),some (.int i),some (.int m),some (.int c),some (.int fl),some (rsD rs),o]∧rs.length=k∧∀r∈rs,(r.length:Int)≤c∧∀w∈r,0≤w∧w≤1000000000000000000) ⟨[],none,rfl,rfl,by simp⟩ ?_ ?_
  ·rintro k ρ hk ⟨rs,o,rfl,hl,hp⟩
   obtain ⟨ws,hw,hwl,hwb⟩:=Xgd ns hn (i:=i+k) (m:=c) (fl:=fl) (by omega) (by omega) c0 c1 f0 f1
   have hlm:(rs.map iD).length<lim:=by rw [length_map];show _<1000000;omega
   have e0:rsD rs=.lst (rs.map iD):=rfl
   refine V.imp (Q:=fun f=>f=.nx [some (.scr ns),some (.int i),some (.int m),some (.int c),some (.int fl),some (.lst (rs.map iD++[iD ws])),some (.int k)]) ?_ ?_
   ·rw [e0]
    generalize rs.map iD=RR at *
    generalize iD ws=W at *
    generalize (k:Int)=K at *
    simp [Zcf,hw,hlm]
   ·rintro _ rfl
    refine ⟨rs++[ws],_,by rw [rsD,map_append];rfl,by simp [hl],fun r hr=>?_⟩
    rcases List.mem_append.mp hr with q | q
    ·exact hp r q
    ·rw [List.mem_singleton.mp q]
     exact ⟨hwl,hwb⟩
  ·rintro ρ ⟨rs,o,rfl,hl,hp⟩
   exact ⟨rs,o,rfl,by omega,hp⟩
 obtain ⟨f,e,rs,o,rfl,hl,hp⟩:=loop.ex
 refine ⟨rs,?_,hl,hp⟩
 have b1:-1000000000≤m∧m≤1000000:=by omega
 generalize rsD rs=RR at *
 simp [Jw,Zgm,b1,e]
theorem Xcu (ns:List Int)(hn:ns.length≤63){i c m:Int}(h0:0≤i)(h1:i<1000)(c0:0≤c)(c1:c≤8)(m0:1≤m)(m1:m≤1000000) :
    ∃os,Zdg [.scr ns,.int i,.int c,.int m]=.ok (iD os)∧(os.length:Int)=c∧∀o∈os,0≤o∧o<m:=by
  obtain ⟨qs,hrow,hqs⟩:=Zns ns hn (i:=i) h0 h1 (3::(List.replicate 8 [m,4]).flatten) (by rw [length_cons,Zcn];simp) (fun x hx=>by
    rcases List.mem_cons.mp hx with rfl | hx
    · decide
    · have:=Zph hx
      simp only [mem_cons,not_mem_nil,or_false] at this
      rcases this with rfl | rfl
      · exact ⟨by omega,Int.lt_of_le_of_lt m1 (by decide)⟩
      · decide)
  have hm8:Zai (.lst [.int m,.int 4]) (.int 8)=some (iD (List.replicate 8 [m,4]).flatten):=Zos (ws:=[m,4]) (m:=8) (by omega) (by omega) (by simp)
  have ha:Jj (.lst [.int 3]) (iD (List.replicate 8 [m,4]).flatten)=some (iD (3::(List.replicate 8 [m,4]).flatten)):=Zhl (xs:=[3]) (by rw [Zcn];simp)
  have hql:qs.length=17:=by rw [hqs.len,length_cons,Zcn];rfl
  have bq:∀k:Nat,k<8→0≤qs.getD (2*k+1) 0∧qs.getD (2*k+1) 0<m:=fun k hk=>by
    have:=hqs.at_ (2*k+1) (by rw [length_cons,Zcn];simp;omega)
    have e:(3::(List.replicate 8 [m,4]).flatten).getD (2*k+1) 0=m:=by
      rw [List.getD_cons_succ]
      exact (Zlo m 4 8 k hk).1
    rw [e] at this
    exact this
  have loop:V (Zdc (Zn 6) Jb (Zcj 0 c.toNat) [some (.scr ns),some (.int i),some (.int c),some (.int m),some (iD qs),some (.lst []),none,none]) (fun f=>∃(os:List Int) (o6 o7:Option D),f=.nx [some (.scr ns),some (.int i),some (.int c),some (.int m),some (iD qs),some (iD os),o6,o7]∧(os.length:Int)=c∧∀o∈os,0≤o∧o<m):=by
    refine Zht (P:=fun k ρ=>∃(os:List Int) (o6 o7:Option D),ρ=[some (.scr ns),some (.int i),some (.int c),some (.int m),some (iD qs),some (iD os),o6,o7]∧os.length=k∧∀o∈os,0≤o∧o<m) ⟨[],none,none,rfl,rfl,by simp⟩ ?_ ?_
    · rintro k ρ hk ⟨os,o6,o7,rfl,hl,hp⟩
      have mu:Zai (.int 2) (.int (k:Int))=some (.int (2*(k:Int))):=Zng (by omega)
      have i0:gIx (iD qs) (.int 0)=_:=Znd (ws:=qs) (k:=0) (by omega)
      have i1:=Znd (ws:=qs) (k:=2*k+1) (by omega)
      have i2:=Znd (ws:=qs) (k:=2*k+2) (by omega)
      have b:=bq k (by omega)
      rw [show ((2*k+1:Nat):Int)=2*(k:Int)+1 by omega] at i1
      rw [show ((2*k+2:Nat):Int)=2*(k:Int)+2 by omega] at i2
      have hlm:(os.map D.int).length<lim:=by rw [length_map];show _<1000000;omega
      have e0:iD os=.lst (os.map D.int):=rfl
      have fin:∀v:Int,0≤v∧v<m→∀fl,fl=Fl.nx [some (.scr ns),some (.int i),some (.int c),some (.int m),some (iD qs),some (.lst (os.map D.int++[.int v])),some (.int k),some (.int v)]→Tn (fun ρ=>∃(os:List Int) (o6 o7:Option D),ρ=[some (.scr ns),some (.int i),some (.int c),some (.int m),some (iD qs),some (iD os),o6,o7]∧os.length=k+1∧∀o∈os,0≤o∧o<m) (fun f=>∃(os:List Int) (o6 o7:Option D),f=.nx [some (.scr ns),some (.int i),some (.int c),some (.int m),some (iD qs),some (iD os),o6,o7]∧(os.length:Int)=c∧∀o∈os,0≤o∧o<m) fl:=by
        rintro v hv fl rfl
        refine ⟨os++[v],_,_,by rw [show iD (os++[v])=.lst (os.map D.int++[.int v]) by simp [iD]],by simp [hl],fun o ho=>?_⟩
        rcases List.mem_append.mp ho with q | q
        · exact hp o q
        · rw [List.mem_singleton.mp q];exact hv
      by_cases c1:qs.getD (2*k+2) 0=0
      · refine V.imp ?_ (fin 0 ⟨by omega,by omega⟩)
        rw [e0]
        generalize os.map D.int=OO at *
        generalize qs.getD (2*k+2) 0=q2 at *
        generalize qs.getD (2*k+1) 0=q1 at *
        generalize qs.getD 0 0=q0 at *
        generalize iD qs=QQ at *
        generalize (k:Int)=K at *
        simp [Jb,mu,i0,i1,i2,c1,hlm]
      · by_cases c2:qs.getD 0 0=0∧1<(k:Int)
        · refine V.imp ?_ (fin 0 ⟨by omega,by omega⟩)
          rw [e0]
          generalize os.map D.int=OO at *
          generalize qs.getD (2*k+2) 0=q2 at *
          generalize qs.getD (2*k+1) 0=q1 at *
          generalize qs.getD 0 0=q0 at *
          generalize iD qs=QQ at *
          generalize (k:Int)=K at *
          simp [Jb,mu,i0,i1,i2,c1,c2.1,c2.2,hlm]
        · refine V.imp ?_ (fin _ b)
          rw [e0]
          have c3:qs.getD 0 0=0→¬1<(k:Int):=fun h1 h2=>c2 ⟨h1,h2⟩
          generalize os.map D.int=OO at *
          generalize qs.getD (2*k+2) 0=q2 at *
          generalize qs.getD (2*k+1) 0=q1 at *
          generalize qs.getD 0 0=q0 at *
          generalize iD qs=QQ at *
          generalize (k:Int)=K at *
          by_cases c4:q0=0
          · simp [Jb,mu,i0,i1,i2,c1,c4,c3 c4,hlm]
          · simp [Jb,mu,i0,i1,i2,c1,c4,hlm]
    · rintro ρ ⟨os,o6,o7,rfl,hl,hp⟩
      exact ⟨os,o6,o7,rfl,by omega,hp⟩
  obtain ⟨f,e,os,o6,o7,rfl,hl,hp⟩:=loop.ex
  refine ⟨os,?_,hl,hp⟩
  have b1:-1000000000≤c∧c≤1000000:=by omega
  generalize iD os=OO at *
  generalize iD qs=QQ at *
  generalize iD (List.replicate 8 [m,4]).flatten=R8 at *
  generalize iD (3::(List.replicate 8 [m,4]).flatten)=R17 at *
  simp [Zdg,Zgo,hm8,ha,hrow,b1,e]
theorem Zfk {i:Nat}{s:FS}{α S:Type}{enc:α→D}{t:α→Bool}{d:D}{ρ:S→Env}:∀(xs:List α) (st:S),
  (∀x∈xs,∀st,(t x=true→s ((ρ st).set i (some (enc x)))=.ok (.ret d))∧(t x=false→∃st',s ((ρ st).set i (some (enc x)))=.ok (.nx (ρ st'))))→
  (xs.any t=true→Zdc (Zn i) s (xs.map enc) (ρ st)=.ok (.ret d))∧(xs.any t=false→∃st',Zdc (Zn i) s (xs.map enc) (ρ st)=.ok (.nx (ρ st')))
 | [],st,_=>⟨(fun h=>nomatch h),fun _=>⟨st,rfl⟩⟩
 | x::xs,st,h=>by
  obtain ⟨h1,h2⟩:=h x (.head _) st
  have hs:Zdc (Zn i) s ((x::xs).map enc) (ρ st)=(s ((ρ st).set i (some (enc x)))).bind fun fl=>match fl with | .nx ρ2=>Zdc (Zn i) s (xs.map enc) ρ2 | .cnt ρ2=>Zdc (Zn i) s (xs.map enc) ρ2 | .brk ρ2=>.ok (.nx ρ2) | .ret d=>.ok (.ret d):=rfl
  cases q:t x with
  | true =>
   refine ⟨fun _=>by rw [hs,h1 q];rfl,fun e=>?_⟩
   rw [any_cons,q] at e
   cases e
  | false =>
   obtain ⟨st',e'⟩:=h2 q
   obtain ⟨k1,k2⟩:=Zfk xs st' fun x hx=>h x (.tail _ hx)
   rw [hs,e',any_cons,q]
   exact ⟨k1,k2⟩
theorem Xcf (ws:List Int):Jk [iD ws]=some (.int ws.length):=congrArg (fun n:Nat=>some (D.int n)) (length_map D.int)
theorem Zzw {n m:Nat}(h:n≤m)(hm:m≤1000000:=by decide):-1000000000≤(n:Int)∧(n:Int)≤1000000:=⟨Int.le_trans (by decide) (Int.natCast_nonneg _),Int.ofNat_le.mpr (le_trans h hm)⟩
noncomputable def upB (ns qs:List Int)(k:Kd)(p:Nat):Bool:=good ns k (p:Int)&&decide (pre qs ((p:Int)+k.w).toNat - pre qs p<k.wo)
noncomputable def negB (qs:List Int):Bool:=qs.any fun q=>decide (q<0)
noncomputable def Xhy (ns:List Int)(ks:List Kd)(qs:List Int):Bool:=ks.any fun k=>(List.range ns.length).any (upB ns qs k)
noncomputable def Zsi (ns:List Int)(ks:List Kd)(qs:List Int):Bool:=decide (qs.length=ns.length)&&(!negB qs&&!Xhy ns ks qs)
theorem Zwk {α:Type}(l:List α)(f:α→Bool):Zyl [.lst (l.map fun x=>D.bl (f x))]=some (.bl (l.all f)):=by
 have:(l.map fun x=>D.bl (f x))=(l.map f).map D.bl:=by rw [map_map];rfl
 rw [this,all_bools,List.all_map]
 rfl
theorem Xfw (n:Nat):Zcj 0 n=(List.range n).map fun c:Nat=>D.int (c:Int):=by
 show (List.range n).map (fun c:Nat=>D.int (0+(c:Int)))=_
 refine map_congr_left fun c _=>?_
 rw [zero_add]
theorem Xam {i j:Int}(h:i=j):gNe (.int i) (.int j)=some (.bl false):=(Xli _ _).trans (congrArg (fun b=>some (D.bl (!b))) (decide_eq_true h))
theorem Xoj {i j:Int}(h:¬i=j):gNe (.int i) (.int j)=some (.bl true):=(Xli _ _).trans (congrArg (fun b=>some (D.bl (!b))) (decide_eq_false h))
structure Pays (ns:List Int)(ks:List Kd)(qs:List Int):Prop where
 len:qs.length=ns.length
 nn:∀q∈qs,0≤q
 pay:∀k∈ks,∀p:Nat,good ns k (p:Int)=true→k.wo≤pre qs ((p:Int)+k.w).toNat - pre qs p
theorem Pays.b {ns:List Int}{ks:List Kd}{qs:List Int}(h:Pays ns ks qs):Zsi ns ks qs=true:=by
 have h1:negB qs=false:=List.any_eq_false.mpr fun q hq=>by
  rw [decide_eq_false (Int.not_lt.mpr (h.nn q hq))]
  exact Bool.false_ne_true
 have h2:Xhy ns ks qs=false:=List.any_eq_false.mpr fun k hk=>by
  have:(List.range ns.length).any (upB ns qs k)=false:=List.any_eq_false.mpr fun p _=>by
   unfold upB
   cases hg:good ns k (p:Int) with
   | false=>exact Bool.false_ne_true
   | true =>
    rw [decide_eq_false (Int.not_lt.mpr (h.pay k hk p hg))]
    exact Bool.false_ne_true
  rw [this]
  exact Bool.false_ne_true
 unfold Zsi
 rw [decide_eq_true h.len,h1,h2]
 rfl
theorem Xcr (ns:List Int)(ks:List Kd)(hw:∀k∈ks,1≤k.w):Pays ns ks (prL ns ks):=by
 refine ⟨Zhq ns ks,fun q hq=>?_,fun k hkm p hg=>?_⟩
 ·obtain ⟨c,-,rfl⟩:=List.mem_map.mp hq
  exact Int.sub_nonneg_of_le (Xeg ns ks hw c)
 ·have bd:=Zge hg
  have hw1:=hw k hkm
  have:=Xig ns ks hw hkm hg
  rw [Zlc ns ks _ (by omega),Zlc ns ks _ (by omega)]
  rw [toNat_natCast] at this
  omega
theorem Ztw (qs:List Int){j:Nat}(h:j≤qs.length){i:Int}(e:i=(j:Int)):gIx (iD (Yl qs)) (.int i)=some (.int (pre qs j)):=by
 have:=Zac (ns:=Yl qs) e (by rw [Zfa];exact Nat.lt_succ_of_le h)
 rw [Zpf qs h] at this
 exact this
theorem Zuo (qs:List Int):gIx (iD (Yl qs)) (.int (-1))=some (.int qs.sum):=by
 refine Zwe (fun z=>?_) ?_
 ·have:=congrArg List.length z
  rw [Zfa] at this
  cases this
 ·rw [Zfa,Nat.add_sub_cancel,Zpf qs (le_refl _),pre,take_of_length_le (le_refl _)]
theorem Zts (ns:List Int)(ks:List Kd)(qs:List Int)(hn:ns.length≤900)(hq:qs.length≤900)(hk:ks.length≤1000)(hw:∀k∈ks,1≤k.w):Zau [iD ns,tD ks,iD qs]=.ok (if Zsi ns ks qs=true then .int qs.sum else .non):=by
 have l1:=Xcf qs
 have l2:=Xcf ns
 by_cases hl:qs.length=ns.length
 ·have first:sIf (cE (f2 gNe (fA Jk (Zc (fV 2) Zt)) (fA Jk (Zc (fV 0) Zt)))) (Jy (fC .non)) sNx [some (iD ns),some (tD ks),some (iD qs),none,none,none,none,none]=.ok (.nx [some (iD ns),some (tD ks),some (iD qs),none,none,none,none,none]):=
   Jf (Jo (Zo (Jt (Zd rfl rfl) l1) (Jt (Zd rfl rfl) l2) (Xam (by rw [hl])))) rfl
  have hqs:(qs.map D.int).length≤lim:=by rw [length_map];exact le_trans hq (by decide)
  obtain ⟨f1,f2'⟩:=Zfk (i:=3) (s:=Zej) (enc:=D.int) (t:=fun q:Int=>decide (q<0)) (d:=.non) (ρ:=fun o:Option D=>[some (iD ns),some (tD ks),some (iD qs),o,none,none,none,none]) qs none fun q _ o=>by
   refine ⟨fun z=>?_,fun z=>⟨some (.int q),?_⟩⟩
   ·exact Zcq (Jo (Zo rfl rfl (Zod (of_decide_eq_true z)))) (Zah rfl)
   ·exact Jf (Jo (Zo rfl rfl (Zoc (of_decide_eq_false z)))) rfl
  unfold Zsi
  rw [decide_eq_true hl,Bool.true_and]
  cases hg:negB qs with
  | true=>exact Zag (Zq first (Zgp (Zdt (Ji rfl hqs) (f1 hg))))
  | false =>
   obtain ⟨o3,f3⟩:=f2' hg
   have s1:=Zpm ns (le_trans hn (by decide))
   have s2:=Zpm qs (le_trans hq (by decide))
   have hkl:(ks.map kD).length≤lim:=by rw [length_map];exact le_trans hk (by decide)
   have b1:=Zzw hn
   obtain ⟨g1,g2⟩:=Zfk (i:=6) (s:=Zel) (enc:=kD) (t:=fun k=>(List.range ns.length).any (upB ns qs k)) (d:=.non) (ρ:=fun o:Option D×Option D=>[some (iD ns),some (tD ks),some (iD qs),o3,some (iD (Yl ns)),some (iD (Yl qs)),o.1,o.2]) ks (none,none) fun k hkm o=>by
    obtain ⟨w,hwn⟩:=Int.eq_ofNat_of_zero_le (Int.le_trans (by decide) (hw k hkm))
    obtain ⟨h1,h2⟩:=Zfk (i:=7) (s:=Zek) (enc:=fun p:Nat=>D.int (p:Int)) (t:=upB ns qs k) (d:=.non) (ρ:=fun p:Option D=>[some (iD ns),some (tD ks),some (iD qs),o3,some (iD (Yl ns)),some (iD (Yl qs)),some (kD k),p]) (List.range ns.length) o.2 fun p _ o7=>by
     have gd:=Zuu ns k (p:Int) (hw k hkm)
     unfold upB
     cases hgd:good ns k (p:Int) with
     | false =>
      rw [hgd] at gd
      exact ⟨(fun z=>nomatch z),fun _=>⟨some (.int (p:Int)),Jf (Xhh (Jo (Xi (Zd rfl (Zd rfl (Zd rfl rfl))) gd))) rfl⟩⟩
     | true =>
      rw [hgd] at gd
      have bd:=Zge hgd
      have b2:p+w≤qs.length:=by
       have:=bd.2
       rw [hwn] at this
       rw [hl]
       exact Int.ofNat_le.mp this
      have e1:((p:Int)+k.w).toNat=p+w:=by rw [hwn];rfl
      have i1:=Ztw qs b2 (i:=(p:Int)+k.w) (by rw [hwn];rfl)
      have i2:=Ztw qs (le_trans (le_add_right p w) b2) (i:=(p:Int)) rfl
      rw [e1,Bool.true_and]
      refine ⟨fun z=>?_,fun z=>⟨some (.int (p:Int)),?_⟩⟩
      ·exact Zcq (Zvo (Jo (Xi (Zd rfl (Zd rfl (Zd rfl rfl))) gd)) (Jo (Zo (Zo (Zo rfl (Zo rfl (Zo rfl rfl (Zso k)) rfl) i1) (Zo rfl rfl i2) rfl) (Zo rfl rfl (Xjg k)) (Zod (of_decide_eq_true z))))) (Zah rfl)
      ·exact Jf (Zvo (Jo (Xi (Zd rfl (Zd rfl (Zd rfl rfl))) gd)) (Jo (Zo (Zo (Zo rfl (Zo rfl (Zo rfl rfl (Zso k)) rfl) i1) (Zo rfl rfl i2) rfl) (Zo rfl rfl (Xjg k)) (Zoc (of_decide_eq_false z))))) rfl
    rw [← Xfw] at h1 h2
    refine ⟨fun z=>Zdt (Zjj (Zd (Jt (Zd rfl rfl) l2) rfl) b1) (h1 z),fun z=>?_⟩
    obtain ⟨p',h3⟩:=h2 z
    exact ⟨(some (kD k),p'),Zdt (Zjj (Zd (Jt (Zd rfl rfl) l2) rfl) b1) h3⟩
   cases ho:Xhy ns ks qs with
   | true=>exact Zag (Zq first (Zq (Zdt (Ji rfl hqs) f3) (Zq (Xn (Xi (Zd rfl rfl) s1)) (Zq (Xn (Xi (Zd rfl rfl) s2)) (Zgp (Zdt (Ji rfl hkl) (g1 ho)))))))
   | false =>
    obtain ⟨o,f4⟩:=g2 ho
    exact Zag (Zq first (Zq (Zdt (Ji rfl hqs) f3) (Zq (Xn (Xi (Zd rfl rfl) s1)) (Zq (Xn (Xi (Zd rfl rfl) s2)) (Zq (Zdt (Ji rfl hkl) f4) (Zah (Zfw (Zo rfl (Zfw rfl rfl) (Zuo qs)) rfl)))))))
 ·have:Zsi ns ks qs=false:=by
   unfold Zsi
   rw [decide_eq_false hl]
   rfl
  rw [this]
  exact Zag (Zgp (Zcq (Jo (Zo (Jt (Zd rfl rfl) l1) (Jt (Zd rfl rfl) l2) (Xoj fun z=>hl (Int.ofNat_inj.mp z)))) (Zah rfl)))
theorem Xga {rs:List (List Int)}{k:Nat}(h:k<rs.length):gIx (rsD rs) (.int (k:Int))=some (iD rs[k]):=ix_l (k:=k) rfl (by rw [getElem?_map,getElem?_eq_getElem h];rfl)
theorem Zzg {ρ:Env}{n:Nat}(hn:ρ.length=n)(ls:List (List Int)):Yr 1 (Zn n) Zbm (fA Zjk (Zc (fV n) Zt)) ρ (ls.map iD)=.ok (ls.map iD):=by
 refine Zax hn fun l _=>?_
 have vn:fV n (ρ++[some (iD l)])=.ok (iD l):=by
  unfold fV
  rw [getElem?_append_right (by rw [hn];exact le_refl _),hn,sub_self]
  rfl
 exact Jt (Zd vn rfl) (Zvh l)
theorem dep3 (rs:List (List Int))(ks:List Kd)(os:List Int):dep (.lst [rsD rs,tD ks,iD os])≤20:=by
 have h1:=Xgq rs
 have h2:=Xnf ks
 have h3:=Zxo os
 simp only [dep,Zja]
 omega
theorem Zpu (f:Int→Int)(ks:List Int):∀n,1≤n→n≤ks.length→∃i,i<n∧(∀j,j<n→f (ks.getD i 0)≤f (ks.getD j 0))∧∀j,j<i→f (ks.getD i 0)<f (ks.getD j 0)
  | 0,h,_=>by omega
  | 1,_,_=>⟨0,by decide,fun j hj=>by
    have:j=0:=by omega
    subst this
    exact Int.le_refl _,fun j hj=>by omega⟩
  | n+2,_,h=>by
    obtain ⟨i,h1,h2,h3⟩:=Zpu f ks (n+1) (by omega) (by omega)
    by_cases q:f (ks.getD (n+1) 0)<f (ks.getD i 0)
    · refine ⟨n+1,by omega,fun j hj=>?_,fun j hj=>?_⟩
      · by_cases e:j=n+1
        · subst e;exact Int.le_refl _
        · have:=h2 j (by omega);omega
      · have:=h2 j hj;omega
    · refine ⟨i,by omega,fun j hj=>?_,h3⟩
      by_cases e:j=n+1
      · subst e;omega
      · exact h2 j (by omega)
theorem Xen {lt:Int→Int→Bool}(f:Int→Int)(hlt:∀a b,lt a b=decide (f a<f b)){ds:List D}{ks:List Int}(hl:ds.length=ks.length)(h0:ks≠[]):∃i d,i<ks.length∧ds[i]?=some d∧Zoh lt ds ks=.ok d∧∀j,j<ks.length→f (ks.getD i 0)≤f (ks.getD j 0):=by
 have hp:1≤ks.length:=by
  cases ks with
  | nil=>exact absurd rfl h0
  | cons _ _=>simp
 obtain ⟨i0,a1,a2,a3⟩:=Zpu f ks ks.length hp (le_refl _)
 have hf0:Ziw lt ks i0=true:=by
  unfold Ziw
  rw [Bool.and_eq_true,all_eq_true,all_eq_true]
  refine ⟨fun j hj=>?_,fun j hj=>?_⟩
  ·rw [hlt,decide_eq_false (Int.not_lt.mpr (a2 j (List.mem_range.mp hj)))]
   rfl
  ·rw [hlt]
   exact decide_eq_true (a3 j (List.mem_range.mp hj))
 cases hfd:(List.range ks.length).find? (Ziw lt ks) with
 | none=>exact absurd hf0 (by rw [List.find?_eq_none.mp hfd i0 (List.mem_range.mpr a1) |> Bool.eq_false_iff.mpr];exact Bool.false_ne_true)
 | some i =>
  have h1:=List.find?_some hfd
  have h2:=List.mem_range.mp (List.mem_of_find?_eq_some hfd)
  have hd:ds[i]?=some ds[i]:=getElem?_eq_getElem (by omega)
  refine ⟨i,ds[i],h2,hd,?_,fun j hj=>?_⟩
  ·unfold Zoh
   rw [hfd]
   show oR ds[i]?=_
   rw [hd]
   rfl
  ·unfold Ziw at h1
   rw [Bool.and_eq_true,all_eq_true] at h1
   have:=h1.1 j (List.mem_range.mpr hj)
   rw [hlt] at this
   simpa using this
theorem Zqs {α:Type}{enc:α→D}{fb:FE}{fr:Env}{v:α→Int}:∀(xs:List α),(∀x∈xs,fb (some (enc x)::fr)=.ok (.int (v x)))→Zed fb fr (xs.map enc)=.ok (xs.map v)
 | [],_=>rfl
 | x::xs,h=>by
  rw [map_cons,Zed,h x (.head _),Zks,Jq]
  simp only []
  rw [Zqs xs fun y hy=>h y (.tail _ hy),Jq]
  rfl
theorem Xiv {α:Type}{enc:α→D}{lt:Int→Int→Bool}(f:Int→Int)(hlt:∀a b,lt a b=decide (f a<f b)){fe fb:FE}{js:List Nat}{ρ:Env}{xs:List α}{fs:List D}{v:α→Int}(he:fe ρ=.ok (.lst (xs.map enc)))(h0:xs≠[])(hj:Zhf js ρ=.ok fs)(hb:∀x∈xs,fb (some (enc x)::fs.map some)=.ok (.int (v x))) :
  ∃x∈xs,Zkc lt fe js fb ρ=.ok (enc x)∧∀y∈xs,f (v x)≤f (v y):=by
 obtain ⟨i,d,h1,h2,h3,h4⟩:=Xen f hlt (ds:=xs.map enc) (ks:=xs.map v) (by rw [length_map,length_map]) (fun z=>h0 (List.map_eq_nil_iff.mp z))
 rw [length_map] at h1 h4
 have hg:∀j,(hj:j<xs.length)→(xs.map v).getD j 0=v xs[j]:=fun j hj=>by rw [getD_eq_getElem?_getD,getElem?_map,getElem?_eq_getElem hj];rfl
 have hd:d=enc xs[i]:=by
  rw [getElem?_map,getElem?_eq_getElem h1] at h2
  exact (Option.some.inj h2).symm
 refine ⟨xs[i],getElem_mem h1,?_,fun y hy=>?_⟩
 ·unfold Zkc
  rw [he,Jq]
  simp only []
  have hne:(xs.map enc).isEmpty=false:=by
   cases xs with
   | nil=>exact absurd rfl h0
   | cons _ _=>rfl
  rw [hne]
  simp only [Bool.false_eq_true,if_false]
  rw [hj,Zks,Jq,Zqs xs hb,Jq,h3,hd]
 ·obtain ⟨j,hj,rfl⟩:=List.getElem_of_mem hy
  have:=h4 j hj
  rw [hg i h1,hg j hj] at this
  exact this
theorem Xok {y x:Nat}{f1 f2:FE}{ρ:Env}{d1:D}{ds:List D}(hl:y<ρ.length)(h1:f1 ρ=.ok d1)(h2:f2 (ρ.set y (some d1))=.ok (.lst ds))(hf:Yz ds=true):Zpk y x f1 f2 ρ=.ok (.nx ((ρ.set y none).set x (some (.lst ds)))):=by
 unfold Zpk
 rw [if_pos hl,h1,Jq,h2,Jq]
 exact if_pos hf
noncomputable def wos (ks:List Kd):List Int:=ks.map (·.wo)
noncomputable def Xdu (os:List Int)(ks:List Kd):List Int:=(os.zip (wos ks)).map fun x=>if 0<x.1 then 0 else x.2
theorem Xgl (ws:List Int):Yz (ws.map D.int)=true:=Zfh (fun _=>rfl) _
theorem Zwn (ks:List Kd):(wos ks).length=ks.length:=length_map _
noncomputable def tryL (os:List Int)(ks:List Kd)(l:List Nat):List (List Int):=(l.filter fun p=>decide (0<os.getD p 0)).map fun p=>(Xdu os ks).set p ((wos ks).getD p 0)
noncomputable def tries (os:List Int)(ks:List Kd):List (List Int):=[Xdu os ks]++tryL os ks (List.range ks.length)++[wos ks]
theorem Zsp (os:List Int):Zir (os.map D.int)=(List.range os.length).map fun p:Nat=>D.tup [.int (p:Int),.int (os.getD p 0)]:=by
 refine List.ext_getElem (by simp [Zir]) fun i h1 h2=>?_
 have hi:i<os.length:=by simpa [Zir] using h1
 simp [Zir,List.getElem_mapIdx,getD_eq_getElem?_getD,hi]
theorem Zze (xs ys:List Int):Zws (xs.map D.int) (ys.map D.int)=(xs.zip ys).map fun x=>D.tup [.int x.1,.int x.2]:=Zlr D.int D.int xs ys
noncomputable def Zko (n:Int)(b ls:List D):D:=.tup [.int n,.tup [.lst b,.lst ls]]
theorem upd_b {v:D}{n:Int}{b ls:List D}(h:b.length<lim):Zhc (Zgc v) [1,0] (Zko n b ls)=some (Zko n (b++[v]) ls):=by
 have e:Zgc v b=some (b++[v]):=if_pos h
 show (((Zgc v b).map D.lst).map fun d'=>D.tup [d',.lst ls]).map (fun d'=>D.tup [.int n,d'])=_
 rw [e]
 rfl
theorem upd_l {v:D}{n:Int}{b ls:List D}(h:ls.length<lim):Zhc (Zgc v) [1,1] (Zko n b ls)=some (Zko n b (ls++[v])):=by
 have e:Zgc v ls=some (ls++[v]):=if_pos h
 show (((Zgc v ls).map D.lst).map fun d'=>D.tup [.lst b,d']).map (fun d'=>D.tup [.int n,d'])=_
 rw [e]
 rfl
theorem upd_k {v:D}{n:Int}{b pre rest xs:List D}(h:xs.length<lim):Zhc (Zgc v) [1,1,(pre.length:Int)] (Zko n b (pre++.lst xs::rest))=some (Zko n b (pre++.lst (xs++[v])::rest)):=by
 have e:Zgc v xs=some (xs++[v]):=if_pos h
 have hj:ixD (pre++D.lst xs::rest).length (pre.length:Int)=some pre.length:=by
  unfold ixD
  rw [if_pos (Int.natCast_nonneg _),if_pos (by rw [length_append,length_cons];omega),toNat_natCast]
 have hg:(pre++D.lst xs::rest)[pre.length]?=some (.lst xs):=by rw [getElem?_append_right (le_refl _),sub_self];rfl
 have hs:(pre++D.lst xs::rest).set pre.length (.lst (xs++[v]))=pre++.lst (xs++[v])::rest:=by rw [set_append_right _ _ (le_refl _),sub_self];rfl
 show ((((ixD (pre++D.lst xs::rest).length (pre.length:Int)).bind fun j=>(pre++D.lst xs::rest)[j]?.bind fun d=>(Zhc (Zgc v) [] d).map fun d'=>D.lst ((pre++D.lst xs::rest).set j d')).map fun d'=>D.tup [.lst b,d']).map fun d'=>D.tup [.int n,d'])=_
 rw [hj,Option.bind_some,hg,Option.bind_some]
 show (((((Zgc v xs).map D.lst).map fun d'=>D.lst ((pre++D.lst xs::rest).set pre.length d')).map fun d'=>D.tup [.lst b,d']).map fun d'=>D.tup [.int n,d'])=_
 rw [e]
 show some (D.tup [.int n,.tup [.lst b,.lst ((pre++D.lst xs::rest).set pre.length (.lst (xs++[v])))]])=_
 rw [hs]
 rfl
theorem Zke {i j:Nat}{v:D}{ρ:Env}{n:Int}{b:List D}:∀(rest:List (List D)) (pre:List D),(∀xs∈rest,xs.length<lim)→Zcl i j [1,1] (fC v) ρ pre.length rest.length (Zko n b (pre++rest.map D.lst))=.ok (.nx ((ρ.set i (some (Zko n b (pre++rest.map fun xs=>.lst (xs++[v]))))).set j none))
  | [],pre,_=>rfl
  | xs::rest,pre,h=>by
    have hu:=upd_k (v:=v) (n:=n) (b:=b) (pre:=pre) (rest:=rest.map D.lst) (h xs (.head _))
    have ih:=Zke (i:=i) (j:=j) (v:=v) (ρ:=ρ) (n:=n) (b:=b) rest (pre++[.lst (xs++[v])]) fun ys hy=>h ys (.tail _ hy)
    rw [length_append,length_singleton,append_assoc,append_assoc] at ih
    show (match Zhc (Zgc v) [1,1,(pre.length:Int)] (Zko n b (pre++.lst xs::rest.map D.lst)) with
      | some d'=>Zcl i j [1,1] (fC v) ρ (pre.length+1) rest.length d'
      | none=>.bad)=_
    rw [hu]
    exact ih
theorem Zuk {i j:Nat}{v:D}{ρ:Env}{n:Int}{b:List D}{ls:List (List D)}(hi:ρ[i]?=some (some (Zko n b (ls.map D.lst))))(hl:ls.length≤lim)(hj:j<ρ.length)(h:∀xs∈ls,xs.length<lim):Zdw i j [1,1] (fC v) ρ=.ok (.nx ((ρ.set i (some (Zko n b (ls.map fun xs=>.lst (xs++[v]))))).set j none)):=by
 unfold Zdw
 rw [hi]
 show (if (ls.map D.lst).length≤lim∧j<ρ.length then Zcl i j [1,1] (fC v) ρ 0 (ls.map D.lst).length (Zko n b (ls.map D.lst)) else .bad)=_
 rw [if_pos ⟨by rw [length_map];exact hl,hj⟩,length_map]
 exact Zke ls [] h
theorem Zvy {i:Nat}{ks:FA}{e:FE}{ρ:Env}{d d' v:D}{zs:List D}{path:List Int}(hi:ρ[i]?=some (some d))(hk:ks ρ=.ok zs)(hp:intsOf zs=some path)(he:e ρ=.ok v)(h:Zhc (Zgc v) path d=some d'):Zne i ks e ρ=.ok (.nx (ρ.set i (some d'))):=by
 unfold Zne
 rw [hi]
 show (ks ρ).calm.bind _=_
 rw [hk,Zks,Jq,hp]
 show (e ρ).calm.bind _=_
 rw [he,Zks,Jq,h]
theorem Zma (ws:List Int)(h:ws.length≤1000):Jm [iD ws]=.ok (.bl true):=by
 have c:Yr 1 (Zn 1) Zbm (Xr Xu (Zc (fV 1) Zt)) [some (iD ws)] (ws.map D.int)=.ok (ws.map fun _=>D.bl true):=Zax rfl fun x _=>Xi (Zd rfl rfl) (Zrk x)
 have a:Zyl [.lst (ws.map fun _=>D.bl true)]=some (.bl true):=by
  rw [Zwk ws fun _=>true]
  simp
 have i:Zlw "list" (iD ws)=some (.bl true):=rfl
 exact Zag (Zah (Xfu (Zfw rfl i) (Jt (Zd (Zaa rfl (Ji (xs:=ws.map D.int) rfl (by rw [length_map];show _≤1000000;omega)) c) rfl) a)))
theorem Xkf {ρ:Env}{n:Nat}(hn:ρ.length=n)(ls:List (List Int)):Yr 1 (Zn n) Zbm (fA Jk (Zc (fV n) Zt)) ρ (ls.map iD)=.ok ((ls.map fun l=>(l.length:Int)).map D.int):=by
 rw [map_map]
 refine Zax hn fun l _=>?_
 have vn:fV n (ρ++[some (iD l)])=.ok (iD l):=by
  unfold fV
  rw [getElem?_append_right (by omega),hn,sub_self]
  rfl
 exact Jt (Zd vn rfl) (Xcf l)
theorem Xlp {ρ:Env}{n:Nat}(hn:ρ.length=n)(ls:List (List Int)):Yr 1 (Zn n) Zbm (f2 Jj (fA Jk (Zc (fV n) Zt)) (fC (.int 1))) ρ (ls.map iD)=.ok ((ls.map fun l=>(l.length:Int)+1).map D.int):=by
 rw [map_map]
 refine Zax hn fun l _=>?_
 have vn:fV n (ρ++[some (iD l)])=.ok (iD l):=by
  unfold fV
  rw [getElem?_append_right (by omega),hn,sub_self]
  rfl
 exact Zo (Jt (Zd vn rfl) (Xcf l)) rfl rfl
noncomputable def Zji:FS:=
  (Xk (Znn 3 2 Jj (fV 3))
    (Yi 4 (f2 Jj (fV 4) (fC (.int 1)))))
noncomputable def Znz:FS:=
  (Xk (Yi 2 (fA Ztg (Zc (fV 0) Zt)))
    (Xk (Yi 3 (fC (.int 0)))
    (Xk (Yi 4 (fC (.int 0)))
    (Xk (Zjy 100000 (Zwt (cE (f2 gLt (fV 3) (fV 1))) (cE (f2 gGt (fA Jk (Zc (fV 2) Zt)) (fC (.int 0))))) Zji)
    (Xk (sIf (cE (f2 gLt (fV 3) (fV 1))) (Jy (f2 Jj (fV 4) (fC (.int 1)))) sNx)
    (Jy (fV 4)))))))
noncomputable def Yt (ds:List D):R D:=(run 5 Znz ds).calm
noncomputable def Zih:FS:=
  (Xk (Yi 2 (Jg 4 1 (Zaq (Zc (fA Jk (Zc (fV 0) Zt)) Zt)) (Zn 4) Zbm (Jg 5 1 (Zaq (Zc (fA Jk (Zc (fV 0) Zt)) Zt)) (Zn 5) Zbm (fIf (cE (f2 gEq (fV 5) (fV 4))) (fC (.int 1)) (fC (.int 0))))))
    (Xk (Yi 3 (Jg 4 2 (Zyg (fV 1)) (Zdb (Xh (Zn 4) (Xh (Zn 5) Zcv))) (cE (f2 gGt (fV 5) (fC (.int 0)))) (f2 gIx (fV 2) (fV 4))))
    (Xk (Zhe 3 (Xr Yv (Zc (fV 1) (Zc (Jg 4 1 (Zba (fV 0)) (Zn 4) Zbm (f1 Xt (f2 gIx (fV 4) (fC (.int 1))))) Zt))))
    (Xk (Zhe 3 (Xr Yv (Zc (fV 1) (Zc (Jg 4 1 (Zba (fV 0)) (Zn 4) Zbm (f1 Xt (f2 gIx (fV 4) (fC (.int 2))))) Zt))))
    (Xk (Zhe 3 (Xr Yv (Zc (fV 1) (Zc (f2 Zai (fA Zae (Zc (fC (.int 1)) Zt)) (fA Jk (Zc (fV 0) Zt))) Zt))))
    (Jy (fV 3)))))))
noncomputable def Jh (ds:List D):R D:=(run 4 Zih ds).calm
noncomputable def Zjc:FS:=
  (Xk (Yi 7 (f1 Xt (f2 gIx (fV 4) (f2 Jj (f2 Zai (fC (.int 2)) (fV 6)) (fC (.int 1))))))
    (Xk (sIf (cOr (cE (f2 gEq (f2 gIx (fV 4) (f2 Jj (f2 Zai (fC (.int 2)) (fV 6)) (fC (.int 2)))) (fC (.int 0)))) (Zwt (cE (f2 gEq (f2 gIx (fV 4) (fC (.int 0))) (fC (.int 0)))) (cE (f2 gGt (fV 6) (fC (.int 1)))))) (Yi 7 (fC (.int 0))) sNx)
    (Zhe 5 (f1 Xt (fV 7)))))
noncomputable def Zmx:FS:=
  (Xk (Yi 4 (Xr Xz (Zc (fV 0) (Zc (fV 1) (Zc (f2 Jj (fA Zae (Zc (fC (.int 3)) Zt)) (f2 Zai (fA Zae (Zc (fV 3) (Zc (fC (.int 4)) Zt))) (fC (.int 8)))) Zt)))))
    (Xk (Yi 5 (fA Zae Zt))
    (Xk (Zid (Zaq (Zc (fV 2) Zt)) (Zn 6) Zjc)
    (Jy (fV 5)))))
noncomputable def Zar (ds:List D):R D:=(run 8 Zmx ds).calm
noncomputable def Zdu:FS:=
 (sIf (cE (f2 gGt (f2 gIx (fV 2) (fV 5)) (fC (.int 0)))) (Zhe 4 (Jg 10 1 (Zaq (Zc (fA Jk (Zc (fV 1) Zt)) Zt)) (Zn 10) Zbm (fA Xdv (Zc (f2 gEq (fV 10) (fV 5)) Zt)))) sNx)
noncomputable def Zdj:FS:=
  (Xk (Yi 8 (Xr Yh (Zc (fV 1) (Zc (fV 7) Zt))))
    (Xk (Yi 9 (Jg 10 1 (Zba (fV 0)) (Zn 10) Zbm (f1 Xt (f2 gIx (Xr Ja (Zc (fV 10) (Zc (fV 8) Zt))) (f1 Zuw (fC (.int 1)))))))
    (Yi 6 (fA Xbj (Zc (fV 6) (Zc (Xr Yt (Zc (fV 9) (Zc (Xr Yo (Zc (fV 2) (Zc (fV 7) Zt))) Zt))) Zt))))))
noncomputable def Zld:FS:=
  (Xk (Yi 3 (Jg 10 1 (Zba (fV 2)) (Zn 10) Zbm (fA Xdv (Zc (f2 gGt (fV 10) (fC (.int 0))) Zt))))
    (Xk (Yi 4 (fA Zae (Zc (fV 3) Zt)))
    (Xk (Zid (Zaq (Zc (fA Jk (Zc (fV 1) Zt)) Zt)) (Zn 5) Zdu)
    (Xk (Zhe 4 (Jg 10 1 (Zaq (Zc (fA Jk (Zc (fV 1) Zt)) Zt)) (Zn 10) Zbm (f2 Zai (f2 gIx (f2 gIx (fV 1) (fV 10)) (fC (.int 1))) (f2 gIx (fV 3) (fV 10)))))
    (Xk (Zhe 4 (Jg 10 1 (Zaq (Zc (fA Jk (Zc (fV 1) Zt)) Zt)) (Zn 10) Zbm (f2 Zai (f2 gIx (f2 gIx (fV 1) (fV 10)) (fC (.int 2))) (f2 gIx (fV 3) (fV 10)))))
    (Xk (Yi 6 (fC (.int 0)))
    (Xk (Zid (Zba (fV 4)) (Zn 7) Zdj)
    (Jy (fV 6)))))))))
noncomputable def Jz (ds:List D):R D:=(run 10 Zld ds).calm
noncomputable def Zas:FS:=
  (Xk (sIf (Ztp (cE (Xr Jm (Zc (f2 gIx (fV 6) (fV 9)) Zt)))) (Jy (fC (.bl false))) sNx)
    (Zhe 8 (Xr Zau (Zc (f2 gIx (fV 0) (fV 9)) (Zc (fV 7) (Zc (f2 gIx (fV 6) (fV 9)) Zt))))))
noncomputable def Zfr:FS:=
  (Xk (sIf (cOr (Ztp (cE (f1 (Zlw "tuple") (fV 4)))) (cOr (cE (f2 gNe (fA Jk (Zc (fV 4) Zt)) (fC (.int 2)))) (Ztp (cE (Xr Jm (Zc (f2 gIx (fV 4) (fC (.int 0))) Zt)))))) (Jy (fC (.bl false))) sNx)
    (Xk (Zof (fV 4) (Zdb (Xh (Zn 5) (Xh (Zn 6) Zcv))))
    (Xk (sIf (cOr (Ztp (cE (f1 (Zlw "list") (fV 6)))) (cOr (cE (f2 gNe (fA Jk (Zc (fV 6) Zt)) (fA Jk (Zc (fV 0) Zt)))) (cE (f2 gNe (fA Jk (Zc (fV 5) Zt)) (fA Jk (Zc (fV 1) Zt)))))) (Jy (fC (.bl false))) sNx)
    (Xk (sIf (Ztp (cE (fA Zyl (Zc (Jg 10 1 (Zba (fV 5)) (Zn 10) Zbm (Zjp gLe gLe (fC (.int 0)) (fV 10) (f2 Ziz (fC (.int 10)) (fC (.int 18))))) Zt)))) (Jy (fC (.bl false))) sNx)
    (Xk (Yi 7 (Xr Yh (Zc (fV 1) (Zc (fV 5) Zt))))
    (Xk (Yi 8 (fA Zae Zt))
    (Xk (Zid (Zaq (Zc (fA Jk (Zc (fV 0) Zt)) Zt)) (Zn 9) Zas)
    (Xk (sIf (cE (f2 gIn (fC .non) (fV 8))) (Jy (fC (.bl false))) sNx)
    (Jy (f2 gGe (Xr Yt (Zc (fV 8) (Zc (Xr Yo (Zc (fV 2) (Zc (fV 5) Zt))) Zt))) (fV 3)))))))))))
noncomputable def Yn (ds:List D):R D:=(run 10 Zfr ds).calm
noncomputable def Zoa:FS:=
  (Xk (sIf (cOr (Ztp (cE (f1 (Zlw "tuple") (fV 0)))) (cOr (cE (f2 gNe (fA Jk (Zc (fV 0) Zt)) (fC (.int 2)))) (Ztp (cE (Xr Xu (Zc (f2 gIx (fV 0) (fC (.int 0))) Zt)))))) (Jy (fC (.bl false))) sNx)
    (Xk (sIf (cE (f2 gNe (f2 gIx (fV 0) (fC (.int 0))) (Xr Jz (Zc (fV 1) (Zc (fV 2) (Zc (fV 3) Zt)))))) (Jy (fC (.bl false))) sNx)
    (Jy (Xr Yn (Zc (fV 1) (Zc (fV 2) (Zc (fV 3) (Zc (f2 gIx (fV 0) (fC (.int 0))) (Zc (f2 gIx (fV 0) (fC (.int 1))) Zt)))))))))
noncomputable def Zap (ds:List D):R D:=(run 4 Zoa ds).calm
noncomputable def Xfq:FS:=
  (Xk (Zpk 3 4 (Xr Jh (Zc (fV 1) (Zc (fV 2) Zt))) (Zkc (fun m n=>decide (m > n)) (fV 3) [0,1,2] (Xr Jx (Zc (fV 1) (Zc (fV 2) (Zc (fV 3) (Zc (fV 0) Zt)))))))
    (Xk (Yi 5 (Xr Zaw (Zc (fV 1) (Zc (fV 4) Zt))))
    (Xk (Yi 6 (Jg 7 1 (Zba (fV 0)) (Zn 7) Zbm (Xr Zdz (Zc (fV 7) (Zc (fV 5) Zt)))))
    (Jy (fA Zdy (Zc (Xr Jx (Zc (fV 0) (Zc (fV 1) (Zc (fV 2) (Zc (fV 4) Zt))))) (Zc (fA Zdy (Zc (fV 4) (Zc (fV 6) Zt))) Zt)))))))
noncomputable def Zij (ds:List D):R D:=(run 7 Xfq ds).calm
noncomputable def Zkq:FS:=
  (Xk (Yi 9 (Xr Zij (Zc (f2 gIx (fV 7) (fC (.int 0))) (Zc (f2 gIx (fV 7) (fC (.int 1))) (Zc (f2 gIx (fV 7) (fC (.int 2))) Zt)))))
    (Xk (sIf (Ztp (cE (Xr Zap (Zc (fV 9) (Zc (fV 5) (Zc (fV 1) (Zc (fV 6) Zt))))))) (Jy (fC (.bl false))) sNx)
    (Xk (Yi 10 (Jg 12 1 (Zba (f2 gIx (f2 gIx (fV 9) (fC (.int 1))) (fC (.int 1)))) (Zn 12) Zbm (f2 Jj (fA Jk (Zc (fV 12) Zt)) (fC (.int 1)))))
    (Xk (Zdw 9 11 [1,1] (fC (.int 0)))
    (Xk (sIf (cE (f2 gNe (Jg 12 1 (Zba (f2 gIx (f2 gIx (fV 9) (fC (.int 1))) (fC (.int 1)))) (Zn 12) Zbm (fA Jk (Zc (fV 12) Zt))) (fV 10))) (Jy (fC (.bl false))) sNx)
    (Xk (Zne 9 (Zc (fC (.int 1)) (Zc (fC (.int 0)) Zt)) (fC (.int 1)))
    (Zne 9 (Zc (fC (.int 1)) (Zc (fC (.int 1)) Zt)) (fA Zae Zt))))))))
noncomputable def q_law:FS:=
  (Xk (Yi 1 (Xr Zat (Zc (fV 0) (Zc (fC (.int 0)) (Zc (fC (.int 8)) Zt)))))
    (Xk (Yi 2 (Xr Xz (Zc (fV 0) (Zc (fC (.int 1)) (Zc (fA Zae (Zc (fC (.int 6)) (Zc (fC (.int 8)) Zt))) Zt)))))
    (Xk (Zof (fA Zdy (Zc (f1 Xt (f2 gIx (fV 2) (fC (.int 0)))) (Zc (fC (.int 20)) Zt))) (Zdb (Xh (Zn 3) (Xh (Zn 4) Zcv))))
    (Xk (sIf (cE (f2 gEq (f2 gIx (fV 2) (fC (.int 1))) (fC (.int 0)))) (Zof (fA Zdy (Zc (fC (.int 12)) (Zc (fC (.int 40)) Zt))) (Zdb (Xh (Zn 3) (Xh (Zn 4) Zcv)))) sNx)
    (Xk (sIf (cE (f2 gEq (f2 gIx (fV 2) (fC (.int 1))) (fC (.int 1)))) (Zof (fA Zdy (Zc (fA Xdh (Zc (fV 3) (Zc (fC (.int 3)) Zt))) (Zc (fC (.int 200)) Zt))) (Zdb (Xh (Zn 3) (Xh (Zn 4) Zcv)))) sNx)
    (Xk (Yi 5 (Xr Jw (Zc (fV 0) (Zc (fC (.int 2)) (Zc (fV 3) (Zc (fV 4) (Zc (Xr Zbi (Zc (fV 0) (Zc (fC (.int 0)) (Zc (fC (.int 8)) Zt)))) Zt)))))))
    (Xk (Yi 6 (Xr Zar (Zc (fV 0) (Zc (fC (.int 20)) (Zc (fA Jk (Zc (fV 1) Zt)) (Zc (fC (.int 7)) Zt))))))
    (Xk (Yi 7 (fA Zae (Zc (Jg 12 1 (Zba (fV 5)) (Zn 12) Zbm (fA Zjk (Zc (fV 12) Zt))) (Zc (fA Zjk (Zc (fV 1) Zt)) (Zc (fA Zjk (Zc (fV 6) Zt)) Zt)))))
    (Xk (Zid (Zaq (Zc (fC (.int 2)) Zt)) (Zn 8) Zkq)
    (Jy (f2 gEq (fV 7) (fA Zae (Zc (fV 5) (Zc (fV 1) (Zc (fV 6) Zt)))))))))))))))
noncomputable def Xfd (ds:List D):R D:=(run 12 q_law ds).calm
noncomputable def Zsd (ks:List Kd):List Int:=ks.map (·.w)
noncomputable def Zaf (os ps:List Int):List Int:=(os.zip ps).map fun x=>if 0<x.1 then x.2 else 0
noncomputable def Zao (n p:Nat):List Int:=(List.range n).map fun k=>if k=p then 1 else 0
noncomputable def isW (os:List Int)(p:Nat):Bool:=decide (0<os.getD p 0)
noncomputable def Zoe (os:List Int)(ks:List Kd):List (List Int):=((List.range ks.length).filter (isW os)).map (Zao ks.length)++[Zaf os (Zsd ks),Zaf os (wos ks),Zaf os (List.replicate ks.length 1)]
noncomputable def fby (rs:List (List Int))(ks:List Kd)(os ps:List Int):Int:=Xec (tops rs (ptd ks ps)) (dot os ps)
theorem Zoq (os ps:List Int)(ho:os.length≤1000)(hp:ps.length≤1000):Yv [iD os,iD ps]=.ok (iD (Zaf os ps)):=by
 have gen:∀l:List (Int×Int),Yr 2 (Zdb (Xh (Zn 2) (Xh (Zn 3) Zcv))) Zbm (fIf (cE (f2 gGt (fV 2) (fC (.int 0)))) (f1 Xt (fV 3)) (fC (.int 0))) [some (iD os),some (iD ps)] (l.map fun x=>D.tup [.int x.1,.int x.2])=.ok (l.map fun x=>D.int (if 0<x.1 then x.2 else 0)):=by
  intro l
  induction l with
  | nil=>rfl
  | cons x l ih =>
   have el:fIf (cE (f2 gGt (fV 2) (fC (.int 0)))) (f1 Xt (fV 3)) (fC (.int 0)) [some (iD os),some (iD ps),some (.int x.1),some (.int x.2)]=.ok (.int (if 0<x.1 then x.2 else 0)):=by
    by_cases q:0<x.1
    ·rw [if_pos q]
     exact Xcy (Jo (Zo rfl rfl (Zod q))) (Zfw rfl rfl)
    ·rw [if_neg q]
     exact Xdt (Jo (Zo rfl rfl (Zoc q))) rfl
   show ((fIf (cE (f2 gGt (fV 2) (fC (.int 0)))) (f1 Xt (fV 3)) (fC (.int 0)) [some (iD os),some (iD ps),some (.int x.1),some (.int x.2)]).bind fun y=>(Yr 2 (Zdb (Xh (Zn 2) (Xh (Zn 3) Zcv))) Zbm (fIf (cE (f2 gGt (fV 2) (fC (.int 0)))) (f1 Xt (fV 3)) (fC (.int 0))) [some (iD os),some (iD ps)] (l.map fun x=>D.tup [.int x.1,.int x.2])).bind fun ys=>.ok (y::ys))=_
   rw [el,Jq,ih,Jq]
   rfl
 have jz:Xht (fV 0) (fV 1) [some (iD os),some (iD ps)]=.ok ((os.zip ps).map fun x=>D.tup [.int x.1,.int x.2]):=by
  show (if (os.map D.int).length≤lim∧(ps.map D.int).length≤lim then R.ok (Zws (os.map D.int) (ps.map D.int)) else R.bad)=_
  rw [if_pos ⟨by rw [length_map];show _≤1000000;omega,by rw [length_map];show _≤1000000;omega⟩,Zze]
 have e:iD (Zaf os ps)=.lst ((os.zip ps).map fun x=>D.int (if 0<x.1 then x.2 else 0)):=by
  unfold iD Zaf
  rw [map_map]
  rfl
 rw [e]
 exact Zag (Zah (Zaa rfl jz (gen _)))
theorem Xku {ρ:Env}{n m:Nat}(hn:ρ.length=n){j:Nat}(p:Nat)(hj:ρ[j]?=some (some (.int (0+(p:Int)))))(hjn:j<n):Yr 1 (Zn n) Zbm (fIf (cE (f2 gEq (fV n) (fV j))) (fC (.int 1)) (fC (.int 0))) ρ (Zcj 0 m)=.ok ((Zao m p).map D.int):=by
 have e:(Zao m p).map D.int=(List.range m).map fun k=>D.int (if k=p then 1 else 0):=by
  unfold Zao
  rw [map_map]
  rfl
 rw [e]
 refine Zax (enc:=fun k:Nat=>D.int (0+(k:Int))) hn fun k _=>?_
 have vn:fV n (ρ++[some (D.int (0+(k:Int)))])=.ok (.int (0+(k:Int))):=by
  unfold fV
  rw [getElem?_append_right (by omega),hn,sub_self]
  rfl
 have vj:fV j (ρ++[some (D.int (0+(k:Int)))])=.ok (.int (0+(p:Int))):=by
  unfold fV
  rw [getElem?_append_left (by omega),hj]
 by_cases q:k=p
 ·rw [if_pos q]
  exact Xcy (Jo (Zo vn vj ((Zli _ _).trans (Zod (by rw [q]))))) rfl
 ·rw [if_neg q]
  exact Xdt (Jo (Zo vn vj ((Zli _ _).trans (Zoc (by omega))))) rfl
theorem Zwj (os:List Int)(ks:List Kd)(hk:ks.length≤800)(ho:os.length=ks.length):Jh [tD ks,iD os]=.ok (rsD (Zoe os ks)):=by
 have lt:=Zlz ks
 have bt:=Zzw (n:=ks.length) (m:=800) hk
 have rr:∀ρ:Env,ρ[0]?=some (some (tD ks))→Zaq (Zc (fA Jk (Zc (fV 0) Zt)) Zt) ρ=.ok (Zcj 0 ks.length):=fun ρ h0=>by
  have v0:fV 0 ρ=.ok (tD ks):=by unfold fV;rw [h0]
  exact (Zjj (j:=(ks.length:Int)) (Zd (Jt (Zd v0 rfl) lt) rfl) bt).trans (by rw [toNat_natCast])
 obtain ⟨U,hU⟩:∃U,U=(List.range ks.length).map (Zao ks.length):=⟨_,rfl⟩
 have hUl:U.length=ks.length:=by rw [hU,length_map,length_range]
 have hUa:∀p,(hp:p<ks.length)→U[p]'(by omega)=Zao ks.length p:=fun p hp=>by simp [hU]
 have c1:Yr 1 (Zn 4) Zbm (Jg 5 1 (Zaq (Zc (fA Jk (Zc (fV 0) Zt)) Zt)) (Zn 5) Zbm (fIf (cE (f2 gEq (fV 5) (fV 4))) (fC (.int 1)) (fC (.int 0)))) [some (tD ks),some (iD os),none,none] (Zcj 0 ks.length)=.ok (U.map iD):=by
  rw [hU,map_map]
  refine Zax (enc:=fun k:Nat=>D.int (0+(k:Int))) rfl fun p _=>?_
  exact Zaa rfl (rr _ rfl) (Xku (n:=5) (m:=ks.length) (j:=4) rfl p rfl (by decide))
 have c2:∀l:List Nat,(∀p∈l,p<ks.length)→Yr 2 (Zdb (Xh (Zn 4) (Xh (Zn 5) Zcv))) (cE (f2 gGt (fV 5) (fC (.int 0)))) (f2 gIx (fV 2) (fV 4)) [some (tD ks),some (iD os),some (rsD U),none] (l.map fun p:Nat=>D.tup [.int (p:Int),.int (os.getD p 0)])=.ok ((l.filter (isW os)).map fun p=>iD (Zao ks.length p)):=by
  intro l
  induction l with
  | nil=>intro _;rfl
  | cons p l ih =>
   intro hl
   have ih:=ih fun x hx=>hl x (.tail _ hx)
   have hp:=hl p (.head _)
   show ((cE (f2 gGt (fV 5) (fC (.int 0)))) [some (tD ks),some (iD os),some (rsD U),none,some (.int (p:Int)),some (.int (os.getD p 0))]).bind (fun t=>if t then ((f2 gIx (fV 2) (fV 4)) [some (tD ks),some (iD os),some (rsD U),none,some (.int (p:Int)),some (.int (os.getD p 0))]).bind fun y=>(Yr 2 (Zdb (Xh (Zn 4) (Xh (Zn 5) Zcv))) (cE (f2 gGt (fV 5) (fC (.int 0)))) (f2 gIx (fV 2) (fV 4)) [some (tD ks),some (iD os),some (rsD U),none] (l.map fun p:Nat=>D.tup [.int (p:Int),.int (os.getD p 0)])).bind fun ys=>.ok (y::ys) else Yr 2 (Zdb (Xh (Zn 4) (Xh (Zn 5) Zcv))) (cE (f2 gGt (fV 5) (fC (.int 0)))) (f2 gIx (fV 2) (fV 4)) [some (tD ks),some (iD os),some (rsD U),none] (l.map fun p:Nat=>D.tup [.int (p:Int),.int (os.getD p 0)]))=_
   rw [filter_cons]
   by_cases q:0<os.getD p 0
   ·have hc:cE (f2 gGt (fV 5) (fC (.int 0))) [some (tD ks),some (iD os),some (rsD U),none,some (.int (p:Int)),some (.int (os.getD p 0))]=.ok true:=Jo (Zo rfl rfl (Zod q))
    have hx:f2 gIx (fV 2) (fV 4) [some (tD ks),some (iD os),some (rsD U),none,some (.int (p:Int)),some (.int (os.getD p 0))]=.ok (iD (Zao ks.length p)):=Zo rfl rfl (by rw [Xga (by omega),hUa p hp])
    rw [hc,Jq,if_pos rfl,hx,Jq,ih,Jq,show isW os p=true from decide_eq_true q,if_pos rfl]
    rfl
   ·have hc:cE (f2 gGt (fV 5) (fC (.int 0))) [some (tD ks),some (iD os),some (rsD U),none,some (.int (p:Int)),some (.int (os.getD p 0))]=.ok false:=Jo (Zo rfl rfl (Zoc q))
    rw [hc,Jq,if_neg Bool.false_ne_true,ih,show isW os p=false from decide_eq_false q,if_neg Bool.false_ne_true]
 have je:Zyg (fV 1) [some (tD ks),some (iD os),some (rsD U),none]=.ok ((List.range os.length).map fun p:Nat=>D.tup [.int (p:Int),.int (os.getD p 0)]):=by
  show (if (os.map D.int).length≤lim then R.ok (Zir (os.map D.int)) else R.bad)=_
  rw [if_pos (by rw [length_map];show _≤1000000;omega),Zsp]
 obtain ⟨T0,hT0⟩:∃T0,T0=((List.range ks.length).filter (isW os)).map (Zao ks.length):=⟨_,rfl⟩
 have hTl:T0.length≤ks.length:=by
  rw [hT0,length_map]
  refine le_trans (length_filter_le _ _) ?_
  rw [length_range]
  exact le_refl _
 have h2:=c2 (List.range os.length) fun p hp=>by have:=List.mem_range.mp hp;omega
 have e2:(((List.range os.length).filter (isW os)).map fun p=>iD (Zao ks.length p))=T0.map iD:=by
  rw [hT0,map_map,ho]
  rfl
 rw [e2] at h2
 have w1:∀o,Yr 1 (Zn 4) Zbm (f1 Xt (f2 gIx (fV 4) (fC (.int 1)))) [some (tD ks),some (iD os),some (rsD U),o] (ks.map kD)=.ok ((Zsd ks).map D.int):=fun o=>by
  have e:(Zsd ks).map D.int=ks.map fun k=>D.int k.w:=by unfold Zsd;rw [map_map];rfl
  rw [e]
  exact Zax rfl fun x _=>Zfw (Zo rfl rfl (Zso x)) rfl
 have w2:∀o,Yr 1 (Zn 4) Zbm (f1 Xt (f2 gIx (fV 4) (fC (.int 2)))) [some (tD ks),some (iD os),some (rsD U),o] (ks.map kD)=.ok ((wos ks).map D.int):=fun o=>by
  have e:(wos ks).map D.int=ks.map fun k=>D.int k.wo:=by unfold wos;rw [map_map];rfl
  rw [e]
  exact Zax rfl fun x _=>Zfw (Zo rfl rfl (Xjg x)) rfl
 have w3:Zai (.lst [.int 1]) (.int (ks.length:Int))=some (iD (List.replicate ks.length 1)):=by
  show (if ((ks.length:Int)≤1000000∧1*(ks.length:Int).toNat≤lim∧-1000000≤(ks.length:Int)∧Yz [D.int 1]) then some (D.lst (List.replicate (ks.length:Int).toNat [D.int 1]).flatten) else none)=_
  rw [if_pos ⟨by omega,by rw [toNat_natCast];show _≤1000000;omega,by omega,rfl⟩,toNat_natCast]
  unfold iD
  rw [List.map_replicate]
  refine congrArg (fun z=>some (D.lst z)) ?_
  induction ks.length with
  | zero=>rfl
  | succ n ih=>rw [replicate_succ,flatten_cons,ih,replicate_succ];rfl
 have o1:=Zoq os (Zsd ks) (by omega) (by unfold Zsd;rw [length_map];omega)
 have o2:=Zoq os (wos ks) (by omega) (by rw [Zwn];omega)
 have o3:=Zoq os (List.replicate ks.length 1) (by omega) (by rw [length_replicate];omega)
 have ef:rsD (Zoe os ks)=.lst (((T0.map iD++[iD (Zaf os (Zsd ks))])++[iD (Zaf os (wos ks))])++[iD (Zaf os (List.replicate ks.length 1))]):=by
  unfold Zoe rsD
  rw [← hT0,map_append,append_assoc,append_assoc]
  rfl
 have jl:∀o,Zba (fV 0) [some (tD ks),some (iD os),some (rsD U),o]=.ok (ks.map kD):=fun o=>Ji (xs:=ks.map kD) rfl (by rw [length_map];show _≤1000000;omega)
 rw [ef]
 refine Zag (Zq (Xn (Zaa rfl (rr _ rfl) c1)) (Zq (Xn (Zaa rfl je h2)) (Zq (Zet (xs:=T0.map iD) rfl (Xi (Zd rfl (Zd (Zaa rfl (jl _) (w1 _)) rfl)) o1) ?_) (Zq (Zet (xs:=T0.map iD++[iD (Zaf os (Zsd ks))]) rfl (Xi (Zd rfl (Zd (Zaa rfl (jl _) (w2 _)) rfl)) o2) ?_) (Zq (Zet (xs:=(T0.map iD++[iD (Zaf os (Zsd ks))])++[iD (Zaf os (wos ks))]) rfl (Xi (Zd rfl (Zd (Zo (Jt (Zd rfl rfl) rfl) (Jt (Zd rfl rfl) lt) w3) rfl)) o3) ?_) (Zah rfl))))))
 ·rw [length_map];show _<1000000;omega
 ·rw [length_append,length_map];show T0.length+1<1000000;omega
 ·rw [length_append,length_append,length_map];show T0.length+1+1<1000000;omega
theorem Zdn {os ps:List Int}(h:ps.length=os.length):(Zaf os ps).length=os.length:=by unfold Zaf;rw [length_map,length_zip,h,Nat.min_self]
theorem Zfp {os:List Int}{ks:List Kd}(ho:os.length=ks.length):∀b∈Zoe os ks,b.length=ks.length:=fun b hb=>by
 unfold Zoe at hb
 rcases List.mem_append.mp hb with hb | hb
 ·obtain ⟨p,_,rfl⟩:=List.mem_map.mp hb
  unfold Zao
  rw [length_map,length_range]
 ·rcases List.mem_cons.mp hb with rfl | hb
  ·rw [Zdn (by unfold Zsd;rw [length_map];exact ho.symm)];exact ho
  ·rcases List.mem_cons.mp hb with rfl | hb
   ·rw [Zdn (by rw [Zwn];exact ho.symm)];exact ho
   ·rw [List.mem_singleton.mp hb,Zdn (by rw [length_replicate];exact ho.symm)];exact ho
theorem Zpb (rs:List (List Int))(ks:List Kd)(os:List Int)(hr:rs.length<64)(hc:∀r∈rs,r.length≤900)(hk:ks.length≤800)(hw:∀k∈ks,1≤k.w)(ho:os.length=ks.length)(hs:∀o∈os,-(2 ^ 64)<o∧o<2 ^ 64) :
  ∃b∈Zoe os ks,(∀c∈Zoe os ks,fby rs ks os c≤fby rs ks os b)∧Zij [rsD rs,tD ks,iD os]=.ok (.tup [.int (fby rs ks os b),.tup [iD b,rsD (rs.map fun r=>prL r (ptd ks b))]]):=by
 have ht:=Zwj os ks hk ho
 obtain ⟨b,hb,h1,h2⟩:=Xiv (enc:=iD) (xs:=Zoe os ks) (v:=fby rs ks os) (lt:=fun m n=>decide (m > n)) (fun z=>-z) (fun a b=>decide_eq_decide.mpr (by omega)) (fe:=fV 3) (js:=[0,1,2]) (fb:=Xr Jx (Zc (fV 1) (Zc (fV 2) (Zc (fV 3) (Zc (fV 0) Zt))))) (ρ:=[some (rsD rs),some (tD ks),some (iD os),some (rsD (Zoe os ks)),none,none,none]) (fs:=[rsD rs,tD ks,iD os]) rfl (by unfold Zoe;simp) rfl
  fun b hb=>Xi (Zd rfl (Zd rfl (Zd rfl (Zd rfl rfl)))) (Zia rs ks os b hr hc (by omega) hw (by omega) (by rw [Zfp ho b hb];omega) hs)
 have hbl:=Zfp ho b hb
 have h3:=Zka ks b (by omega) (by omega)
 have hl:=Zin ks b
 have h4:Yr 1 (Zn 7) Zbm (Xr Zdz (Zc (fV 7) (Zc (fV 5) Zt))) [some (rsD rs),some (tD ks),some (iD os),none,some (iD b),some (tD (ptd ks b)),none] (rs.map iD)=.ok ((rs.map fun r=>prL r (ptd ks b)).map iD):=by
  rw [map_map]
  exact Zax rfl fun r hr=>Xi (Zd rfl (Zd rfl rfl)) (Zux r _ (hc r hr) (by omega) (Zyf hw))
 have h5:=Zia rs ks os b hr hc (by omega) hw (by omega) (by omega) hs
 refine ⟨b,hb,fun c hc=>by have:=h2 c hc;omega,Zag (Zq (Xok (by show 3<7;decide) (Xi (Zd rfl (Zd rfl rfl)) ht) h1 (Xgl b)) (Zq (Xn (Xi (Zd rfl (Zd rfl rfl)) h3)) (Zq (Xn (Zaa rfl (Ji (xs:=rs.map iD) rfl (Zdk (n:=64) (by omega))) h4)) (Zah (Jt (Zd (Xi (Zd rfl (Zd rfl (Zd rfl (Zd rfl rfl)))) h5) (Zd (Jt (Zd rfl (Zd rfl rfl)) rfl) rfl)) rfl)))))⟩
theorem Zsw:Zar=Zdg:=rfl
theorem pow18:Ziz (.int 10) (.int 18)=some (.int 1000000000000000000):=Zkf (by decide) (by decide) (by decide)
theorem Zjn:Yt=Zbs:=rfl
noncomputable def ones (os:List Int):List Int:=Zaf os (List.replicate os.length 1)
noncomputable def tried (os:List Int)(ks:List Kd):List (List Int):=[ones os]++((List.range ks.length).filter (isW os)).map (Zao ks.length)++[Zaf os (Zsd ks),Zaf os (wos ks)]
theorem Zkt {os:List Int}{ks:List Kd}(ho:os.length=ks.length):∀b,b∈tried os ks↔b∈Zoe os ks:=fun b=>by
 unfold tried Zoe ones
 rw [ho]
 simp only [List.mem_append,mem_cons,not_mem_nil,or_false]
 constructor
 ·rintro ((h | h) | h | h)
  ·exact .inr (.inr (.inr h))
  ·exact .inl h
  ·exact .inr (.inl h)
  ·exact .inr (.inr (.inl h))
 ·rintro (h | h | h | h)
  ·exact .inl (.inr h)
  ·exact .inr (.inl h)
  ·exact .inr (.inr h)
  ·exact .inl (.inl h)
theorem Zwl {os ps:List Int}(h:ps.length=os.length){k:Nat}(hk:k<os.length):(Zaf os ps).getD k 0=if 0<os.getD k 0 then ps.getD k 0 else 0:=by
 unfold Zaf
 rw [getD_eq_getElem?_getD,getElem?_map,Zrd h k hk]
 rfl
theorem Ztm {os ps:List Int}(h:ps.length=os.length):Zaf os ps=(List.range os.length).map fun k=>if 0<os.getD k 0 then ps.getD k 0 else 0:=by
 have hl:=Zdn h
 refine List.ext_getElem (by rw [hl,length_map,length_range]) fun i h1 h2=>?_
 have:=Zwl h (k:=i) (by omega)
 rw [getD_eq_getElem?_getD,getElem?_eq_getElem h1] at this
 rw [List.getElem_map,List.getElem_range]
 exact this
theorem Xfs {os:List Int}{k:Nat}(hk:k<os.length):(ones os).getD k 0=if 0<os.getD k 0 then 1 else 0:=by
 unfold ones
 rw [Zwl (by rw [length_replicate]) hk]
 have:(List.replicate os.length (1:Int)).getD k 0=1:=by simp [List.getD,hk]
 rw [this]
theorem Zzd (os:List Int):(ones os).length=os.length:=Zdn (by rw [length_replicate])
theorem Zrm:∀os:List Int,ones os=os.map fun o=>if 0<o then 1 else 0
 | []=>rfl
 | o::os=>by
  have ih:=Zrm os
  unfold ones Zaf at ih ⊢
  rw [length_cons,replicate_succ,List.zip_cons_cons,map_cons,ih]
  rfl
theorem Xdg (need:Int):∀(l:List Int) (n t:Int),n≤few need l n t
 | [],n,t=>by
  unfold few
  split<;>omega
 | x::r,n,t=>by
  unfold few
  split
  ·exact Int.le_refl _
  ·have:=Xdg need r (n+1) (t+x)
   omega
theorem Xld (rs:List (List Int))(ks:List Kd)(os ps:List Int):0≤fby rs ks os ps:=Xdg _ _ _ _
noncomputable def up (f:List Int→Int)(m:Int)(p:List Int):Int:=if f p > m then f p else m
theorem Zxx (f:List Int→Int):∀(l:List (List Int)) (m:Int),(m≤l.foldl (up f) m∧∀p∈l,f p≤l.foldl (up f) m)∧(l.foldl (up f) m=m∨∃p∈l,l.foldl (up f) m=f p)
 | [],m=>⟨⟨Int.le_refl _,fun _ h=>nomatch h⟩,.inl rfl⟩
 | p::l,m=>by
  obtain ⟨⟨h1,h2⟩,h3⟩:=Zxx f l (up f m p)
  have hu:m≤up f m p∧f p≤up f m p∧(up f m p=m∨up f m p=f p):=by
   unfold up
   split<;>omega
  rw [foldl_cons]
  refine ⟨⟨by omega,fun q hq=>?_⟩,?_⟩
  ·rcases List.mem_cons.mp hq with rfl | hq
   ·omega
   ·exact h2 q hq
  ·rcases h3 with h3 | ⟨q,hq,h3⟩
   ·rcases hu.2.2 with e | e
    ·left;omega
    ·exact .inr ⟨p,.head _,by omega⟩
   ·exact .inr ⟨q,.tail _ hq,h3⟩
theorem Xay (rs:List (List Int))(ks:List Kd)(os:List Int)(hr:rs.length<64)(hc:∀r∈rs,r.length≤900)(hk:ks.length≤800)(hw:∀k∈ks,1≤k.w)(ho:os.length=ks.length)(hs:∀o∈os,-(2 ^ 64)<o∧o<2 ^ 64) :
  Jz [rsD rs,tD ks,iD os]=.ok (.int ((tried os ks).foldl (up (fby rs ks os)) 0)):=by
 have lt:=Zlz ks
 have bt:=Zzw (n:=ks.length) (m:=800) hk
 have hol:=Zzd os
 have rr:∀ρ:Env,ρ[1]?=some (some (tD ks))→Zaq (Zc (fA Jk (Zc (fV 1) Zt)) Zt) ρ=.ok (Zcj 0 ks.length):=fun ρ h0=>by
  have v0:fV 1 ρ=.ok (tD ks):=by unfold fV;rw [h0]
  exact (Zjj (j:=(ks.length:Int)) (Zd (Jt (Zd v0 rfl) lt) rfl) bt).trans (by rw [toNat_natCast])
 have c1:Yr 1 (Zn 10) Zbm (fA Xdv (Zc (f2 gGt (fV 10) (fC (.int 0))) Zt)) [some (rsD rs),some (tD ks),some (iD os),none,none,none,none,none,none,none] (os.map D.int)=.ok ((ones os).map D.int):=by
  rw [Zrm,map_map]
  refine Zax rfl fun o _=>?_
  have hi:Xdv [.bl (decide (o > 0))]=some (.int (if 0<o then 1 else 0)):=by
   by_cases q:0<o
   ·rw [if_pos q,decide_eq_true q];rfl
   ·rw [if_neg q,decide_eq_false q];rfl
  exact Jt (Zd (Zo rfl rfl rfl) rfl) hi
 have loop1:V (Zdc (Zn 5) Zdu (Zcj 0 ks.length) [some (rsD rs),some (tD ks),some (iD os),some (iD (ones os)),some (rsD [ones os]),none,none,none,none,none]) (fun fl=>∃o5,fl=.nx [some (rsD rs),some (tD ks),some (iD os),some (iD (ones os)),some (rsD ([ones os]++((List.range ks.length).filter (isW os)).map (Zao ks.length))),o5,none,none,none,none]):=by
  refine Zht (P:=fun i ρ=>∃o5,ρ=[some (rsD rs),some (tD ks),some (iD os),some (iD (ones os)),some (rsD ([ones os]++((List.range i).filter (isW os)).map (Zao ks.length))),o5,none,none,none,none]) ⟨none,rfl⟩ (fun i ρ hi q=>?_) (fun ρ q=>?_)
  ·obtain ⟨o5,rfl⟩:=q
   rw [Zio]
   have i3:gIx (iD os) (.int (i:Int))=some (.int (os.getD i 0)):=Znd (by omega)
   refine V.of (a:=.nx [some (rsD rs),some (tD ks),some (iD os),some (iD (ones os)),some (rsD ([ones os]++((List.range (i+1)).filter (isW os)).map (Zao ks.length))),some (.int (i:Int)),none,none,none,none]) ?_ (by exact ⟨_,rfl⟩)
   rw [range_succ,List.filter_append,filter_cons,List.filter_nil]
   by_cases q:0<os.getD i 0
   ·rw [show isW os i=true from decide_eq_true q,if_pos rfl,map_append,← append_assoc]
    have c:Yr 1 (Zn 10) Zbm (fA Xdv (Zc (f2 gEq (fV 10) (fV 5)) Zt)) [some (rsD rs),some (tD ks),some (iD os),some (iD (ones os)),some (rsD ([ones os]++((List.range i).filter (isW os)).map (Zao ks.length))),some (.int (i:Int)),none,none,none,none] (Zcj 0 ks.length)=.ok ((Zao ks.length i).map D.int):=by
     have e:(Zao ks.length i).map D.int=(List.range ks.length).map fun k=>D.int (if k=i then 1 else 0):=by
      unfold Zao
      rw [map_map]
      rfl
     rw [e]
     refine Zax (enc:=fun k:Nat=>D.int (0+(k:Int))) rfl fun k _=>?_
     have hg:Xdv [.bl (decide (0+(k:Int)=(i:Int)))]=some (.int (if k=i then 1 else 0)):=by
      by_cases q:k=i
      ·rw [if_pos q,decide_eq_true (by omega)];rfl
      ·rw [if_neg q,decide_eq_false (by omega)];rfl
     exact Jt (Zd (Zo rfl rfl (Zli _ _)) rfl) hg
    have hfl:(((List.range i).filter (isW os)).map (Zao ks.length)).length≤i:=by
     rw [length_map]
     refine le_trans (length_filter_le _ _) ?_
     rw [length_range]
     exact le_refl _
    rw [show rsD ([ones os]++((List.range i).filter (isW os)).map (Zao ks.length)++[i].map (Zao ks.length))=.lst (([ones os]++((List.range i).filter (isW os)).map (Zao ks.length)).map iD++[iD (Zao ks.length i)]) from by rw [rsD,map_append];rfl]
    exact Zcq (Jo (Zo (Zo rfl rfl i3) rfl (Zod q))) (Zet (xs:=([ones os]++((List.range i).filter (isW os)).map (Zao ks.length)).map iD) rfl (Zaa rfl (rr _ rfl) c) (by rw [length_map,length_append];show 1+_<1000000;omega))
   ·rw [show isW os i=false from decide_eq_false q,if_neg Bool.false_ne_true,append_nil]
    exact Jf (Jo (Zo (Zo rfl rfl i3) rfl (Zoc q))) rfl
  ·obtain ⟨o5,rfl⟩:=q
   exact ⟨o5,rfl⟩
 obtain ⟨f1,h1,o5,rfl⟩:=loop1.ex
 have mul:∀(w v:Int) (b:Prop) [Decidable b],v=(if b then 1 else 0)→Zai (.int w) (.int v)=some (.int (if b then w else 0)):=fun w v b _ e=>by
  subst e
  by_cases q:b
  ·rw [if_pos q,if_pos q]
   show (if short w||short 1 then some (D.int (w*1)) else none)=_
   rw [if_pos (by rw [show short 1=true from by decide,Bool.or_true]),Int.mul_one]
  ·rw [if_neg q,if_neg q]
   show (if short w||short 0 then some (D.int (w*0)) else none)=_
   rw [if_pos (by rw [show short 0=true from by decide,Bool.or_true]),Int.mul_zero]
 have cw:∀(ρ4:Option D) (j:Int) (g:Kd→Int),(∀k:Kd,gIx (kD k) (.int j)=some (.int (g k)))→Yr 1 (Zn 10) Zbm (f2 Zai (f2 gIx (f2 gIx (fV 1) (fV 10)) (fC (.int j))) (f2 gIx (fV 3) (fV 10))) [some (rsD rs),some (tD ks),some (iD os),some (iD (ones os)),ρ4,o5,none,none,none,none] (Zcj 0 ks.length)=.ok ((Zaf os (ks.map g)).map D.int):=fun ρ4 j g hg=>by
  have e:(Zaf os (ks.map g)).map D.int=(List.range ks.length).map fun k=>D.int (if 0<os.getD k 0 then (ks.map g).getD k 0 else 0):=by
   rw [Ztm (by rw [length_map];exact ho.symm),ho,map_map]
   rfl
  rw [e]
  refine Zax (enc:=fun k:Nat=>D.int (0+(k:Int))) rfl fun k hk'=>?_
  have hkl:=List.mem_range.mp hk'
  rw [zero_add]
  have i1:gIx (tD ks) (.int (k:Int))=some (kD ks[k]):=Xmo hkl
  have i2:gIx (iD (ones os)) (.int (k:Int))=some (.int ((ones os).getD k 0)):=Znd (by omega)
  have em:(ks.map g).getD k 0=g ks[k]:=by simp [List.getD,hkl]
  rw [em]
  exact Zo (Zo (Zo rfl rfl i1) rfl (hg _)) (Zo rfl rfl i2) (mul _ _ _ (Xfs (by omega)))
 obtain ⟨T1,hT1⟩:∃T1,T1=[ones os]++((List.range ks.length).filter (isW os)).map (Zao ks.length):=⟨_,rfl⟩
 have hTl:T1.length≤ks.length+1:=by
  rw [hT1,length_append,length_map]
  have:=length_filter_le (isW os) (List.range ks.length)
  rw [length_range] at this
  show 1+_≤_
  omega
 rw [← hT1] at h1
 have cw1:=cw (some (rsD T1)) 1 (·.w) Zso
 have cw2:=cw (some (.lst (T1.map iD++[iD (Zaf os (Zsd ks))]))) 2 (·.wo) Xjg
 have htr:rsD (tried os ks)=.lst ((T1.map iD++[iD (Zaf os (Zsd ks))])++[iD (Zaf os (wos ks))]):=by
  unfold tried rsD
  rw [← hT1,map_append,append_assoc]
  rfl
 have htl:(tried os ks).length≤803:=by
  unfold tried
  rw [← hT1,length_append]
  show T1.length+2≤803
  omega
 have htd:∀b∈tried os ks,b.length=ks.length:=fun b hb=>Zfp ho b ((Zkt ho b).mp hb)
 have loop3:V (Zdc (Zn 7) Zdj ((tried os ks).map iD) [some (rsD rs),some (tD ks),some (iD os),some (iD (ones os)),some (rsD (tried os ks)),o5,some (.int 0),none,none,none]) (fun fl=>∃o7 o8 o9,fl=.nx [some (rsD rs),some (tD ks),some (iD os),some (iD (ones os)),some (rsD (tried os ks)),o5,some (.int ((tried os ks).foldl (up (fby rs ks os)) 0)),o7,o8,o9]):=by
  refine Xmt (P:=fun r ρ=>∃(l:List (List Int)) (o7 o8 o9:Option D),l++r=tried os ks∧ρ=[some (rsD rs),some (tD ks),some (iD os),some (iD (ones os)),some (rsD (tried os ks)),o5,some (.int (l.foldl (up (fby rs ks os)) 0)),o7,o8,o9]) (fun b r ρ q=>?_) (fun ρ q=>?_) ⟨[],none,none,none,rfl,rfl⟩
  ·obtain ⟨l,o7,o8,o9,e,rfl⟩:=q
   rw [Zio]
   have hb:b.length=ks.length:=htd b (by rw [← e];simp)
   have h3:=Zhv ks b (by omega) hb
   have hpl:=Zin ks b
   have h4:=Zrr (F:=Ja) (n:=10) (j:=8) (i:=0) (k:=0) (ρ:=[some (rsD rs),some (tD ks),some (iD os),some (iD (ones os)),some (rsD (tried os ks)),o5,some (.int (l.foldl (up (fby rs ks os)) 0)),some (iD b),some (tD (ptd ks b)),o9]) rfl rs (ptd ks b) rfl (by omega) fun r hr=>Zps r _ (hc r hr) (by omega) (Zyf hw)
   have h5:=Zmg os b (by omega) (by omega) hs
   have h6:=Zmi (tops rs (ptd ks b)) (dot os b) (by unfold tops;rw [length_map];exact hr)
   rw [← Zjn] at h6
   refine V.of (a:=.nx [some (rsD rs),some (tD ks),some (iD os),some (iD (ones os)),some (rsD (tried os ks)),o5,some (.int ((l++[b]).foldl (up (fby rs ks os)) 0)),some (iD b),some (tD (ptd ks b)),some (iD (tops rs (ptd ks b)))]) ?_ (by exact ⟨l++[b],_,_,_,by rw [← e,append_assoc];rfl,rfl⟩)
   rw [List.foldl_append]
   exact Zq (Xn (Xi (Zd rfl (Zd rfl rfl)) h3)) (Zq (Xn (Zaa rfl (Ji (xs:=rs.map iD) rfl (Zdk (n:=64) (by omega))) h4)) (Xn (Jt (Zd rfl (Zd (Xi (Zd rfl (Zd (Xi (Zd rfl (Zd rfl rfl)) h5) rfl)) h6) rfl)) rfl)))
  ·obtain ⟨l,o7,o8,o9,e,rfl⟩:=q
   rw [append_nil] at e
   subst e
   exact ⟨o7,o8,o9,rfl⟩
 obtain ⟨f3,h3,o7,o8,o9,rfl⟩:=loop3.ex
 rw [htr] at h3
 refine Zag (Zq (Xn (Zaa rfl (Ji (xs:=os.map D.int) rfl (by rw [length_map];show _≤1000000;omega)) c1)) (Zq (Xn (Jt (Zd rfl rfl) rfl)) (Zq (Zdt (rr _ rfl) h1) (Zq (Zet (xs:=T1.map iD) rfl (Zaa rfl (rr _ rfl) cw1) ?_) (Zq (Zet (xs:=T1.map iD++[iD (Zaf os (Zsd ks))]) rfl (Zaa rfl (rr _ rfl) cw2) ?_) (Zq (Xn rfl) (Zq (Zdt (Ji (xs:=(tried os ks).map iD) (congrArg R.ok htr.symm) (by rw [length_map];show _≤1000000;omega)) h3) (Zah rfl))))))))
 ·rw [length_map];show _<1000000;omega
 ·rw [length_append,length_map];show T1.length+1<1000000;omega
theorem Xij {os:List Int}{ks:List Kd}(ho:os.length=ks.length)(hw:∀k∈ks,1≤k.w)(hwo:∀k∈ks,k.w≤200∧1≤k.wo∧k.wo≤1000000000000000000):∀b∈Zoe os ks,∀z∈b,0≤z∧z≤1000000000000000000:=fun b hb z hz=>by
 have only:∀ps:List Int,(∀z∈ps,0≤z∧z≤1000000000000000000)→∀z∈Zaf os ps,0≤z∧z≤1000000000000000000:=fun ps h z hz=>by
  obtain ⟨x,hx,rfl⟩:=List.mem_map.mp hz
  split
  ·exact h _ (of_mem_zip hx).2
  ·exact ⟨Int.le_refl _,by decide⟩
 unfold Zoe at hb
 rcases List.mem_append.mp hb with hb | hb
 ·obtain ⟨p,_,rfl⟩:=List.mem_map.mp hb
  obtain ⟨k,_,rfl⟩:=List.mem_map.mp hz
  split<;>decide
 ·rcases List.mem_cons.mp hb with rfl | hb
  ·refine only _ (fun z hz=>?_) z hz
   obtain ⟨k,hk,rfl⟩:=List.mem_map.mp hz
   have h1:=hw k hk
   have h2:=hwo k hk
   constructor<;>omega
  ·rcases List.mem_cons.mp hb with rfl | hb
   ·refine only _ (fun z hz=>?_) z hz
    obtain ⟨k,hk,rfl⟩:=List.mem_map.mp hz
    have h2:=hwo k hk
    constructor<;>omega
   ·rw [List.mem_singleton.mp hb] at hz
    refine only _ (fun z hz=>?_) z hz
    rw [(List.mem_replicate.mp hz).2]
    decide
theorem Xoc (ws:List Int):gIn .non (iD ws)=some (.bl false):=by
 have d:Zja (ws.map D.int)≤20:=Zfo (fun _=>zero_le _) _
 have e:gIn .non (iD ws)=if dep .non≤20∧Zja (ws.map D.int)≤20 then some (.bl ((ws.map D.int).any fun y=>eqv y .non)) else none:=rfl
 rw [e,if_pos ⟨zero_le _,d⟩]
 congr 2
 rw [List.any_eq_false]
 intro y hy
 obtain ⟨z,_,rfl⟩:=List.mem_map.mp hy
 exact Bool.false_ne_true
theorem Xja (rs:List (List Int))(ks:List Kd)(os b:List Int)(hr:rs.length<64)(hc:∀r∈rs,r.length≤900)(hk:ks.length≤800)(hw:∀k∈ks,1≤k.w)(ho:os.length=ks.length)(hs:∀o∈os,-(2 ^ 64)<o∧o<2 ^ 64)(hb:b.length=ks.length)(hb0:∀z∈b,0≤z∧z≤1000000000000000000) :
  Yn [rsD rs,tD ks,iD os,.int (fby rs ks os b),.tup [iD b,rsD (rs.map fun r=>prL r (ptd ks b))]]=.ok (.bl true):=by
 obtain ⟨kk,hkk⟩:∃kk,kk=ptd ks b:=⟨_,rfl⟩
 have hkl:=Zin ks b
 have hkw:∀k∈kk,1≤k.w:=by rw [hkk];exact Zyf hw
 have h3:=Zhv ks b (by omega) hb
 rw [← hkk] at hkl h3 ⊢
 obtain ⟨ls,hls⟩:∃ls,ls=rs.map fun r=>prL r kk:=⟨_,rfl⟩
 rw [← hls]
 have hll:ls.length=rs.length:=by rw [hls,length_map]
 have hla:∀i,(hi:i<rs.length)→ls[i]'(by omega)=prL rs[i] kk:=fun i hi=>by simp [hls]
 have h5:=Zmg os b (by omega) (by omega) hs
 have wb:=Zma b (by omega)
 obtain ⟨F,hF⟩:∃F,F=fby rs ks os b:=⟨_,rfl⟩
 rw [← hF]
 have h6:Yt [iD (tops rs kk),.int (dot os b)]=.ok (.int F):=by
  rw [Zjn,hF]
  unfold fby
  rw [← hkk]
  exact Zmi (tops rs kk) (dot os b) (by unfold tops;rw [length_map];exact hr)
 have ab:Zyl [.lst (b.map fun _=>D.bl true)]=some (.bl true):=by
  rw [Zwk b fun _=>true]
  simp
 have cb:Yr 1 (Zn 10) Zbm (Zjp gLe gLe (fC (.int 0)) (fV 10) (f2 Ziz (fC (.int 10)) (fC (.int 18)))) [some (rsD rs),some (tD ks),some (iD os),some (.int F),some (.tup [iD b,rsD ls]),some (iD b),some (rsD ls),none,none,none] (b.map D.int)=.ok (b.map fun _=>D.bl true):=Zax rfl fun z hz=>Xhu rfl rfl (Zod (hb0 z hz).1) (Zo rfl rfl pow18) (Zod (hb0 z hz).2)
 have htop:(tops rs kk).length=rs.length:=by unfold tops;rw [length_map]
 have loop:V (Zdc (Zn 9) Zas (Zcj 0 rs.length) [some (rsD rs),some (tD ks),some (iD os),some (.int F),some (.tup [iD b,rsD ls]),some (iD b),some (rsD ls),some (tD kk),some (iD []),none]) (fun fl=>∃o9,fl=.nx [some (rsD rs),some (tD ks),some (iD os),some (.int F),some (.tup [iD b,rsD ls]),some (iD b),some (rsD ls),some (tD kk),some (iD (tops rs kk)),o9]):=by
  refine Zht (P:=fun i ρ=>∃o9,ρ=[some (rsD rs),some (tD ks),some (iD os),some (.int F),some (.tup [iD b,rsD ls]),some (iD b),some (rsD ls),some (tD kk),some (iD ((tops rs kk).take i)),o9]) ⟨none,rfl⟩ (fun i ρ hi q=>?_) (fun ρ q=>?_)
  ·obtain ⟨o9,rfl⟩:=q
   rw [Zio]
   have i1:gIx (rsD ls) (.int (i:Int))=some (iD (prL rs[i] kk)):=by rw [Xga (by omega),hla i hi]
   have i2:gIx (rsD rs) (.int (i:Int))=some (iD rs[i]):=Xga hi
   have hri:=hc rs[i] (getElem_mem hi)
   have w1:=Zma (prL rs[i] kk) (by rw [Zhq];omega)
   have s1:=Zts rs[i] kk (prL rs[i] kk) hri (by rw [Zhq];exact hri) (by omega) hkw
   rw [if_pos (Xcr rs[i] kk hkw).b,Xee] at s1
   have et:(tops rs kk)[i]?=some (ht rs[i] kk rs[i].length):=by unfold tops;simp [hi]
   have es:(tops rs kk).take (i+1)=(tops rs kk).take i++[ht rs[i] kk rs[i].length]:=by rw [take_add_one,et];rfl
   refine V.of (a:=.nx [some (rsD rs),some (tD ks),some (iD os),some (.int F),some (.tup [iD b,rsD ls]),some (iD b),some (rsD ls),some (tD kk),some (iD ((tops rs kk).take (i+1))),some (.int (i:Int))]) ?_ (by exact ⟨_,rfl⟩)
   rw [es,show iD ((tops rs kk).take i++[ht rs[i] kk rs[i].length])=.lst (((tops rs kk).take i).map D.int++[.int (ht rs[i] kk rs[i].length)]) from by rw [iD,map_append];rfl]
   exact Zq (Jf (Zgq (b:=true) (Jo (Xi (Zd (Zo rfl rfl i1) rfl) w1))) rfl) (Zet (xs:=((tops rs kk).take i).map D.int) rfl (Xi (Zd (Zo rfl rfl i2) (Zd rfl (Zd (Zo rfl rfl i1) rfl))) s1) (by rw [length_map,length_take];show _<1000000;omega))
  ·obtain ⟨o9,rfl⟩:=q
   rw [take_of_length_le (by omega)]
   exact ⟨o9,rfl⟩
 obtain ⟨fl,h1,o9,rfl⟩:=loop.ex
 have it:Zlw "tuple" (.tup [iD b,rsD ls])=some (.bl true):=rfl
 have il:Zlw "list" (rsD ls)=some (.bl true):=rfl
 have lr:Jk [rsD rs]=some (.int rs.length):=Zwd rs
 have ll:Jk [rsD ls]=some (.int rs.length):=(Zwd ls).trans (by rw [hll])
 have lb:Jk [iD b]=some (.int ks.length):=(Zqt b).trans (by rw [hb])
 have lt:=Zlz ks
 have br:=Zzw (n:=rs.length) (m:=64) (by omega)
 have bd:(Zdb (Xh (Zn 5) (Xh (Zn 6) Zcv))) (.tup [iD b,rsD ls]) [some (rsD rs),some (tD ks),some (iD os),some (.int F),some (.tup [iD b,rsD ls]),none,none,none,none,none]=.ok [some (rsD rs),some (tD ks),some (iD os),some (.int F),some (.tup [iD b,rsD ls]),some (iD b),some (rsD ls),none,none,none]:=rfl
 have rr:=(Zjj (a:=Zc (fA Jk (Zc (fV 0) Zt)) Zt) (ρ:=[some (rsD rs),some (tD ks),some (iD os),some (.int F),some (.tup [iD b,rsD ls]),some (iD b),some (rsD ls),some (tD kk),some (iD []),none]) (j:=(rs.length:Int)) (Zd (Jt (Zd rfl rfl) lr) rfl) br).trans (by rw [toNat_natCast])
 exact Zag (Zq (Jf (Zeh (Zgq (b:=true) (Jo (Zfw rfl it))) (Zeh (Jo (Zo (Jt (Zd rfl rfl) rfl) rfl rfl)) (Zgq (b:=true) (Jo (Xi (Zd (Zo rfl rfl rfl) rfl) wb))))) rfl) (Zq (Zzi rfl bd) (Zq (Jf (Zeh (Zgq (b:=true) (Jo (Zfw rfl il))) (Zeh (Jo (Zo (Jt (Zd rfl rfl) ll) (Jt (Zd rfl rfl) lr) (Xam rfl))) (Jo (Zo (Jt (Zd rfl rfl) lb) (Jt (Zd rfl rfl) lt) (Xam rfl))))) rfl) (Zq (Jf (Zgq (b:=true) (Jo (Jt (Zd (Zaa rfl (Ji (xs:=b.map D.int) rfl (by rw [length_map];show _≤1000000;omega)) cb) rfl) ab))) rfl) (Zq (Xn (Xi (Zd rfl (Zd rfl rfl)) h3)) (Zq (Xn rfl) (Zq (Zdt rr h1) (Zq (Jf (Jo (Zo rfl rfl (Xoc _))) rfl) (Zah (Zo (Xi (Zd rfl (Zd (Xi (Zd rfl (Zd rfl rfl)) h5) rfl)) h6) rfl (Zod (Int.le_refl _))))))))))))
theorem Xha (rs:List (List Int))(ks:List Kd)(os b:List Int)(hr:rs.length<64)(hc:∀r∈rs,r.length≤900)(hk:ks.length≤800)(hw:∀k∈ks,1≤k.w)(ho:os.length=ks.length)(hs:∀o∈os,-(2 ^ 64)<o∧o<2 ^ 64)(hb:b∈Zoe os ks)(hm:∀c∈Zoe os ks,fby rs ks os c≤fby rs ks os b)(hb0:∀z∈b,0≤z∧z≤1000000000000000000) :
  Zap [.tup [.int (fby rs ks os b),.tup [iD b,rsD (rs.map fun r=>prL r (ptd ks b))]],rsD rs,tD ks,iD os]=.ok (.bl true):=by
 have h1:=Xay rs ks os hr hc hk hw ho hs
 have e:(tried os ks).foldl (up (fby rs ks os)) 0=fby rs ks os b:=by
  obtain ⟨⟨u1,u2⟩,u3⟩:=Zxx (fby rs ks os) (tried os ks) 0
  have u4:=u2 b ((Zkt ho b).mpr hb)
  have u5:=Xld rs ks os b
  rcases u3 with u3 | ⟨c,hc',u3⟩
  ·omega
  ·have:=hm c ((Zkt ho c).mp hc')
   omega
 rw [e] at h1
 have h2:=Xja rs ks os b hr hc hk hw ho hs (Zfp ho b hb) hb0
 have it:∀a b:D,Zlw "tuple" (.tup [a,b])=some (.bl true):=fun _ _=>rfl
 exact Zag (Zq (Jf (Zeh (Zgq (b:=true) (Jo (Zfw rfl (it _ _)))) (Zeh (Jo (Zo (Jt (Zd rfl rfl) rfl) rfl rfl)) (Zgq (b:=true) (Jo (Xi (Zd (Zo rfl rfl rfl) rfl) (Zrk _)))))) rfl) (Zq (Jf (Jo (Zo (Zo rfl rfl rfl) (Xi (Zd rfl (Zd rfl (Zd rfl rfl))) h1) (Xam rfl))) rfl) (Zah (Xi (Zd rfl (Zd rfl (Zd rfl (Zd (Zo rfl rfl rfl) (Zd (Zo rfl rfl rfl) rfl))))) h2))))
theorem Xlc (S M N T:D)(X8 X9 X10 X11:Option D)(rs:List (List Int))(ks:List Kd)(os:List Int)(hr:rs.length<64)(hc:∀r∈rs,r.length≤900)(hk:ks.length≤800)(hw:∀k∈ks,1≤k.w)(hwo:∀k∈ks,k.w≤200∧1≤k.wo∧k.wo≤1000000000000000000)(ho:os.length=ks.length)(hs:∀o∈os,-(2 ^ 64)<o∧o<2 ^ 64) :
    ∃o9 o10 o11,Zkq [some S,some (tD ks),some M,some N,some T,some (rsD rs),some (iD os),some (.lst [rsD rs,tD ks,iD os]),X8,X9,X10,X11]=.ok (.nx [some S,some (tD ks),some M,some N,some T,some (rsD rs),some (iD os),some (.lst [rsD rs,tD ks,iD os]),X8,o9,o10,o11]):=by
  obtain ⟨b,hb,hm,hce⟩:=Zpb rs ks os hr hc hk hw ho hs
  have hr1:=Xha rs ks os b hr hc hk hw ho hs hb hm (Xij ho hw hwo b hb)
  obtain ⟨ls,hls⟩:∃ls,ls=rs.map fun r=>prL r (ptd ks b):=⟨_,rfl⟩
  rw [← hls] at hce hr1
  have hll:ls.length=rs.length:=by rw [hls,length_map]
  have hlb:∀l∈ls,l.length≤900:=fun l hl=>by
    rw [hls] at hl
    obtain ⟨r,hr',rfl⟩:=List.mem_map.mp hl
    rw [Zhq]
    exact hc r hr'
  have hbl:=Zfp ho b hb
  obtain ⟨n,hn⟩:∃n,n=fby rs ks os b:=⟨_,rfl⟩
  rw [← hn] at hce hr1
  have ep:D.tup [.int n,.tup [iD b,rsD ls]]=Zko n (b.map D.int) ((ls.map fun l=>l.map D.int).map D.lst):=by
    unfold Zko iD rsD
    rw [map_map]
    rfl
  have sz:=Xlp (n:=12) (ρ:=[some S,some (tD ks),some M,some N,some T,some (rsD rs),some (iD os),some (.lst [rsD rs,tD ks,iD os]),X8,some (.tup [.int n,.tup [iD b,rsD ls]]),X10,X11]) rfl ls
  have fp:=Zuk (i:=9) (j:=11) (v:=.int 0) (ρ:=[some S,some (tD ks),some M,some N,some T,some (rsD rs),some (iD os),some (.lst [rsD rs,tD ks,iD os]),X8,some (.tup [.int n,.tup [iD b,rsD ls]]),some (iD (ls.map fun l=>(l.length:Int)+1)),X11]) (n:=n) (b:=b.map D.int) (ls:=ls.map fun l=>l.map D.int) (by rw [← ep];rfl) (by rw [length_map];show _≤1000000;omega) (by show 11<12;decide) (fun xs hxs=>by
    obtain ⟨l,hl,rfl⟩:=List.mem_map.mp hxs
    have:=hlb l hl
    rw [length_map];show _<1000000;omega)
  have e2:Zko n (b.map D.int) ((ls.map fun l=>l.map D.int).map fun xs=>.lst (xs++[.int 0]))=.tup [.int n,.tup [iD b,rsD (ls.map fun l=>l++[0])]]:=by
    unfold Zko iD rsD
    rw [map_map,map_map]
    refine congrArg (fun z=>D.tup [.int n,.tup [.lst (b.map D.int),.lst z]]) (map_congr_left fun l _=>?_)
    show D.lst (l.map D.int++[.int 0])=D.lst ((l++[0]).map D.int)
    rw [map_append]
    rfl
  rw [e2] at fp
  have sz2:=Xkf (n:=12) (ρ:=[some S,some (tD ks),some M,some N,some T,some (rsD rs),some (iD os),some (.lst [rsD rs,tD ks,iD os]),X8,some (.tup [.int n,.tup [iD b,rsD (ls.map fun l=>l++[0])]]),some (iD (ls.map fun l=>(l.length:Int)+1)),none]) rfl (ls.map fun l=>l++[0])
  have e3:((ls.map fun l=>l++[0]).map fun l=>(l.length:Int))=ls.map fun l=>(l.length:Int)+1:=by
    rw [map_map]
    refine map_congr_left fun l _=>?_
    show ((l++[0]).length:Int)=_
    rw [length_append]
    rfl
  rw [e3] at sz2
  have ne:=neX (depI (ls.map fun l=>(l.length:Int)+1))
  have u1:=upd_b (v:=.int 1) (n:=n) (b:=b.map D.int) (ls:=((ls.map fun l=>l++[0]).map iD)) (by rw [length_map];show _<1000000;omega)
  have u2:=upd_l (v:=.lst []) (n:=n) (b:=b.map D.int++[.int 1]) (ls:=((ls.map fun l=>l++[0]).map iD)) (by rw [length_map,length_map];show _<1000000;omega)
  refine ⟨some (Zko n (b.map D.int++[.int 1]) ((ls.map fun l=>l++[0]).map iD++[.lst []])),some (iD (ls.map fun l=>(l.length:Int)+1)),none,?_⟩
  refine Zq (Xn (Xi (Zd (Zo rfl rfl rfl) (Zd (Zo rfl rfl rfl) (Zd (Zo rfl rfl rfl) rfl))) hce)) ?_
  refine Zq (Jf (Zgq (b:=true) (Jo (Xi (Zd rfl (Zd rfl (Zd rfl (Zd rfl rfl)))) hr1))) rfl) ?_
  refine Zq (Xn (Zaa rfl (Ji (xs:=ls.map iD) (Zo (Zo rfl rfl rfl) rfl rfl) (by rw [length_map];show _≤1000000;omega)) sz)) ?_
  refine Zq fp ?_
  refine Zq (Jf (Jo (Zo (Zaa rfl (Ji (xs:=(ls.map fun l=>l++[0]).map iD) (Zo (Zo rfl rfl rfl) rfl rfl) (by rw [length_map,length_map];show _≤1000000;omega)) sz2) rfl ne)) rfl) ?_
  refine Zq (Zvy (d:=Zko n (b.map D.int) ((ls.map fun l=>l++[0]).map iD)) (path:=[1,0]) rfl (Zd rfl (Zd rfl rfl)) rfl rfl u1) ?_
  exact Zvy (d:=Zko n (b.map D.int++[.int 1]) ((ls.map fun l=>l++[0]).map iD)) (path:=[1,1]) rfl (Zd rfl (Zd rfl rfl)) rfl rfl u2
theorem Ztf (ns:List Int)(h:ns.length≤63):Xfd [.scr ns]=.ok (.bl true):=by
  obtain ⟨ks,htb,hkl,hto⟩:=Xci ns h (i:=0) (m:=8) (by decide) (by decide) (by decide) (by decide)
  have hk8:ks.length≤8:=Int.ofNat_le.mp hkl
  obtain ⟨os,hrow,R⟩:=Zns ns h (i:=1) (by decide) (by decide) [6,8] (by decide) (Zlj (by decide))
  have hol:os.length=2:=R.len
  have b0:0≤os.getD 0 0∧os.getD 0 0<6:=R.at_ 0 (by decide)
  have x0:gIx (iD os) (.int 0)=some (.int (os.getD 0 0)):=Zac rfl (by omega)
  have x1:gIx (iD os) (.int 1)=some (.int (os.getD 1 0)):=Zac rfl (by omega)
  obtain ⟨fl,hfl,fl0,fl1⟩:=Xgm ns h (i:=0) (m:=8) (by decide) (by decide) (by decide) (by decide)
  obtain ⟨mn,ms,hmn,hms,step⟩:∃mn ms:Int,(0≤mn∧mn≤12)∧(0≤ms∧ms≤200)∧∀r:FS,(Xk (sIf (cE (f2 gEq (f2 gIx (fV 2) (fC (.int 1))) (fC (.int 0)))) (Zof (fA Zdy (Zc (fC (.int 12)) (Zc (fC (.int 40)) Zt))) (Zdb (Xh (Zn 3) (Xh (Zn 4) Zcv)))) sNx)
    (Xk (sIf (cE (f2 gEq (f2 gIx (fV 2) (fC (.int 1))) (fC (.int 1)))) (Zof (fA Zdy (Zc (fA Xdh (Zc (fV 3) (Zc (fC (.int 3)) Zt))) (Zc (fC (.int 200)) Zt))) (Zdb (Xh (Zn 3) (Xh (Zn 4) Zcv)))) sNx) r)) [some (.scr ns),some (tD ks),some (iD os),some (.int (os.getD 0 0)),some (.int 20),none,none,none,none,none,none,none]=r [some (.scr ns),some (tD ks),some (iD os),some (.int mn),some (.int ms),none,none,none,none,none,none,none]:=by
    by_cases q0:os.getD 1 0=0
    · refine ⟨12,40,by decide,by decide,fun r=>Zq (Zcq (Jo (Zo (Zo rfl rfl x1) rfl ((Zli _ _).trans (Zod q0)))) (Zzi (Jt (Zd rfl (Zd rfl rfl)) rfl) rfl)) (Zq (Jf (Jo (Zo (Zo rfl rfl x1) rfl ((Zli _ _).trans (Zoc (by omega))))) rfl) rfl)⟩
    · by_cases q1:os.getD 1 0=1
      · refine ⟨if (3:Int)<os.getD 0 0 then 3 else os.getD 0 0,200,by split<;>omega,by decide,fun r=>Zq (Jf (Jo (Zo (Zo rfl rfl x1) rfl ((Zli _ _).trans (Zoc q0)))) rfl) (Zq (Zcq (Jo (Zo (Zo rfl rfl x1) rfl ((Zli _ _).trans (Zod q1)))) (Zzi (Jt (Zd (Jt (Zd rfl (Zd rfl rfl)) rfl) (Zd rfl rfl)) rfl) rfl)) rfl)⟩
      · exact ⟨os.getD 0 0,20,by omega,by decide,fun r=>Zq (Jf (Jo (Zo (Zo rfl rfl x1) rfl ((Zli _ _).trans (Zoc q0)))) rfl) (Zq (Jf (Jo (Zo (Zo rfl rfl x1) rfl ((Zli _ _).trans (Zoc q1)))) rfl) rfl)⟩
  obtain ⟨rs,hrs,hrl,hrb⟩:=Zza ns h (i:=2) (m:=mn) (c:=ms) (by decide) hmn.1 (by omega) hms.1 hms.2 fl0 fl1
  obtain ⟨od,ho,hodl,hob⟩:=Xcu ns h (i:=20) (c:=(ks.length:Int)) (m:=7) (by decide) (by decide) (Int.natCast_nonneg _) hkl (by decide) (by decide)
  rw [← Zsw] at ho
  have lt:=Zlz ks
  have cp:=Zzg (n:=12) (ρ:=[some (.scr ns),some (tD ks),some (iD os),some (.int mn),some (.int ms),some (rsD rs),some (iD od),none,none,none,none,none]) rfl rs
  have loop:V (Zdc (Zn 8) Zkq (Zcj 0 2) [some (.scr ns),some (tD ks),some (iD os),some (.int mn),some (.int ms),some (rsD rs),some (iD od),some (.lst [rsD rs,tD ks,iD od]),none,none,none,none]) (fun fl=>∃o8 o9 o10 o11,fl=.nx [some (.scr ns),some (tD ks),some (iD os),some (.int mn),some (.int ms),some (rsD rs),some (iD od),some (.lst [rsD rs,tD ks,iD od]),o8,o9,o10,o11]):=by
    refine Zht (P:=fun _ ρ=>∃o8 o9 o10 o11,ρ=[some (.scr ns),some (tD ks),some (iD os),some (.int mn),some (.int ms),some (rsD rs),some (iD od),some (.lst [rsD rs,tD ks,iD od]),o8,o9,o10,o11]) ⟨none,none,none,none,rfl⟩ (fun i ρ _ q=>?_) (fun ρ q=>?_)
    · obtain ⟨o8,o9,o10,o11,rfl⟩:=q
      obtain ⟨p9,p10,p11,t⟩:=Xlc (.scr ns) (iD os) (.int mn) (.int ms) (some (.int (i:Int))) o9 o10 o11 rs ks od (by omega) (fun r hr=>by have:=(hrb r hr).1;omega) (by omega) (fun k hk=>(hto.ok k hk).w1) (fun k hk=>⟨(hto.ok k hk).w2,(hto.ok k hk).o1,(hto.ok k hk).o2⟩) (by omega) (fun o ho=>⟨Int.lt_of_lt_of_le (by decide) (hob o ho).1,Int.lt_trans (hob o ho).2 (by decide)⟩)
      exact V.of t (by exact ⟨_,_,_,_,rfl⟩)
    · obtain ⟨o8,o9,o10,o11,rfl⟩:=q
      exact ⟨o8,o9,o10,o11,rfl⟩
  obtain ⟨f,hloop,o8,o9,o10,o11,rfl⟩:=loop.ex
  have eq:=Zrh (dep3 rs ks od)
  refine Zag (Zq (Xn (Xi (Zd rfl (Zd rfl (Zd rfl rfl))) htb)) (Zq (Xn (Xi (Zd rfl (Zd rfl (Zd (Jt (Zd rfl (Zd rfl rfl)) rfl) rfl))) hrow)) (Zq (Zzi (Jt (Zd (Zfw (Zo rfl rfl x0) rfl) (Zd rfl rfl)) rfl) rfl) ?_)))
  refine (step _).trans ?_
  exact Zq (Xn (Xi (Zd rfl (Zd rfl (Zd rfl (Zd rfl (Zd (Xi (Zd rfl (Zd rfl (Zd rfl rfl))) hfl) rfl))))) hrs)) (Zq (Xn (Xi (Zd rfl (Zd rfl (Zd (Jt (Zd rfl rfl) lt) (Zd rfl rfl)))) ho)) (Zq (Xn (Jt (Zd (Zaa rfl (Ji (xs:=rs.map iD) rfl (Zdk (n:=64) (by omega))) cp) (Zd (Jt (Zd rfl rfl) (Xin ks)) (Zd (Jt (Zd rfl rfl) (Zvh od)) rfl))) rfl)) (Zq (Zdt (Zjj (j:=2) (Zd rfl rfl) (by decide)) hloop) (Zah (Zo rfl (Jt (Zd rfl (Zd rfl (Zd rfl rfl))) rfl) eq)))))
end Dl
set_option maxHeartbeats 4000000
namespace K72
open PySem PySem.Spec PyProof.Rows L2
open Dl (D R FE FT FA FO FS FI FB Fl)
noncomputable def top (i:Nat):Stmt:=PySem.Challenge.pw_selvage_k72_the_floor.main.body.getD i (.Pass ⟨0,0,0,0⟩)
noncomputable abbrev Zor:Stmt:=top 4
noncomputable abbrev Xgp:Stmt:=top 6
noncomputable abbrev Zky:Stmt:=top 8
noncomputable abbrev Zfe:Stmt:=top 9
noncomputable abbrev Zlg:Stmt:=top 10
noncomputable abbrev Zfj:Stmt:=top 12
noncomputable abbrev Zkw:Stmt:=top 14
noncomputable abbrev Zhk:Stmt:=top 16
noncomputable abbrev Zpo:Stmt:=top 17
noncomputable abbrev Zfd:Stmt:=top 18
noncomputable abbrev Zbv:Stmt:=top 19
noncomputable abbrev Yg:Stmt:=top 20
noncomputable abbrev Zqk:Stmt:=top 21
noncomputable abbrev Zgd:Stmt:=top 23
noncomputable abbrev Zhs:Stmt:=top 24
noncomputable abbrev Zik:Stmt:=top 25
noncomputable abbrev Zey:Stmt:=top 26
noncomputable abbrev Zfz:Stmt:=top 27
noncomputable abbrev Zgf:Stmt:=top 28
noncomputable abbrev Zfy:Stmt:=top 29
noncomputable abbrev Zgb:Stmt:=top 30
noncomputable abbrev Zcs:Stmt:=top 31
noncomputable abbrev Zby:Stmt:=top 32
noncomputable abbrev Zex:Stmt:=top 33
noncomputable abbrev Zev:Stmt:=top 34
noncomputable abbrev Zeo:Stmt:=top 35
noncomputable abbrev Zcp:Stmt:=top 36
noncomputable abbrev Zbu:Stmt:=top 37
noncomputable abbrev Zep:Stmt:=top 38
noncomputable abbrev Yu:Stmt:=top 39
noncomputable abbrev Zbt:Stmt:=top 40
noncomputable abbrev Jp:Stmt:=top 41
noncomputable abbrev Zeq:Stmt:=top 42
noncomputable abbrev Zzj:Stmt:=top 43
theorem Zrb:Xd ["roll","begin","end"] ["roll","begin","end"] (Zk Zor):=⟨rfl,rfl,rfl,by decide +kernel,rfl,by decide +kernel,by decide +kernel⟩
theorem Xdd:Xd ["roll","kind","place","end"] ["roll","kind","place"] (Zk Xgp):=⟨rfl,rfl,rfl,by decide +kernel,rfl,by decide +kernel,by decide +kernel⟩
theorem Zrc:Xd ["roll","table","end"] ["roll","table","end"] (Zk Zky):=⟨rfl,rfl,rfl,by decide +kernel,rfl,by decide +kernel,by decide +kernel⟩
theorem Zkj:Xd ["roll","table","tops","end","worths"] ["roll","table","tops"] (Zk Zfe):=⟨rfl,rfl,rfl,by decide +kernel,rfl,by decide +kernel,by decide +kernel⟩
theorem Znj:Xd ["roll","table","tops"] ["roll","table"] (Zk Zlg):=⟨rfl,rfl,rfl,by decide +kernel,rfl,by decide +kernel,by decide +kernel⟩
theorem Zkh:Xd ["order","some"] ["order","some"] (Zk Zfj):=⟨rfl,rfl,rfl,by decide +kernel,rfl,by decide +kernel,by decide +kernel⟩
theorem Zsb:Xd ["roll","table","tops"] ["roll","table"] (Zk Zkw):=⟨rfl,rfl,rfl,by decide +kernel,rfl,by decide +kernel,by decide +kernel⟩
theorem Zmo:Xd ["table","points"] ["table","points"] (Zk Zhk):=⟨rfl,rfl,rfl,by decide +kernel,rfl,by decide +kernel,by decide +kernel⟩
theorem Zrp:Xd ["sums","needed","falling","number"] ["sums","needed"] (Zk Zpo):=⟨rfl,rfl,rfl,by decide +kernel,rfl,by decide +kernel,by decide +kernel⟩
theorem Zkb:Xd ["rolls","table","order","points","kinds"] ["rolls","table","order","points"] (Zk Zfd):=⟨rfl,rfl,rfl,by decide +kernel,rfl,by decide +kernel,by decide +kernel⟩
theorem Zfn:Xd ["order","some"] ["order","some"] (Zk Zbv):=⟨rfl,rfl,rfl,by decide +kernel,rfl,by decide +kernel,by decide +kernel⟩
theorem Zdp:Xd ["table","order","alone","tries"] ["table","order"] (Zk Yg):=⟨rfl,rfl,rfl,by decide +kernel,rfl,by decide +kernel,by decide +kernel⟩
theorem Zvv:Xd ["rolls","table","order","tries","points","kinds","lists"] ["rolls","table","order"] (Zk Zqk):=⟨rfl,rfl,rfl,by decide +kernel,rfl,by decide +kernel,by decide +kernel⟩
theorem Zip:Xd ["_law_script","_law_place","_law_seed","_law_cell_here"] ["_law_script","_law_place"] (Zk Zgd):=⟨rfl,rfl,rfl,by decide +kernel,rfl,by decide +kernel,by decide +kernel⟩
theorem Zjt:Xd ["_law_cell_here","_law_k","_law_one","_law_two"] ["_law_cell_here","_law_k"] (Zk Zhs):=⟨rfl,rfl,rfl,by decide +kernel,rfl,by decide +kernel,by decide +kernel⟩
theorem Zjz:Xd ["_law_script","_law_place","_law_sizes","_law_cell_here","_law_left","_law_some","_law_k","_law_other"] ["_law_script","_law_place","_law_sizes"] (Zk Zik):=⟨rfl,rfl,rfl,by decide +kernel,rfl,by decide +kernel,by decide +kernel⟩
theorem Zgs:Xd ["_law_script","_law_place","_law_most","_law_pool","_law_some","_law_flaw_here","_law_gain","_law_table_here","_law_k","_law_at","_law_width","_law_worth","_law_allowed","_law_name"] ["_law_script","_law_place","_law_most"] (Zk Zey):=⟨rfl,rfl,rfl,by decide +kernel,rfl,by decide +kernel,by decide +kernel⟩
theorem Ziq:Xd ["_law_script","_law_place","_law_most"] ["_law_script","_law_place","_law_most"] (Zk Zfz):=⟨rfl,rfl,rfl,by decide +kernel,rfl,by decide +kernel,by decide +kernel⟩
theorem Ziu:Xd ["_law_script","_law_place","_law_most","_law_flaw_here","_law_some","_law_great","_law_roll_here","_law_k","_law_at","_law_weight"] ["_law_script","_law_place","_law_most","_law_flaw_here"] (Zk Zgf):=⟨rfl,rfl,rfl,by decide +kernel,rfl,by decide +kernel,by decide +kernel⟩
theorem Zil:Xd ["_law_roll_here","_law_sums_here","_law_weight"] ["_law_roll_here"] (Zk Zfy):=⟨rfl,rfl,rfl,by decide +kernel,rfl,by decide +kernel,by decide +kernel⟩
theorem Zhy:Xd ["_law_sums_here","_law_kind","_law_at","_law_end"] ["_law_sums_here","_law_kind","_law_at"] (Zk Zgb):=⟨rfl,rfl,rfl,by decide +kernel,rfl,by decide +kernel,by decide +kernel⟩
theorem Zee:Xd ["_law_roll_here","_law_table_here","_law_sums_here","_law_high","_law_end","_law_most","_law_kind","_law_at"] ["_law_roll_here","_law_table_here"] (Zk Zcs):=⟨rfl,rfl,rfl,by decide +kernel,rfl,by decide +kernel,by decide +kernel⟩
theorem Zdd:Xd ["_law_one"] ["_law_one"] (Zk Zby):=⟨rfl,rfl,rfl,by decide +kernel,rfl,by decide +kernel,by decide +kernel⟩
theorem Zgw:Xd ["_law_roll_here","_law_table_here","_law_costs","_law_price","_law_sums_here","_law_paid","_law_kind","_law_at"] ["_law_roll_here","_law_table_here","_law_costs"] (Zk Zex):=⟨rfl,rfl,rfl,by decide +kernel,rfl,by decide +kernel,by decide +kernel⟩
theorem Zgt:Xd ["_law_script","_law_place","_law_count","_law_most","_law_some","_law_order_here","_law_k","_law_number_here"] ["_law_script","_law_place","_law_count","_law_most"] (Zk Zev):=⟨rfl,rfl,rfl,by decide +kernel,rfl,by decide +kernel,by decide +kernel⟩
theorem Zgy:Xd ["_law_script","_law_place","_law_many","_law_most","_law_flaw_here","_law_rolls_here","_law_k"] ["_law_script","_law_place","_law_many","_law_most","_law_flaw_here"] (Zk Zeo):=⟨rfl,rfl,rfl,by decide +kernel,rfl,by decide +kernel,by decide +kernel⟩
theorem Zen:Xd ["_law_table_here","_law_points","_law_found","_law_k","_law_name","_law_width","_law_worth","_law_allowed"] ["_law_table_here","_law_points"] (Zk Zcp):=⟨rfl,rfl,rfl,by decide +kernel,rfl,by decide +kernel,by decide +kernel⟩
theorem Zfm:Xd ["_law_order_here","_law_points"] ["_law_order_here","_law_points"] (Zk Zbu):=⟨rfl,rfl,rfl,by decide +kernel,rfl,by decide +kernel,by decide +kernel⟩
theorem Zgv:Xd ["_law_sums_here","_law_wanted_here","_law_left","_law_total","_law_number_here"] ["_law_sums_here","_law_wanted_here"] (Zk Zep):=⟨rfl,rfl,rfl,by decide +kernel,rfl,by decide +kernel,by decide +kernel⟩
theorem Zfs:Xd ["_law_rolls_here","_law_table_here","_law_order_here","_law_wanted_here","_law_tried","_law_k","_law_found","_law_points","_law_kinds","_law_sums_here"] ["_law_rolls_here","_law_table_here","_law_order_here"] (Zk Yu):=⟨rfl,rfl,rfl,by decide +kernel,rfl,by decide +kernel,by decide +kernel⟩
theorem Zfq:Xd ["_law_found"] ["_law_found"] (Zk Zbt):=⟨rfl,rfl,rfl,by decide +kernel,rfl,by decide +kernel,by decide +kernel⟩
theorem Zbw:Xd ["_law_rolls_here","_law_table_here","_law_order_here","_law_number_here","_law_paper","_law_points","_law_lists","_law_kinds","_law_sums_here","_law_k"] ["_law_rolls_here","_law_table_here","_law_order_here","_law_number_here","_law_paper"] (Zk Jp):=⟨rfl,rfl,rfl,by decide +kernel,rfl,by decide +kernel,by decide +kernel⟩
theorem Zgl:Xd ["_law_found","_law_rolls_here","_law_table_here","_law_order_here"] ["_law_found","_law_rolls_here","_law_table_here","_law_order_here"] (Zk Zeq):=⟨rfl,rfl,rfl,by decide +kernel,rfl,by decide +kernel,by decide +kernel⟩
theorem Xmw:Xd ["_law_script","_law_table_here","_law_some","_law_many","_law_most","_law_rolls_here","_law_order_here","_law_handed","_law_turn","_law_found","_law_sizes","_law_one"] ["_law_script"] (Zk Zzj):=⟨rfl,rfl,rfl,by decide +kernel,rfl,by decide +kernel,by decide +kernel⟩
structure Txt (mg:Str→Option Value):Prop where
 sum:mg "sum"=none
 len:mg "len"=none
 max:mg "max"=none
 zip:mg "zip"=none
 range:mg "range"=none
 sorted:mg "sorted"=none
 enumerate:mg "enumerate"=none
 some:mg "some"=none
 min:mg "min"=none
 isinstance:mg "isinstance"=none
 int:mg "int"=none
 bool:mg "bool"=none
 list:mg "list"=none
 all:mg "all"=none
 tuple:mg "tuple"=none
noncomputable abbrev tsL (P1:Addr):List (Addr×Pos×Str):=[(P1,⟨59,28,59,76⟩,"floor.<locals>.<lambda>")]
section
variable {P:Program}{w:World}{K:Frag}{C:String→Addr}{mg:Str→Option Value}{base:Heap}{f:Addr}{fd:FuncData}{P1 c:Addr}
theorem Xbp (F:Fun K "spoilt" "spoilt" Zor f fd)(T:Txt mg):Zam P w K mg base CX0 7 f fd ["roll","begin","end"] (spD K C 3 2 Dl.Zeb):=by
  refine F.okC Zrb (Γ':=[]) (Δ':=[]) rfl fun cdv A outer s H E hr=>?_
  have sc:=Zrb
  have hu:_+64<cLine:=hr.units
  exact ⟨_,(Zg [] [] (Ju (Zyb (Zhu (Xs Zjh Zem (Zl 1) Ze (Xp _)) (Zhu (Xs Zha Zcy (Zl 2) (Zr (r:=Ys K) Zs Xm rfl T.len PySem.boot_len (Zb (Zl 0) Zh Za) (he:=Za)) (Xp _)) (Zic (Xs Zha Zcy (Zl 1) (Zl 2) (Xp _)))))) (Zm Xbn) Xv)
      (Zm (Xg (Zr (r:=Xgo K) (Zhj rfl) Zkx rfl T.sum PyProof.Rows.boot_sum (Zb (Xep K (Zl 0) (Zkz (Zl 1)) (Zkz (Zl 2))) Zh Xj) (he:=Xj)))))⟩
theorem Zsn (F:Fun K "together" "together" Zfj f fd)(T:Txt mg):Zam P w K mg base CX0 7 f fd ["order","some"] (spD K C 2 2 Dl.Zbf):=by
 refine F.okC Zkh (Γ':=[]) (Δ':=[]) rfl fun cdv A outer s H E hr=>?_
 have sc:=Zkh
 have hu:_+64<cLine:=hr.units
 exact ⟨_,(Zm (Xg (Zr (r:=Xgo K) (Zhj rfl) Zkx rfl T.sum PyProof.Rows.boot_sum (Zb (Jd (n:=2) (Zk Zfj) ["order","some"] ["order","some"] ["number","one"] ⟨rfl,by decide +kernel,by decide +kernel,by decide +kernel,by decide +kernel,by decide +kernel,rfl,by decide +kernel⟩ (Zuj rfl T.zip (Zl 0) (Zl 1) Za Za) (fun _ _ _ _ _=>(Zsa K (Zbr (Xx 2 (hN:=(by decide +kernel:List.Nodup (["order","some","number","one"]:List Str)))) (Zbr (Xx 3 (hN:=(by decide +kernel:List.Nodup (["order","some","number","one"]:List Str)))) Zln)))) (fun _ _ _ _ _=>Yp) (fun _ _ _ _ _=>(Zv Xy Ya (Zl 2 (hv:=Or.inl rfl)) (Zl 3 (hv:=Or.inl rfl))))) Zh Yf) (he:=Yf))))⟩
theorem Zww (F:Fun K "pointed" "pointed" Zhk f fd)(T:Txt mg):Zam P w K mg base CX0 7 f fd ["table","points"] (spD K C 2 2 Dl.Zaw):=by
 refine F.okC Zmo (Γ':=[]) (Δ':=[]) rfl fun cdv A outer s H E hr=>?_
 have sc:=Zmo
 have hu:_+64<cLine:=hr.units
 exact ⟨_,(Zm (Xg (Jd (n:=2) (Zk Zhk) ["table","points"] ["table","points"] ["kind","point"] ⟨rfl,by decide +kernel,by decide +kernel,by decide +kernel,by decide +kernel,by decide +kernel,rfl,by decide +kernel⟩ (Zuj rfl T.zip (Zl 0) (Zl 1) Za Za) (fun _ _ _ _ _=>(Zsa K (Zbr (Xx 2 (hN:=(by decide +kernel:List.Nodup (["table","points","kind","point"]:List Str)))) (Zbr (Xx 3 (hN:=(by decide +kernel:List.Nodup (["table","points","kind","point"]:List Str)))) Zln)))) (fun _ _ _ _ _=>Zpp (Xs Zha Zcy (Zl 3 (hv:=Or.inl rfl)) Ze (Xp _))) (fun _ _ _ _ _=>(Zju (Zi (Xl (Zx K (Zl 2 (hv:=Or.inl rfl)) Ze Zj)) (Zi (Xl (Zx K (Zl 2 (hv:=Or.inl rfl)) Ze Zj)) (Zi (Xl (Zl 3 (hv:=Or.inl rfl))) (Zi (Xl (Zx K (Zl 2 (hv:=Or.inl rfl)) Ze Zj)) Zh Xj) Za) Xj) Xj))))))⟩
theorem Zyi (F:Fun K "fewest" "fewest" Zpo f fd)(T:Txt mg):Zam P w K mg base CX0 7 f fd ["sums","needed"] (spD K C 2 2 Dl.Zck):=by
  refine F.okC Zrp (Γ':=[]) (Δ':=[]) rfl fun cdv A outer s H E hr=>?_
  have sc:=Zrp
  have hu:_+64<cLine:=hr.units
  exact ⟨_,(Zg [2] [2] (Zu (i:=2) sc.nd rfl (Or.inl rfl) (Xbc K rfl T.sorted (Zl 0) Za))
      (Zg [2] [2] (Zaj [2] [2] PassesOwn.never rfl (Jc rfl T.range (Zb (Zv Xb Xc (Zr (r:=Ys K) Zs Xm rfl T.len PySem.boot_len (Zb (Zl 0) Zh Za) (he:=Za)) Ze) Zh Xe)) (Je (i:=3) (hN:=sc.nd) (hi:=rfl) (hx:=Or.inl rfl)) (Zm (Ju (Xs Xef Zxu (Zr (r:=Xgo K) (Zhj rfl) Zkx rfl T.sum PyProof.Rows.boot_sum (Zb (Xep K (Zl 2) Zus (Zkz (Zl 3))) Zh Xj) (he:=Xj)) (Zl 1) (Xp _)) (Zm (Xg (Xl (Zl 3)))) Xv)))
      (Zm (Xg (Zv Xb Xc (Zr (r:=Ys K) Zs Xm rfl T.len PySem.boot_len (Zb (Zl 0) Zh Za) (he:=Za)) Ze)))))⟩
theorem Zkr (F:Fun K "only_wanted" "only_wanted" Zbv f fd)(T:Txt mg):Zam P w K mg base CX0 7 f fd ["order","some"] (spD K C 2 2 Dl.Yv):=by
 refine F.okC Zfn (Γ':=[]) (Δ':=[]) rfl fun cdv A outer s H E hr=>?_
 have sc:=Zfn
 have hu:_+64<cLine:=hr.units
 exact ⟨_,(Zm (Xg (Jd (n:=2) (Zk Zbv) ["order","some"] ["order","some"] ["number","one"] ⟨rfl,by decide +kernel,by decide +kernel,by decide +kernel,by decide +kernel,by decide +kernel,rfl,by decide +kernel⟩ (Zuj rfl T.zip (Zl 0) (Zl 1) Za Za) (fun _ _ _ _ _=>(Zsa K (Zbr (Xx 2 (hN:=(by decide +kernel:List.Nodup (["order","some","number","one"]:List Str)))) (Zbr (Xx 3 (hN:=(by decide +kernel:List.Nodup (["order","some","number","one"]:List Str)))) Zln)))) (fun _ _ _ _ _=>Yp) (fun _ _ _ _ _=>(Xnu (Xs Zha Zcy (Zl 2 (hv:=Or.inl rfl)) Ze (Xp _)) (Xl (Zl 3 (hv:=Or.inl rfl))) Ze)))))⟩
theorem Zoi (F:Fun K "_law_cell" "_law_cell" Zgd f fd)(T:Txt mg):Zam P w K mg base CX0 7 f fd ["_law_script","_law_place"] (spD K C 2 2 Dl.Zan):=by
  refine F.okC Zip (Γ':=[]) (Δ':=[]) rfl fun cdv A outer s H E hr=>?_
  have sc:=Zip
  have hu:_+64<cLine:=hr.units
  exact ⟨_,(Zg [] [] (Ju (Xs Zjh Zem (Zl 1) (Zr (r:=Ys K) Zs Xm rfl T.len PySem.boot_len (Zb (Zl 0) Zh Za) (he:=Za)) (Xp _)) (Zm (Xg (Xl (Zx K (Zl 0) (Zl 1) Zz)))) Xv)
      (Zg [2] [2] (Zu (i:=2) sc.nd rfl (Or.inl rfl) Ze)
      (Zg [2] [2] (Zaj [2] [2] PassesOwn.never rfl (Yw (Xep K (Zl 0) Zus (Zkz Ze))) (Je (i:=3) (hN:=sc.nd) (hi:=rfl) (hx:=Or.inl rfl)) (Zm (Zu (i:=2) sc.nd rfl (Or.inl rfl) (Zv Zbq Zad (Zv Xb Xc (Zv Xb Xc (Zv Xy Ya (Zl 2) Ze) (Zv Zbq Zad (Zl 3) Ze)) Ze) Ze))))
      (Zm (Xg (Zv Zbq Zad (Zv Xb Xc (Zl 2) (Zv Xy Ya Ze (Zl 1))) Ze))))))⟩
theorem Zsy (F:Fun K "_law_mix" "_law_mix" Zhs f fd)(T:Txt mg):Zam P w K mg base CX0 7 f fd ["_law_cell_here","_law_k"] (spD K C 2 2 Dl.Zbh):=by
  refine F.okC Zjt (Γ':=[]) (Δ':=[]) rfl fun cdv A outer s H E hr=>?_
  have sc:=Zjt
  have hu:_+64<cLine:=hr.units
  exact ⟨_,(Zg [2] [2] (Zu (i:=2) sc.nd rfl (Or.inl rfl) (Zv Zbq Zad (Zv Zef Zcd (Zv Xb Xc (Zv Xb Xc (Zv Zbq Zad (Zl 0) Ze) (Zv Xy Ya Ze (Zl 1))) Ze) Ze) Ze))
      (Zg [2,3] [2,3] (Zu (i:=3) sc.nd rfl (Or.inl rfl) (Zv Zbq Zad (Zv Xb Xc (Zv Xb Xc (Zv Xy Ya (Zl 2) Ze) (Zv Xy Ya (Zv Xy Ya Ze (Zl 1)) (Zl 1))) Ze) Ze))
      (Zm (Xg (Zv Zre Zxi (Zl 3) Ze)))))⟩
theorem Zpi (F:Fun K "_law_sums" "_law_sums" Zfy f fd)(T:Txt mg):Zam P w K mg base CX0 7 f fd ["_law_roll_here"] (spD K C 1 2 Dl.Yx):=by
  refine F.okC Zil (Γ':=[]) (Δ':=[]) rfl fun cdv A outer s H E hr=>?_
  have sc:=Zil
  have hu:_+64<cLine:=hr.units
  exact ⟨_,(Zg [1] [1] (Zu (i:=1) sc.nd rfl (Or.inl rfl) (Yq (Zi Ze Zh Zf)))
      (Zg [1] [1] (Zaj [1] [1] PassesOwn.never rfl (Yw (Zl 0)) (Je (i:=2) (hN:=sc.nd) (hi:=rfl) (hx:=Or.inl rfl)) (Zm (Zak (i:=1) (he:=(Zv Xb Xc (Zx K (Zl 1) (Zkg Ze) Zdv) (Zl 2))) (hse:=Xe))))
      (Zm (Xg (Zgi 1)))))⟩
theorem Zov (F:Fun K "_law_good" "_law_good" Zgb f fd)(T:Txt mg):Zam P w K mg base CX0 7 f fd ["_law_sums_here","_law_kind","_law_at"] (spD K C 3 2 Dl.Jv):=by
  refine F.okC Zhy (Γ':=[]) (Δ':=[]) rfl fun cdv A outer s H E hr=>?_
  have sc:=Zhy
  have hu:_+64<cLine:=hr.units
  exact ⟨_,(Zg [3] [3] (Zu (i:=3) sc.nd rfl (Or.inl rfl) (Zv Xb Xc (Zl 2) (Zx K (Zl 1) Ze Zj)))
      (Zg [3] [3] (Ju (Zyb (Zhu (Xs Zjh Zem (Zl 2) Ze (Xp _)) (Zic (Xs Xef Zxu (Zl 3) (Zr (r:=Ys K) Zs Xm rfl T.len PySem.boot_len (Zb (Zl 0) Zh Za) (he:=Za)) (Xp _))))) (Zm (Xg Zit)) Xv)
      (Zm (Xg (Zjq Ztt Zmj (Zv Zib Zer (Zx K (Zl 0) (Zl 3) Zz) (Zx K (Zl 0) (Zl 2) Zz)) (Zx K (Zl 1) Ze Zj) (Xp _))))))⟩
theorem Zif (F:Fun K "_law_is_whole" "_law_is_whole" Zby f fd)(T:Txt mg):Zam P w K mg base CX0 7 f fd ["_law_one"] (spD K C 1 2 Dl.Xu):=by
 refine F.okC Zdd (Γ':=[]) (Δ':=[]) rfl fun cdv A outer s H E hr=>?_
 have sc:=Zdd
 have hu:_+64<cLine:=hr.units
 exact ⟨_,(Zm (Xg (Xdp (Zkk K (ty:="int") Xfe rfl T.isinstance rfl T.int PyProof.Rows.boot_int (Zl 0) Za) (Xcv (Xmx (Zkk K (ty:="bool") Zzh rfl T.isinstance rfl T.bool PyProof.Rows.boot_bool (Zl 0) Za))))))⟩
theorem Zjd (F:Fun K "_law_pointed" "_law_pointed" Zcp f fd)(T:Txt mg):Zam P w K mg base CX0 7 f fd ["_law_table_here","_law_points"] (spD K C 2 2 Dl.Yh):=by
  refine F.okC Zen (Γ':=[]) (Δ':=[]) rfl fun cdv A outer s H E hr=>?_
  have sc:=Zen
  have hu:_+64<cLine:=hr.units
  exact ⟨_,(Zg [2] [2] (Zu (i:=2) sc.nd rfl (Or.inl rfl) (Yq Zh))
      (Zg [2] [2] (Zaj [2] [2] PassesOwn.never rfl (Jc rfl T.range (Zb (Zr (r:=Ys K) Zs Xm rfl T.len PySem.boot_len (Zb (Zl 0) Zh Za) (he:=Za)) Zh Xa)) (Je (i:=3) (hN:=sc.nd) (hi:=rfl) (hx:=Or.inl rfl)) (Zbe [2,4,5,6,7] [2,4,5,6,7] (Zg [2,4,5,6,7] [2,4,5,6,7] (Zob rfl (Xl (Zx K (Zl 0) (Zl 3) Zz)) (Zaz (i:=4) sc.nd rfl (Or.inl rfl) (Zaz (i:=5) sc.nd rfl (Or.inl rfl) (Zaz (i:=6) sc.nd rfl (Or.inl rfl) (Zaz (i:=7) sc.nd rfl (Or.inl rfl) Zmm)))))
      (Zm (Ju (Xs Zha Zcy (Zx K (Zl 1) (Zl 3) Zz) Ze (Xp _)) (Zm (Zak (i:=2) (he:=(Zju (Zi (Xl (Zl 4)) (Zi (Xl (Zl 5)) (Zi (Xl (Zx K (Zl 1) (Zl 3) Zz)) (Zi (Xl (Zl 7)) Zh Za) Xj) Za) Za))) (hse:=Zlb))) Xv)))))
      (Zm (Xg (Zgi 2)))))⟩
theorem Zlv (F:Fun K "_law_wanted" "_law_wanted" Zbu f fd)(T:Txt mg):Zam P w K mg base CX0 7 f fd ["_law_order_here","_law_points"] (spD K C 2 2 Dl.Yo):=by
 refine F.okC Zfm (Γ':=[]) (Δ':=[]) rfl fun cdv A outer s H E hr=>?_
 have sc:=Zfm
 have hu:_+64<cLine:=hr.units
 exact ⟨_,(Zm (Xg (Zr (r:=Xgo K) (Zhj rfl) Zkx rfl T.sum PyProof.Rows.boot_sum (Zb (Jd (n:=2) (Zk Zbu) ["_law_order_here","_law_points"] ["_law_order_here","_law_points"] ["_law_k"] ⟨rfl,by decide +kernel,by decide +kernel,by decide +kernel,by decide +kernel,by decide +kernel,rfl,by decide +kernel⟩ (Jc rfl T.range (Zb (Zr (r:=Ys K) Zs Xm rfl T.len PySem.boot_len (Zb (Zl 0) Zh Za) (he:=Za)) Zh Xa)) (fun _ _ _ _ _=>(Xx 2 (hN:=(by decide +kernel:List.Nodup (["_law_order_here","_law_points","_law_k"]:List Str))))) (fun _ _ _ _ _=>Yp) (fun _ _ _ _ _=>(Zv Xy Ya (Zx K (Zl 0 (hv:=Or.inr (Or.inl rfl))) (Zl 2 (hv:=Or.inl rfl)) Zz) (Zx K (Zl 1 (hv:=Or.inr (Or.inl rfl))) (Zl 2 (hv:=Or.inl rfl)) Zz)))) Zh Yf) (he:=Yf))))⟩
theorem Zmz (F:Fun K "_law_least" "_law_least" Zep f fd)(T:Txt mg):Zam P w K mg base CX0 7 f fd ["_law_sums_here","_law_wanted_here"] (spD K C 2 2 Dl.Yt):=by
  refine F.okC Zgv (Γ':=[]) (Δ':=[]) rfl fun cdv A outer s H E hr=>?_
  have sc:=Zgv
  have hu:_+64<cLine:=hr.units
  exact ⟨_,(Zg [2] [2] (Zu (i:=2) sc.nd rfl (Or.inl rfl) (Zr Zoj Zzf rfl T.sorted PyProof.Rows.boot_sorted (Zb (Zl 0) Zh Za) (he:=Za)))
      (Zg [2,3] [2,3] (Zu (i:=3) sc.nd rfl (Or.inl rfl) Ze)
      (Zg [2,3,4] [2,3,4] (Zu (i:=4) sc.nd rfl (Or.inl rfl) Ze)
      (Zg [2,3,4] [2,3,4] (Zqy 100000 PassesOwn.never (Zyb (Zvx (Xs Zjh Zem (Zl 3) (Zl 1) (Xp _)) (Zpa (Xs Zha Zcy (Zr (r:=Ys K) Zs Xm rfl T.len PySem.boot_len (Zb (Zl 2) Zh Za) (he:=Za)) Ze (Xp _))))) (Zg [2,3,4] [2,3,4] (Zyq (i:=3) (j:=2) Xb Xc sc.nd rfl (Or.inl rfl) (Zl 3))
      (Zm (Zu (i:=4) sc.nd rfl (Or.inl rfl) (Zv Xb Xc (Zl 4) Ze)))))
      (Zg [2,3,4] [2,3,4] (Ju (Xs Zjh Zem (Zl 3) (Zl 1) (Xp _)) (Zm (Xg (Zv Xb Xc (Zl 4) Ze))) Xv)
      (Zm (Xg (Zgi 4))))))))⟩
theorem Xlm (F:Fun K "fits" "fits" Xgp f fd)(T:Txt mg)(Dspoilt:Def P w K mg base CX0 7 "spoilt" ["roll","begin","end"] (spD K C 3 2 Dl.Zeb)):Zam P w K mg base CX0 8 f fd ["roll","kind","place"] (spD K C 3 2 Dl.Zjv):=by
  refine F.okC Xdd (Γ':=[]) (Δ':=[]) rfl fun cdv A outer s H E hr=>?_
  have sc:=Xdd
  have hu:_+64<cLine:=hr.units
  exact ⟨_,(Zg [3] [3] (Zu (i:=3) sc.nd rfl (Or.inl rfl) (Zv Xb Xc (Zl 2) (Zx K (Zl 1) Ze Zj)))
      (Zg [3] [3] (Ju (Zyb (Zhu (Xs Zjh Zem (Zl 2) Ze (Xp _)) (Zic (Xs Zha Zcy (Zl 3) (Zr (r:=Ys K) Zs Xm rfl T.len PySem.boot_len (Zb (Zl 0) Zh Za) (he:=Za)) (Xp _))))) (Zm (Xg Zit)) Xv)
      (Zm (Xg (Zjq Ztt Zmj (Zw Dspoilt (hr.mono (by decide)) rfl Ye (Zb (Zl 0) (Zb (Zl 2) (Zb (Zl 3) Zh Za) Za) Za) (he:=Za)) (Zx K (Zl 1) Ze Zj) (Xp _))))))⟩
theorem Zix (F:Fun K "points_to_try" "points_to_try" Yg f fd)(T:Txt mg)(Donly_wanted:Def P w K mg base CX0 7 "only_wanted" ["order","some"] (spD K C 2 2 Dl.Yv)):Zam P w K mg base CX0 8 f fd ["table","order"] (spD K C 2 0 Dl.Jh):=by
  refine F.okC Zdp (Γ':=[]) (Δ':=[]) rfl fun cdv A outer s H E hr=>?_
  have sc:=Zdp
  have hu:_+64<cLine:=hr.units
  exact ⟨_,(Zg [2] [2] (Zu (i:=2) sc.nd rfl (Or.inr rfl) (Xca (n:=4) (Zk Yg) ["table","order","alone","tries"] ["table","order","alone","tries"] ("place":Str) ⟨rfl,fun _ _=>rfl,by decide +kernel,by decide +kernel,by decide +kernel,by decide +kernel,by decide +kernel,by decide +kernel,rfl,by decide +kernel⟩ (Jc rfl T.range (Zb (Zr (r:=Ys K) Zs Xm rfl T.len PySem.boot_len (Zb (Zl 0) Zh Za) (he:=Za)) Zh Xa)) (fun _ _ _ _ _=>(Xx 4 (hN:=(by decide +kernel:List.Nodup (["table","order","alone","tries","place"]:List Str))) (hx:=.inr rfl) (hf:=.inl rfl))) (fun _ _ _ _ _=>Yp) (fun _ _ _ _ _=>(Zxa (n:=5) (Zk Yg) ["table","order","alone","tries","place"] ["table","order","alone","tries","place"] ["other"] ⟨rfl,by decide +kernel,by decide +kernel,by decide +kernel,by decide +kernel,by decide +kernel,rfl,by decide +kernel⟩ (Jc rfl T.range (Zb (Zr (r:=Ys K) Zs Xm rfl T.len PySem.boot_len (Zb (Zl 0 (hv:=Or.inr (Or.inl rfl))) Zh Za) (he:=Za)) Zh Xa)) (fun _ _ _ _ _=>(Xx 5 (hN:=(by decide +kernel:List.Nodup (["table","order","alone","tries","place","other"]:List Str))))) (fun _ _ _ _ _=>Yp) (fun _ _ _ _ _=>(Xnu (Xs (r:=Zsj K) (Zdm hu) Zdh (Zl 5 (hv:=Or.inl rfl)) (Zl 4 (hv:=Or.inr (Or.inl rfl))) (Xp _)) Ze Ze))))))
      (Zg [3] [] (Xas (i:=3) (n:=4) 2 (Zk Yg) ["table","order","alone","tries"] ["table","order","alone","tries"] ⟨rfl,by decide +kernel,by decide +kernel,by decide +kernel,by decide +kernel,by decide +kernel,rfl,by decide +kernel⟩ rfl rfl (by decide) (Xgx rfl T.enumerate (Zl 1) Za) (fun _ _ _ _ _=>(Zsa K (Zbr (Xx 4 (hN:=(by decide +kernel:List.Nodup (["table","order","alone","tries","place","number"]:List Str)))) (Zbr (Xx 5 (hN:=(by decide +kernel:List.Nodup (["table","order","alone","tries","place","number"]:List Str)))) Zln)))) (fun _ _ _ _ _=>Zpp (Xs Zha Zcy (Zl 5 (hv:=Or.inl rfl)) Ze (Xp _))) (fun _ _ _ _ _=>(Zx K (Zl 2 (hv:=Or.inr (Or.inl rfl))) (Zl 4 (hv:=Or.inl rfl)) Zz)))
      (Zg [3] [] (Zak (i:=3) (he:=(Zw Donly_wanted (hr.mono (by decide)) rfl Ye (Zb (Zl 1) (Zb (Jd (n:=4) (Zk Yg) ["table","order","alone","tries"] ["table","order","alone","tries"] ["kind"] ⟨rfl,by decide +kernel,by decide +kernel,by decide +kernel,by decide +kernel,by decide +kernel,rfl,by decide +kernel⟩ (Yw (Zl 0)) (fun _ _ _ _ _=>(Xx 4 (hN:=(by decide +kernel:List.Nodup (["table","order","alone","tries","kind"]:List Str))))) (fun _ _ _ _ _=>Yp) (fun _ _ _ _ _=>(Xl (Zx K (Zl 4 (hv:=Or.inl rfl)) Ze Zj)))) Zh Yf) Za) (he:=Za))) (hse:=Xa))
      (Zg [3] [] (Zak (i:=3) (he:=(Zw Donly_wanted (hr.mono (by decide)) rfl Ye (Zb (Zl 1) (Zb (Jd (n:=4) (Zk Yg) ["table","order","alone","tries"] ["table","order","alone","tries"] ["kind"] ⟨rfl,by decide +kernel,by decide +kernel,by decide +kernel,by decide +kernel,by decide +kernel,rfl,by decide +kernel⟩ (Yw (Zl 0)) (fun _ _ _ _ _=>(Xx 4 (hN:=(by decide +kernel:List.Nodup (["table","order","alone","tries","kind"]:List Str))))) (fun _ _ _ _ _=>Yp) (fun _ _ _ _ _=>(Xl (Zx K (Zl 4 (hv:=Or.inl rfl)) Ze Zj)))) Zh Yf) Za) (he:=Za))) (hse:=Xa))
      (Zg [3] [] (Zak (i:=3) (he:=(Zw Donly_wanted (hr.mono (by decide)) rfl Ye (Zb (Zl 1) (Zb (Zv Xy Ya (Yq (Zi Ze Zh Zf)) (Zr (r:=Ys K) Zs Xm rfl T.len PySem.boot_len (Zb (Zl 0) Zh Za) (he:=Za))) Zh Xe) Za) (he:=Za))) (hse:=Xa))
      (Zm (Xhp (Zl 3))))))))⟩
theorem Zsh (F:Fun K "_law_row" "_law_row" Zik f fd)(T:Txt mg)(D_law_cell:Def P w K mg base CX0 7 "_law_cell" ["_law_script","_law_place"] (spD K C 2 2 Dl.Zan))(D_law_mix:Def P w K mg base CX0 7 "_law_mix" ["_law_cell_here","_law_k"] (spD K C 2 2 Dl.Zbh)):Zam P w K mg base CX0 8 f fd ["_law_script","_law_place","_law_sizes"] (spD K C 3 2 Dl.Xz):=by
  refine F.okC Zjz (Γ':=[]) (Δ':=[]) rfl fun cdv A outer s H E hr=>?_
  have sc:=Zjz
  have hu:_+64<cLine:=hr.units
  exact ⟨_,(Zg [3] [3] (Zu (i:=3) sc.nd rfl (Or.inl rfl) (Zw D_law_cell (hr.mono (by decide)) rfl Ye (Zb (Zl 0) (Zb (Zl 1) Zh Za) Za) (he:=Za)))
      (Zg [3,4] [3,4] (Zu (i:=4) sc.nd rfl (Or.inl rfl) (Xl (Zl 3)))
      (Zg [3,4,5] [3,4,5] (Zu (i:=5) sc.nd rfl (Or.inl rfl) (Yq Zh))
      (Zg [3,4,5] [3,4,5] (Zaj [3,4,5] [3,4,5] PassesOwn.never rfl (Jc rfl T.range (Zb (Zr (r:=Ys K) Zs Xm rfl T.len PySem.boot_len (Zb (Zl 2) Zh Za) (he:=Za)) Zh Xa)) (Je (i:=6) (hN:=sc.nd) (hi:=rfl) (hx:=Or.inl rfl)) (Zm (Ju (Xs Zjh Zem (Zl 3) (Zv Zef Zcd Ze Ze) (Xp _)) (Zm (Zak (i:=5) (he:=(Zv Zbq Zad (Zw D_law_mix (hr.mono (by decide)) rfl Ye (Zb (Zl 3) (Zb (Zl 6) Zh Za) Za) (he:=Za)) (Zx K (Zl 2) (Zl 6) Zz))) (hse:=Xe))) (Zm (Ju (Xs Zha Zcy (Zl 4) Ze (Xp _)) (Zg [3,4,5] [3,4,5] (Zak (i:=5) (he:=(Zv Zbq Zad (Zl 4) (Zx K (Zl 2) (Zl 6) Zz))) (hse:=Xe))
      (Zm (Zu (i:=4) sc.nd rfl (Or.inl rfl) (Zv Zre Zxi (Zl 4) (Zx K (Zl 2) (Zl 6) Zz))))) (Zbe [3,4,5,7] [3,4,5,7] (Zg [3,4,5,7] [3,4,5,7] (Zu (i:=7) sc.nd rfl (Or.inl rfl) (Zw D_law_cell (hr.mono (by decide)) rfl Ye (Zb (Zl 0) (Zb (Zv Zbq Zad (Zv Xb Xc (Zv Xb Xc (Zl 1) Ze) (Zl 6)) Ze) Zh Xe) Za) (he:=Za)))
      (Zm (Zak (i:=5) (he:=(Zv Zbq Zad (Zw D_law_mix (hr.mono (by decide)) rfl Ye (Zb (Zl 7) (Zb (Zl 6) Zh Za) Za) (he:=Za)) (Zx K (Zl 2) (Zl 6) Zz))) (hse:=Xe))))))))))
      (Zm (Xg (Zgi 5)))))))⟩
theorem Zje (F:Fun K "_law_heights" "_law_heights" Zcs f fd)(T:Txt mg)(D_law_sums:Def P w K mg base CX0 7 "_law_sums" ["_law_roll_here"] (spD K C 1 2 Dl.Yx))(D_law_good:Def P w K mg base CX0 7 "_law_good" ["_law_sums_here","_law_kind","_law_at"] (spD K C 3 2 Dl.Jv)):Zam P w K mg base CX0 8 f fd ["_law_roll_here","_law_table_here"] (spD K C 2 2 Dl.Ja):=by
  refine F.okC Zee (Γ':=[]) (Δ':=[]) rfl fun cdv A outer s H E hr=>?_
  have sc:=Zee
  have hu:_+64<cLine:=hr.units
  exact ⟨_,(Zg [2] [2] (Zu (i:=2) sc.nd rfl (Or.inl rfl) (Zw D_law_sums (hr.mono (by decide)) rfl Ye (Zb (Zl 0) Zh Za) (he:=Za)))
      (Zg [2,3] [2,3] (Zu (i:=3) sc.nd rfl (Or.inl rfl) (Yq (Zi Ze Zh Zf)))
      (Zg [2,3] [2,3] (Zaj [2,3] [2,3] PassesOwn.never rfl (Xik rfl T.range (Zb Ze (Zb (Zr (r:=Ys K) Zs Xm rfl T.len PySem.boot_len (Zb (Zl 2) Zh Za) (he:=Za)) Zh Xa) Zf)) (Je (i:=4) (hN:=sc.nd) (hi:=rfl) (hx:=Or.inl rfl)) (Zbe [2,3,5] [2,3,5] (Zg [2,3,5] [2,3,5] (Zu (i:=5) sc.nd rfl (Or.inl rfl) (Xl (Zx K (Zl 3) (Zkg Ze) Zdv)))
      (Zg [2,3,5] [2,3,5] (Zaj [2,3,5] [2,3,5] PassesOwn.never rfl (Yw (Zl 1)) (Je (i:=6) (hN:=sc.nd) (hi:=rfl) (hx:=Or.inl rfl)) (Zbe [2,3,5,7] [2,3,5,7] (Zg [2,3,5,7] [2,3,5,7] (Zu (i:=7) sc.nd rfl (Or.inl rfl) (Zv Zib Zer (Zl 4) (Zx K (Zl 6) Ze Zj)))
      (Zm (Ju (Zde (Zw D_law_good (hr.mono (by decide)) rfl Ye (Zb (Zl 2) (Zb (Zl 6) (Zb (Zl 7) Zh Za) Za) Za) (he:=Za))) (Zm (Zu (i:=5) sc.nd rfl (Or.inl rfl) (Zr (r:=Zox K) (Zhw rfl) Zpj rfl T.max PyProof.Rows.boot_max (Zb (Zl 5) (Zb (Zv Xb Xc (Zx K (Zl 3) (Zl 7) Zz) (Zx K (Zl 6) Ze Zj)) Zh Xe) Za) (he:=Za)))) Xv)))))
      (Zm (Zak (i:=3) (he:=(Xl (Zl 5))) (hse:=Za)))))))
      (Zm (Xg (Zgi 3))))))⟩
theorem Znc (F:Fun K "_law_shown" "_law_shown" Zex f fd)(T:Txt mg)(D_law_sums:Def P w K mg base CX0 7 "_law_sums" ["_law_roll_here"] (spD K C 1 2 Dl.Yx))(D_law_good:Def P w K mg base CX0 7 "_law_good" ["_law_sums_here","_law_kind","_law_at"] (spD K C 3 2 Dl.Jv)):Zam P w K mg base CX0 8 f fd ["_law_roll_here","_law_table_here","_law_costs"] (spD K C 3 2 Dl.Zau):=by
  refine F.okC Zgw (Γ':=[]) (Δ':=[]) rfl fun cdv A outer s H E hr=>?_
  have sc:=Zgw
  have hu:_+64<cLine:=hr.units
  exact ⟨_,(Zg [] [] (Ju (Xs (r:=Zzk K) (Zhx hu) Zhr (Zr (r:=Ys K) Zs Xm rfl T.len PySem.boot_len (Zb (Zl 2) Zh Za) (he:=Za)) (Zr (r:=Ys K) Zs Xm rfl T.len PySem.boot_len (Zb (Zl 0) Zh Za) (he:=Za)) (Xp _)) (Zm (Xg Zry)) Xv)
      (Zg [] [] (Zaj [] [] PassesOwn.never rfl (Yw (Zl 2)) (Je (i:=3) (hN:=sc.nd) (hi:=rfl) (hx:=Or.inl rfl)) (Zm (Ju (Xs Zjh Zem (Zl 3) Ze (Xp _)) (Zm (Xg Zry)) Xv)))
      (Zg [4] [4] (Zu (i:=4) sc.nd rfl (Or.inl rfl) (Zw D_law_sums (hr.mono (by decide)) rfl Ye (Zb (Zl 0) Zh Za) (he:=Za)))
      (Zg [4,5] [4,5] (Zu (i:=5) sc.nd rfl (Or.inl rfl) (Zw D_law_sums (hr.mono (by decide)) rfl Ye (Zb (Zl 2) Zh Za) (he:=Za)))
      (Zg [4,5] [4,5] (Zaj [4,5] [4,5] PassesOwn.never rfl (Yw (Zl 1)) (Je (i:=6) (hN:=sc.nd) (hi:=rfl) (hx:=Or.inl rfl)) (Zm (Zaj [4,5] [4,5] PassesOwn.never rfl (Jc rfl T.range (Zb (Zr (r:=Ys K) Zs Xm rfl T.len PySem.boot_len (Zb (Zl 0) Zh Za) (he:=Za)) Zh Xa)) (Je (i:=7) (hN:=sc.nd) (hi:=rfl) (hx:=Or.inl rfl)) (Zm (Ju (Zyb (Zvx (Zde (Zw D_law_good (hr.mono (by decide)) rfl Ye (Zb (Zl 4) (Zb (Zl 6) (Zb (Zl 7) Zh Za) Za) Za) (he:=Za))) (Zpa (Xs Zjh Zem (Zv Zib Zer (Zx K (Zl 5) (Zv Xb Xc (Zl 7) (Zx K (Zl 6) Ze Zj)) plain_bin) (Zx K (Zl 5) (Zl 7) Zz)) (Zx K (Zl 6) Ze Zj) (Xp _))))) (Zm (Xg Zry)) Xv)))))
      (Zm (Xg (Xl (Zx K (Zl 5) (Zkg Ze) Zdv)))))))))⟩
theorem Zlm (F:Fun K "_law_wholes" "_law_wholes" Zbt f fd)(T:Txt mg)(D_law_is_whole:Def P w K mg base CX0 7 "_law_is_whole" ["_law_one"] (spD K C 1 2 Dl.Xu)):Zam P w K mg base CX0 8 f fd ["_law_found"] (spD K C 1 2 Dl.Jm):=by
 refine F.okC Zfq (Γ':=[]) (Δ':=[]) rfl fun cdv A outer s H E hr=>?_
 have sc:=Zfq
 have hu:_+64<cLine:=hr.units
 exact ⟨_,(Zm (Xg (Xdp (Zkk K (ty:="list") Zrg rfl T.isinstance rfl T.list PyProof.Rows.boot_list (Zl 0) Za) (Xcv (Zr (r:=Zty K) (Zmq rfl) Zwy rfl T.all PyProof.Rows.boot_all (Zb (Jd (n:=1) (Zk Zbt) ["_law_found"] ["_law_found"] ["_law_one"] ⟨rfl,by decide +kernel,by decide +kernel,by decide +kernel,by decide +kernel,by decide +kernel,rfl,by decide +kernel⟩ (Yw (Zl 0)) (fun _ _ _ _ _=>(Xx 1 (hN:=(by decide +kernel:List.Nodup (["_law_found","_law_one"]:List Str))))) (fun _ _ _ _ _=>Yp) (fun _ _ _ _ _=>(Zw D_law_is_whole (hr.mono (by decide)) rfl Ye (Zb (Zl 1 (hv:=Or.inl rfl)) Zh Za) (he:=Za)))) Zh Yf) (he:=Yf))))))⟩
theorem Zyt (F:Fun K "ending" "ending" Zky f fd)(T:Txt mg)(Dfits:Def P w K mg base CX0 8 "fits" ["roll","kind","place"] (spD K C 3 2 Dl.Zjv)):Zam P w K mg base CX0 9 f fd ["roll","table","end"] (spD K C 3 2 Dl.Zcm):=by
 refine F.okC Zrc (Γ':=[]) (Δ':=[]) rfl fun cdv A outer s H E hr=>?_
 have sc:=Zrc
 have hu:_+64<cLine:=hr.units
 exact ⟨_,(Zm (Xg (Jd (n:=3) (Zk Zky) ["roll","table","end"] ["roll","table","end"] ["kind"] ⟨rfl,by decide +kernel,by decide +kernel,by decide +kernel,by decide +kernel,by decide +kernel,rfl,by decide +kernel⟩ (Yw (Zl 1)) (fun _ _ _ _ _=>(Xx 3 (hN:=(by decide +kernel:List.Nodup (["roll","table","end","kind"]:List Str))))) (fun _ _ _ _ _=>Zpp (Zde (Zw Dfits (hr.mono (by decide)) rfl Ye (Zb (Zl 0 (hv:=Or.inr (Or.inl rfl))) (Zb (Zl 3 (hv:=Or.inl rfl)) (Zb (Zv Zib Zer (Zl 2 (hv:=Or.inr (Or.inl rfl))) (Zx K (Zl 3 (hv:=Or.inl rfl)) Ze Zj)) Zh Xe) Za) Za) (he:=Za)))) (fun _ _ _ _ _=>(Xl (Zl 3 (hv:=Or.inl rfl)))))))⟩
theorem Znu (F:Fun K "_law_table" "_law_table" Zey f fd)(T:Txt mg)(D_law_row:Def P w K mg base CX0 8 "_law_row" ["_law_script","_law_place","_law_sizes"] (spD K C 3 2 Dl.Xz)):Zam P w K mg base CX0 9 f fd ["_law_script","_law_place","_law_most"] (spD K C 3 2 Dl.Zat):=by
  refine F.okC Zgs (Γ':=[]) (Δ':=[]) rfl fun cdv A outer s H E hr=>?_
  have sc:=Zgs
  have hu:_+64<cLine:=hr.units
  exact ⟨_,(Zg [3] [3] (Zu (i:=3) sc.nd rfl (Or.inl rfl) (Yq (Zi Zbc (Zi Zbc (Zi Zbc (Zi Zbc (Zi Zbc (Zi Zbc (Zi Zbc (Zi Zbc (Zi Zbc (Zi Zbc Zh Zf) Zf) Zf) Zf) Zf) Zf) Zf) Zf) Zf) Zf)))
      (Zg [3] [3] (Zu (i:=3) sc.nd rfl (Or.inl rfl) (Zv Xb Xc (Zl 3) (Yq (Zi Zbc (Zi Zbc (Zi Zbc (Zi Zbc (Zi Zbc (Zi Zbc Zh Zf) Zf) Zf) Zf) Zf) Zf))))
      (Zg [3,4] [3,4] (Zu (i:=4) sc.nd rfl (Or.inl rfl) (Zw D_law_row (hr.mono (by decide)) rfl Ye (Zb (Zl 0) (Zb (Zl 1) (Zb (Zv Xb Xc (Yq (Zi (Zv Xb Xc (Zl 2) Ze) (Zi Ze (Zi Ze (Zi Ze (Zi Ze (Zi Ze Zh Zf) Zf) Zf) Zf) Zf) Xe)) (Zv Xy Ya (Yq (Zi Ze (Zi Ze (Zi Ze Zh Zf) Zf) Zf)) (Zl 2))) Zh Xe) Za) Za) (he:=Za)))
      (Zg [3,4,5] [3,4,5] (Zu (i:=5) sc.nd rfl (Or.inl rfl) (Xl (Zx K (Yq (Zi Ze (Zi Ze (Zi Ze (Zi (Zv Zef Zcd Ze Ze) Zh Xe) Zf) Zf) Zf)) (Zx K (Zl 4) Ze Zj) Zbl)))
      (Zg [3,4,5,6] [3,4,5,6] (Zu (i:=6) sc.nd rfl (Or.inl rfl) (Xl (Zx K (Yq (Zi Ze (Zi Ze (Zi (Zv Zef Zcd Ze Ze) (Zi (Zv Xy Ya Ze (Zv Zef Zcd Ze Ze)) Zh Xe) Xe) Zf) Zf)) (Zx K (Zl 4) Ze Zj) Zbl)))
      (Zg [3,4,5,6,7] [3,4,5,6,7] (Zu (i:=7) sc.nd rfl (Or.inl rfl) (Yq Zh))
      (Zg [3,4,5,6,7] [3,4,5,6,7] (Zaj [3,4,5,6,7] [3,4,5,6,7] PassesOwn.never rfl (Jc rfl T.range (Zb (Zx K (Zl 4) Ze Zj) Zh Xj)) (Je (i:=8) (hN:=sc.nd) (hi:=rfl) (hx:=Or.inl rfl)) (Zbe [3,4,5,6,7,9,10,11,12,13] [3,4,5,6,7,9,10,11,12,13] (Zg [3,4,5,6,7,9] [3,4,5,6,7,9] (Zu (i:=9) sc.nd rfl (Or.inl rfl) (Zv Xb Xc (Zv Xy Ya Ze (Zl 8)) Ze))
      (Zg [3,4,5,6,7,9,10] [3,4,5,6,7,9,10] (Zu (i:=10) sc.nd rfl (Or.inl rfl) (Xl (Zx K (Zgg (Zb Ze (Zb Ze (Zb Ze (Zb Ze (Zb Ze (Zb Ze (Zb Ze (Zb Ze (Zb Ze (Zb Ze (Zb (Zx K (Yq (Zi Ze (Zi Ze Zh Zf) Zf)) (Zv Zbq Zad (Zl 8) Ze) plain_bin) Zh Xj) Zf) Zf) Zf) Zf) Zf) Zf) Zf) Zf) Zf) Zf)) (Zx K (Zl 4) (Zl 9) Zz) Zbl)))
      (Zg [3,4,5,6,7,9,10,11] [3,4,5,6,7,9,10,11] (Zu (i:=11) sc.nd rfl (Or.inl rfl) (Zv Xb Xc Ze (Zx K (Zl 4) (Zv Xb Xc (Zl 9) Ze) plain_bin)))
      (Zg [3,4,5,6,7,9,10,11] [3,4,5,6,7,9,10,11] (Ju (Xs (r:=Zsj K) (Zdm hu) Zdh (Zx K (Zl 4) Ze Zj) Ze (Xp _)) (Zm (Zu (i:=11) sc.nd rfl (Or.inl rfl) (Zv Xb Xc (Zv Xy Ya Ze (Zl 10)) (Zv Zbq Zad (Zx K (Zl 4) (Zv Xb Xc (Zl 9) Ze) plain_bin) Ze)))) Xv)
      (Zg [3,4,5,6,7,9,10,11] [3,4,5,6,7,9,10,11] (Ju (Xs (r:=Zsj K) (Zdm hu) Zdh (Zx K (Zl 4) Ze Zj) Ze (Xp _)) (Zm (Zu (i:=11) sc.nd rfl (Or.inl rfl) (Zv Xb Xc Ze (Zv Zbq Zad (Zx K (Zl 4) (Zv Xb Xc (Zl 9) Ze) plain_bin) Ze)))) Xv)
      (Zg [3,4,5,6,7,9,10,11] [3,4,5,6,7,9,10,11] (Ju (Xs (r:=Zsj K) (Zdm hu) Zdh (Zx K (Zl 4) Ze Zj) Ze (Xp _)) (Zm (Zu (i:=11) sc.nd rfl (Or.inl rfl) (Xl (Zl 10)))) Xv)
      (Zg [3,4,5,6,7,9,10,11,12] [3,4,5,6,7,9,10,11,12] (Zu (i:=12) sc.nd rfl (Or.inl rfl) (Zr (r:=Zwu) (Zie rfl) Zon rfl T.min PyProof.Rows.boot_min (Zb (Zv Xy Ya (Zx K (Yq (Zi Ze (Zi Ze (Zi Ze (Zi Ze (Zi Ze (Zi Ze Zh Zf) Zf) Zf) Zf) Zf) Zf)) (Zx K (Zl 4) (Zv Xb Xc (Zl 9) Ze) plain_bin) Zbl) (Zl 5)) (Zb (Zv Zib Zer (Zv Zef Zcd Ze Ze) Ze) Zh Xe) Xe) (he:=Xe)))
      (Zg [3,4,5,6,7,9,10,11,12,13] [3,4,5,6,7,9,10,11,12,13] (Zu (i:=13) sc.nd rfl (Or.inl rfl) (Xl (Zx K (Zl 3) (Zv Zbq Zad (Zv Xb Xc (Zx K (Zl 4) Ze Zj) (Zv Xy Ya (Zv Xb Xc (Zv Xy Ya Ze (Zx K (Zl 4) Ze Zj)) Ze) (Zl 8))) Ze) plain_bin)))
      (Zm (Zak (i:=7) (he:=(Zju (Zi (Xl (Zl 13)) (Zi (Xl (Zl 10)) (Zi (Zr (r:=Zwu) (Zie rfl) Zon rfl T.min PyProof.Rows.boot_min (Zb (Zv Xy Ya (Zl 11) (Zl 6)) (Zb (Zv Zef Zcd Ze Ze) Zh Xe) Xe) (he:=Xe)) (Zi (Xl (Zl 12)) Zh Za) Xa) Za) Za))) (hse:=Zlb)))))))))))))
      (Zm (Xg (Zgi 7))))))))))⟩
theorem Zpq (F:Fun K "_law_flaw" "_law_flaw" Zfz f fd)(T:Txt mg)(D_law_row:Def P w K mg base CX0 8 "_law_row" ["_law_script","_law_place","_law_sizes"] (spD K C 3 2 Dl.Xz)):Zam P w K mg base CX0 9 f fd ["_law_script","_law_place","_law_most"] (spD K C 3 2 Dl.Zbi):=by
 refine F.okC Ziq (Γ':=[]) (Δ':=[]) rfl fun cdv A outer s H E hr=>?_
 have sc:=Ziq
 have hu:_+64<cLine:=hr.units
 exact ⟨_,(Zm (Xg (Xl (Zx K (Yq (Zi Ze (Zi Ze (Zi Ze (Zi (Zv Zef Zcd Ze Ze) Zh Xe) Zf) Zf) Zf)) (Zx K (Zw D_law_row (hr.mono (by decide)) rfl Ye (Zb (Zl 0) (Zb (Zl 1) (Zb (Yq (Zi (Zv Xb Xc (Zl 2) Ze) (Zi Ze Zh Zf) Xe)) Zh Ziv) Za) Za) (he:=Za)) Ze Zj) Zbl))))⟩
theorem Zop (F:Fun K "_law_roll" "_law_roll" Zgf f fd)(T:Txt mg)(D_law_row:Def P w K mg base CX0 8 "_law_row" ["_law_script","_law_place","_law_sizes"] (spD K C 3 2 Dl.Xz)):Zam P w K mg base CX0 9 f fd ["_law_script","_law_place","_law_most","_law_flaw_here"] (spD K C 4 2 Dl.Zbk):=by
  refine F.okC Ziu (Γ':=[]) (Δ':=[]) rfl fun cdv A outer s H E hr=>?_
  have sc:=Ziu
  have hu:_+64<cLine:=hr.units
  exact ⟨_,(Zg [4] [4] (Zu (i:=4) sc.nd rfl (Or.inl rfl) (Zw D_law_row (hr.mono (by decide)) rfl Ye (Zb (Zl 0) (Zb (Zl 1) (Zb (Zv Xb Xc (Yq (Zi (Zv Xb Xc (Zl 2) Ze) (Zi Ze (Zi Ze Zh Zf) Zf) Xe)) (Zv Xy Ya (Yq (Zi Ze (Zi Ze Zh Zf) Zf)) (Zl 2))) Zh Xe) Za) Za) (he:=Za)))
      (Zg [4,5] [4,5] (Zu (i:=5) sc.nd rfl (Or.inl rfl) (Zv Xy Ya Ze (Zl 3)))
      (Zg [4,5] [4,5] (Ju (Xs (r:=Zsj K) (Zdm hu) Zdh (Zx K (Zl 4) Ze Zj) Ze (Xp _)) (Zm (Zu (i:=5) sc.nd rfl (Or.inl rfl) (Zv Zef Zcd Ze Ze))) Xv)
      (Zg [4,5,6] [4,5,6] (Zu (i:=6) sc.nd rfl (Or.inl rfl) (Yq Zh))
      (Zg [4,5,6] [4,5,6] (Zaj [4,5,6] [4,5,6] PassesOwn.never rfl (Jc rfl T.range (Zb (Zx K (Zl 4) Ze Zj) Zh Xj)) (Je (i:=7) (hN:=sc.nd) (hi:=rfl) (hx:=Or.inl rfl)) (Zbe [4,5,6,8,9] [4,5,6,8,9] (Zg [4,5,6,8] [4,5,6,8] (Zu (i:=8) sc.nd rfl (Or.inl rfl) (Zv Xb Xc (Zv Xy Ya Ze (Zl 7)) Ze))
      (Zg [4,5,6,8,9] [4,5,6,8,9] (Zu (i:=9) sc.nd rfl (Or.inl rfl) Ze)
      (Zg [4,5,6,8,9] [4,5,6,8,9] (Ju (Xs Zjh Zem (Zx K (Zl 4) (Zl 8) Zz) (Zx K (Yq (Zi Ze (Zi Ze (Zi Ze (Zi Ze Zh Zf) Zf) Zf) Zf)) (Zx K (Zl 4) Ze Zj) Zbl) (Xp _)) (Zm (Zu (i:=9) sc.nd rfl (Or.inl rfl) (Xl (Zx K (Zgg (Zb (Zl 3) (Zb (Zl 3) (Zb (Zv Xy Ya Ze (Zl 3)) (Zb (Zv Xy Ya Ze (Zl 3)) (Zb (Zl 5) Zh Za) Xe) Xe) Za) Za)) (Zx K (Zl 4) (Zv Xb Xc (Zl 8) Ze) plain_bin) Zbl)))) Xv)
      (Zm (Zak (i:=6) (he:=(Xl (Zl 9))) (hse:=Za))))))))
      (Zm (Xg (Zgi 6))))))))⟩
theorem Zmk (F:Fun K "_law_order" "_law_order" Zev f fd)(T:Txt mg)(D_law_row:Def P w K mg base CX0 8 "_law_row" ["_law_script","_law_place","_law_sizes"] (spD K C 3 2 Dl.Xz)):Zam P w K mg base CX0 9 f fd ["_law_script","_law_place","_law_count","_law_most"] (spD K C 4 2 Dl.Zar):=by
  refine F.okC Zgt (Γ':=[]) (Δ':=[]) rfl fun cdv A outer s H E hr=>?_
  have sc:=Zgt
  have hu:_+64<cLine:=hr.units
  exact ⟨_,(Zg [4] [4] (Zu (i:=4) sc.nd rfl (Or.inl rfl) (Zw D_law_row (hr.mono (by decide)) rfl Ye (Zb (Zl 0) (Zb (Zl 1) (Zb (Zv Xb Xc (Yq (Zi Ze Zh Zf)) (Zv Xy Ya (Zgg (Zb (Zl 3) (Zb Ze Zh Zf) Za)) Ze)) Zh Xe) Za) Za) (he:=Za)))
      (Zg [4,5] [4,5] (Zu (i:=5) sc.nd rfl (Or.inl rfl) (Yq Zh))
      (Zg [4,5] [4,5] (Zaj [4,5] [4,5] PassesOwn.never rfl (Jc rfl T.range (Zb (Zl 2) Zh Za)) (Je (i:=6) (hN:=sc.nd) (hi:=rfl) (hx:=Or.inl rfl)) (Zbe [4,5,7] [4,5,7] (Zg [4,5,7] [4,5,7] (Zu (i:=7) sc.nd rfl (Or.inl rfl) (Xl (Zx K (Zl 4) (Zv Xb Xc (Zv Xy Ya Ze (Zl 6)) Ze) plain_bin)))
      (Zg [4,5,7] [4,5,7] (Ju (Zyb (Zhu (Xs (r:=Zsj K) (Zdm hu) Zdh (Zx K (Zl 4) (Zv Xb Xc (Zv Xy Ya Ze (Zl 6)) Ze) plain_bin) Ze (Xp _)) (Zic (Zyb (Zvx (Xs (r:=Zsj K) (Zdm hu) Zdh (Zx K (Zl 4) Ze Zj) Ze (Xp _)) (Zpa (Xs Zha Zcy (Zl 6) Ze (Xp _)))))))) (Zm (Zu (i:=7) sc.nd rfl (Or.inl rfl) Ze)) Xv)
      (Zm (Zak (i:=5) (he:=(Xl (Zl 7))) (hse:=Za)))))))
      (Zm (Xg (Zgi 5))))))⟩
theorem Zlh (F:Fun K "_law_number" "_law_number" Yu f fd)(T:Txt mg)(D_law_pointed:Def P w K mg base CX0 7 "_law_pointed" ["_law_table_here","_law_points"] (spD K C 2 2 Dl.Yh))(D_law_least:Def P w K mg base CX0 7 "_law_least" ["_law_sums_here","_law_wanted_here"] (spD K C 2 2 Dl.Yt))(D_law_heights:Def P w K mg base CX0 8 "_law_heights" ["_law_roll_here","_law_table_here"] (spD K C 2 2 Dl.Ja))(D_law_wanted:Def P w K mg base CX0 7 "_law_wanted" ["_law_order_here","_law_points"] (spD K C 2 2 Dl.Yo)):Zam P w K mg base CX0 9 f fd ["_law_rolls_here","_law_table_here","_law_order_here"] (spD K C 3 2 Dl.Jz):=by
  refine F.okC Zfs (Γ':=[]) (Δ':=[]) rfl fun cdv A outer s H E hr=>?_
  have sc:=Zfs
  have hu:_+64<cLine:=hr.units
  exact ⟨_,(Zg [3] [3] (Zu (i:=3) sc.nd rfl (Or.inr rfl) (Jd (n:=10) (Zk Yu) ["_law_rolls_here","_law_table_here","_law_order_here","_law_wanted_here","_law_tried","_law_k","_law_found","_law_points","_law_kinds","_law_sums_here"] ["_law_rolls_here","_law_table_here","_law_order_here","_law_wanted_here","_law_tried","_law_k","_law_found","_law_points","_law_kinds","_law_sums_here"] ["_law_one"] ⟨rfl,by decide +kernel,by decide +kernel,by decide +kernel,by decide +kernel,by decide +kernel,rfl,by decide +kernel⟩ (Yw (Zl 2)) (fun _ _ _ _ _=>(Xx 10 (hN:=(by decide +kernel:List.Nodup (["_law_rolls_here","_law_table_here","_law_order_here","_law_wanted_here","_law_tried","_law_k","_law_found","_law_points","_law_kinds","_law_sums_here","_law_one"]:List Str))))) (fun _ _ _ _ _=>Yp) (fun _ _ _ _ _=>(Zdo Znb Zum rfl T.int PyProof.Rows.boot_int (Zb (Zjq Zha Zcy (Zl 10 (hv:=Or.inl rfl)) Ze (Xp _)) Zh Zhn) (he:=Zhn)))))
      (Zg [4] [] (Xhn (i:=4) sc.nd rfl (Or.inl rfl) (Zgg (Zb (Zl 3) Zh Za)))
      (Zg [4] [] (Zaj [4] [] PassesOwn.never rfl (Jc rfl T.range (Zb (Zr (r:=Ys K) Zs Xm rfl T.len PySem.boot_len (Zb (Zl 1) Zh Za) (he:=Za)) Zh Xa)) (Je (i:=5) (hN:=sc.nd) (hi:=rfl) (hx:=Or.inr rfl)) (Zm (Ju (Xs Zha Zcy (Zx K (Zl 2) (Zl 5) Zz) Ze (Xp _)) (Zm (Zak (i:=4) (he:=(Jd (n:=10) (Zk Yu) ["_law_rolls_here","_law_table_here","_law_order_here","_law_wanted_here","_law_tried","_law_k","_law_found","_law_points","_law_kinds","_law_sums_here"] ["_law_rolls_here","_law_table_here","_law_order_here","_law_wanted_here","_law_tried","_law_k","_law_found","_law_points","_law_kinds","_law_sums_here"] ["_law_j"] ⟨rfl,by decide +kernel,by decide +kernel,by decide +kernel,by decide +kernel,by decide +kernel,rfl,by decide +kernel⟩ (Jc rfl T.range (Zb (Zr (r:=Ys K) Zs Xm rfl T.len PySem.boot_len (Zb (Zl 1) Zh Za) (he:=Za)) Zh Xa)) (fun _ _ _ _ _=>(Xx 10 (hN:=(by decide +kernel:List.Nodup (["_law_rolls_here","_law_table_here","_law_order_here","_law_wanted_here","_law_tried","_law_k","_law_found","_law_points","_law_kinds","_law_sums_here","_law_j"]:List Str))))) (fun _ _ _ _ _=>Yp) (fun _ _ _ _ _=>(Zdo Znb Zum rfl T.int PyProof.Rows.boot_int (Zb (Zjq (r:=Zsj K) (Zdm hu) Zdh (Zl 10 (hv:=Or.inl rfl)) (Zl 5 (hv:=Or.inr (Or.inl rfl))) (Xp _)) Zh Zhn) (he:=Zhn))))) (hse:=Yf))) Xv)))
      (Zg [4] [] (Zak (i:=4) (he:=(Jd (n:=10) (Zk Yu) ["_law_rolls_here","_law_table_here","_law_order_here","_law_wanted_here","_law_tried","_law_k","_law_found","_law_points","_law_kinds","_law_sums_here"] ["_law_rolls_here","_law_table_here","_law_order_here","_law_wanted_here","_law_tried","","_law_found","_law_points","_law_kinds","_law_sums_here"] ["_law_k"] ⟨rfl,by decide +kernel,by decide +kernel,by decide +kernel,by decide +kernel,by decide +kernel,rfl,by decide +kernel⟩ (Jc rfl T.range (Zb (Zr (r:=Ys K) Zs Xm rfl T.len PySem.boot_len (Zb (Zl 1) Zh Za) (he:=Za)) Zh Xa)) (fun _ _ _ _ _=>(Xx 10 (hN:=(by decide +kernel:List.Nodup (["_law_rolls_here","_law_table_here","_law_order_here","_law_wanted_here","_law_tried","","_law_found","_law_points","_law_kinds","_law_sums_here","_law_k"]:List Str))))) (fun _ _ _ _ _=>Yp) (fun _ _ _ _ _=>(Zv Xy Ya (Zx K (Zx K (Zl 1 (hv:=Or.inr (Or.inl rfl))) (Zl 10 (hv:=Or.inl rfl)) Zz) Ze Zj) (Zx K (Zl 3 (hv:=Or.inr (Or.inl rfl))) (Zl 10 (hv:=Or.inl rfl)) Zz))))) (hse:=Yf))
      (Zg [4] [] (Zak (i:=4) (he:=(Jd (n:=10) (Zk Yu) ["_law_rolls_here","_law_table_here","_law_order_here","_law_wanted_here","_law_tried","_law_k","_law_found","_law_points","_law_kinds","_law_sums_here"] ["_law_rolls_here","_law_table_here","_law_order_here","_law_wanted_here","_law_tried","","_law_found","_law_points","_law_kinds","_law_sums_here"] ["_law_k"] ⟨rfl,by decide +kernel,by decide +kernel,by decide +kernel,by decide +kernel,by decide +kernel,rfl,by decide +kernel⟩ (Jc rfl T.range (Zb (Zr (r:=Ys K) Zs Xm rfl T.len PySem.boot_len (Zb (Zl 1) Zh Za) (he:=Za)) Zh Xa)) (fun _ _ _ _ _=>(Xx 10 (hN:=(by decide +kernel:List.Nodup (["_law_rolls_here","_law_table_here","_law_order_here","_law_wanted_here","_law_tried","","_law_found","_law_points","_law_kinds","_law_sums_here","_law_k"]:List Str))))) (fun _ _ _ _ _=>Yp) (fun _ _ _ _ _=>(Zv Xy Ya (Zx K (Zx K (Zl 1 (hv:=Or.inr (Or.inl rfl))) (Zl 10 (hv:=Or.inl rfl)) Zz) Ze Zj) (Zx K (Zl 3 (hv:=Or.inr (Or.inl rfl))) (Zl 10 (hv:=Or.inl rfl)) Zz))))) (hse:=Yf))
      (Zg [4,6] [6] (Zu (i:=6) sc.nd rfl (Or.inl rfl) Ze)
      (Zg [6] [6] (Zaj [6] [6] PassesOwn.never rfl (Yw (Zl 4)) (Je (i:=7) (hN:=sc.nd) (hi:=rfl) (hx:=Or.inl rfl)) (Zbe [6,8,9] [6,8,9] (Zg [6,8] [6,8] (Zu (i:=8) sc.nd rfl (Or.inr rfl) (Zw D_law_pointed (hr.mono (by decide)) rfl Ye (Zb (Zl 1) (Zb (Zl 7) Zh Za) Za) (he:=Za)))
      (Zg [6,8,9] [6,8,9] (Zll (i:=9) (n:=10) (Zk Yu) ["_law_rolls_here","_law_table_here","_law_order_here","_law_wanted_here","_law_tried","_law_k","_law_found","_law_points","_law_kinds","_law_sums_here"] ["_law_rolls_here","_law_table_here","_law_order_here","_law_wanted_here","_law_tried","_law_k","_law_found","_law_points","_law_kinds","_law_sums_here"] ["_law_roll_here"] ⟨rfl,by decide +kernel,by decide +kernel,by decide +kernel,by decide +kernel,by decide +kernel,rfl,by decide +kernel⟩ rfl rfl (Yw (Zl 0)) (fun _ _ _ _ _=>(Xx 10 (hN:=(by decide +kernel:List.Nodup (["_law_rolls_here","_law_table_here","_law_order_here","_law_wanted_here","_law_tried","_law_k","_law_found","_law_points","_law_kinds","_law_sums_here","_law_roll_here"]:List Str))))) (fun _ _ _ _ _=>Yp) (fun _ _ _ _ _=>(Xl (Zx K (Zw D_law_heights (hr.mono (by decide)) rfl Ye (Zb (Zl 10 (hv:=Or.inl rfl)) (Zb (Zl 8 (hv:=Or.inr (Or.inl rfl))) Zh Za) Za) (he:=Za)) (Zkg Ze) Zdv))))
      (Zm (Zu (i:=6) sc.nd rfl (Or.inl rfl) (Zr (r:=Zox K) (Zhw rfl) Zpj rfl T.max PyProof.Rows.boot_max (Zb (Zl 6) (Zb (Zw D_law_least (hr.mono (by decide)) rfl Ye (Zb (Zl 9) (Zb (Zw D_law_wanted (hr.mono (by decide)) rfl Ye (Zb (Zl 2) (Zb (Zl 7) Zh Za) Za) (he:=Za)) Zh Xa) Za) (he:=Za)) Zh Xa) Za) (he:=Za))))))))
      (Zm (Xg (Zgi 6))))))))))⟩
theorem Zfi (F:Fun K "_law_paper_shows" "_law_paper_shows" Jp f fd)(T:Txt mg)(D_law_pointed:Def P w K mg base CX0 7 "_law_pointed" ["_law_table_here","_law_points"] (spD K C 2 2 Dl.Yh))(D_law_least:Def P w K mg base CX0 7 "_law_least" ["_law_sums_here","_law_wanted_here"] (spD K C 2 2 Dl.Yt))(D_law_wholes:Def P w K mg base CX0 8 "_law_wholes" ["_law_found"] (spD K C 1 2 Dl.Jm))(D_law_shown:Def P w K mg base CX0 8 "_law_shown" ["_law_roll_here","_law_table_here","_law_costs"] (spD K C 3 2 Dl.Zau))(D_law_wanted:Def P w K mg base CX0 7 "_law_wanted" ["_law_order_here","_law_points"] (spD K C 2 2 Dl.Yo)):Zam P w K mg base CX0 9 f fd ["_law_rolls_here","_law_table_here","_law_order_here","_law_number_here","_law_paper"] (spD K C 5 2 Dl.Yn):=by
  refine F.okC Zbw (Γ':=[]) (Δ':=[]) rfl fun cdv A outer s H E hr=>?_
  have sc:=Zbw
  have hu:_+64<cLine:=hr.units
  exact ⟨_,(Zg [] [] (Ju (Zyb (Zhu (Zgx (Zde (Zkk K (ty:="tuple") kit_tuple rfl T.isinstance rfl T.tuple PyProof.Rows.boot_tuple (Zl 4) Za))) (Zhu (Xs (r:=Zzk K) (Zhx hu) Zhr (Zr (r:=Ys K) Zs Xm rfl T.len PySem.boot_len (Zb (Zl 4) Zh Za) (he:=Za)) Ze (Xp _)) (Zic (Zgx (Zde (Zw D_law_wholes (hr.mono (by decide)) rfl Ye (Zb (Zx K (Zl 4) Ze Zj) Zh Xj) (he:=Xj)))))))) (Zm (Xg Zit)) Xv)
      (Zg [] [] (Ztk rfl (Zl 4) (Zaz (i:=5) sc.nd rfl (Or.inl rfl) (Zaz (i:=6) sc.nd rfl (Or.inl rfl) Zmm)))
      (Zg [] [] (Ju (Zyb (Zhu (Zgx (Zde (Zkk K (ty:="list") Zrg rfl T.isinstance rfl T.list PyProof.Rows.boot_list (Zl 6) Za))) (Zhu (Xs (r:=Zzk K) (Zhx hu) Zhr (Zr (r:=Ys K) Zs Xm rfl T.len PySem.boot_len (Zb (Zl 6) Zh Za) (he:=Za)) (Zr (r:=Ys K) Zs Xm rfl T.len PySem.boot_len (Zb (Zl 0) Zh Za) (he:=Za)) (Xp _)) (Zic (Xs (r:=Zzk K) (Zhx hu) Zhr (Zr (r:=Ys K) Zs Xm rfl T.len PySem.boot_len (Zb (Zl 5) Zh Za) (he:=Za)) (Zr (r:=Ys K) Zs Xm rfl T.len PySem.boot_len (Zb (Zl 1) Zh Za) (he:=Za)) (Xp _)))))) (Zm (Xg Zit)) Xv)
      (Zg [] [] (Ju (Zgx (Zde (Zr (r:=Zty K) (Zmq rfl) Zwy rfl T.all PyProof.Rows.boot_all (Zb (Jd (n:=10) (Zk Jp) ["_law_rolls_here","_law_table_here","_law_order_here","_law_number_here","_law_paper","_law_points","_law_lists","_law_kinds","_law_sums_here","_law_k"] ["_law_rolls_here","_law_table_here","_law_order_here","_law_number_here","_law_paper","_law_points","_law_lists","_law_kinds","_law_sums_here","_law_k"] ["_law_one"] ⟨rfl,by decide +kernel,by decide +kernel,by decide +kernel,by decide +kernel,by decide +kernel,rfl,by decide +kernel⟩ (Yw (Zl 5)) (fun _ _ _ _ _=>(Xx 10 (hN:=(by decide +kernel:List.Nodup (["_law_rolls_here","_law_table_here","_law_order_here","_law_number_here","_law_paper","_law_points","_law_lists","_law_kinds","_law_sums_here","_law_k","_law_one"]:List Str))))) (fun _ _ _ _ _=>Yp) (fun _ _ _ _ _=>(Xbf Ztt Ztt Zmj Zmj bl_le Ze (Zl 10 (hv:=Or.inl rfl)) (Zv Zef Zcd Ze Ze)))) Zh Yf) (he:=Yf)))) (Zm (Xg Zit)) Xv)
      (Zg [7] [7] (Zu (i:=7) sc.nd rfl (Or.inl rfl) (Zw D_law_pointed (hr.mono (by decide)) rfl Ye (Zb (Zl 1) (Zb (Zl 5) Zh Za) Za) (he:=Za)))
      (Zg [7,8] [7,8] (Zu (i:=8) sc.nd rfl (Or.inl rfl) (Yq Zh))
      (Zg [7,8] [7,8] (Zaj [7,8] [7,8] PassesOwn.never rfl (Jc rfl T.range (Zb (Zr (r:=Ys K) Zs Xm rfl T.len PySem.boot_len (Zb (Zl 0) Zh Za) (he:=Za)) Zh Xa)) (Je (i:=9) (hN:=sc.nd) (hi:=rfl) (hx:=Or.inl rfl)) (Zg [7,8] [7,8] (Ju (Zgx (Zde (Zw D_law_wholes (hr.mono (by decide)) rfl Ye (Zb (Zx K (Zl 6) (Zl 9) Zz) Zh Xj) (he:=Xj)))) (Zm (Xg Zit)) Xv)
      (Zm (Zak (i:=8) (he:=(Zw D_law_shown (hr.mono (by decide)) rfl Ye (Zb (Zx K (Zl 0) (Zl 9) Zz) (Zb (Zl 7) (Zb (Zx K (Zl 6) (Zl 9) Zz) Zh Xj) Za) Xj) (he:=Xj))) (hse:=Xa)))))
      (Zg [7,8] [7,8] (Ju (Xs (r:=rInD K false) (Xlv hu) Xnz Zry (Zl 8) rfl) (Zm (Xg Zit)) Xv)
      (Zm (Xg (Zjq Xef Zxu (Zw D_law_least (hr.mono (by decide)) rfl Ye (Zb (Zl 8) (Zb (Zw D_law_wanted (hr.mono (by decide)) rfl Ye (Zb (Zl 2) (Zb (Zl 5) Zh Za) Za) (he:=Za)) Zh Xa) Za) (he:=Za)) (Zl 3) (Xp _))))))))))))⟩
theorem Zsl (F:Fun K "next_top" "next_top" Zfe f fd)(T:Txt mg)(Dending:Def P w K mg base CX0 9 "ending" ["roll","table","end"] (spD K C 3 2 Dl.Zcm)):Zam P w K mg base CX0 10 f fd ["roll","table","tops"] (spD K C 3 2 Dl.Zch):=by
  refine F.okC Zkj (Γ':=[]) (Δ':=[]) rfl fun cdv A outer s H E hr=>?_
  have sc:=Zkj
  have hu:_+64<cLine:=hr.units
  exact ⟨_,(Zg [3] [3] (Zu (i:=3) sc.nd rfl (Or.inr rfl) (Zr (r:=Ys K) Zs Xm rfl T.len PySem.boot_len (Zb (Zl 2) Zh Za) (he:=Za)))
      (Zg [3,4] [3,4] (Zll (i:=4) (n:=5) (Zk Zfe) ["roll","table","tops","end","worths"] ["roll","table","tops","end","worths"] ["kind"] ⟨rfl,by decide +kernel,by decide +kernel,by decide +kernel,by decide +kernel,by decide +kernel,rfl,by decide +kernel⟩ rfl rfl (Yw (Zw Dending (hr.mono (by decide)) rfl Ye (Zb (Zl 0) (Zb (Zl 1) (Zb (Zl 3) Zh Za) Za) Za) (he:=Za))) (fun _ _ _ _ _=>(Xx 5 (hN:=(by decide +kernel:List.Nodup (["roll","table","tops","end","worths","kind"]:List Str))))) (fun _ _ _ _ _=>Yp) (fun _ _ _ _ _=>(Zv Xb Xc (Zx K (Zl 2 (hv:=Or.inr (Or.inl rfl))) (Zv Zib Zer (Zl 3 (hv:=Or.inr (Or.inl rfl))) (Zx K (Zl 5 (hv:=Or.inl rfl)) Ze Zj)) plain_bin) (Zx K (Zl 5 (hv:=Or.inl rfl)) Ze Zj))))
      (Zm (Xg (Zr (r:=Zox K) (Zhw rfl) Zpj rfl T.max PyProof.Rows.boot_max (Zb (Zv Xb Xc (Zgg (Zb (Zx K (Zl 2) (Zkg Ze) Zdv) Zh Xj)) (Zl 4)) Zh Xe) (he:=Xe))))))⟩
theorem Zmf (F:Fun K "_law_rolls" "_law_rolls" Zeo f fd)(T:Txt mg)(D_law_roll:Def P w K mg base CX0 9 "_law_roll" ["_law_script","_law_place","_law_most","_law_flaw_here"] (spD K C 4 2 Dl.Zbk)):Zam P w K mg base CX0 10 f fd ["_law_script","_law_place","_law_many","_law_most","_law_flaw_here"] (spD K C 5 2 Dl.Jw):=by
  refine F.okC Zgy (Γ':=[]) (Δ':=[]) rfl fun cdv A outer s H E hr=>?_
  have sc:=Zgy
  have hu:_+64<cLine:=hr.units
  exact ⟨_,(Zg [5] [5] (Zu (i:=5) sc.nd rfl (Or.inl rfl) (Yq Zh))
      (Zg [5] [5] (Zaj [5] [5] PassesOwn.never rfl (Jc rfl T.range (Zb (Zl 2) Zh Za)) (Je (i:=6) (hN:=sc.nd) (hi:=rfl) (hx:=Or.inl rfl)) (Zm (Zak (i:=5) (he:=(Zw D_law_roll (hr.mono (by decide)) rfl Ye (Zb (Zl 0) (Zb (Zv Xb Xc (Zl 1) (Zl 6)) (Zb (Zl 3) (Zb (Zl 4) Zh Za) Za) Xe) Za) (he:=Za))) (hse:=Xa))))
      (Zm (Xg (Zgi 5)))))⟩
theorem Zno (F:Fun K "_law_right" "_law_right" Zeq f fd)(T:Txt mg)(D_law_paper_shows:Def P w K mg base CX0 9 "_law_paper_shows" ["_law_rolls_here","_law_table_here","_law_order_here","_law_number_here","_law_paper"] (spD K C 5 2 Dl.Yn))(D_law_number:Def P w K mg base CX0 9 "_law_number" ["_law_rolls_here","_law_table_here","_law_order_here"] (spD K C 3 2 Dl.Jz))(D_law_is_whole:Def P w K mg base CX0 7 "_law_is_whole" ["_law_one"] (spD K C 1 2 Dl.Xu)):Zam P w K mg base CX0 10 f fd ["_law_found","_law_rolls_here","_law_table_here","_law_order_here"] (spD K C 4 2 Dl.Zap):=by
  refine F.okC Zgl (Γ':=[]) (Δ':=[]) rfl fun cdv A outer s H E hr=>?_
  have sc:=Zgl
  have hu:_+64<cLine:=hr.units
  exact ⟨_,(Zg [] [] (Ju (Zyb (Zhu (Zgx (Zde (Zkk K (ty:="tuple") kit_tuple rfl T.isinstance rfl T.tuple PyProof.Rows.boot_tuple (Zl 0) Za))) (Zhu (Xs (r:=Zzk K) (Zhx hu) Zhr (Zr (r:=Ys K) Zs Xm rfl T.len PySem.boot_len (Zb (Zl 0) Zh Za) (he:=Za)) Ze (Xp _)) (Zic (Zgx (Zde (Zw D_law_is_whole (hr.mono (by decide)) rfl Ye (Zb (Zx K (Zl 0) Ze Zj) Zh Xj) (he:=Xj)))))))) (Zm (Xg Zit)) Xv)
      (Zg [] [] (Ju (Xs (r:=Zzk K) (Zhx hu) Zhr (Zx K (Zl 0) Ze Zj) (Zw D_law_number (hr.mono (by decide)) rfl Ye (Zb (Zl 1) (Zb (Zl 2) (Zb (Zl 3) Zh Za) Za) Za) (he:=Za)) (Xp _)) (Zm (Xg Zit)) Xv)
      (Zm (Xg (Zw D_law_paper_shows (hr.mono (by decide)) rfl Ye (Zb (Zl 1) (Zb (Zl 2) (Zb (Zl 3) (Zb (Zx K (Zl 0) Ze Zj) (Zb (Zx K (Zl 0) Ze Zj) Zh Xj) Xj) Za) Za) Za) (he:=Za))))))⟩
theorem Zui (F:Fun K "heights" "heights" Zlg f fd)(T:Txt mg)(Dnext_top:Def P w K mg base CX0 10 "next_top" ["roll","table","tops"] (spD K C 3 2 Dl.Zch)):Zam P w K mg base CX0 11 f fd ["roll","table"] (spD K C 2 2 Dl.Zab):=by
  refine F.okC Znj (Γ':=[]) (Δ':=[]) rfl fun cdv A outer s H E hr=>?_
  have sc:=Znj
  have hu:_+64<cLine:=hr.units
  exact ⟨_,(Zg [2] [2] (Zu (i:=2) sc.nd rfl (Or.inl rfl) (Yq (Zi Ze Zh Zf)))
      (Zg [2] [2] (Zqy 100000 PassesOwn.never (Xs Ztt Zmj (Zr (r:=Ys K) Zs Xm rfl T.len PySem.boot_len (Zb (Zl 2) Zh Za) (he:=Za)) (Zr (r:=Ys K) Zs Xm rfl T.len PySem.boot_len (Zb (Zl 0) Zh Za) (he:=Za)) (Xp _)) (Zm (Zak (i:=2) (he:=(Zw Dnext_top (hr.mono (by decide)) rfl Ye (Zb (Zl 0) (Zb (Zl 1) (Zb (Zl 2) Zh Za) Za) Za) (he:=Za))) (hse:=Xa))))
      (Zm (Xg (Zgi 2)))))⟩
theorem Xbm (F:Fun K "prices" "prices" Zkw f fd)(T:Txt mg)(Dheights:Def P w K mg base CX0 11 "heights" ["roll","table"] (spD K C 2 2 Dl.Zab)):Zam P w K mg base CX0 12 f fd ["roll","table"] (spD K C 2 2 Dl.Zdz):=by
  refine F.okC Zsb (Γ':=[]) (Δ':=[]) rfl fun cdv A outer s H E hr=>?_
  have sc:=Zsb
  have hu:_+64<cLine:=hr.units
  exact ⟨_,(Zg [2] [2] (Zu (i:=2) sc.nd rfl (Or.inr rfl) (Zw Dheights (hr.mono (by decide)) rfl Ye (Zb (Zl 0) (Zb (Zl 1) Zh Za) Za) (he:=Za)))
      (Zm (Xg (Jd (n:=3) (Zk Zkw) ["roll","table","tops"] ["roll","table","tops"] ["cell"] ⟨rfl,by decide +kernel,by decide +kernel,by decide +kernel,by decide +kernel,by decide +kernel,rfl,by decide +kernel⟩ (Jc rfl T.range (Zb (Zr (r:=Ys K) Zs Xm rfl T.len PySem.boot_len (Zb (Zl 0) Zh Za) (he:=Za)) Zh Xa)) (fun _ _ _ _ _=>(Xx 3 (hN:=(by decide +kernel:List.Nodup (["roll","table","tops","cell"]:List Str))))) (fun _ _ _ _ _=>Yp) (fun _ _ _ _ _=>(Zv Zib Zer (Zx K (Zl 2 (hv:=Or.inr (Or.inl rfl))) (Zv Xb Xc (Zl 3 (hv:=Or.inl rfl)) Ze) plain_bin) (Zx K (Zl 2 (hv:=Or.inr (Or.inl rfl))) (Zl 3 (hv:=Or.inl rfl)) Zz)))))))⟩
theorem Zss (F:Fun K "floor_by" "floor_by" Zfd f fd)(T:Txt mg)(Dpointed:Def P w K mg base CX0 7 "pointed" ["table","points"] (spD K C 2 2 Dl.Zaw))(Dfewest:Def P w K mg base CX0 7 "fewest" ["sums","needed"] (spD K C 2 2 Dl.Zck))(Dtogether:Def P w K mg base CX0 7 "together" ["order","some"] (spD K C 2 2 Dl.Zbf))(Dheights:Def P w K mg base CX0 11 "heights" ["roll","table"] (spD K C 2 2 Dl.Zab)):Zam P w K mg base CX0 12 f fd ["rolls","table","order","points"] (spD K C 4 2 Dl.Jx):=by
  refine F.okC Zkb (Γ':=[]) (Δ':=[]) rfl fun cdv A outer s H E hr=>?_
  have sc:=Zkb
  have hu:_+64<cLine:=hr.units
  exact ⟨_,(Zg [4] [4] (Zu (i:=4) sc.nd rfl (Or.inr rfl) (Zw Dpointed (hr.mono (by decide)) rfl Ye (Zb (Zl 1) (Zb (Zl 3) Zh Za) Za) (he:=Za)))
      (Zm (Xg (Zw Dfewest (hr.mono (by decide)) rfl Ye (Zb (Jd (n:=5) (Zk Zfd) ["rolls","table","order","points","kinds"] ["rolls","table","order","points","kinds"] ["roll"] ⟨rfl,by decide +kernel,by decide +kernel,by decide +kernel,by decide +kernel,by decide +kernel,rfl,by decide +kernel⟩ (Yw (Zl 0)) (fun _ _ _ _ _=>(Xx 5 (hN:=(by decide +kernel:List.Nodup (["rolls","table","order","points","kinds","roll"]:List Str))))) (fun _ _ _ _ _=>Yp) (fun _ _ _ _ _=>(Xl (Zx K (Zw Dheights (hr.mono (by decide)) rfl Ye (Zb (Zl 5 (hv:=Or.inl rfl)) (Zb (Zl 4 (hv:=Or.inr (Or.inl rfl))) Zh Za) Za) (he:=Za)) (Zkg Ze) Zdv)))) (Zb (Zw Dtogether (hr.mono (by decide)) rfl Ye (Zb (Zl 2) (Zb (Zl 3) Zh Za) Za) (he:=Za)) Zh Xa) Yf) (he:=Yf)))))⟩
theorem Xhw (F:Xgi K "floor" "floor" Zqk f fd c)(T:Txt mg)(B:BMod base mg)(hd:CodeHd base c P1)(Dpoints_to_try:Def P w K mg base CX0 8 "points_to_try" ["table","order"] (spD K C 2 0 Dl.Jh))(Dpointed:Def P w K mg base CX0 7 "pointed" ["table","points"] (spD K C 2 2 Dl.Zaw))(Dprices:Def P w K mg base CX0 12 "prices" ["roll","table"] (spD K C 2 2 Dl.Zdz))(Dfloor_by:Def P w K mg base CX0 12 "floor_by" ["rolls","table","order","points"] (spD K C 4 2 Dl.Jx)):Zam P w K mg base CX0 15 f fd ["rolls","table","order"] (spL (tsL P1) (spD K C 3 2 Dl.Zij)):=by
  refine F.okL Zvv (Γ':=[]) (Δ':=[]) rfl fun A outer s H E hr hL=>?_
  have sc:=Zvv
  have hu:_+64<cLine:=hr.units
  exact ⟨_,(Zzo (i:=3) (j:=4) [] [] [4] [4] sc.nd rfl (Or.inl rfl) rfl (Or.inl rfl) (Zw Dpoints_to_try (hr.mono (by decide)) rfl Ye (Zb (Zl 1) (Zb (Zl 2) Zh Za) Za) (he:=Za)) (Xjd rfl T.max (Zl 3) (Xkm (js:=[0,1,2]) (N:=["some","rolls","table","order"]) (p:=("some":Str)) (P:=P1) (qual:=("floor.<locals>.<lambda>":Str)) B (hL (P1,⟨59,28,59,76⟩,("floor.<locals>.<lambda>":Str)) (.head _)) hd (hr.mono (by decide:1≤_)) rfl rfl (List.forall_mem_cons.mpr ⟨rfl,List.forall_mem_cons.mpr ⟨rfl,List.forall_mem_cons.mpr ⟨rfl,fun _ z=>nomatch z⟩⟩⟩) (List.forall_mem_cons.mpr ⟨⟨_,rfl⟩,List.forall_mem_cons.mpr ⟨⟨_,rfl⟩,List.forall_mem_cons.mpr ⟨⟨_,rfl⟩,fun _ z=>nomatch z⟩⟩⟩) rfl (List.forall_mem_cons.mpr ⟨⟨Or.inr (Or.inl rfl),Zpc rfl⟩,List.forall_mem_cons.mpr ⟨⟨Or.inr (Or.inl rfl),Zpc rfl⟩,List.forall_mem_cons.mpr ⟨⟨Or.inr (Or.inl rfl),Zpc rfl⟩,fun _ z=>nomatch z⟩⟩⟩)) (fun _ _ _ _=>(Zw Dfloor_by ((Zzc hr _).mono (by decide)) rfl Ye (Zb (Zl 1 (hv:=Or.inr (Or.inr rfl))) (Zb (Zl 2 (hv:=Or.inr (Or.inr rfl))) (Zb (Zl 3 (hv:=Or.inr (Or.inr rfl))) (Zb (Zl 0 (hv:=Or.inl rfl)) Zh Za) Za) Za) Za) (he:=Za))) Za)
      (Zg [4,5] [4,5] (Zu (i:=5) sc.nd rfl (Or.inr rfl) (Zw Dpointed (hr.mono (by decide)) rfl Ye (Zb (Zl 1) (Zb (Zl 4) Zh Za) Za) (he:=Za)))
      (Zg [4,5,6] [4,5,6] (Zll (i:=6) (n:=7) (Zk Zqk) ["rolls","table","order","tries","points","kinds","lists"] ["rolls","table","order","tries","points","kinds","lists"] ["roll"] ⟨rfl,by decide +kernel,by decide +kernel,by decide +kernel,by decide +kernel,by decide +kernel,rfl,by decide +kernel⟩ rfl rfl (Yw (Zl 0)) (fun _ _ _ _ _=>(Xx 7 (hN:=(by decide +kernel:List.Nodup (["rolls","table","order","tries","points","kinds","lists","roll"]:List Str))))) (fun _ _ _ _ _=>Yp) (fun _ _ _ _ _=>(Zw Dprices (hr.mono (by decide)) rfl Ye (Zb (Zl 7 (hv:=Or.inl rfl)) (Zb (Zl 5 (hv:=Or.inr (Or.inl rfl))) Zh Za) Za) (he:=Za))))
      (Zm (Xg (Zju (Zhh [(4,false),(6,false)] (Zw Dfloor_by (hr.mono (by decide)) rfl Ye (Zb (Zl 0) (Zb (Zl 1) (Zb (Zl 2) (Zb (Zl 4) Zh Za) Za) Za) Za) (he:=Za)) (Zhh [(4,false),(6,false)] (Zju (Zhh [(4,false),(6,false)] (Zgi 4) (Zhh [(6,false)] (Zgi 6) Zh Za) Za)) Zh Zlb) Xa)))))))⟩
theorem oklaw (F:Fun K "law" "law" Zzj f fd)(T:Txt mg)(D_law_table:Def P w K mg base CX0 9 "_law_table" ["_law_script","_law_place","_law_most"] (spD K C 3 2 Dl.Zat))(D_law_row:Def P w K mg base CX0 8 "_law_row" ["_law_script","_law_place","_law_sizes"] (spD K C 3 2 Dl.Xz))(D_law_rolls:Def P w K mg base CX0 10 "_law_rolls" ["_law_script","_law_place","_law_many","_law_most","_law_flaw_here"] (spD K C 5 2 Dl.Jw))(D_law_order:Def P w K mg base CX0 9 "_law_order" ["_law_script","_law_place","_law_count","_law_most"] (spD K C 4 2 Dl.Zar))(D_law_flaw:Def P w K mg base CX0 9 "_law_flaw" ["_law_script","_law_place","_law_most"] (spD K C 3 2 Dl.Zbi))(Dfloor:Def P w K mg base CX0 15 "floor" ["rolls","table","order"] (spL (tsL P1) (spD K C 3 2 Dl.Zij)))(D_law_right:Def P w K mg base CX0 10 "_law_right" ["_law_found","_law_rolls_here","_law_table_here","_law_order_here"] (spD K C 4 2 Dl.Zap)):Zam P w K mg base CX0 16 f fd ["_law_script"] (spL (tsL P1) (spD K C 1 2 Dl.Xfd)):=by
  refine F.okL Xmw (Γ':=[]) (Δ':=[]) rfl fun cdv A outer s H E hr hL=>?_
  have sc:=Xmw
  have hu:_+64<cLine:=hr.units
  exact ⟨_,(Zg [1] [1] (Zu (i:=1) sc.nd rfl (Or.inl rfl) (Zw D_law_table (hr.mono (by decide)) rfl Ye (Zb (Zl 0) (Zb Ze (Zb Ze Zh Zf) Zf) Za) (he:=Za)))
      (Zg [1,2] [1,2] (Zu (i:=2) sc.nd rfl (Or.inl rfl) (Zw D_law_row (hr.mono (by decide)) rfl Ye (Zb (Zl 0) (Zb Ze (Zb (Yq (Zi Ze (Zi Ze Zh Zf) Zf)) Zh Ziv) Zf) Za) (he:=Za)))
      (Zg [1,2,3,4] [1,2,3,4] (Xdw (i:=3) (j:=4) rfl sc.nd rfl rfl (Zi (Xl (Zx K (Zl 2) Ze Zj)) (Zi Ze Zh Zf) Xj) (Zaz (i:=3) sc.nd rfl (Or.inl rfl) (Zaz (i:=4) sc.nd rfl (Or.inl rfl) Zmm)))
      (Zg [1,2,3,4] [1,2,3,4] (Ju (Xs (r:=Zsj K) (Zdm hu) Zdh (Zx K (Zl 2) Ze Zj) Ze (Xp _)) (Zm (Zob rfl (Zju (Zi Ze (Zi Ze Zh Zf) Zf)) (Zaz (i:=3) sc.nd rfl (Or.inl rfl) (Zaz (i:=4) sc.nd rfl (Or.inl rfl) Zmm)))) Xv)
      (Zg [1,2,3,4] [1,2,3,4] (Ju (Xs (r:=Zsj K) (Zdm hu) Zdh (Zx K (Zl 2) Ze Zj) Ze (Xp _)) (Zm (Xdw (i:=3) (j:=4) rfl sc.nd rfl rfl (Zi (Zr (r:=Zwu) (Zie rfl) Zon rfl T.min PyProof.Rows.boot_min (Zb (Zl 3) (Zb Ze Zh Zf) Za) (he:=Za)) (Zi Ze Zh Zf) Xa) (Zaz (i:=3) sc.nd rfl (Or.inl rfl) (Zaz (i:=4) sc.nd rfl (Or.inl rfl) Zmm)))) Xv)
      (Zg [1,2,3,4,5] [1,2,3,4,5] (Zu (i:=5) sc.nd rfl (Or.inl rfl) (Zw D_law_rolls (hr.mono (by decide)) rfl Ye (Zb (Zl 0) (Zb Ze (Zb (Zl 3) (Zb (Zl 4) (Zb (Zw D_law_flaw (hr.mono (by decide)) rfl Ye (Zb (Zl 0) (Zb Ze (Zb Ze Zh Zf) Zf) Za) (he:=Za)) Zh Xa) Za) Za) Zf) Za) (he:=Za)))
      (Zg [1,2,3,4,5,6] [1,2,3,4,5,6] (Zu (i:=6) sc.nd rfl (Or.inl rfl) (Zw D_law_order (hr.mono (by decide)) rfl Ye (Zb (Zl 0) (Zb Ze (Zb (Zr (r:=Ys K) Zs Xm rfl T.len PySem.boot_len (Zb (Zl 1) Zh Za) (he:=Za)) (Zb Ze Zh Zf) Xa) Zf) Za) (he:=Za)))
      (Zg [1,2,3,4,5,6,7] [1,2,3,4,5,6,7] (Zu (i:=7) sc.nd rfl (Or.inl rfl) (Yq (Zi (Jd (n:=12) (Zk Zzj) ["_law_script","_law_table_here","_law_some","_law_many","_law_most","_law_rolls_here","_law_order_here","_law_handed","_law_turn","_law_found","_law_sizes","_law_one"] ["_law_script","_law_table_here","_law_some","_law_many","_law_most","_law_rolls_here","_law_order_here","_law_handed","_law_turn","_law_found","_law_sizes","_law_one"] ["_law_roll_here"] ⟨rfl,by decide +kernel,by decide +kernel,by decide +kernel,by decide +kernel,by decide +kernel,rfl,by decide +kernel⟩ (Yw (Zl 5)) (fun _ _ _ _ _=>(Xx 12 (hN:=(by decide +kernel:List.Nodup (["_law_script","_law_table_here","_law_some","_law_many","_law_most","_law_rolls_here","_law_order_here","_law_handed","_law_turn","_law_found","_law_sizes","_law_one","_law_roll_here"]:List Str))))) (fun _ _ _ _ _=>Yp) (fun _ _ _ _ _=>(Zdo (r:=Zpt K) (Zga rfl) Zlq rfl T.list PyProof.Rows.boot_list (Zb (Zl 12 (hv:=Or.inl rfl)) Zh Za) (he:=Za)))) (Zi (Zdo (r:=Zpt K) (Zga rfl) Zlq rfl T.list PyProof.Rows.boot_list (Zb (Zl 1) Zh Za) (he:=Za)) (Zi (Zdo (r:=Zpt K) (Zga rfl) Zlq rfl T.list PyProof.Rows.boot_list (Zb (Zl 6) Zh Za) (he:=Za)) Zh Xa) Xa) Yf)))
      (Zg [1,2,3,4,5,6,7] [1,2,3,4,5,6,7] (Zaj [1,2,3,4,5,6,7] [1,2,3,4,5,6,7] PassesOwn.never rfl (Jc rfl T.range (Zb Ze Zh Zf)) (Je (i:=8) (hN:=sc.nd) (hi:=rfl) (hx:=Or.inl rfl)) (Zbe [1,2,3,4,5,6,7,9,10] [1,2,3,4,5,6,7,9,10] (Zg [1,2,3,4,5,6,7,9] [1,2,3,4,5,6,7,9] (Zu (i:=9) sc.nd rfl (Or.inl rfl) (Xaf Dfloor (hr.mono (by decide)) rfl Ye hL (Zb (Zx K (Zl 7) Ze Zj) (Zb (Zx K (Zl 7) Ze Zj) (Zb (Zx K (Zl 7) Ze Zj) Zh Xj) Xj) Xj) (he:=Xj)))
      (Zg [1,2,3,4,5,6,7,9] [1,2,3,4,5,6,7,9] (Ju (Zgx (Zde (Zw D_law_right (hr.mono (by decide)) rfl Ye (Zb (Zl 9) (Zb (Zl 5) (Zb (Zl 1) (Zb (Zl 6) Zh Za) Za) Za) Za) (he:=Za)))) (Zm (Xg Zit)) Xv)
      (Zg [1,2,3,4,5,6,7,9,10] [1,2,3,4,5,6,7,9,10] (Zll (i:=10) (n:=12) (Zk Zzj) ["_law_script","_law_table_here","_law_some","_law_many","_law_most","_law_rolls_here","_law_order_here","_law_handed","_law_turn","_law_found","_law_sizes","_law_one"] ["_law_script","_law_table_here","_law_some","_law_many","_law_most","_law_rolls_here","_law_order_here","_law_handed","_law_turn","_law_found","_law_sizes",""] ["_law_one"] ⟨rfl,by decide +kernel,by decide +kernel,by decide +kernel,by decide +kernel,by decide +kernel,rfl,by decide +kernel⟩ rfl rfl (Yw (Zx K (Zx K (Zl 9) Ze Zj) Ze Zj)) (fun _ _ _ _ _=>(Xx 12 (hN:=(by decide +kernel:List.Nodup (["_law_script","_law_table_here","_law_some","_law_many","_law_most","_law_rolls_here","_law_order_here","_law_handed","_law_turn","_law_found","_law_sizes","","_law_one"]:List Str))))) (fun _ _ _ _ _=>Yp) (fun _ _ _ _ _=>(Zv Xb Xc (Zr (r:=Ys K) Zs Xm rfl T.len PySem.boot_len (Zb (Zl 12 (hv:=Or.inl rfl)) Zh Za) (he:=Za)) Ze)))
      (Zg [1,2,3,4,5,6,7,9,10] [1,2,3,4,5,6,7,9,10] (Zst (i:=9) (j:=11) PassesOwn.never rfl Ze Zf sc.nd rfl rfl (Or.inl rfl))
      (Zg [1,2,3,4,5,6,7,9,10] [1,2,3,4,5,6,7,9,10] (Ju (Xs (r:=Zzk K) (Zhx hu) Zhr (Jd (n:=12) (Zk Zzj) ["_law_script","_law_table_here","_law_some","_law_many","_law_most","_law_rolls_here","_law_order_here","_law_handed","_law_turn","_law_found","_law_sizes","_law_one"] ["_law_script","_law_table_here","_law_some","_law_many","_law_most","_law_rolls_here","_law_order_here","_law_handed","_law_turn","_law_found","_law_sizes",""] ["_law_one"] ⟨rfl,by decide +kernel,by decide +kernel,by decide +kernel,by decide +kernel,by decide +kernel,rfl,by decide +kernel⟩ (Yw (Zx K (Zx K (Zl 9) Ze Zj) Ze Zj)) (fun _ _ _ _ _=>(Xx 12 (hN:=(by decide +kernel:List.Nodup (["_law_script","_law_table_here","_law_some","_law_many","_law_most","_law_rolls_here","_law_order_here","_law_handed","_law_turn","_law_found","_law_sizes","","_law_one"]:List Str))))) (fun _ _ _ _ _=>Yp) (fun _ _ _ _ _=>(Zr (r:=Ys K) Zs Xm rfl T.len PySem.boot_len (Zb (Zl 12 (hv:=Or.inl rfl)) Zh Za) (he:=Za)))) (Zl 10) (Xp _)) (Zm (Xg Zit)) Xv)
      (Zg [1,2,3,4,5,6,7,9,10] [1,2,3,4,5,6,7,9,10] (Zrs (i:=9) Ze Zj Ze Zj Ze Zf)
      (Zm (Zrs (i:=9) Ze Zj Ze Zj (Yq Zh) Ziv))))))))))
      (Zm (Xg (Zjq (r:=Zsj K) (Zdm hu) Zdh (Zl 7) (Zgg (Zb (Zl 5) (Zb (Zl 1) (Zb (Zl 6) Zh Za) Za) Za)) (Xp _)))))))))))))⟩
end
noncomputable def Xiw (K:Frag)(ts:List (Addr×Pos×Str)):Sp:=fun vs H Q _=>Zei ts H∧∃(a:Addr) (ns:List Int),vs=[.ref a]∧FzL K H a (ns.map V.int)∧ns.length≤63∧∀H',Q (.bl true) H'
theorem Zyz (ns:List Int)(h:ns.length≤63):Dl.Xfd [.scr ns]=.ok (.bl true):=Dl.Ztf ns h
theorem all_mk {l:PySem.W.OpenLaw}{w:World}{K:Frag}{h:Heap}{mg:Str→Option Value}{fa f1 f2 f3 f4 f5 f6 f7 f8 f9 f10 f11 f12 f13 f14 f15 f16 f17 f18 f19 f20 f21 f22 f23 f24 f25 f26 f27 f28 f29 f30 f31 f32 f33 f34:Addr}{P1 c1' bm:Addr}{ob:Obj}(X:K.In h)(G:h.Ns mainGlobals mg)(hfa:mg "law"=some (.ref fa))
  {fd1 fd2 fd3 fd4 fd5 fd6 fd7 fd8 fd9 fd10 fd11 fd12 fd13 fd14 fd15 fd16 fd17 fd18 fd19 fd20 fd21 fd22 fd23 fd24 fd25 fd26 fd27 fd28 fd29 fd30 fd31 fd32 fd33 fd34:FuncData}
  (a1:nsIn K mainGlobals "spoilt"=some (some (.ref f1))) (F1:Fun K "spoilt" "spoilt" Zor f1 fd1)
  (a2:nsIn K mainGlobals "fits"=some (some (.ref f2))) (F2:Fun K "fits" "fits" Xgp f2 fd2)
  (a3:nsIn K mainGlobals "ending"=some (some (.ref f3))) (F3:Fun K "ending" "ending" Zky f3 fd3)
  (a4:nsIn K mainGlobals "next_top"=some (some (.ref f4))) (F4:Fun K "next_top" "next_top" Zfe f4 fd4)
  (a5:nsIn K mainGlobals "heights"=some (some (.ref f5))) (F5:Fun K "heights" "heights" Zlg f5 fd5)
  (a6:nsIn K mainGlobals "together"=some (some (.ref f6))) (F6:Fun K "together" "together" Zfj f6 fd6)
  (a7:nsIn K mainGlobals "prices"=some (some (.ref f7))) (F7:Fun K "prices" "prices" Zkw f7 fd7)
  (a8:nsIn K mainGlobals "pointed"=some (some (.ref f8))) (F8:Fun K "pointed" "pointed" Zhk f8 fd8)
  (a9:nsIn K mainGlobals "fewest"=some (some (.ref f9))) (F9:Fun K "fewest" "fewest" Zpo f9 fd9)
  (a10:nsIn K mainGlobals "floor_by"=some (some (.ref f10))) (F10:Fun K "floor_by" "floor_by" Zfd f10 fd10)
  (a11:nsIn K mainGlobals "only_wanted"=some (some (.ref f11))) (F11:Fun K "only_wanted" "only_wanted" Zbv f11 fd11)
  (a12:nsIn K mainGlobals "points_to_try"=some (some (.ref f12))) (F12:Fun K "points_to_try" "points_to_try" Yg f12 fd12)
  (a13:nsIn K mainGlobals "floor"=some (some (.ref f13))) (F13:Xgi K "floor" "floor" Zqk f13 fd13 c1')
  (a14:nsIn K mainGlobals "_law_cell"=some (some (.ref f14))) (F14:Fun K "_law_cell" "_law_cell" Zgd f14 fd14)
  (a15:nsIn K mainGlobals "_law_mix"=some (some (.ref f15))) (F15:Fun K "_law_mix" "_law_mix" Zhs f15 fd15)
  (a16:nsIn K mainGlobals "_law_row"=some (some (.ref f16))) (F16:Fun K "_law_row" "_law_row" Zik f16 fd16)
  (a17:nsIn K mainGlobals "_law_table"=some (some (.ref f17))) (F17:Fun K "_law_table" "_law_table" Zey f17 fd17)
  (a18:nsIn K mainGlobals "_law_flaw"=some (some (.ref f18))) (F18:Fun K "_law_flaw" "_law_flaw" Zfz f18 fd18)
  (a19:nsIn K mainGlobals "_law_roll"=some (some (.ref f19))) (F19:Fun K "_law_roll" "_law_roll" Zgf f19 fd19)
  (a20:nsIn K mainGlobals "_law_sums"=some (some (.ref f20))) (F20:Fun K "_law_sums" "_law_sums" Zfy f20 fd20)
  (a21:nsIn K mainGlobals "_law_good"=some (some (.ref f21))) (F21:Fun K "_law_good" "_law_good" Zgb f21 fd21)
  (a22:nsIn K mainGlobals "_law_heights"=some (some (.ref f22))) (F22:Fun K "_law_heights" "_law_heights" Zcs f22 fd22)
  (a23:nsIn K mainGlobals "_law_is_whole"=some (some (.ref f23))) (F23:Fun K "_law_is_whole" "_law_is_whole" Zby f23 fd23)
  (a24:nsIn K mainGlobals "_law_shown"=some (some (.ref f24))) (F24:Fun K "_law_shown" "_law_shown" Zex f24 fd24)
  (a25:nsIn K mainGlobals "_law_order"=some (some (.ref f25))) (F25:Fun K "_law_order" "_law_order" Zev f25 fd25)
  (a26:nsIn K mainGlobals "_law_rolls"=some (some (.ref f26))) (F26:Fun K "_law_rolls" "_law_rolls" Zeo f26 fd26)
  (a27:nsIn K mainGlobals "_law_pointed"=some (some (.ref f27))) (F27:Fun K "_law_pointed" "_law_pointed" Zcp f27 fd27)
  (a28:nsIn K mainGlobals "_law_wanted"=some (some (.ref f28))) (F28:Fun K "_law_wanted" "_law_wanted" Zbu f28 fd28)
  (a29:nsIn K mainGlobals "_law_least"=some (some (.ref f29))) (F29:Fun K "_law_least" "_law_least" Zep f29 fd29)
  (a30:nsIn K mainGlobals "_law_number"=some (some (.ref f30))) (F30:Fun K "_law_number" "_law_number" Yu f30 fd30)
  (a31:nsIn K mainGlobals "_law_wholes"=some (some (.ref f31))) (F31:Fun K "_law_wholes" "_law_wholes" Zbt f31 fd31)
  (a32:nsIn K mainGlobals "_law_paper_shows"=some (some (.ref f32))) (F32:Fun K "_law_paper_shows" "_law_paper_shows" Jp f32 fd32)
  (a33:nsIn K mainGlobals "_law_right"=some (some (.ref f33))) (F33:Fun K "_law_right" "_law_right" Zeq f33 fd33)
  (a34:nsIn K mainGlobals "law"=some (some (.ref f34))) (F34:Fun K "law" "law" Zzj f34 fd34)
  (z1:nsIn K mainGlobals "sum"=some none)
  (z2:nsIn K mainGlobals "len"=some none)
  (z3:nsIn K mainGlobals "max"=some none)
  (z4:nsIn K mainGlobals "zip"=some none)
  (z5:nsIn K mainGlobals "range"=some none)
  (z6:nsIn K mainGlobals "sorted"=some none)
  (z7:nsIn K mainGlobals "enumerate"=some none)
  (z8:nsIn K mainGlobals "some"=some none)
  (z9:nsIn K mainGlobals "min"=some none)
  (z10:nsIn K mainGlobals "isinstance"=some none)
  (z11:nsIn K mainGlobals "int"=some none)
  (z12:nsIn K mainGlobals "bool"=some none)
  (z13:nsIn K mainGlobals "list"=some none)
  (z14:nsIn K mainGlobals "all"=some none)
  (z15:nsIn K mainGlobals "tuple"=some none)
  (hT1:codeHdIn K c1' P1=true)
  (bm1:nsIn K mainGlobals "__builtins__"=some (some (.ref bm))) (bm2:K.lookup bm=some ob) (bm3:bm≠builtinsNs∧ob.cls=.type "module"∧ob.dict=some builtinsNs∧ob.data=.plain)
  : ∃fd:FuncData,(∀(s:Shared) (v:Value),BindsTo s fd ⟨[v],[]⟩ [("_law_script",v)])∧∀base:Heap,K.In base→base.Ns mainGlobals mg→Zam l.prog w K mg base CX0 16 fa fd ["_law_script"] (Xiw K (tsL P1)):=by
 have e:=hfa.symm.trans (mg_of X G a34)
 cases e
 have T:Txt mg:=⟨mg_none_of X G z1,mg_none_of X G z2,mg_none_of X G z3,mg_none_of X G z4,mg_none_of X G z5,mg_none_of X G z6,mg_none_of X G z7,mg_none_of X G z8,mg_none_of X G z9,mg_none_of X G z10,mg_none_of X G z11,mg_none_of X G z12,mg_none_of X G z13,mg_none_of X G z14,mg_none_of X G z15⟩
 obtain ⟨oc,od,kV,doc,pm,an,cdv,ct,osl,rfl,lk,hcd⟩:=F34.ex
 refine ⟨fnOf "law" "law" (Zfx Zzj) (Zbo Zzj) (Zk Zzj) .none kV doc pm an cdv ct,fun s v=>.of_eq rfl,fun base kb nb=>?_⟩
 have B:BMod base mg:=Xfv kb nb bm1 bm2 bm3
 have hd1:=PySem.W.codeHd_of_K kb hT1
 have b1:=F1.binds (ps:=["roll","begin","end"]) fun _ _ _ _ _ _=>Zgz (fun _ _ _=>rfl)
 have Dspoilt:Def l.prog w K mg base CX0 7 "spoilt" ["roll","begin","end"] (spD K (fun _=>0) 3 2 Dl.Zeb):=⟨f1,_,mg_of X G a1,F1.kp,b1,Xbp F1 T⟩
 have b6:=F6.binds (ps:=["order","some"]) fun _ _ _ _ _ _=>Zfg (fun _ _=>rfl)
 have Dtogether:Def l.prog w K mg base CX0 7 "together" ["order","some"] (spD K (fun _=>0) 2 2 Dl.Zbf):=⟨f6,_,mg_of X G a6,F6.kp,b6,Zsn F6 T⟩
 have b8:=F8.binds (ps:=["table","points"]) fun _ _ _ _ _ _=>Zfg (fun _ _=>rfl)
 have Dpointed:Def l.prog w K mg base CX0 7 "pointed" ["table","points"] (spD K (fun _=>0) 2 2 Dl.Zaw):=⟨f8,_,mg_of X G a8,F8.kp,b8,Zww F8 T⟩
 have b9:=F9.binds (ps:=["sums","needed"]) fun _ _ _ _ _ _=>Zfg (fun _ _=>rfl)
 have Dfewest:Def l.prog w K mg base CX0 7 "fewest" ["sums","needed"] (spD K (fun _=>0) 2 2 Dl.Zck):=⟨f9,_,mg_of X G a9,F9.kp,b9,Zyi F9 T⟩
 have b11:=F11.binds (ps:=["order","some"]) fun _ _ _ _ _ _=>Zfg (fun _ _=>rfl)
 have Donly_wanted:Def l.prog w K mg base CX0 7 "only_wanted" ["order","some"] (spD K (fun _=>0) 2 2 Dl.Yv):=⟨f11,_,mg_of X G a11,F11.kp,b11,Zkr F11 T⟩
 have b14:=F14.binds (ps:=["_law_script","_law_place"]) fun _ _ _ _ _ _=>Zfg (fun _ _=>rfl)
 have D_law_cell:Def l.prog w K mg base CX0 7 "_law_cell" ["_law_script","_law_place"] (spD K (fun _=>0) 2 2 Dl.Zan):=⟨f14,_,mg_of X G a14,F14.kp,b14,Zoi F14 T⟩
 have b15:=F15.binds (ps:=["_law_cell_here","_law_k"]) fun _ _ _ _ _ _=>Zfg (fun _ _=>rfl)
 have D_law_mix:Def l.prog w K mg base CX0 7 "_law_mix" ["_law_cell_here","_law_k"] (spD K (fun _=>0) 2 2 Dl.Zbh):=⟨f15,_,mg_of X G a15,F15.kp,b15,Zsy F15 T⟩
 have b20:=F20.binds (ps:=["_law_roll_here"]) fun _ _ _ _ _ _=>Xaz (fun _=>rfl)
 have D_law_sums:Def l.prog w K mg base CX0 7 "_law_sums" ["_law_roll_here"] (spD K (fun _=>0) 1 2 Dl.Yx):=⟨f20,_,mg_of X G a20,F20.kp,b20,Zpi F20 T⟩
 have b21:=F21.binds (ps:=["_law_sums_here","_law_kind","_law_at"]) fun _ _ _ _ _ _=>Zgz (fun _ _ _=>rfl)
 have D_law_good:Def l.prog w K mg base CX0 7 "_law_good" ["_law_sums_here","_law_kind","_law_at"] (spD K (fun _=>0) 3 2 Dl.Jv):=⟨f21,_,mg_of X G a21,F21.kp,b21,Zov F21 T⟩
 have b23:=F23.binds (ps:=["_law_one"]) fun _ _ _ _ _ _=>Xaz (fun _=>rfl)
 have D_law_is_whole:Def l.prog w K mg base CX0 7 "_law_is_whole" ["_law_one"] (spD K (fun _=>0) 1 2 Dl.Xu):=⟨f23,_,mg_of X G a23,F23.kp,b23,Zif F23 T⟩
 have b27:=F27.binds (ps:=["_law_table_here","_law_points"]) fun _ _ _ _ _ _=>Zfg (fun _ _=>rfl)
 have D_law_pointed:Def l.prog w K mg base CX0 7 "_law_pointed" ["_law_table_here","_law_points"] (spD K (fun _=>0) 2 2 Dl.Yh):=⟨f27,_,mg_of X G a27,F27.kp,b27,Zjd F27 T⟩
 have b28:=F28.binds (ps:=["_law_order_here","_law_points"]) fun _ _ _ _ _ _=>Zfg (fun _ _=>rfl)
 have D_law_wanted:Def l.prog w K mg base CX0 7 "_law_wanted" ["_law_order_here","_law_points"] (spD K (fun _=>0) 2 2 Dl.Yo):=⟨f28,_,mg_of X G a28,F28.kp,b28,Zlv F28 T⟩
 have b29:=F29.binds (ps:=["_law_sums_here","_law_wanted_here"]) fun _ _ _ _ _ _=>Zfg (fun _ _=>rfl)
 have D_law_least:Def l.prog w K mg base CX0 7 "_law_least" ["_law_sums_here","_law_wanted_here"] (spD K (fun _=>0) 2 2 Dl.Yt):=⟨f29,_,mg_of X G a29,F29.kp,b29,Zmz F29 T⟩
 have b2:=F2.binds (ps:=["roll","kind","place"]) fun _ _ _ _ _ _=>Zgz (fun _ _ _=>rfl)
 have Dfits:Def l.prog w K mg base CX0 8 "fits" ["roll","kind","place"] (spD K (fun _=>0) 3 2 Dl.Zjv):=⟨f2,_,mg_of X G a2,F2.kp,b2,Xlm F2 T Dspoilt⟩
 have b12:=F12.binds (ps:=["table","order"]) fun _ _ _ _ _ _=>Zfg (fun _ _=>rfl)
 have Dpoints_to_try:Def l.prog w K mg base CX0 8 "points_to_try" ["table","order"] (spD K (fun _=>0) 2 0 Dl.Jh):=⟨f12,_,mg_of X G a12,F12.kp,b12,Zix F12 T Donly_wanted⟩
 have b16:=F16.binds (ps:=["_law_script","_law_place","_law_sizes"]) fun _ _ _ _ _ _=>Zgz (fun _ _ _=>rfl)
 have D_law_row:Def l.prog w K mg base CX0 8 "_law_row" ["_law_script","_law_place","_law_sizes"] (spD K (fun _=>0) 3 2 Dl.Xz):=⟨f16,_,mg_of X G a16,F16.kp,b16,Zsh F16 T D_law_cell D_law_mix⟩
 have b22:=F22.binds (ps:=["_law_roll_here","_law_table_here"]) fun _ _ _ _ _ _=>Zfg (fun _ _=>rfl)
 have D_law_heights:Def l.prog w K mg base CX0 8 "_law_heights" ["_law_roll_here","_law_table_here"] (spD K (fun _=>0) 2 2 Dl.Ja):=⟨f22,_,mg_of X G a22,F22.kp,b22,Zje F22 T D_law_sums D_law_good⟩
 have b24:=F24.binds (ps:=["_law_roll_here","_law_table_here","_law_costs"]) fun _ _ _ _ _ _=>Zgz (fun _ _ _=>rfl)
 have D_law_shown:Def l.prog w K mg base CX0 8 "_law_shown" ["_law_roll_here","_law_table_here","_law_costs"] (spD K (fun _=>0) 3 2 Dl.Zau):=⟨f24,_,mg_of X G a24,F24.kp,b24,Znc F24 T D_law_sums D_law_good⟩
 have b31:=F31.binds (ps:=["_law_found"]) fun _ _ _ _ _ _=>Xaz (fun _=>rfl)
 have D_law_wholes:Def l.prog w K mg base CX0 8 "_law_wholes" ["_law_found"] (spD K (fun _=>0) 1 2 Dl.Jm):=⟨f31,_,mg_of X G a31,F31.kp,b31,Zlm F31 T D_law_is_whole⟩
 have b3:=F3.binds (ps:=["roll","table","end"]) fun _ _ _ _ _ _=>Zgz (fun _ _ _=>rfl)
 have Dending:Def l.prog w K mg base CX0 9 "ending" ["roll","table","end"] (spD K (fun _=>0) 3 2 Dl.Zcm):=⟨f3,_,mg_of X G a3,F3.kp,b3,Zyt F3 T Dfits⟩
 have b17:=F17.binds (ps:=["_law_script","_law_place","_law_most"]) fun _ _ _ _ _ _=>Zgz (fun _ _ _=>rfl)
 have D_law_table:Def l.prog w K mg base CX0 9 "_law_table" ["_law_script","_law_place","_law_most"] (spD K (fun _=>0) 3 2 Dl.Zat):=⟨f17,_,mg_of X G a17,F17.kp,b17,Znu F17 T D_law_row⟩
 have b18:=F18.binds (ps:=["_law_script","_law_place","_law_most"]) fun _ _ _ _ _ _=>Zgz (fun _ _ _=>rfl)
 have D_law_flaw:Def l.prog w K mg base CX0 9 "_law_flaw" ["_law_script","_law_place","_law_most"] (spD K (fun _=>0) 3 2 Dl.Zbi):=⟨f18,_,mg_of X G a18,F18.kp,b18,Zpq F18 T D_law_row⟩
 have b19:=F19.binds (ps:=["_law_script","_law_place","_law_most","_law_flaw_here"]) fun _ _ _ _ _ _=>Zwz (fun _ _ _ _=>rfl)
 have D_law_roll:Def l.prog w K mg base CX0 9 "_law_roll" ["_law_script","_law_place","_law_most","_law_flaw_here"] (spD K (fun _=>0) 4 2 Dl.Zbk):=⟨f19,_,mg_of X G a19,F19.kp,b19,Zop F19 T D_law_row⟩
 have b25:=F25.binds (ps:=["_law_script","_law_place","_law_count","_law_most"]) fun _ _ _ _ _ _=>Zwz (fun _ _ _ _=>rfl)
 have D_law_order:Def l.prog w K mg base CX0 9 "_law_order" ["_law_script","_law_place","_law_count","_law_most"] (spD K (fun _=>0) 4 2 Dl.Zar):=⟨f25,_,mg_of X G a25,F25.kp,b25,Zmk F25 T D_law_row⟩
 have b30:=F30.binds (ps:=["_law_rolls_here","_law_table_here","_law_order_here"]) fun _ _ _ _ _ _=>Zgz (fun _ _ _=>rfl)
 have D_law_number:Def l.prog w K mg base CX0 9 "_law_number" ["_law_rolls_here","_law_table_here","_law_order_here"] (spD K (fun _=>0) 3 2 Dl.Jz):=⟨f30,_,mg_of X G a30,F30.kp,b30,Zlh F30 T D_law_pointed D_law_least D_law_heights D_law_wanted⟩
 have b32:=F32.binds (ps:=["_law_rolls_here","_law_table_here","_law_order_here","_law_number_here","_law_paper"]) fun _ _ _ _ _ _=>Xko (fun _ _ _ _ _=>rfl)
 have D_law_paper_shows:Def l.prog w K mg base CX0 9 "_law_paper_shows" ["_law_rolls_here","_law_table_here","_law_order_here","_law_number_here","_law_paper"] (spD K (fun _=>0) 5 2 Dl.Yn):=⟨f32,_,mg_of X G a32,F32.kp,b32,Zfi F32 T D_law_pointed D_law_least D_law_wholes D_law_shown D_law_wanted⟩
 have b4:=F4.binds (ps:=["roll","table","tops"]) fun _ _ _ _ _ _=>Zgz (fun _ _ _=>rfl)
 have Dnext_top:Def l.prog w K mg base CX0 10 "next_top" ["roll","table","tops"] (spD K (fun _=>0) 3 2 Dl.Zch):=⟨f4,_,mg_of X G a4,F4.kp,b4,Zsl F4 T Dending⟩
 have b26:=F26.binds (ps:=["_law_script","_law_place","_law_many","_law_most","_law_flaw_here"]) fun _ _ _ _ _ _=>Xko (fun _ _ _ _ _=>rfl)
 have D_law_rolls:Def l.prog w K mg base CX0 10 "_law_rolls" ["_law_script","_law_place","_law_many","_law_most","_law_flaw_here"] (spD K (fun _=>0) 5 2 Dl.Jw):=⟨f26,_,mg_of X G a26,F26.kp,b26,Zmf F26 T D_law_roll⟩
 have b33:=F33.binds (ps:=["_law_found","_law_rolls_here","_law_table_here","_law_order_here"]) fun _ _ _ _ _ _=>Zwz (fun _ _ _ _=>rfl)
 have D_law_right:Def l.prog w K mg base CX0 10 "_law_right" ["_law_found","_law_rolls_here","_law_table_here","_law_order_here"] (spD K (fun _=>0) 4 2 Dl.Zap):=⟨f33,_,mg_of X G a33,F33.kp,b33,Zno F33 T D_law_paper_shows D_law_number D_law_is_whole⟩
 have b5:=F5.binds (ps:=["roll","table"]) fun _ _ _ _ _ _=>Zfg (fun _ _=>rfl)
 have Dheights:Def l.prog w K mg base CX0 11 "heights" ["roll","table"] (spD K (fun _=>0) 2 2 Dl.Zab):=⟨f5,_,mg_of X G a5,F5.kp,b5,Zui F5 T Dnext_top⟩
 have b7:=F7.binds (ps:=["roll","table"]) fun _ _ _ _ _ _=>Zfg (fun _ _=>rfl)
 have Dprices:Def l.prog w K mg base CX0 12 "prices" ["roll","table"] (spD K (fun _=>0) 2 2 Dl.Zdz):=⟨f7,_,mg_of X G a7,F7.kp,b7,Xbm F7 T Dheights⟩
 have b10:=F10.binds (ps:=["rolls","table","order","points"]) fun _ _ _ _ _ _=>Zwz (fun _ _ _ _=>rfl)
 have Dfloor_by:Def l.prog w K mg base CX0 12 "floor_by" ["rolls","table","order","points"] (spD K (fun _=>0) 4 2 Dl.Jx):=⟨f10,_,mg_of X G a10,F10.kp,b10,Zss F10 T Dpointed Dfewest Dtogether Dheights⟩
 have b13:=F13.one.binds (ps:=["rolls","table","order"]) fun _ _ _ _ _ _=>Zgz (fun _ _ _=>rfl)
 have Dfloor:Def l.prog w K mg base CX0 15 "floor" ["rolls","table","order"] (spL (tsL P1) (spD K (fun _=>0) 3 2 Dl.Zij)):=⟨f13,_,mg_of X G a13,F13.kp,b13,Xhw F13 T B hd1 Dpoints_to_try Dpointed Dprices Dfloor_by⟩
 exact (oklaw (C:=fun _=>0) F34 T D_law_table D_law_row D_law_rolls D_law_order D_law_flaw Dfloor D_law_right).imp fun vs H Q E h=>by
  obtain ⟨hL,a,ns,rfl,hz,hl,q⟩:=h
  refine ⟨hL,[.scr ns],[],rfl,⟨.ref a,[],[],[],rfl,⟨a,rfl,hz,rfl⟩,⟨rfl,rfl⟩,rfl⟩,?_⟩
  rw [Zyz ns hl]
  rintro v H' _ ⟨B,r,_⟩
  obtain ⟨rfl,_⟩:=r
  exact q H'
theorem walk {l:PySem.W.OpenLaw}{q:Program}{loose:List Str}{XP:(Str→Option Value)→Heap→Prop}{YP:World→Heap→Prop}{d:DefRec}{K:Params→Frag}{P1:Addr}(hn:l.most=some 63)(hdf:d.params.defaults=[])
    (hY:∀(w:World) (h:Heap),YP w h→(K w.params).In h)
    (hT:∀w:World,∀t∈tsL P1,(K w.params).lookup t.1=some (tabObj #[])∧∃c,codeHdIn (K w.params) c t.1=true) (hnd:((tsL P1).map (·.1)).Nodup)
    (F:∀(w:World) (mg:Str→Option Value) (fa:Addr) (h:Heap),(K w.params).In h→h.Ns mainGlobals mg→mg d.name=some (.ref fa)→
      ∃fd:FuncData,(∀(s:Shared) (u:Value),BindsTo s fd ⟨[u],[]⟩ [("_law_script",u)])∧∀base:Heap,(Zbb ((tsL P1).map (·.1)) (K w.params)).In base→base.Ns mainGlobals mg→Zam l.prog w (Zbb ((tsL P1).map (·.1)) (K w.params)) mg base CX0 16 fa fd ["_law_script"] (Xiw (Zbb ((tsL P1).map (·.1)) (K w.params)) (tsL P1))) :
    PySem.W.WalkO q loose XP YP l.row.toRowW d [] (fun f vs=>PySem.call f vs):=
  L2.Xcc (ts:=tsL P1) (K:=K) (n:=63) (k:=16) (x:="_law_script") (CX:=fun _=>CX0) (sp:=fun w=>Xiw (Zbb ((tsL P1).map (·.1)) (K w.params)) (tsL P1)) hn (by decide) hdf ⟨rfl,by decide,by decide,rfl⟩ hY hT hnd F (fun _ H a ns hl hL hO hS=>⟨hL,a,ns,rfl,Xle hO hS,hl,fun _=>rfl⟩) fun _ _ _ _ _ z=>z
end K72
open PySem PySem.W PyProof.Rows
set_option maxRecDepth 100000 in
set_option maxHeartbeats 0 in
theorem PySem.Challenge.cw_selvage_k72_the_floor_holds : PySem.Challenge.rw_selvage_k72_the_floor.Holds := by
 w_on;o_law;z_head;(case hw=>w_witness2)
 k_fill
 refine L2.Xbt (fun _=>by kernel_rfl) (K72.walk (P1:=109) (l:=PySem.Challenge.rw_selvage_k72_the_floor) rfl rfl (fun w h Y=>Y) (fun w=>?T) (by decide) ?F)
 case T=>exact List.forall_mem_cons.mpr ⟨⟨by kernel_rfl,111,by kernel_rfl⟩,fun _ z=>nomatch z⟩
 case F =>
  intro w mg fa h KX G hmg
  refine' K72.all_mk (L2.Zpz (T:=[109]) KX) G hmg (L2.Zp ?a1 rfl) (L2.Xq ?l1 ?c1 ?u1 ?w1).one (L2.Zp ?a2 rfl) (L2.Xq ?l2 ?c2 ?u2 ?w2).one (L2.Zp ?a3 rfl) (L2.Xq ?l3 ?c3 ?u3 ?w3).one (L2.Zp ?a4 rfl) (L2.Xq ?l4 ?c4 ?u4 ?w4).one (L2.Zp ?a5 rfl) (L2.Xq ?l5 ?c5 ?u5 ?w5).one (L2.Zp ?a6 rfl) (L2.Xq ?l6 ?c6 ?u6 ?w6).one (L2.Zp ?a7 rfl) (L2.Xq ?l7 ?c7 ?u7 ?w7).one (L2.Zp ?a8 rfl) (L2.Xq ?l8 ?c8 ?u8 ?w8).one (L2.Zp ?a9 rfl) (L2.Xq ?l9 ?c9 ?u9 ?w9).one (L2.Zp ?a10 rfl) (L2.Xq ?l10 ?c10 ?u10 ?w10).one (L2.Zp ?a11 rfl) (L2.Xq ?l11 ?c11 ?u11 ?w11).one (L2.Zp ?a12 rfl) (L2.Xq ?l12 ?c12 ?u12 ?w12).one (L2.Zp ?a13 rfl) (L2.Xq ?l13 ?c13 ?u13 ?w13) (L2.Zp ?a14 rfl) (L2.Xq ?l14 ?c14 ?u14 ?w14).one (L2.Zp ?a15 rfl) (L2.Xq ?l15 ?c15 ?u15 ?w15).one (L2.Zp ?a16 rfl) (L2.Xq ?l16 ?c16 ?u16 ?w16).one (L2.Zp ?a17 rfl) (L2.Xq ?l17 ?c17 ?u17 ?w17).one (L2.Zp ?a18 rfl) (L2.Xq ?l18 ?c18 ?u18 ?w18).one (L2.Zp ?a19 rfl) (L2.Xq ?l19 ?c19 ?u19 ?w19).one (L2.Zp ?a20 rfl) (L2.Xq ?l20 ?c20 ?u20 ?w20).one (L2.Zp ?a21 rfl) (L2.Xq ?l21 ?c21 ?u21 ?w21).one (L2.Zp ?a22 rfl) (L2.Xq ?l22 ?c22 ?u22 ?w22).one (L2.Zp ?a23 rfl) (L2.Xq ?l23 ?c23 ?u23 ?w23).one (L2.Zp ?a24 rfl) (L2.Xq ?l24 ?c24 ?u24 ?w24).one (L2.Zp ?a25 rfl) (L2.Xq ?l25 ?c25 ?u25 ?w25).one (L2.Zp ?a26 rfl) (L2.Xq ?l26 ?c26 ?u26 ?w26).one (L2.Zp ?a27 rfl) (L2.Xq ?l27 ?c27 ?u27 ?w27).one (L2.Zp ?a28 rfl) (L2.Xq ?l28 ?c28 ?u28 ?w28).one (L2.Zp ?a29 rfl) (L2.Xq ?l29 ?c29 ?u29 ?w29).one (L2.Zp ?a30 rfl) (L2.Xq ?l30 ?c30 ?u30 ?w30).one (L2.Zp ?a31 rfl) (L2.Xq ?l31 ?c31 ?u31 ?w31).one (L2.Zp ?a32 rfl) (L2.Xq ?l32 ?c32 ?u32 ?w32).one (L2.Zp ?a33 rfl) (L2.Xq ?l33 ?c33 ?u33 ?w33).one (L2.Zp ?a34 rfl) (L2.Xq ?l34 ?c34 ?u34 ?w34).one (L2.Zp ?z1 rfl) (L2.Zp ?z2 rfl) (L2.Zp ?z3 rfl) (L2.Zp ?z4 rfl) (L2.Zp ?z5 rfl) (L2.Zp ?z6 rfl) (L2.Zp ?z7 rfl) (L2.Zp ?z8 rfl) (L2.Zp ?z9 rfl) (L2.Zp ?z10 rfl) (L2.Zp ?z11 rfl) (L2.Zp ?z12 rfl) (L2.Zp ?z13 rfl) (L2.Zp ?z14 rfl) (L2.Zp ?z15 rfl) (L2.Zyx ?h1 ?g1) (L2.Zp ?bm1 rfl) (L2.Zsm ?bm2 ?bm4) ?bm3
  (case a1=>k_is)
  (case l1=>k_is)
  (case c1=>k_is)
  (case a2=>k_is)
  (case l2=>k_is)
  (case c2=>k_is)
  (case a3=>k_is)
  (case l3=>k_is)
  (case c3=>k_is)
  (case a4=>k_is)
  (case l4=>k_is)
  (case c4=>k_is)
  (case a5=>k_is)
  (case l5=>k_is)
  (case c5=>k_is)
  (case a6=>k_is)
  (case l6=>k_is)
  (case c6=>k_is)
  (case a7=>k_is)
  (case l7=>k_is)
  (case c7=>k_is)
  (case a8=>k_is)
  (case l8=>k_is)
  (case c8=>k_is)
  (case a9=>k_is)
  (case l9=>k_is)
  (case c9=>k_is)
  (case a10=>k_is)
  (case l10=>k_is)
  (case c10=>k_is)
  (case a11=>k_is)
  (case l11=>k_is)
  (case c11=>k_is)
  (case a12=>k_is)
  (case l12=>k_is)
  (case c12=>k_is)
  (case a13=>k_is)
  (case l13=>k_is)
  (case c13=>k_is)
  (case a14=>k_is)
  (case l14=>k_is)
  (case c14=>k_is)
  (case a15=>k_is)
  (case l15=>k_is)
  (case c15=>k_is)
  (case a16=>k_is)
  (case l16=>k_is)
  (case c16=>k_is)
  (case a17=>k_is)
  (case l17=>k_is)
  (case c17=>k_is)
  (case a18=>k_is)
  (case l18=>k_is)
  (case c18=>k_is)
  (case a19=>k_is)
  (case l19=>k_is)
  (case c19=>k_is)
  (case a20=>k_is)
  (case l20=>k_is)
  (case c20=>k_is)
  (case a21=>k_is)
  (case l21=>k_is)
  (case c21=>k_is)
  (case a22=>k_is)
  (case l22=>k_is)
  (case c22=>k_is)
  (case a23=>k_is)
  (case l23=>k_is)
  (case c23=>k_is)
  (case a24=>k_is)
  (case l24=>k_is)
  (case c24=>k_is)
  (case a25=>k_is)
  (case l25=>k_is)
  (case c25=>k_is)
  (case a26=>k_is)
  (case l26=>k_is)
  (case c26=>k_is)
  (case a27=>k_is)
  (case l27=>k_is)
  (case c27=>k_is)
  (case a28=>k_is)
  (case l28=>k_is)
  (case c28=>k_is)
  (case a29=>k_is)
  (case l29=>k_is)
  (case c29=>k_is)
  (case a30=>k_is)
  (case l30=>k_is)
  (case c30=>k_is)
  (case a31=>k_is)
  (case l31=>k_is)
  (case c31=>k_is)
  (case a32=>k_is)
  (case l32=>k_is)
  (case c32=>k_is)
  (case a33=>k_is)
  (case l33=>k_is)
  (case c33=>k_is)
  (case a34=>k_is)
  (case l34=>k_is)
  (case c34=>k_is)
  (case z1=>k_is)
  (case z2=>k_is)
  (case z3=>k_is)
  (case z4=>k_is)
  (case z5=>k_is)
  (case z6=>k_is)
  (case z7=>k_is)
  (case z8=>k_is)
  (case z9=>k_is)
  (case z10=>k_is)
  (case z11=>k_is)
  (case z12=>k_is)
  (case z13=>k_is)
  (case z14=>k_is)
  (case z15=>k_is)
  (case u1=>rfl)
  (case w1=>rfl)
  (case u2=>rfl)
  (case w2=>rfl)
  (case u3=>rfl)
  (case w3=>rfl)
  (case u4=>rfl)
  (case w4=>rfl)
  (case u5=>rfl)
  (case w5=>rfl)
  (case u6=>rfl)
  (case w6=>rfl)
  (case u7=>rfl)
  (case w7=>rfl)
  (case u8=>rfl)
  (case w8=>rfl)
  (case u9=>rfl)
  (case w9=>rfl)
  (case u10=>rfl)
  (case w10=>rfl)
  (case u11=>rfl)
  (case w11=>rfl)
  (case u12=>rfl)
  (case w12=>rfl)
  (case u13=>rfl)
  (case w13=>rfl)
  (case u14=>rfl)
  (case w14=>rfl)
  (case u15=>rfl)
  (case w15=>rfl)
  (case u16=>rfl)
  (case w16=>rfl)
  (case u17=>rfl)
  (case w17=>rfl)
  (case u18=>rfl)
  (case w18=>rfl)
  (case u19=>rfl)
  (case w19=>rfl)
  (case u20=>rfl)
  (case w20=>rfl)
  (case u21=>rfl)
  (case w21=>rfl)
  (case u22=>rfl)
  (case w22=>rfl)
  (case u23=>rfl)
  (case w23=>rfl)
  (case u24=>rfl)
  (case w24=>rfl)
  (case u25=>rfl)
  (case w25=>rfl)
  (case u26=>rfl)
  (case w26=>rfl)
  (case u27=>rfl)
  (case w27=>rfl)
  (case u28=>rfl)
  (case w28=>rfl)
  (case u29=>rfl)
  (case w29=>rfl)
  (case u30=>rfl)
  (case w30=>rfl)
  (case u31=>rfl)
  (case w31=>rfl)
  (case u32=>rfl)
  (case w32=>rfl)
  (case u33=>rfl)
  (case w33=>rfl)
  (case u34=>rfl)
  (case w34=>rfl)
  (case h1=>kernel_rfl)
  (case g1=>rfl)
  (case bm1=>k_is)
  (case bm2=>k_is)
  (case bm4=>rfl)
  (case bm3=>exact ⟨by decide,by kernel_rfl,by kernel_rfl,by kernel_rfl⟩)
