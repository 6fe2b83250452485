import PyProof.Rows.All
import Wide.All
import OpenK.AllK
import Wide.FinOn
import Lean
import PyProof.EqAt
import PyProof.EqKinds
import PyProof.TupleCall
import PySem.Challenge.RW_selvage_k33_too_many
set_option Elab.async false
set_option linter.all false
set_option maxRecDepth 100000
set_option genSizeOfSpec false
set_option genInjectivity false
theorem aT0 (h:True:=by first | exact .inl rfl | exact .inr rfl | assumption):True:=True.intro
theorem aT1 (h:True:=by decide):True:=True.intro
theorem aT2 (h:True:=by rfl):True:=True.intro
theorem aT3 (h:True:=by first | exact Or.inl rfl | exact Or.inr (Or.inl rfl) | exact Or.inr (Or.inr rfl)):True:=True.intro
namespace L2
open PySem PySem.Spec PyProof.Rows
noncomputable abbrev Key:=Sum Int Str
noncomputable def keyIs:Key→Value→Bool
 | .inl k,v=>Value.isInt k v
 | .inr x,v=>Value.isStrOf x v
noncomputable def keyH (w:World):Key→Int
 | .inl k=>hashInt k
 | .inr x=>hashStr w x
theorem keyIs_shape:∀{k:Key} {v:Value},keyIs k v=true→(∃i t,k=Sum.inl i∧v=Value.int i t)∨(∃x t,k=Sum.inr x∧v=Value.str x t)
 | .inl i,v,h=>by
  obtain ⟨t,e⟩:=Value.isInt_shape (k:=i) (v:=v) h
  exact .inl ⟨i,t,rfl,e⟩
 | .inr x,v,h=>by
  obtain ⟨t,e⟩:=Value.isStrOf_shape (x:=x) (v:=v) h
  exact .inr ⟨x,t,rfl,e⟩
theorem key_ll (a b:Int):decide ((Sum.inl a:Key)=Sum.inl b)=(a==b):=by
 by_cases e:a=b
 ·subst e;simp
 ·have h:¬(Sum.inl a:Key)=Sum.inl b:=fun q=>e (Sum.inl.inj q)
  rw [decide_eq_false h]
  exact (beq_eq_false_iff_ne.mpr e).symm
theorem key_rr (a b:Str):decide ((Sum.inr a:Key)=Sum.inr b)=decide (a=b):=by
 by_cases e:a=b
 ·subst e;simp
 ·have h:¬(Sum.inr a:Key)=Sum.inr b:=fun q=>e (Sum.inr.inj q)
  rw [decide_eq_false h,decide_eq_false e]
theorem key_lr (a:Int)(b:Str):decide ((Sum.inl a:Key)=Sum.inr b)=false:=decide_eq_false (fun q=>nomatch q)
theorem key_rl (a:Str)(b:Int):decide ((Sum.inr a:Key)=Sum.inl b)=false:=decide_eq_false (fun q=>nomatch q)
noncomputable def mixKind (prog:Program)(w:World):PySem.KeyKind prog w Key where
 is:=keyIs
 hash:=keyH w
 inj:=fun v a b ha hb=>by
  rcases keyIs_shape ha with ⟨i,t,rfl,rfl⟩ | ⟨x,t,rfl,rfl⟩
  ·rcases keyIs_shape hb with ⟨j,u,rfl,e⟩ | ⟨y,u,rfl,e⟩
   ·injection e with e1 _;rw [e1]
   ·exact nomatch e
  ·rcases keyIs_shape hb with ⟨j,u,rfl,e⟩ | ⟨y,u,rfl,e⟩
   ·exact nomatch e
   ·injection e with e1 _;rw [e1]
 byValue:=fun k v h=>by
  rcases keyIs_shape h with ⟨i,t,rfl,rfl⟩ | ⟨x,t,rfl,rfl⟩<;>rfl
 pyHash:=fun hv h=>by
  rcases keyIs_shape hv with ⟨i,t,rfl,rfl⟩ | ⟨x,t,rfl,rfl⟩
  ·exact wpAny_pyHash_int h
  ·exact wpAny_pyHash_str h
 eqBool:=fun hu hv h=>by
  rcases keyIs_shape hu with ⟨i,t,rfl,rfl⟩ | ⟨x,t,rfl,rfl⟩
  ·rcases keyIs_shape hv with ⟨j,u,rfl,rfl⟩ | ⟨y,u,rfl,rfl⟩
   ·rw [key_ll] at h;exact wpAny_eqBool_int h
   ·rw [key_lr] at h;exact SeqAt.EqAt.int_str i t y u _ _ _ _ h
  ·rcases keyIs_shape hv with ⟨j,u,rfl,rfl⟩ | ⟨y,u,rfl,rfl⟩
   ·rw [key_rl] at h;exact SeqAt.EqAt.str_int x t j u _ _ _ _ h
   ·rw [key_rr] at h;exact wpAny_eqBool_str h
 «strs»:=fun k x t v h=>by
  rcases keyIs_shape h with ⟨i,u,rfl,e⟩ | ⟨y,u,rfl,e⟩
  ·exact nomatch e
  ·injection e with e1 _
   subst e1
   cases v<;>rfl
end L2
namespace L2
open PySem PySem.Spec PyProof.Rows
set_option genInjectivity true in
inductive V where
 | non | bl (b:Bool) | int (i:Int) | str (x:Str) | byt (b:Array UInt8) | flt (b:UInt64) | ref (a:Addr) | ty (n:String)
 deriving DecidableEq
noncomputable def RelV:V→Value→Prop
 | .non,u=>u=Value.none
 | .bl b,u=>u=Value.bool b
 | .int i,u=>∃t,u=Value.int i t
 | .str x,u=>∃t,u=Value.str x t
 | .byt b,u=>∃t,u=Value.bytes b t
 | .flt b,u=>∃t,u=Value.float b t
 | .ref a,u=>u=Value.ref a
 | .ty n,u=>u=Value.type n
noncomputable abbrev Vals:List V→List Value→Prop:=Paired RelV
theorem Vals.length {xs:List V}{us:List Value}(r:Vals xs us):xs.length=us.length:=Paired.length r
theorem Vals.get:∀{xs:List V} {us:List Value} {i:Nat} {x:V},Vals xs us→xs[i]?=some x→∃u,us[i]?=some u∧RelV x u
 | _,_,_,_,.nil,e=>by simp at e
 | _,_,0,_,.cons r _,e=>by simp at e;subst e;exact ⟨_,rfl,r⟩
 | _,_,i+1,x,.cons _ t,e=>by
  obtain ⟨u,h1,h2⟩:=Vals.get (i:=i) (x:=x) t (by simpa using e)
  exact ⟨u,by simpa using h1,h2⟩
theorem Vals.append:∀{xs ys:List V} {us ws:List Value},Vals xs us→Vals ys ws→Vals (xs++ys) (us++ws)
 | _,_,_,_,.nil,s=>s
 | _,_,_,_,.cons r t,s=>.cons r (Vals.append t s)
theorem Vals.take:∀{xs:List V} {us:List Value} (n:Nat),Vals xs us→Vals (xs.take n) (us.take n)
 | _,_,0,_=>.nil
 | _,_,_+1,.nil=>.nil
 | _,_,n+1,.cons r t=>.cons r (Vals.take n t)
theorem Vals.drop:∀{xs:List V} {us:List Value} (n:Nat),Vals xs us→Vals (xs.drop n) (us.drop n)
 | _,_,0,r=>r
 | _,_,_+1,.nil=>.nil
 | _,_,n+1,.cons _ t=>Vals.drop n t
noncomputable def RelO:Option V→Option Value→Prop
 | some v,some u=>RelV v u
 | none,none=>True
 | _,_=>False
noncomputable def KV {κ:Type}:List (κ×V)→List (κ×Value)→Prop:=Paired fun (p:κ×V) (q:κ×Value)=>p.1=q.1∧RelV p.2 q.2
noncomputable def kV:Key→V
 | .inl i=>.int i
 | .inr x=>.str x
inductive HO where
 | lst (xs:List V)
 | tup (xs:List V)
 | dK (kvs:List (Key×V)) | dT (kvs:List (List Key×V))
 | set (S:Int→Bool) (n:Nat)
 | ins (C dx:Addr) (fs:List (Str×V))
 | own (x:Addr)
 | xd (fs:List (Str×V))
 | met (f x:Addr)
 | rng (lo hi:Int)
 | frz (o:Obj) (u:HO)
 | tbl (ps:Array Value)
 | ext (φ:Heap→Prop)
noncomputable abbrev Hp:=Addr→Option HO
noncomputable def upd (H:Hp)(a:Addr)(o:HO):Hp:=fun b=>if b=a then some o else H b
theorem Zay {H:Hp}{a:Addr}{o:HO}:upd H a o a=some o:=by unfold upd;rw [if_pos rfl]
theorem Zap {H:Hp}{a b:Addr}{o:HO}(h:b≠a):upd H a o b=H b:=by unfold upd;rw [if_neg h]
theorem Zbu {H:Hp}{a b:Addr}{o:HO}(h:H a=some o)(h':H b=none):a≠b:=by
 intro e;subst e;rw [h] at h';cases h'
section
variable (P:Program)(w:World)
noncomputable def ObjOk (H:Hp)(h:Heap)(a:Addr):HO→Prop
 | .lst xs=>xs.length≤sizeLine∧∃(its:List Value) (n:Nat),Vals xs its∧h.get? a=some { cls:=.type "list",data:=.seq its.toArray n }
 | .tup xs=>xs.length≤sizeLine∧∃its:List Value,Vals xs its∧IsTup h a its.toArray
 | .dK kvs=>kvs.length≤sizeLine∧(a==sysModules)=false∧∃vs,KV kvs vs∧h.DictOf (mixKind P w) a vs
 | .dT kvs=>kvs.length≤sizeLine∧(a==sysModules)=false∧∃xs:List (List Key×Addr×Value),
   Paired (fun (p:List Key×V) (q:List Key×Addr×Value)=>p.1=q.1∧H q.2.1=some (.tup (p.1.map kV))∧RelV p.2 q.2.2) kvs xs∧
   ∃o es ep,h.get? a=some o∧o.ExactDict∧o.data=.dict es ep∧es.toList=xs.map (entryOfKey (tupleKind (mixKind P w)))∧(xs.map (·.1)).Nodup
 | .set S n=>h.SetOf (intKind P w) a S n
 | .ins C dx fs=>H dx=some (.own a)∧fs.length≤1000∧dx≠a∧h.get? a=some (PySem.W.instObj C dx)∧
   ∃mA,h.Ns1 dx mA∧(∀f,RelO (fs.lookup f) (mA f))∧PySem.Within mA (fs.map (·.1))
 | .own _=>∃o,h.get? a=some o
 | .xd fs=>∃mA,h.Ns1 a mA∧∀f,RelO (fs.lookup f) (mA f)
 | .rng lo hi=>∃t u v,h.get? a=some { cls:=.type "range",data:=.fields #[.int lo t,.int hi u,.int 1 v] }
 | .frz o u=>h.get? a=some o∧ObjOk H h a u
 | .tbl ps=>h.get? a=some { cls:=.none,data:=.fields ps }
 | .met f x=>h.get? a=some (PySem.W.methodObj (.ref f) (.ref x))
 | .ext φ=>φ h∧(∃o,h.get? a=some o)∧∀h1 h2:Heap,φ h1→(∀o,h1.get? a=some o→h2.get? a=some o)→φ h2
noncomputable def HOk (H:Hp)(h:Heap):Prop:=∀a o,H a=some o→ObjOk P w H h a o
end
section
variable {P:Program}{w:World}{H H':Hp}{h h':Heap}{a:Addr}{o:HO}
theorem ObjOk.lt (x:ObjOk P w H h a o):a<h.objs.size:=by
 cases o with
 | lst xs=>obtain ⟨_,_,_,_,e⟩:=x;exact Heap.lt_size e
 | tup xs=>obtain ⟨_,_,_,p⟩:=x;exact p.lt
 | dK kvs=>obtain ⟨_,_,_,_,o,_,_,e,_⟩:=x;exact Heap.lt_size e
 | dT kvs=>obtain ⟨_,_,_,_,o,_,_,e,_⟩:=x;exact Heap.lt_size e
 | set S n=>obtain ⟨o,_,_,_,e,_⟩:=x;exact Heap.lt_size e
 | ins C dx fs=>obtain ⟨_,_,_,e,_⟩:=x;exact Heap.lt_size e
 | own y=>obtain ⟨_,e⟩:=x;exact Heap.lt_size e
 | xd fs=>obtain ⟨_,⟨_,_,_,e,_⟩,_⟩:=x;exact Heap.lt_size e
 | rng lo hi=>obtain ⟨_,_,_,e⟩:=x;exact Heap.lt_size e
 | frz ob u=>obtain ⟨e,_⟩:=x;exact Heap.lt_size e
 | tbl ps=>exact Heap.lt_size (show h.get? a=some _ from x)
 | met f y=>exact Heap.lt_size (show h.get? a=some _ from x)
 | ext φ=>obtain ⟨_,⟨_,e⟩,_⟩:=x;exact Heap.lt_size e
theorem Paired.mapP {α β:Type}{F G:α→β→Prop}:∀{l₁:List α} {l₂:List β},Paired F l₁ l₂→(∀a b,F a b→G a b)→Paired G l₁ l₂
 | _,_,.nil,_=>.nil
 | _,_,.cons r t,f=>.cons (f _ _ r) (Paired.mapP t f)
theorem ObjOk.stay (x:ObjOk P w H h a o)(k:∀b u,(b=a∨H b=some (.own a))→h.get? b=some u→h'.get? b=some u)
  (ho:∀b,H b=some (.own a)→H' b=some (.own a)) (ht:∀b xs,H b=some (.tup xs)→H' b=some (.tup xs)):ObjOk P w H' h' a o:=by
 induction o with
 | lst xs=>obtain ⟨z,its,n,r,e⟩:=x;exact ⟨z,its,n,r,k _ _ (.inl rfl) e⟩
 | tup xs=>obtain ⟨z,its,r,ob,e,c⟩:=x;exact ⟨z,its,r,ob,k _ _ (.inl rfl) e,c⟩
 | dK kvs=>obtain ⟨z,y,vs,r,ob,es,ep,e,c⟩:=x;exact ⟨z,y,vs,r,ob,es,ep,k _ _ (.inl rfl) e,c⟩
 | dT kvs =>
  obtain ⟨z,y,xs,r,ob,es,ep,e,c⟩:=x
  exact ⟨z,y,xs,Paired.mapP r fun p q z=>⟨z.1,ht _ _ z.2.1,z.2.2⟩,ob,es,ep,k _ _ (.inl rfl) e,c⟩
 | set S n=>obtain ⟨ob,es,ep,t,e,c⟩:=x;exact ⟨ob,es,ep,t,k _ _ (.inl rfl) e,c⟩
 | ins C dx fs =>
  obtain ⟨d,z,ne,e,mA,⟨od,es,ep,e2,c⟩,r⟩:=x
  exact ⟨ho _ d,z,ne,k _ _ (.inl rfl) e,mA,⟨od,es,ep,k _ _ (.inr d) e2,c⟩,r⟩
 | own y=>obtain ⟨ob,e⟩:=x;exact ⟨ob,k _ _ (.inl rfl) e⟩
 | xd fs=>obtain ⟨mA,⟨od,es,ep,e,c⟩,r⟩:=x;exact ⟨mA,⟨od,es,ep,k _ _ (.inl rfl) e,c⟩,r⟩
 | rng lo hi=>obtain ⟨t,u,v,e⟩:=x;exact ⟨t,u,v,k _ _ (.inl rfl) e⟩
 | frz ob u ih=>obtain ⟨e,q⟩:=x;exact ⟨k _ _ (.inl rfl) e,ih q⟩
 | tbl ps =>
  have e:h.get? a=some { cls:=.none,data:=.fields ps }:=x
  show h'.get? a=some { cls:=.none,data:=.fields ps }
  exact k a _ (.inl rfl) e
 | met f y =>
  have e:h.get? a=some (PySem.W.methodObj (.ref f) (.ref y)):=x
  show h'.get? a=some (PySem.W.methodObj (.ref f) (.ref y))
  exact k a _ (.inl rfl) e
 | ext φ=>obtain ⟨p,⟨o,e⟩,st⟩:=x;exact ⟨st _ _ p fun o q=>k _ _ (.inl rfl) q,⟨o,k _ _ (.inl rfl) e⟩,st⟩
theorem HOk.lt (x:HOk P w H h)(e:H a=some o):a<h.objs.size:=(x a o e).lt
theorem HOk.fresh (x:HOk P w H h)(e:h.objs.size≤a):H a=none:=by
 cases q:H a with
 | none=>rfl
 | some u=>exact absurd (Nat.lt_of_lt_of_le (x.lt q) e) (Nat.lt_irrefl _)
theorem HOk.kept (x:HOk P w H h)(k:∀b u,h.get? b=some u→h'.get? b=some u):HOk P w H h':=fun a o e =>
 (x a o e).stay (fun b u _ q=>k b u q) (fun _ q=>q) fun _ _ q=>q
theorem HOk.laid (x:HOk P w H h)(k:∀b u,h.get? b=some u→h'.get? b=some u)(hp:h.objs.size≤a)(new:ObjOk P w (upd H a o) h' a o):HOk P w (upd H a o) h':=fun b u e=>by
 have hn:=x.fresh hp
 by_cases hb:b=a
 ·subst hb;rw [Zay] at e;cases e;exact new
 ·rw [Zap hb] at e
  exact (x b u e).stay (fun c v _ q=>k c v q) (fun c q=>by rw [Zap (Zbu q hn)];exact q) fun c xs q=>by rw [Zap (Zbu q hn)];exact q
end
noncomputable def Rd (H:Hp)(a:Addr)(u:HO):Prop:=H a=some u∨∃o,H a=some (.frz o u)
theorem Rd.ok {P:Program}{w:World}{H:Hp}{h:Heap}{a:Addr}{u:HO}(r:Rd H a u)(x:HOk P w H h):ObjOk P w H h a u:=by
 rcases r with r | ⟨o,r⟩
 ·exact x a u r
 ·obtain ⟨_,q⟩:=x a _ r
  exact q
noncomputable def Mut:Option HO→Prop
 | some (.lst _)=>True
 | some (.dK _)=>True
 | some (.dT _)=>True
 | some (.set _ _)=>True
 | some (.ins _ _ _)=>True
 | some (.ext _)=>True
 | _=>False
section
variable {P:Program}{w:World}{H:Hp}{h h':Heap}{x e:Addr}{o':HO}
theorem HOk.write (ok:HOk P w H h)(mu:Mut (H x))(he:e=x∨H e=some (.own x))(k:∀b u,b≠e→h.get? b=some u→h'.get? b=some u)(heo:∃u,h'.get? e=some u)
  (new:ObjOk P w (upd H x o') h' x o'):HOk P w (upd H x o') h':=fun b u q=>by
 have nown:∀c y,H c=some (.own y)→c≠x:=fun c y r z=>by subst z;rw [r] at mu;exact mu
 have ntup:∀c xs,H c=some (.tup xs)→c≠x:=fun c xs r z=>by subst z;rw [r] at mu;exact mu
 by_cases hb:b=x
 ·subst hb;rw [Zay] at q;cases q;exact new
 ·rw [Zap hb] at q
  by_cases hbe:b=e
  ·have q':H b=some (.own x):=by
    rcases he with z | z
    ·exact absurd (hbe.trans z) hb
    ·rw [hbe];exact z
   rw [q] at q';cases q'
   obtain ⟨v,hv⟩:=heo
   exact ⟨v,by rw [hbe];exact hv⟩
  ·refine (ok b u q).stay (fun c v hc r=>k c v ?_ r) (fun c r=>by rw [Zap (nown c b r)];exact r) fun c xs r=>by rw [Zap (ntup c xs r)];exact r
   rcases hc with rfl | hc
   ·exact hbe
   ·rintro rfl
    rcases he with z | z
    ·exact nown c b hc z
    ·rw [hc] at z;cases z;exact hb rfl
end
structure Un (fs ex:List Addr)(H H':Hp)(h h':Heap):Prop where
 keep:∀b o,h.get? b=some o→H b=none→b∉fs→b∉ex→h'.get? b=some o
 slot:∀b o,h.get? b=some o→H b=none→b∈fs→b∉ex→∃sl,h'.get? b=some { o with slots:=sl }
 free:∀b o,h.get? b=some o→H b=none→b∉ex→H' b=none
 there:∀b o,h.get? b=some o→b∉ex→∃o',h'.get? b=some o'
 tups:∀b xs,H b=some (.tup xs)→H' b=some (.tup xs)
 frzs:∀b o u,H b=some (.frz o u)→H' b=some (.frz o u)
 tbls:∀b ps,H b=some (.tbl ps)→∃more,H' b=some (.tbl (ps++more))
section
variable {fs fs' ex ex':List Addr}{H H1 H2:Hp}{h h1 h2 h':Heap}{a x e:Addr}{o:HO}
theorem Un.any (u:Un fs ex H H1 h h1){b:Addr}{ob:Obj}(q:h.get? b=some ob)(n:H b=none)(hx:b∉ex):∃sl,h1.get? b=some { ob with slots:=sl }:=by
 by_cases hb:b∈fs
 ·exact u.slot b ob q n hb hx
 ·exact ⟨ob.slots,u.keep b ob q n hb hx⟩
theorem Un.kept (k:∀b u,h.get? b=some u→h'.get? b=some u):Un fs ex H H h h' :=
 ⟨fun b ob q _ _ _=>k b ob q,fun b ob q _ _ _=>⟨ob.slots,k b ob q⟩,fun _ _ _ n _=>n,fun b ob q _=>⟨ob,k b ob q⟩,fun _ _ q=>q,fun _ _ _ q=>q,fun _ ps q=>⟨#[],by rw [q];simp⟩⟩
theorem Un.refl:Un fs ex H H h h:=Un.kept fun _ _ q=>q
theorem Un.laid (k:∀b u,h.get? b=some u→h'.get? b=some u)(hp:h.objs.size≤a)(hn:H a=none):Un fs ex H (upd H a o) h h' where
 keep:=fun b u q _ _ _=>k b u q
 slot:=fun b u q _ _ _=>⟨u.slots,k b u q⟩
 free:=fun b u q n _=>by rw [Zap (Nat.ne_of_lt (Nat.lt_of_lt_of_le (Heap.lt_size q) hp))];exact n
 there:=fun b u q _=>⟨u,k b u q⟩
 tups:=fun b xs q=>by rw [Zap (Zbu q hn)];exact q
 frzs:=fun b u xs q=>by rw [Zap (Zbu q hn)];exact q
 tbls:=fun b ps q=>⟨#[],by rw [Zap (Zbu q hn),q];simp⟩
theorem Un.write (mu:Mut (H x))(he:e=x∨H e=some (.own x))(k:∀b u,b≠e→h.get? b=some u→h'.get? b=some u)(heo:∃u,h'.get? e=some u):Un fs ex H (upd H x o) h h':=by
  have hx:∀b,H b=none→b≠x:=fun b n z=>by subst z;rw [n] at mu;exact mu
  have hb:∀b,H b=none→b≠e:=fun b n z=>by
    subst z
    rcases he with r | r
    · exact hx b n r
    · rw [n] at r;cases r
  have hm:∀b u,H b=some u→¬Mut (some u)→b≠x:=fun b u q nm z=>by subst z;rw [q] at mu;exact nm mu
  refine ⟨fun b u q n _ _=>k b u (hb b n) q,fun b u q n _ _=>⟨u.slots,k b u (hb b n) q⟩,fun b u q n _=>by rw [Zap (hx b n)];exact n,fun b u q _=>?_,
    fun b xs q=>by rw [Zap (hm b _ q fun z=>z)];exact q,fun b u xs q=>by rw [Zap (hm b _ q fun z=>z)];exact q,fun b ps q=>⟨#[],by rw [Zap (hm b _ q fun z=>z),q];simp⟩⟩
  by_cases hbe:b=e
  · subst hbe;exact heo
  · exact ⟨u,k b u hbe q⟩
end
noncomputable def trk (h:Heap)(H:Hp):List Addr:=(List.range h.objs.size).filter fun a=>(H a).isSome
noncomputable def hidT (h:Heap)(H:Hp):Heap:=PySem.W.hideAll h (trk h H)
theorem hidT_size (h:Heap)(H:Hp):(hidT h H).objs.size=h.objs.size:=PySem.W.hideAll_size _ _
theorem hidT_get {h:Heap}{H:Hp}{b:Addr}{o:Obj}(e:h.get? b=some o)(n:H b=none):(hidT h H).get? b=some o :=
 PySem.W.hideAll_get _ e fun hm=>by
  have q:(H b).isSome=true:=(List.mem_filter.mp hm).2
  rw [n] at q;simp at q
theorem of_hidT {h:Heap}{H:Hp}{b:Addr}{o:Obj}(e:(hidT h H).get? b=some o):h.get? b=some o∧H b=none:=by
 have e':h.get? b=some o:=PySem.W.of_hideAll (trk h H) e
 refine ⟨e',?_⟩
 cases q:H b with
 | none=>rfl
 | some x =>
  have hm:b∈trk h H:=List.mem_filter.mpr ⟨List.mem_range.mpr (Heap.lt_size e'),by simp [q]⟩
  have z:(hidT h H).get? b=none:=PySem.W.hideAll_none (trk h H) hm
  rw [z] at e;cases e
noncomputable def allNews (g h:Heap)(L:Addr):List (Addr×Obj):=(List.range h.objs.size).filterMap fun a=>if a=L∨(g.get? a).isSome=true then none else (h.get? a).map fun o=>(a,o)
noncomputable def rest (g h:Heap)(L d:Addr):List (Addr×Obj):=(allNews g h L).filter fun p=>decide (p.1≠d)
end L2
namespace L2
open PySem PySem.Spec PyProof.Rows
structure Mod (K:PySem.W.Frag)(mg:Str→Option Value)(base:Heap):Prop where
 kin:K.In base
 glob:base.Ns mainGlobals mg
 blt:∃mb,base.Ns builtinsNs mb∧∀x:Str,x≠"__name__"→mb x=bootBuiltins x
 nolimit:base.NoLimit
structure Cx where
 prog:Program
 w:World
 K:PySem.W.Frag
 mg:Str→Option Value
 base:Heap
 A:Around
 N:List Str
 s₀:Shared
 H₀:Hp
 env:Env
 outer:List Env
 stack:List Env
 ex:List Addr
 fn:Str→Bool
 calm:Bool
 pn:List (Addr×Obj)
 xe:Value→Shared→Prop
noncomputable def frs (l:List Env):List Addr:=l.filterMap (·.frame)
noncomputable abbrev Cx.fs (X:Cx):List Addr:=frs X.outer
noncomputable def Vis (sc:Scope)(x:Str):Prop:=sc.names.lookup x=some .local∨sc.names.lookup x=some .cell∨sc.names.lookup x=some .free
noncomputable def Loc (sc:Scope)(x:Str):Prop:=sc.names.lookup x=some .local∨sc.names.lookup x=some .cell
noncomputable def Look (env:Env)(h:Heap)(m:Str→Option Value)(x:Str)(u:Value):Prop :=
 (env.kindOf x=some .local∧m x=some u)∨((env.kindOf x=some .cell∨env.kindOf x=some .free)∧∃c,env.cells.lookup x=some c∧h.IsCell c (some u))
structure Cx.Ok (X:Cx):Prop where
 mod:Mod X.K X.mg X.base
 kind:X.env.scope.kind=.function
 glob:X.env.globals=mainGlobals
 blt:X.env.builtins=builtinsNs
 above:X.s₀.heap.objs.size≤X.env.locals
 inj:∀x y c,X.env.cells.lookup x=some c→X.env.cells.lookup y=some c→x=y
 has:∀x,(X.env.kindOf x=some .cell∨X.env.kindOf x=some .free)→∃c,X.env.cells.lookup x=some c
 cab:∀x c,X.fn x=true→X.env.cells.lookup x=some c→X.s₀.heap.objs.size≤c
 hd:X.calm=true→X.A.handled=none
 frames:X.A.frames=some X.stack
 stk:X.stack=X.outer∨(X.stack=X.env::X.outer∧X.env.frame=some X.env.locals)
 exf:∀b∈X.ex,b≠X.env.locals∧∀x c,X.env.cells.lookup x=some c→c≠b
 bs:∀b o,X.base.get? b=some o→X.s₀.heap.get? b=some o∧X.H₀ b=none
 bsz:X.base.objs.size≤X.s₀.heap.objs.size
 noex:∀b o,X.base.get? b=some o→b∉X.ex
 exfs:∀b∈X.ex,b∉X.fs
 funs:X.s₀.heap.FunFrames X.base X.outer
 frf:∀b∈X.fs,X.H₀ b=none
structure Inv (X:Cx)(pins:List (Addr×Obj))(σ:List (Option V))(H:Hp)(s:Shared):Prop where
 ok:X.Ok
 os:s.os=X.s₀.os
 bare:AllBare s.gens
 base:Un X.fs X.ex X.H₀ H X.s₀.heap s.heap
 loc:∃m,s.heap.Ns X.env.locals m∧∀(i:Nat) (x:Str) (v:V),X.N[i]?=some x→σ[i]?=some (some v)→Vis X.env.scope x→∃u,RelV v u∧Look X.env s.heap m x u
 cell:∀x c,X.env.cells.lookup x=some c→∃v,s.heap.IsCell c v
 free:H X.env.locals=none
 freeC:∀x c,X.env.cells.lookup x=some c→H c=none
 pin:∀p∈X.pn++pins,s.heap.get? p.1=some p.2∧H p.1=none∧p.1≠X.env.locals∧p.1∉X.fs∧∀v,p.2.data≠.cell v
 hok:HOk X.prog X.w H s.heap
 len:σ.length=X.N.length
section
variable {X:Cx}{pins:List (Addr×Obj)}{σ:List (Option V)}{H H':Hp}{s:Shared}{h':Heap}
theorem Cx.Ok.nofr (ok:X.Ok){b:Addr}{o:Obj}(e:X.base.get? b=some o):b∉X.fs:=fun hb=>by
 have:=(ok.funs.mem hb).1
 rw [e] at this;cases this
theorem Inv.bs (I:Inv X pins σ H s):∀b o,X.base.get? b=some o→s.heap.get? b=some o∧H b=none:=fun b o e =>
 ⟨I.base.keep b o (I.ok.bs b o e).1 (I.ok.bs b o e).2 (I.ok.nofr e) (I.ok.noex b o e),I.base.free b o (I.ok.bs b o e).1 (I.ok.bs b o e).2 (I.ok.noex b o e)⟩
theorem Inv.bk (I:Inv X pins σ H s):∀b o,X.base.get? b=some o→s.heap.get? b=some o:=fun b o e=>(I.bs b o e).1
theorem Inv.mod (I:Inv X pins σ H s):Mod X.K X.mg X.base:=I.ok.mod
theorem Inv.kIn (I:Inv X pins σ H s):X.K.In s.heap:=I.ok.mod.kin.keeps I.bk
theorem Inv.lt (I:Inv X pins σ H s):X.env.locals<s.heap.objs.size:=let ⟨_,hn,_⟩:=I.loc;hn.lt
theorem Inv.sz (I:Inv X pins σ H s):X.s₀.heap.objs.size≤s.heap.objs.size:=Nat.le_trans I.ok.above (Nat.le_of_lt I.lt)
theorem Inv.nofs (I:Inv X pins σ H s){a:Addr}(h:s.heap.objs.size≤a):a∉X.fs:=fun hb=>by
 obtain ⟨_,o,ho,_⟩:=I.ok.funs.mem hb
 exact absurd (Nat.lt_of_lt_of_le (Heap.lt_size ho) (Nat.le_trans I.sz h)) (Nat.lt_irrefl _)
theorem Inv.cne (I:Inv X pins σ H s):∀x c,X.env.cells.lookup x=some c→c≠X.env.locals:=fun x c e z=>by
 obtain ⟨v,o,ho,hd⟩:=I.cell x c e
 obtain ⟨m,⟨o',es,ep,ho',hd',_⟩,_⟩:=I.loc
 rw [z,ho'] at ho;cases ho;rw [hd'] at hd;cases hd
theorem Inv.funs (I:Inv X pins σ H s):s.heap.FunFrames X.base X.outer:=by
 have all:∀(l:List Env),(∀b∈frs l,b∈X.fs)→X.s₀.heap.FunFrames X.base l→s.heap.FunFrames X.base l:=by
  intro l
  induction l with
  | nil=>intro _ _;trivial
  | cons env r ih =>
   intro hs hl
   obtain ⟨hk,⟨L,o,hf,hn,ho,hd⟩,hr⟩:=hl
   have hL:L∈X.fs:=hs L (by unfold frs;rw [List.filterMap_cons,hf];exact List.mem_cons_self)
   obtain ⟨sl,e⟩:=I.base.slot L o ho (I.ok.frf L hL) hL fun z=>I.ok.exfs L z hL
   exact ⟨hk,⟨L,_,hf,hn,e,hd⟩,ih (fun b hb=>hs b (by unfold frs;rw [List.filterMap_cons,hf];exact List.mem_cons_of_mem _ hb)) hr⟩
 exact all X.outer (fun _ hb=>hb) I.ok.funs
theorem Inv.stack (I:Inv X pins σ H s):s.heap.FunFrames X.base X.stack:=by
 rcases I.ok.stk with e | ⟨e,hf⟩
 ·rw [e];exact I.funs
 ·rw [e]
  obtain ⟨m,hn,_⟩:=I.loc
  refine .cons (by rw [I.ok.kind];decide) hf hn ?_ I.funs
  exact Heap.get?_none_of_le (Nat.le_trans I.ok.bsz I.ok.above)
theorem Inv.stkSub (I:Inv X pins σ H s):∀b∈frs X.stack,b∈X.env.locals::X.fs:=fun b hb=>by
 rcases I.ok.stk with e | ⟨e,hf⟩
 ·rw [e] at hb;exact List.mem_cons_of_mem _ hb
 ·rw [e] at hb
  unfold frs at hb
  rw [List.filterMap_cons,hf] at hb
  exact hb
theorem Inv.stkFree (I:Inv X pins σ H s):∀b∈frs X.stack,H b=none:=fun b hb=>by
 rcases List.mem_cons.mp (I.stkSub b hb) with e | hb
 ·rw [e];exact I.free
 ·obtain ⟨_,o,ho,_⟩:=I.ok.funs.mem hb
  exact I.base.free b o ho (I.ok.frf b hb) fun z=>I.ok.exfs b z hb
theorem Inv.step {g':Array GenState}{t':Nat}{d':Drawn}{ch:List Addr}(I:Inv X pins σ H s)
  (hch:∀b∈ch,(b∈X.ex∨X.s₀.heap.objs.size≤b)∧b≠X.env.locals∧(∀x c,X.env.cells.lookup x=some c→c≠b)∧∀p∈X.pn++pins,p.1≠b)
  (keep:∀b o,b≠X.env.locals→b∉X.fs→b∉ch→s.heap.get? b=some o→H b=none→h'.get? b=some o)
  (slot:∀b o,b≠X.env.locals→b∈X.fs→b∉ch→s.heap.get? b=some o→H b=none→∃sl,h'.get? b=some { o with slots:=sl }) (free:∀b o,b∉ch→s.heap.get? b=some o→H b=none→H' b=none)
  (there:∀b o,b∉ch→s.heap.get? b=some o→∃o',h'.get? b=some o')
  (tups:∀b xs,H b=some (.tup xs)→H' b=some (.tup xs)) (frzs:∀b o u,H b=some (.frz o u)→H' b=some (.frz o u)) (tbls:∀b ps,H b=some (.tbl ps)→∃more,H' b=some (.tbl (ps++more)))
  (ns:∀m,s.heap.Ns X.env.locals m→h'.Ns X.env.locals m) (hok:HOk X.prog X.w H' h') (hg:AllBare g') :
  Inv X pins σ H' { s with heap:=h',gens:=g',drawn:=d',toks:=t' }:=by
 have neL:∀b o,X.s₀.heap.get? b=some o→b≠X.env.locals:=fun b o e=>Nat.ne_of_lt (Nat.lt_of_lt_of_le (Heap.lt_size e) I.ok.above)
 have neC:∀b o,X.s₀.heap.get? b=some o→b∉X.ex→b∉ch:=fun b o e hx hb=>by
  rcases (hch b hb).1 with z | z
  ·exact hx z
  ·exact absurd (Nat.lt_of_lt_of_le (Heap.lt_size e) z) (Nat.lt_irrefl _)
 have cellK:∀x c,X.env.cells.lookup x=some c→∀v,s.heap.IsCell c v→h'.IsCell c v:=fun x c e v ⟨o,ho,hd⟩=>by
  have nch:c∉ch:=fun z=>(hch c z).2.2.1 x c e rfl
  by_cases hc:c∈X.fs
  ·obtain ⟨sl,q⟩:=slot c o (I.cne x c e) hc nch ho (I.freeC x c e)
   exact ⟨_,q,hd⟩
  ·exact ⟨o,keep c o (I.cne x c e) hc nch ho (I.freeC x c e),hd⟩
 refine ⟨I.ok,I.os,hg,⟨fun b o e n hb hx=>?_,fun b o e n hb hx=>?_,fun b o e n hx=>?_,fun b o e hx=>?_,fun b xs e=>tups b xs (I.base.tups b xs e),fun b o xs e=>frzs b o xs (I.base.frzs b o xs e),fun b ps e=>?_⟩,?_,fun x c e=>?_,?_,fun x c e=>?_,fun p hp=>?_,hok,I.len⟩
 ·exact keep b o (neL b o e) hb (neC b o e hx) (I.base.keep b o e n hb hx) (I.base.free b o e n hx)
 ·obtain ⟨sl,e1⟩:=I.base.slot b o e n hb hx
  obtain ⟨sl',e2⟩:=slot b _ (neL b o e) hb (neC b o e hx) e1 (I.base.free b o e n hx)
  exact ⟨sl',e2⟩
 ·obtain ⟨o',e1⟩:=I.base.there b o e hx
  exact free b o' (neC b o e hx) e1 (I.base.free b o e n hx)
 ·obtain ⟨o',e1⟩:=I.base.there b o e hx
  exact there b o' (neC b o e hx) e1
 ·obtain ⟨m1,e1⟩:=I.base.tbls b ps e
  obtain ⟨m2,e2⟩:=tbls b _ e1
  exact ⟨m1++m2,by rw [e2,Array.append_assoc]⟩
 ·obtain ⟨m,hn,hl⟩:=I.loc
  refine ⟨m,ns m hn,fun i x v e1 e2 e3=>?_⟩
  obtain ⟨u,r,l⟩:=hl i x v e1 e2 e3
  refine ⟨u,r,?_⟩
  rcases l with l | ⟨k,c,e,z⟩
  ·exact .inl l
  ·exact .inr ⟨k,c,e,cellK x c e _ z⟩
 ·obtain ⟨v,z⟩:=I.cell x c e
  exact ⟨v,cellK x c e v z⟩
 ·obtain ⟨m,⟨o,_,_,ho,_⟩,_⟩:=I.loc
  exact free _ o (fun z=>(hch _ z).2.1 rfl) ho I.free
 ·obtain ⟨v,o,ho,hd⟩:=I.cell x c e
  exact free c o (fun z=>(hch c z).2.2.1 x c e rfl) ho (I.freeC x c e)
 ·obtain ⟨e,n,ne,nf,d⟩:=I.pin p hp
  have nch:p.1∉ch:=fun z=>(hch p.1 z).2.2.2 p hp rfl
  exact ⟨keep p.1 p.2 ne nf nch e n,free p.1 p.2 nch e n,ne,nf,d⟩
theorem Inv.un {t':Nat}(I:Inv X pins σ H s)(u:Un X.fs [] H H' s.heap h')(hok:HOk X.prog X.w H' h'):Inv X pins σ H' { s with heap:=h',toks:=t' }:=by
  obtain ⟨m,⟨o,es,ep,ho,r⟩,_⟩:=id I.loc
  obtain ⟨sl,hL⟩:=u.any ho I.free (by simp)
  exact I.step (g':=s.gens) (d':=s.drawn) (ch:=[]) (fun _ z=>nomatch z) (fun b o _ hb _ e n=>u.keep b o e n hb (by simp)) (fun b o _ hb _ e n=>u.slot b o e n hb (by simp)) (fun b o _ e n=>u.free b o e n (by simp)) (fun b o _ e=>u.there b o e (by simp)) u.tups u.frzs u.tbls (fun m' hm=>by
    obtain ⟨o',es',ep',ho',r'⟩:=hm
    rw [ho] at ho';cases ho'
    exact ⟨_,es',ep',hL,r'⟩) hok I.bare
theorem Inv.call {g':Array GenState}{t':Nat}{d':Drawn}{ch:List Addr}(I:Inv X pins σ H s)(u:Un (frs X.stack) ch H H' s.heap h')(hok:HOk X.prog X.w H' h')(hg:AllBare g')
    (hch:∀b∈ch,(b∈X.ex∨X.s₀.heap.objs.size≤b)∧b≠X.env.locals∧(∀x c,X.env.cells.lookup x=some c→c≠b)∧∀p∈X.pn++pins,p.1≠b) :
    Inv X pins σ H' { s with heap:=h',gens:=g',drawn:=d',toks:=t' }:=by
  obtain ⟨m,⟨o,es,ep,ho,r⟩,_⟩:=id I.loc
  obtain ⟨sl,hL⟩:=u.any ho I.free fun z=>(hch _ z).2.1 rfl
  exact I.step (ch:=ch) hch (fun b o hL hb hc e n=>u.keep b o e n (fun z=>(List.mem_cons.mp (I.stkSub b z)).elim hL hb) hc) (fun b o _ _ hc e n=>u.any e n hc) (fun b o hc e n=>u.free b o e n hc) (fun b o hc e=>u.there b o e hc) u.tups u.frzs u.tbls (fun m' hm=>by
    obtain ⟨o',es',ep',ho',r'⟩:=hm
    rw [ho] at ho';cases ho'
    exact ⟨_,es',ep',hL,r'⟩) hok hg
theorem Inv.turned {t':Nat}{it:Addr}(I:Inv X pins σ H s)(k:∀b o,b≠it→s.heap.get? b=some o→h'.get? b=some o)(hn:H it=none)(hL:it≠X.env.locals)
  (h1:it∈X.ex∨X.s₀.heap.objs.size≤it) (h2:∀x c,X.env.cells.lookup x=some c→c≠it) (h3:∀p∈X.pn++pins,p.1≠it):Inv X pins σ H { s with heap:=h',toks:=t' }:=by
 have nit:∀b u,H b=some u→b≠it:=fun b u e z=>by rw [z,hn] at e;cases e
 refine I.step (g':=s.gens) (d':=s.drawn) (ch:=[it]) (fun b hb=>?_) (fun b o _ _ hc e _=>k b o (fun z=>hc (by simp [z])) e) (fun b o _ _ hc e _=>⟨o.slots,k b o (fun z=>hc (by simp [z])) e⟩) (fun _ _ _ _ n=>n)
  (fun b o hc e=>⟨o,k b o (fun z=>hc (by simp [z])) e⟩) (fun _ _ e=>e) (fun _ _ _ e=>e) (fun b ps e=>⟨#[],by rw [e];simp⟩) (fun m hm=>?_) (fun b u e=>?_) I.bare
 ·have e:b=it:=by simpa using hb
  subst e
  exact ⟨h1,hL,h2,h3⟩
 ·obtain ⟨o,es,ep,ho,r⟩:=hm
  exact ⟨o,es,ep,k _ o (Ne.symm hL) ho,r⟩
 ·refine (I.hok b u e).stay (fun c v hc q=>k c v ?_ q) (fun _ q=>q) fun _ _ q=>q
  rcases hc with z | z
  ·rw [z];exact nit b u e
  ·exact nit c _ z
theorem Inv.tok (I:Inv X pins σ H s)(t:Nat):Inv X pins σ H { s with toks:=t }:=I.un (h':=s.heap) (t':=t) Un.refl I.hok
theorem Inv.kept {t':Nat}(I:Inv X pins σ H s)(k:∀b u,s.heap.get? b=some u→h'.get? b=some u):Inv X pins σ H { s with heap:=h',toks:=t' }:=I.un (Un.kept k) (I.hok.kept k)
theorem Inv.laid {a:Addr}{o:HO}{t':Nat}(I:Inv X pins σ H s)(k:∀b u,s.heap.get? b=some u→h'.get? b=some u)(hp:s.heap.objs.size≤a)(new:ObjOk X.prog X.w (upd H a o) h' a o) :
  Inv X pins σ (upd H a o) { s with heap:=h',toks:=t' }:=I.un (Un.laid k hp (I.hok.fresh hp)) (I.hok.laid k hp new)
theorem Inv.write {x e:Addr}{o:HO}{t':Nat}(I:Inv X pins σ H s)(mu:Mut (H x))(he:e=x∨H e=some (.own x))(k:∀b u,b≠e→s.heap.get? b=some u→h'.get? b=some u)(heo:∃u,h'.get? e=some u)
  (new:ObjOk X.prog X.w (upd H x o) h' x o):Inv X pins σ (upd H x o) { s with heap:=h',toks:=t' }:=I.un (Un.write mu he k heo) (I.hok.write mu he k heo new)
theorem Inv.pins_of {pins':List (Addr×Obj)}(I:Inv X pins σ H s)(h:∀p∈pins',s.heap.get? p.1=some p.2∧H p.1=none∧p.1≠X.env.locals∧p.1∉X.fs∧∀v,p.2.data≠.cell v):Inv X pins' σ H s :=
 ⟨I.ok,I.os,I.bare,I.base,I.loc,I.cell,I.free,I.freeC,fun p hp=>(List.mem_append.mp hp).elim (fun z=>I.pin p (List.mem_append_left _ z)) (h p),I.hok,I.len⟩
theorem nodup_ix {N:List Str}(hN:N.Nodup){i j:Nat}{x:Str}(a:N[i]?=some x)(b:N[j]?=some x):i=j:=by
 obtain ⟨h1,e1⟩:=List.getElem?_eq_some_iff.mp a
 obtain ⟨h2,e2⟩:=List.getElem?_eq_some_iff.mp b
 exact (List.getElem_inj hN).mp (e1.trans e2.symm)
theorem store_ok2 {M:Model}{A:Around}{E:Value→Shared→Prop}{i:Nat}{x:Str}{v:V}{u:Value}{Q:Unit→Shared→Prop}(I:Inv X pins σ H s)(hN:X.N.Nodup)(hi:X.N[i]?=some x)(hx:Loc X.env.scope x)(r:RelV v u)
  (h:∀s',Inv X pins (σ.set i (some v)) H s'→(∃a,Heap.SameBut a s.heap s'.heap∧(a=X.env.locals∨X.env.cells.lookup x=some a))→Q () s') (hf:autoParam (X.fn x=true∨X.env.scope.names.lookup x=some .local) aT0._auto_1):wpAny M A (storeName X.env x u) Q E s:=by
 obtain ⟨m,hn,hl⟩:=id I.loc
 have hcls:(X.env.scope.kind==.class||(X.env.scope.kind==.module&&X.env.locals != X.env.globals))=false:=by rw [I.ok.kind];rfl
 have hiσ:i<σ.length:=by rw [I.len];exact (List.getElem?_eq_some_iff.mp hi).1
 have cne:=I.cne
 have tracked:∀{a:Addr} {h':Heap},(∃o,s.heap.get? a=some o∧H a=none)→Heap.SameBut a s.heap h'→HOk X.prog X.w H h':=fun {a h'} ha hs b ob e=>by
  obtain ⟨_,_,hfree⟩:=ha
  refine (I.hok b ob e).stay (fun c w' hc q=>(hs.2 c ?_).trans q) (fun _ q=>q) fun _ _ q=>q
  rintro rfl
  rcases hc with rfl | hc
  ·rw [hfree] at e;cases e
  ·rw [hfree] at hc;cases hc
 rcases hx with hk | hk
 ·refine wpAny_storeName_local hk hn (fun h' hn' hs=>?_) hcls
  obtain ⟨oL,_,_,hoL,_⟩:=id hn
  refine h _ ⟨I.ok,I.os,I.bare,⟨fun b o e n hb hx=>?_,fun b o e n hb hx=>?_,I.base.free,fun b o e hx=>?_,I.base.tups,I.base.frzs,I.base.tbls⟩,⟨_,hn',fun j y v' e1 e2 e3=>?_⟩,fun y c e=>?_,I.free,I.freeC,fun p hp=>?_,tracked ⟨oL,hoL,I.free⟩ hs,by simpa using I.len⟩ ⟨_,hs,.inl rfl⟩
  ·exact (hs.2 b (Nat.ne_of_lt (Nat.lt_of_lt_of_le (Heap.lt_size e) I.ok.above))).trans (I.base.keep b o e n hb hx)
  ·obtain ⟨sl,e1⟩:=I.base.slot b o e n hb hx
   exact ⟨sl,(hs.2 b (Nat.ne_of_lt (Nat.lt_of_lt_of_le (Heap.lt_size e) I.ok.above))).trans e1⟩
  ·obtain ⟨o',e1⟩:=I.base.there b o e hx
   exact ⟨o',(hs.2 b (Nat.ne_of_lt (Nat.lt_of_lt_of_le (Heap.lt_size e) I.ok.above))).trans e1⟩
  ·by_cases hj:j=i
   ·subst hj
    rw [hi] at e1;cases e1
    rw [List.getElem?_set_self hiσ] at e2
    cases e2
    exact ⟨u,r,.inl ⟨hk,by simp⟩⟩
   ·rw [List.getElem?_set_ne (Ne.symm hj)] at e2
    obtain ⟨u',r',q⟩:=hl j y v' e1 e2 e3
    refine ⟨u',r',?_⟩
    rcases q with ⟨k,e⟩ | ⟨k,c,e,z⟩
    ·refine .inl ⟨k,?_⟩
     have:y≠x:=fun e=>hj (nodup_ix hN e1 (e▸hi))
     simp [this,e]
    ·exact .inr ⟨k,c,e,z.sameBut hs (cne y c e)⟩
  ·obtain ⟨w',z⟩:=I.cell y c e
   exact ⟨w',z.sameBut hs (cne y c e)⟩
  ·obtain ⟨e,n,ne,nf,d⟩:=I.pin p hp
   exact ⟨(hs.2 p.1 ne).trans e,n,ne,nf,d⟩
 ·have hfn:X.fn x=true:=by
   rcases hf with z | z
   ·exact z
   ·rw [z] at hk;cases hk
  obtain ⟨c,hc⟩:=I.ok.has x (.inl hk)
  obtain ⟨w',z⟩:=I.cell x c hc
  refine wpAny_storeName_cell I.ok.kind hk hc z (fun h' hc' hs=>?_)
  obtain ⟨oc,hoc,hocd⟩:=id z
  refine h { s with heap:=h' } ⟨I.ok,I.os,I.bare,⟨fun b o e n hb hx=>?_,fun b o e n hb hx=>?_,I.base.free,fun b o e hx=>?_,I.base.tups,I.base.frzs,I.base.tbls⟩,⟨m,hn.sameBut hs (Ne.symm (cne x c hc)),fun j y v' e1 e2 e3=>?_⟩,fun y c' e=>?_,I.free,I.freeC,fun p hp=>?_,tracked ⟨oc,hoc,I.freeC x c hc⟩ hs,by simpa using I.len⟩ ⟨c,hs,.inr hc⟩
  ·exact (hs.2 b (Nat.ne_of_lt (Nat.lt_of_lt_of_le (Heap.lt_size e) (I.ok.cab x c hfn hc)))).trans (I.base.keep b o e n hb hx)
  ·obtain ⟨sl,e1⟩:=I.base.slot b o e n hb hx
   exact ⟨sl,(hs.2 b (Nat.ne_of_lt (Nat.lt_of_lt_of_le (Heap.lt_size e) (I.ok.cab x c hfn hc)))).trans e1⟩
  ·obtain ⟨o',e1⟩:=I.base.there b o e hx
   exact ⟨o',(hs.2 b (Nat.ne_of_lt (Nat.lt_of_lt_of_le (Heap.lt_size e) (I.ok.cab x c hfn hc)))).trans e1⟩
  ·by_cases hj:j=i
   ·subst hj
    rw [hi] at e1;cases e1
    rw [List.getElem?_set_self hiσ] at e2
    cases e2
    exact ⟨u,r,.inr ⟨.inl hk,c,hc,hc'⟩⟩
   ·rw [List.getElem?_set_ne (Ne.symm hj)] at e2
    obtain ⟨u',r',q⟩:=hl j y v' e1 e2 e3
    refine ⟨u',r',?_⟩
    rcases q with q | ⟨k,c',e,z'⟩
    ·exact .inl q
    ·refine .inr ⟨k,c',e,z'.sameBut hs ?_⟩
     rintro rfl
     exact hj (nodup_ix hN e1 (I.ok.inj _ _ _ e hc▸hi))
  ·by_cases hcc:c'=c
   ·subst hcc;exact ⟨_,hc'⟩
   ·obtain ⟨w2,z2⟩:=I.cell y c' e
    exact ⟨w2,z2.sameBut hs hcc⟩
  ·obtain ⟨e,n,ne,nf,d⟩:=I.pin p hp
   refine ⟨(hs.2 p.1 ?_).trans e,n,ne,nf,d⟩
   intro q
   rw [q,hoc] at e
   have q':oc=p.2:=Option.some.inj e
   exact d w' (by rw [← q'];exact hocd)
theorem store_ok {M:Model}{A:Around}{E:Value→Shared→Prop}{i:Nat}{x:Str}{v:V}{u:Value}{Q:Unit→Shared→Prop}(I:Inv X pins σ H s)(hN:X.N.Nodup)(hi:X.N[i]?=some x)(hx:Loc X.env.scope x)(r:RelV v u)
  (h:∀s',Inv X pins (σ.set i (some v)) H s'→Q () s') (hf:autoParam (X.fn x=true∨X.env.scope.names.lookup x=some .local) aT0._auto_1):wpAny M A (storeName X.env x u) Q E s :=
 store_ok2 I hN hi hx r (fun s' I' _=>h s' I') hf
theorem Inv.call' {s':Shared}{ch:List Addr}(I:Inv X pins σ H s)(ho:s'.os=s.os)(u:Un (frs X.stack) ch H H' s.heap s'.heap)(hok:HOk X.prog X.w H' s'.heap)(hg:AllBare s'.gens)
  (hch:∀b∈ch,(b∈X.ex∨X.s₀.heap.objs.size≤b)∧b≠X.env.locals∧(∀x c,X.env.cells.lookup x=some c→c≠b)∧∀p∈X.pn++pins,p.1≠b):Inv X pins σ H' s':=by
 obtain ⟨h',g',d',t',o'⟩:=s'
 have e:o'=s.os:=ho
 subst e
 exact I.call (g':=g') (t':=t') (d':=d') u hok hg hch
end
noncomputable abbrev XK:=Value→Option Addr→Hp→Prop
noncomputable abbrev St:=List (Option V)
noncomputable abbrev VK:=V→Hp→Prop
noncomputable abbrev TE:=St→Hp→VK→Prop
noncomputable abbrev TT:=St→Hp→(Bool→Hp→Prop)→Prop
noncomputable abbrev TA:=St→Hp→(List V→Hp→Prop)→Prop
structure Ends where
 nx:St→Hp→Prop
 rt:VK
 bk:St→Hp→Prop:=fun _ _=>False
 ct:St→Hp→Prop:=fun _ _=>False
noncomputable abbrev TS:=Ends→St→Hp→Prop
noncomputable def EP (X:Cx)(pins:List (Addr×Obj))(σ:St)(Q:VK)(u:Value)(s':Shared):Prop:=∃v H',Inv X pins σ H' s'∧RelV v u∧Q v H'
noncomputable def TP (X:Cx)(pins:List (Addr×Obj))(σ:St)(Q:Bool→Hp→Prop)(b:Bool)(s':Shared):Prop:=∃H',Inv X pins σ H' s'∧Q b H'
noncomputable def AP (X:Cx)(pins:List (Addr×Obj))(σ:St)(Q:List V→Hp→Prop)(us:List Value)(s':Shared):Prop:=∃vs H',Inv X pins σ H' s'∧Vals vs us∧Q vs H'
noncomputable def SP (X:Cx)(pins:List (Addr×Obj))(D:Ends)(f:Flow)(s':Shared):Prop :=
 match f with
 | .next=>∃σ' H',Inv X pins σ' H' s'∧D.nx σ' H'
 | .brk=>∃σ' H',Inv X pins σ' H' s'∧D.bk σ' H'
 | .cont=>∃σ' H',Inv X pins σ' H' s'∧D.ct σ' H'
 | .ret u=>∃v σ' H',Inv X pins σ' H' s'∧RelV v u∧D.rt v H'
noncomputable def PE (X:Cx)(e:Expr)(t:TE):Prop :=
 ∀(pins:List (Addr×Obj)) (s:Shared) (σ:St) (H:Hp) (Q:VK),Inv X pins σ H s→t σ H Q→wpAny (model X.prog X.w) X.A (eval e X.env) (EP X pins σ Q) X.xe s
noncomputable def PT (X:Cx)(e:Expr)(t:TT):Prop :=
 ∀(pins:List (Addr×Obj)) (s:Shared) (σ:St) (H:Hp) (Q:Bool→Hp→Prop),Inv X pins σ H s→t σ H Q→wpAny (model X.prog X.w) X.A (isTrue e X.env (eval e X.env)) (TP X pins σ Q) X.xe s
noncomputable def PW (X:Cx)(e:Expr)(t:TT):Prop :=
 ∀(whole:Sem Value) (pins:List (Addr×Obj)) (s:Shared) (σ:St) (H:Hp) (Q:Bool→Hp→Prop),Inv X pins σ H s→t σ H Q→wpAny (model X.prog X.w) X.A (isTrue e X.env whole) (TP X pins σ Q) X.xe s
theorem PW.pt {X:Cx}{e:Expr}{t:TT}(h:PW X e t):PT X e t:=h _
noncomputable def PA (X:Cx)(es:List Expr)(t:TA):Prop :=
 ∀(pos:Pos) (pins:List (Addr×Obj)) (s:Shared) (σ:St) (H:Hp) (Q:List V→Hp→Prop),Inv X pins σ H s→t σ H Q→wpAny (model X.prog X.w) X.A (spliced (backTo pos (starEach es X.env))) (AP X pins σ Q) X.xe s
noncomputable def PS (X:Cx)(st:Stmt)(t:TS):Prop :=
 ∀(pins:List (Addr×Obj)) (s:Shared) (σ:St) (H:Hp) (D:Ends),Inv X pins σ H s→t D σ H→wpAny (model X.prog X.w) X.A (exec st X.env) (SP X pins D) X.xe s
noncomputable def PSs (X:Cx)(st:List Stmt)(t:TS):Prop :=
 ∀(pins:List (Addr×Obj)) (s:Shared) (σ:St) (H:Hp) (D:Ends),Inv X pins σ H s→t D σ H→wpAny (model X.prog X.w) X.A (execs st X.env) (SP X pins D) X.xe s
theorem thn {α:Type}{t:Sem α}{Q Q':α→Shared→Prop}{M:Model}{A:Around}{E:Value→Shared→Prop}{s:Shared}(h:wpAny M A t Q E s)(hQ:∀a s,Q a s→Q' a s):wpAny M A t Q' E s:=wpAny_mono h hQ fun _ _ x=>x
end L2
namespace L2
open PySem PySem.Spec PyProof.Rows
section
variable {X:Cx}
noncomputable def tVar (i:Nat):TE:=fun σ H Q=>∃v,σ[i]?=some (some v)∧Q v H
noncomputable def tC (v:V):TE:=fun _ H Q=>Q v H
theorem pe_var {i:Nat}{x:Str}{pos:Pos}(hN:X.N[i]?=some x)(hv:Vis X.env.scope x)(hd:autoParam ((x==("__debug__":Str))=false) aT1._auto_1)(hcd:autoParam ((x==("__classdict__":Str))=false) aT1._auto_1):PE X (.Name x pos) (tVar i):=by
 intro pins s σ H Q I h
 obtain ⟨v,e,h⟩:=h
 obtain ⟨m,hn,hl⟩:=I.loc
 obtain ⟨u,r,l⟩:=hl i x v hN e hv
 have fin:EP X pins σ Q u s:=⟨v,H,I,r,h⟩
 rcases l with ⟨hk,hm⟩ | ⟨hk,c,hc,hcell⟩
 ·exact wpAny_Name (wpAny_loadName_local I.ok.kind hk hn hm fin) hd
 ·rcases hk with hk | hk
  ·exact wpAny_Name (wpAny_loadName_cell I.ok.kind hk hc hcell fin) hd
  ·exact wpAny_Name (wpAny_loadName_free I.ok.kind hk hc hcell fin hcd) hd
theorem pe_int {i j pos}:PE X (.Constant (.int i) j pos) (tC (.int i)):=fun _ _ _ H _ I h=>wpAny_Constant_int ⟨.int i,H,I.tok _,⟨_,rfl⟩,h⟩
theorem pe_bl {b j pos}:PE X (.Constant (.bool b) j pos) (tC (.bl b)):=fun _ _ _ H _ I h=>Constant_bool ⟨.bl b,H,I,rfl,h⟩
theorem pe_str {x j pos}:PE X (.Constant (.str x) j pos) (tC (.str x)):=fun _ _ _ H _ I h=>Calls.Constant_str ⟨.str x,H,I.tok _,⟨_,rfl⟩,h⟩
noncomputable def Gl (X:Cx)(x:Str):Prop:=X.env.kindOf x=some .globalImplicit
theorem ld_glob {E:Value→Shared→Prop}{pins:List (Addr×Obj)}{s:Shared}{σ:St}{H:Hp}{x:Str}{u:Value}{pos:Pos}{Q:Value→Shared→Prop}(I:Inv X pins σ H s)(hg:Gl X x)(hm:X.mg x=some u)(h:Q u s)
  (hd:autoParam ((x==("__debug__":Str))=false) aT1._auto_1):wpAny (model X.prog X.w) X.A (eval (.Name x pos) X.env) Q E s :=
 Calls.Name_function_global I.ok.kind hg (Calls.loadGlobal_global (by rw [I.ok.glob];exact I.mod.glob.keeps I.bk) hm h) hd
theorem ld_blt {E:Value→Shared→Prop}{pins:List (Addr×Obj)}{s:Shared}{σ:St}{H:Hp}{x:Str}{u:Value}{pos:Pos}{Q:Value→Shared→Prop}(I:Inv X pins σ H s)(hg:Gl X x)(hm:X.mg x=none)(hv:bootBuiltins x=some u)(h:Q u s)
  (hn:autoParam (x≠"__name__") aT1._auto_1) (hd:autoParam ((x==("__debug__":Str))=false) aT1._auto_1):wpAny (model X.prog X.w) X.A (eval (.Name x pos) X.env) Q E s:=by
 obtain ⟨mb,h1,h2⟩:=I.mod.blt
 exact Calls.Name_function_global I.ok.kind hg (Calls.loadGlobal_builtin (by rw [I.ok.glob];exact I.mod.glob.keeps I.bk) hm (by rw [I.ok.blt];exact h1.keeps I.bk) ((h2 x hn).trans hv) h) hd
theorem pe_glob {x:Str}{v:V}{u:Value}{pos:Pos}(hg:Gl X x)(hm:X.mg x=some u)(r:RelV v u)(hd:autoParam ((x==("__debug__":Str))=false) aT1._auto_1):PE X (.Name x pos) (tC v) :=
 fun _ _ _ H _ I h=>ld_glob I hg hm ⟨v,H,I,r,h⟩ hd
theorem pe_bltn {x:Str}{v:V}{u:Value}{pos:Pos}(hg:Gl X x)(hm:X.mg x=none)(hv:bootBuiltins x=some u)(r:RelV v u)(hn:autoParam (x≠"__name__") aT1._auto_1)(hd:autoParam ((x==("__debug__":Str))=false) aT1._auto_1):PE X (.Name x pos) (tC v) :=
 fun _ _ _ H _ I h=>ld_blt I hg hm hv ⟨v,H,I,r,h⟩ hn hd
variable {a b:Expr}{ta tb:TE}{pos:Pos}
noncomputable def tB (t:TE):TT:=fun σ H Q=>t σ H fun x H1=>∃c,x=.bl c∧Q c H1
theorem pt_val {e:Expr}{t:TE}(h:PE X e t)(he:∀whole,isTrue e X.env whole=(do let v ← whole;standAt e.pos;holding [v] (truthy v)):=by intro _;rfl):PT X e (tB t):=by
 intro pins s σ H Q I hw
 refine isTrue_plain (thn (h pins s σ H _ I hw) fun v s1 hz9=>?_) (he _)
 obtain ⟨x,H1,I1,r1,q1⟩:=hz9
 obtain ⟨d,rfl,q⟩:=q1
 cases r1
 exact wpAny_truthy_bool ⟨H1,I1,q⟩
variable {tA tB':TT}{rest:List Expr}
noncomputable def tAnd (t u:TT):TT:=fun σ H Q=>t σ H fun c H1=>if c=true then u σ H1 Q else Q false H1
noncomputable def tOr (t u:TT):TT:=fun σ H Q=>t σ H fun c H1=>if c=true then Q true H1 else u σ H1 Q
noncomputable def tNot (t:TT):TT:=fun σ H Q=>t σ H fun c H1=>Q (!c) H1
theorem pw_and1 (ha:PT X a tA):PW X (.BoolOp .And [a] pos) tA:=by
 intro wh pins s σ H Q I h
 refine isTrue_and (thn (ha pins s σ H Q I h) fun c s1 e=>?_)
 cases c with
 | true=>exact isTrue_and_nil e
 | false=>exact e
theorem pw_or1 (ha:PT X a tA):PW X (.BoolOp .Or [a] pos) tA:=by
 intro wh pins s σ H Q I h
 refine isTrue_or (thn (ha pins s σ H Q I h) fun c s1 e=>?_)
 cases c with
 | false=>exact isTrue_or_nil e
 | true=>exact e
theorem pw_and (ha:PT X a tA)(hb:PW X (.BoolOp .And (b::rest) pos) tB'):PW X (.BoolOp .And (a::b::rest) pos) (tAnd tA tB'):=by
 intro wh pins s σ H Q I h
 refine isTrue_and (thn (ha pins s σ H _ I h) fun c s1 ⟨H1,I1,q1⟩=>?_)
 cases c with
 | true=>exact hb wh pins s1 σ H1 Q I1 q1
 | false=>exact ⟨H1,I1,q1⟩
theorem pw_or (ha:PT X a tA)(hb:PW X (.BoolOp .Or (b::rest) pos) tB'):PW X (.BoolOp .Or (a::b::rest) pos) (tOr tA tB'):=by
 intro wh pins s σ H Q I h
 refine isTrue_or (thn (ha pins s σ H _ I h) fun c s1 ⟨H1,I1,q1⟩=>?_)
 cases c with
 | true=>exact ⟨H1,I1,q1⟩
 | false=>exact hb wh pins s1 σ H1 Q I1 q1
theorem pt_not (ha:PT X a tA):PT X (.UnaryOp .Not a pos) (tNot tA):=by
 intro pins s σ H Q I h
 exact isTrue_not (ha pins s σ H (fun c H1=>Q (!c) H1) I h)
noncomputable def tAndV (ta tb:TE):TE:=fun σ H Q=>ta σ H fun x H1=>∃c,x=.bl c∧if c=true then tb σ H1 Q else Q (.bl false) H1
noncomputable def tNotV (ta:TE):TE:=fun σ H Q=>ta σ H fun x H1=>∃c,x=.bl c∧Q (.bl (!c)) H1
theorem pe_one {op}{t:TE}(h:PE X a t):PE X (.BoolOp op [a] pos) t:=fun pins s σ H Q I hw=>BoolOp_one (h pins s σ H Q I hw)
theorem pe_and (ha:PE X a ta)(hb:PE X (.BoolOp .And (b::rest) pos) tb):PE X (.BoolOp .And (a::b::rest) pos) (tAndV ta tb):=by
 intro pins s σ H Q I h
 refine BoolOp_and (thn (ha pins s σ H _ I h) fun v s1 hz9=>?_)
 obtain ⟨x,H1,I1,r1,q1⟩:=hz9
 obtain ⟨c,rfl,q1⟩:=q1
 cases r1
 refine wpAny_truthy_bool ?_
 cases c with
 | true=>exact hb pins s1 σ H1 Q I1 q1
 | false=>exact ⟨.bl false,H1,I1,rfl,q1⟩
theorem pe_not (ha:PE X a ta):PE X (.UnaryOp .Not a pos) (tNotV ta):=by
 intro pins s σ H Q I h
 refine UnaryOp_ (thn (ha pins s σ H _ I h) fun v s1 hz9=>?_)
 obtain ⟨x,H1,I1,r1,q1⟩:=hz9
 obtain ⟨c,rfl,q1⟩:=q1
 cases r1
 exact not_of (wpAny_truthy_bool ⟨.bl (!c),H1,I1,rfl,q1⟩)
end
end L2
namespace L2
open PySem PySem.Spec PyProof.Rows
noncomputable def SqL (K:PySem.W.Frag)(H:Hp)(a:Addr)(xs:List V):Prop :=
 Rd H a (.lst xs)∨
  ∃(o:Obj) (its:Array Value) (n:Nat),K.lookup a=some o∧o.cls=.type "list"∧o.dict=none∧o.data=.seq its n∧its.size≤sizeLine∧Vals xs its.toList
noncomputable def SqT (K:PySem.W.Frag)(H:Hp)(a:Addr)(xs:List V):Prop :=
 Rd H a (.tup xs)∨
  ∃(o:Obj) (its:Array Value) (n:Nat),K.lookup a=some o∧o.cls=.type "tuple"∧o.data=.seq its n∧its.size≤sizeLine∧Vals xs its.toList
noncomputable def absV:Value→Option V
 | .none=>some .non
 | .bool b=>some (.bl b)
 | .int i _=>some (.int i)
 | .str x _=>some (.str x)
 | .bytes b _=>some (.byt b)
 | .float b _=>some (.flt b)
 | .ref a=>some (.ref a)
 | .type n=>some (.ty n)
 | _=>none
theorem RelV.abs {x:V}{u:Value}(r:RelV x u):absV u=some x:=by
 cases x with
 | non=>cases r;rfl
 | bl _=>cases r;rfl
 | int _=>obtain ⟨t,rfl⟩:=r;rfl
 | str _=>obtain ⟨t,rfl⟩:=r;rfl
 | byt _=>obtain ⟨t,rfl⟩:=r;rfl
 | flt _=>obtain ⟨t,rfl⟩:=r;rfl
 | ref _=>cases r;rfl
 | ty _=>cases r;rfl
theorem RelV.inj {x y:V}{u:Value}(r:RelV x u)(q:RelV y u):x=y:=Option.some.inj (r.abs.symm.trans q.abs)
theorem Vals.inj:∀{xs ys:List V} {us:List Value},Vals xs us→Vals ys us→xs=ys
 | _,_,_,.nil,.nil=>rfl
 | _,_,_,.cons r t,.cons r' t'=>by rw [r.inj r',Vals.inj t t']
section
variable {X:Cx}{pins:List (Addr×Obj)}{σ:St}{H:Hp}{s:Shared}{a:Addr}{xs ys:List V}
theorem SqL.of {K:PySem.W.Frag}(h:H a=some (.lst xs)):SqL K H a xs:=.inl (.inl h)
theorem SqT.of {K:PySem.W.Frag}(h:H a=some (.tup xs)):SqT K H a xs:=.inl (.inl h)
theorem Inv.list (I:Inv X pins σ H s)(h:SqL X.K H a xs):∃its:List Value,Vals xs its∧PlainL s.heap a its.toArray∧xs.length≤sizeLine:=by
 rcases h with h | ⟨o,its,n,hk,hc,hd,hs,hz,r⟩
 ·obtain ⟨z,its,n,r,e⟩:=h.ok I.hok
  exact ⟨its,r,⟨_,n,e,rfl,rfl,rfl⟩,z⟩
 ·refine ⟨its.toList,r,⟨o,n,I.kIn a o hk,hc,hd,by simpa using hs⟩,?_⟩
  have e:=r.length
  simp only [Array.length_toList] at e
  omega
theorem Inv.tuple (I:Inv X pins σ H s)(h:SqT X.K H a xs):∃its:List Value,Vals xs its∧IsTup s.heap a its.toArray∧xs.length≤sizeLine:=by
 rcases h with h | ⟨o,its,n,hk,hc,hs,hz,r⟩
 ·obtain ⟨z,its,r,p⟩:=h.ok I.hok
  exact ⟨its,r,p,z⟩
 ·refine ⟨its.toList,r,⟨o,I.kIn a o hk,hc,n,by simpa using hs⟩,?_⟩
  have e:=r.length
  simp only [Array.length_toList] at e
  omega
theorem Inv.list_inj (I:Inv X pins σ H s)(h:SqL X.K H a xs)(h':SqL X.K H a ys):xs=ys:=by
 obtain ⟨its,r,⟨o,n,e,_,_,d⟩,_⟩:=I.list h
 obtain ⟨its',r',⟨o',n',e',_,_,d'⟩,_⟩:=I.list h'
 rw [e] at e';cases e'
 rw [d] at d'
 injection d' with d1 _
 have:its=its':=by simpa using congrArg Array.toList d1
 subst this
 exact r.inj r'
end
noncomputable abbrev Cx.wish (X:Cx)(E:Value→Shared→Prop):Cx:={ X with xe:=E }
noncomputable abbrev Cx.nox (X:Cx):Cx:=X.wish fun _ _=>False
theorem Cx.Ok.wish {X:Cx}(ok:X.Ok)(E:Value→Shared→Prop):(X.wish E).Ok :=
 ⟨ok.mod,ok.kind,ok.glob,ok.blt,ok.above,ok.inj,ok.has,ok.cab,ok.hd,ok.frames,ok.stk,ok.exf,ok.bs,ok.bsz,ok.noex,ok.exfs,ok.funs,ok.frf⟩
theorem Cx.Ok.unwish {X:Cx}{E:Value→Shared→Prop}(ok:(X.wish E).Ok):X.Ok :=
 ⟨ok.mod,ok.kind,ok.glob,ok.blt,ok.above,ok.inj,ok.has,ok.cab,ok.hd,ok.frames,ok.stk,ok.exf,ok.bs,ok.bsz,ok.noex,ok.exfs,ok.funs,ok.frf⟩
section
variable {X:Cx}{pins:List (Addr×Obj)}{σ:St}{H:Hp}{s:Shared}{E:Value→Shared→Prop}
theorem Inv.wish (I:Inv X pins σ H s)(E:Value→Shared→Prop):Inv (X.wish E) pins σ H s:=⟨I.ok.wish E,I.os,I.bare,I.base,I.loc,I.cell,I.free,I.freeC,I.pin,I.hok,I.len⟩
theorem Inv.unwish (I:Inv (X.wish E) pins σ H s):Inv X pins σ H s:=⟨I.ok.unwish,I.os,I.bare,I.base,I.loc,I.cell,I.free,I.freeC,I.pin,I.hok,I.len⟩
theorem SP.unwish {D:Ends}{f:Flow}{s':Shared}(h:SP (X.wish E) pins D f s'):SP X pins D f s':=by
 cases f with
 | next=>obtain ⟨σ',H',I,q⟩:=h;exact ⟨σ',H',I.unwish,q⟩
 | brk=>obtain ⟨σ',H',I,q⟩:=h;exact ⟨σ',H',I.unwish,q⟩
 | cont=>obtain ⟨σ',H',I,q⟩:=h;exact ⟨σ',H',I.unwish,q⟩
 | ret u=>obtain ⟨v,σ',H',I,r,q⟩:=h;exact ⟨v,σ',H',I.unwish,r,q⟩
theorem PSs.nox {st:List Stmt}{t:TS}(h:PSs X.nox st t):PSs X st t:=fun pins s σ H D I hw =>
 wpAny_mono (h pins s σ H D (I.wish _) hw) (fun _ _ q=>q.unwish) fun _ _ z=>False.elim z
end
section
variable {X:Cx}{st:Stmt}{rest:List Stmt}{t u:TS}{e:Expr}{te:TE}{pos:Pos}
noncomputable def tNext:TS:=fun D σ H=>D.nx σ H
noncomputable def tSeq (t u:TS):TS:=fun D σ H=>t { D with nx:=u D } σ H
theorem pss_nil:PSs X [] tNext:=fun _ _ σ H _ I h=>wpAny_execs_nil ⟨σ,H,I,h⟩
theorem pss_cons (h1:PS X st t)(h2:PSs X rest u):PSs X (st::rest) (tSeq t u):=by
 intro pins s σ H D I h
 refine wpAny_execs_cons (thn (h1 pins s σ H { D with nx:=u D } I h) fun f s1 q=>?_)
 cases f with
 | next =>
  obtain ⟨σ',H',I',q⟩:=q
  exact h2 pins s1 σ' H' D I' q
 | ret v=>exact q
 | brk=>exact q
 | cont=>exact q
theorem pss_one (h1:PS X st t):PSs X [st] t:=by
 intro pins s σ H D I h
 refine wpAny_execs_cons (thn (h1 pins s σ H D I h) fun f s1 q=>?_)
 cases f with
 | next=>exact wpAny_execs_nil q
 | ret v=>exact q
 | brk=>exact q
 | cont=>exact q
theorem Inv.quiet {pins:List (Addr×Obj)}{σ:St}{H:Hp}{s:Shared}(I:Inv X pins σ H s):interactive X.env=false:=by simp [interactive,I.ok.kind]
noncomputable def tDrop (te:TE):TS:=fun D σ H=>te σ H fun _ H1=>D.nx σ H1
theorem ps_expr (he:PE X e te)(hs:autoParam (swapsWith e none pos.line X.env=pure false) aT2._auto_1):PS X (.Expr e pos) (tDrop te):=by
 intro pins s σ H D I h
 exact wpAny_Expr_any (thn (he pins s σ H _ I h) fun v s1 ⟨x,H1,I1,r1,q1⟩=>⟨σ,H1,I1,q1⟩) I.quiet hs
noncomputable def tRet (te:TE):TS:=fun D σ H=>te σ H D.rt
theorem ps_ret (he:PE X e te):PS X (.Return (some e) pos) (tRet te):=by
 intro pins s σ H D I h
 exact wpAny_Return_some (thn (he pins s σ H _ I h) fun v s1 ⟨x,H1,I1,r1,q1⟩=>⟨x,σ,H1,I1,r1,q1⟩)
noncomputable def tIfS (c:TT)(t u:TS):TS:=fun D σ H=>c σ H fun b H1=>if b=true then t D σ H1 else u D σ H1
theorem ps_if {c:Expr}{a b:List Stmt}{tc:TT}(hc:PT X c tc)(ha:PSs X a t)(hb:PSs X b u):PS X (.If c a b pos) (tIfS tc t u):=by
 intro pins s σ H D I h
 refine wpAny_If (thn (hc pins s σ H _ I h) fun d s1 ⟨H1,I1,q1⟩=>?_)
 cases d with
 | true=>exact ha pins s1 σ H1 D I1 q1
 | false=>exact hb pins s1 σ H1 D I1 q1
noncomputable def tNever:TS:=fun _ _ _=>False
theorem ps_never:PS X st tNever:=fun _ _ _ _ _ _ h=>h.elim
end
noncomputable abbrev TG:=V→St→Hp→(St→Hp→Prop)→Prop
noncomputable abbrev TGs:=List V→St→Hp→(St→Hp→Prop)→Prop
noncomputable def PG (X:Cx)(target:Expr)(t:TG):Prop :=
 ∀(pins:List (Addr×Obj)) (s:Shared) (σ:St) (H:Hp) (v:V) (u:Value) (Q:St→Hp→Prop),Inv X pins σ H s→RelV v u→t v σ H Q→
  wpAny (model X.prog X.w) X.A (assign target X.env u) (fun _ s'=>∃σ' H',Inv X pins σ' H' s'∧Q σ' H') X.xe s
noncomputable def PGs (X:Cx)(ts:List Expr)(t:TGs):Prop :=
 ∀(pins:List (Addr×Obj)) (s:Shared) (σ:St) (H:Hp) (vs:List V) (us:List Value) (Q:St→Hp→Prop),Inv X pins σ H s→Vals vs us→t vs σ H Q→
  wpAny (model X.prog X.w) X.A (assignInOrder ((assignEach ts X.env).map (·.2)) us) (fun _ s'=>∃σ' H',Inv X pins σ' H' s'∧Q σ' H') X.xe s
noncomputable abbrev TSet:=V→V→V→Hp→(Hp→Prop)→Prop
section
variable {X:Cx}{pos:Pos}
noncomputable def gName (i:Nat):TG:=fun v σ H Q=>Q (σ.set i (some v)) H
theorem pg_name {i:Nat}{x:Str}(hN:X.N.Nodup)(hi:X.N[i]?=some x)(hx:Loc X.env.scope x)(hf:autoParam (X.fn x=true∨X.env.scope.names.lookup x=some .local) aT0._auto_1):PG X (.Name x pos) (gName i):=by
 intro pins s σ H v u Q I r h
 exact wpAny_assign_Name (store_ok I hN hi hx r (fun s' I'=>⟨_,H,I',h⟩) hf)
noncomputable def gNil:TGs:=fun vs σ H Q=>vs=[]∧Q σ H
noncomputable def gCons (t:TG)(u:TGs):TGs:=fun vs σ H Q=>∃v r,vs=v::r∧t v σ H fun σ' H'=>u r σ' H' Q
theorem pgs_nil:PGs X [] gNil:=by
 intro pins s σ H vs us Q I r h
 obtain ⟨e,h⟩:=h
 subst e
 cases r
 exact assignInOrder_nil ⟨σ,H,I,h⟩
theorem pgs_cons {e:Expr}{es:List Expr}{t:TG}{u:TGs}(h1:PG X e t)(h2:PGs X es u)
  (hs:autoParam ((assignEach (e::es) X.env).map (·.2)=assign e X.env::(assignEach es X.env).map (·.2)) aT2._auto_1):PGs X (e::es) (gCons t u):=by
 intro pins s σ H vs us Q I r h
 obtain ⟨v,vr,e1,h⟩:=h
 subst e1
 cases r with
 | cons r rr =>
  rw [hs]
  refine assignInOrder_cons (thn (h1 pins s σ H _ _ _ I r h) fun _ s1 hz9=>?_)
  obtain ⟨σ1,H1,I1,q1⟩:=hz9
  exact h2 pins s1 σ1 H1 _ _ Q I1 rr q1
noncomputable def gTup (K:PySem.W.Frag)(n:Nat)(t:TGs):TG:=fun v σ H Q=>∃a xs,v=.ref a∧SqT K H a xs∧xs.length=n∧t xs σ H Q
theorem pg_tup {es:List Expr}{k:Nat}{t:TGs}{n:Nat}(hc:X.calm=true)(h:PGs X es t)
  (hn:autoParam ((assignEach es X.env).length=n) aT2._auto_1) (hst:autoParam ((assignEach es X.env).findIdx? (·.1)=none) aT2._auto_1):PG X (.Tuple es k pos) (gTup X.K n t):=by
 intro pins s σ H v u Q I r hw
 obtain ⟨a,xs,e1,hq,hl,hw⟩:=hw
 subst e1
 cases r
 obtain ⟨its,rv,ht,hz⟩:=I.tuple hq
 refine assign_Tuple_tuple (I.ok.hd hc) ht (by simp [hn,← hl,rv.length]) hst fun h' hx=>?_
 have I1:Inv X pins σ H { s with heap:=h' }:=I.kept (t':=s.toks) fun b o e=>hx b o (Nat.ne_of_lt (Heap.lt_size e)) e
 exact h pins _ σ H xs _ Q I1 (by simpa using rv) hw
noncomputable def gSub (to ti:TE)(t:TSet):TG:=fun v σ H Q=>to σ H fun o H1=>ti σ H1 fun i H2=>t o i v H2 fun H3=>Q σ H3
noncomputable def tAsg (te:TE)(g:TG):TS:=fun D σ H=>te σ H fun x H1=>g x σ H1 D.nx
theorem ps_asg {tg e:Expr}{te:TE}{g:TG}(he:PE X e te)(hg:PG X tg g)(hs:autoParam (swapsWithSole [tg] e pos.line X.env=pure false) aT2._auto_1)(hw:autoParam (swappedStores [tg] e X.env=pure none) aT2._auto_1)
  (h1:autoParam ((assignEach [tg] X.env).map (·.2)=[assign tg X.env]) aT2._auto_1):PS X (.Assign [tg] e pos) (tAsg te g):=by
 intro pins s σ H D I h
 refine wpAny_Assign_stores (thn (he pins s σ H _ I h) fun v s1 hz9=>?_) hs hw
 obtain ⟨x,H1,I1,r1,q1⟩:=hz9
 rw [h1]
 exact thn (hg pins s1 σ H1 x v _ I1 r1 q1) fun _ s2 q=>q
theorem ps_set {i:Nat}{x:Str}{e:Expr}{te:TE}{pos':Pos}(hN:X.N.Nodup)(hi:X.N[i]?=some x)(hx:Loc X.env.scope x)(he:PE X e te)(hs:autoParam (swapsWith e (some (.Name x pos')) pos.line X.env=pure false) aT2._auto_1)(hf:autoParam (X.fn x=true∨X.env.scope.names.lookup x=some .local) aT0._auto_1) :
  PS X (.Assign [.Name x pos'] e pos) (tAsg te (gName i)):=by
 intro pins s σ H D I h
 refine wpAny_Assign_Name (thn (he pins s σ H _ I h) fun v s1 hz9=>?_) hs
 obtain ⟨y,H1,I1,r1,q1⟩:=hz9
 exact store_ok I1 hN hi hx r1 (fun s2 I2=>⟨_,H1,I2,q1⟩) hf
end
section
variable {X:Cx}{pos:Pos}
noncomputable def tWhile (c:TT)(tb:TS):TS:=fun D σ H=>∃W:Nat→St→Hp→Prop,(∃m,W m σ H)∧∀m σ H,W m σ H→
 c σ H fun b H1=>if b=true then ∃N:St→Hp→Prop,(∀σ' H',N σ' H'→∃m',m'<m∧W m' σ' H')∧tb { D with nx:=N,ct:=N,bk:=D.nx } σ H1 else D.nx σ H1
theorem ps_while {c:Expr}{body:List Stmt}{tc:TT}{tb:TS}(hp:PassesOwn (model X.prog X.w) X.A X.env X.xe)(hc:PT X c tc)(hb:PSs X body tb):PS X (.While c body [] pos) (tWhile tc tb):=by
 intro pins s σ H D I h
 obtain ⟨W,⟨m0,w0⟩,turn⟩:=h
 refine wpAny_While (codeAny_whileLoop (fun n s'=>∃σ' H',Inv X pins σ' H' s'∧W n σ' H') ?_ m0 ⟨σ,H,I,w0⟩)
 rintro n s1 ⟨σ1,H1,I1,w1⟩
 refine wpAny_passesOwn hp (thn (hc pins s1 σ1 H1 _ I1 (turn n σ1 H1 w1)) fun b s2 ⟨H2,I2,q2⟩=>?_)
 cases b with
 | true =>
  obtain ⟨N,hN,q2⟩:=q2
  rw [if_pos rfl]
  refine wpAny_passesOwn hp (thn (hb pins s2 σ1 H2 _ I2 q2) fun f s3 q3=>?_)
  cases f with
  | next =>
   obtain ⟨σ3,H3,I3,n3⟩:=q3
   obtain ⟨m',hm,w3⟩:=hN σ3 H3 n3
   exact ⟨m',hm,σ3,H3,I3,w3⟩
  | cont =>
   obtain ⟨σ3,H3,I3,n3⟩:=q3
   obtain ⟨m',hm,w3⟩:=hN σ3 H3 n3
   exact ⟨m',hm,σ3,H3,I3,w3⟩
  | brk=>exact q3
  | ret v=>exact q3
 | false =>
  rw [if_neg Bool.false_ne_true]
  exact wpAny_execs_nil ⟨σ1,H2,I2,q2⟩
end
structure It where
 go:Nat→Hp→Prop
 yld:Nat→Hp→V→Hp→Prop
 stop:Nat→Hp→Prop
noncomputable def FpOk (X:Cx)(pins:List (Addr×Obj))(H:Hp)(b:Addr):Prop :=
 H b=none∧b≠X.env.locals∧b∉X.fs∧(b∈X.ex∨X.s₀.heap.objs.size≤b)∧(∀x c,X.env.cells.lookup x=some c→c≠b)∧∀p∈X.pn++pins,p.1≠b
theorem Inv.fpOk {X:Cx}{pins:List (Addr×Obj)}{σ:St}{H H':Hp}{s:Shared}{b:Addr}(I:Inv X pins σ H s)(hb:s.heap.objs.size≤b)(hn:H' b=none):FpOk X pins H' b:=by
 refine ⟨hn,Nat.ne_of_gt (Nat.lt_of_lt_of_le I.lt hb),I.nofs hb,.inr (Nat.le_trans I.sz hb),fun x c e z=>?_,fun p hp z=>?_⟩
 ·obtain ⟨v,q⟩:=I.cell x c e
  exact absurd (Nat.lt_of_lt_of_le q.lt (by rw [z];exact hb)) (Nat.lt_irrefl _)
 ·exact absurd (Nat.lt_of_lt_of_le (Heap.lt_size (I.pin p hp).1) (by rw [z];exact hb)) (Nat.lt_irrefl _)
structure Turn (P:Program)(w:World)(K:PySem.W.Frag)(tg:Expr)(J:It)(fp:List Addr)(it:Addr)(tn:Nat→Heap→Prop):Prop where
  mem:it∈fp
  obj:∀i h,tn i h→∀b∈fp,∃o,h.get? b=some o∧∀v,o.data≠.cell v
  keep:∀i h h',tn i h→(∀b∈fp,∀o,h.get? b=some o→h'.get? b=some o)→tn i h'
  item:∀(X:Cx),X.prog=P→X.w=w→X.K=K→X.calm=true→∀(i:Nat) (pins:List (Addr×Obj)) (s:Shared) (σ:St) (H:Hp) (E:Value→Shared→Prop),Inv X pins σ H s→(∀b∈fp,FpOk X pins H b)→tn i s.heap→J.go i H→
    wpAny (model P w) X.A (pyNext (.ref it)) (fun r s1=>∃u,r=some u∧
      wpAny (model P w) X.A (letOwnedTupleGo tg (.ref it) u) (fun _ s2=>∃x H',Inv X pins σ H' s2∧RelV x u∧J.yld i H x H'∧tn (i+1) s2.heap∧∀b∈fp,H' b=none) E s1) E s
  done:∀(X:Cx),X.prog=P→X.w=w→X.K=K→X.calm=true→∀(i:Nat) (pins:List (Addr×Obj)) (s:Shared) (σ:St) (H:Hp) (E:Value→Shared→Prop),Inv X pins σ H s→(∀b∈fp,FpOk X pins H b)→tn i s.heap→J.stop i H→
    wpAny (model P w) X.A (pyNext (.ref it)) (fun r s1=>r=none∧Inv X pins σ H s1) E s
  self:∀(A:Around) (i:Nat) (s:Shared) (Q:Value→Shared→Prop) (E:Value→Shared→Prop),tn i s.heap→Q (.ref it) s→wpAny (model P w) A (pyIter (.ref it)) Q E s
noncomputable abbrev TI:=St→Hp→(It→Hp→Prop)→Prop
noncomputable def PIE (X:Cx)(pins:List (Addr×Obj))(σ:St)(tg:Expr)(R:It→Hp→Prop)(itv:Value)(s2:Shared):Prop :=
 ∃(it:Addr) (fp:List Addr) (tn:Nat→Heap→Prop) (J:It) (H':Hp),itv=.ref it∧Inv X pins σ H' s2∧Turn X.prog X.w X.K tg J fp it tn∧tn 0 s2.heap∧(∀b∈fp,FpOk X pins H' b)∧R J H'
noncomputable def PI (X:Cx)(tg iter:Expr)(wi:TI):Prop :=
 ∀(pins:List (Addr×Obj)) (s:Shared) (σ:St) (H:Hp) (R:It→Hp→Prop),Inv X pins σ H s→wi σ H R→
  wpAny (model X.prog X.w) X.A (eval iter X.env) (fun v s1=>wpAny (model X.prog X.w) X.A (pyIter v) (PIE X pins σ tg R) X.xe s1) X.xe s
theorem go_of {M:Model}{A:Around}{E:Value→Shared→Prop}{s:Shared}{tg:Expr}{it:Addr}{u:Value}{o:Obj}{n:String}{vs:Array Value}{Q:Unit→Shared→Prop}(ho:s.heap.get? it=some o)(hc:o.cls=.type n)(hd:o.data=.fields vs)
    (hn:["enumerate","zip","dict_itemiterator","dict_reverseitemiterator","odict_iterator","itertools.zip_longest","itertools.pairwise"].contains n=false) (hQ:Q () s):wpAny M A (letOwnedTupleGo tg (.ref it) u) Q E s:=by
  unfold letOwnedTupleGo
  cases tg<;>first
    | exact wpAny_pure hQ
    | (cases u<;>first
        | exact wpAny_pure hQ
        | (refine wpAny_bind (wpAny_load ho ?_)
           rw [hc,hd]
           show wpAny M A (if (["enumerate","zip","dict_itemiterator","dict_reverseitemiterator","odict_iterator","itertools.zip_longest","itertools.pairwise"].contains n&&vs[0]?==some (rawInt _))=true then _ else _) Q E s
           rw [if_neg (by intro h;rw [hn,Bool.false_and] at h;cases h)]
           exact wpAny_pure hQ))
noncomputable def Itl (K:PySem.W.Frag)(a:Addr):It :=
 ⟨fun i H=>∃xs x,SqL K H a xs∧xs[i]?=some x,fun i H x H'=>H'=H∧∀xs,SqL K H a xs→xs[i]?=some x,fun i H=>∃xs,SqL K H a xs∧xs.length≤i⟩
noncomputable def Itr (lo:Int)(n:Nat):It:=⟨fun i _=>i<n,fun i H x H'=>H'=H∧x=.int (lo+i),fun i _=>n≤i⟩
theorem turn_list {P:Program}{w:World}{K:PySem.W.Frag}{tg:Expr}(a it:Addr):Turn P w K tg (Itl K a) [it] it (fun i h=>h.IsListIter it a i) where
 mem:=by simp
 obj:=fun i h st b hb=>by
  have e:b=it:=by simpa using hb
  subst e
  obtain ⟨o,e,c,d⟩:=st
  exact ⟨o,e,fun v z=>by rw [d] at z;cases z⟩
 keep:=fun i h h' st k=>st.at fun o e=>k it (by simp) o e
 item:=by
  intro X hP hw hK hc i pins s σ H E I hf st hg
  subst hP hw hK
  obtain ⟨xs,x,hq,hx⟩:=hg
  obtain ⟨its,rv,p,hz⟩:=I.list hq
  obtain ⟨u,hu,ru⟩:=rv.get hx
  obtain ⟨f0,f1,f2,f3,f4,f5⟩:=hf it (by simp)
  refine wpAny_pyNext_list_item st p.isList (x:=u) (by simpa using hu) fun h' st' sb=>?_
  have I1:Inv X pins σ H { s with heap:=h' }:=I.turned (t':=s.toks) (fun b o hb e=>(sb.2 b hb).trans e) f0 f1 f3 f4 f5
  obtain ⟨o,e,c,d⟩:=id st'
  exact ⟨u,rfl,go_of (s:={ s with heap:=h' }) e c d (by decide) ⟨x,H,I1,ru,⟨rfl,fun ys hy=>by rw [I.list_inj hy hq];exact hx⟩,st',fun b hb=>(hf b hb).1⟩⟩
 done:=by
  intro X hP hw hK hc i pins s σ H E I hf st hg
  subst hP hw hK
  obtain ⟨xs,hq,hx⟩:=hg
  obtain ⟨its,rv,p,hz⟩:=I.list hq
  obtain ⟨f0,f1,f2,f3,f4,f5⟩:=hf it (by simp)
  have hl:=rv.length
  exact wpAny_pyNext_list_end (I.ok.hd hc) st p.isList (by simp;omega) fun h' eb=>⟨rfl,I.turned (t':=s.toks) (fun b o hb e=>eb b o hb e) f0 f1 f3 f4 f5⟩
 self:=fun _ _ _ _ _ st h=>wpAny_pyIter_listiter st h
theorem turn_range {P:Program}{w:World}{K:PySem.W.Frag}{tg:Expr}(it:Addr)(lo:Int)(n:Nat):Turn P w K tg (Itr lo n) [it] it (fun i h=>IsRangeIter h it (lo+(i:Nat)*1) ((n:Int) - (i:Nat)) 1) where
  mem:=by simp
  obj:=fun i h st b hb=>by
    have e:b=it:=by simpa using hb
    subst e
    exact ⟨_,st,fun v z=>by
      have z':Data.fields _=Data.cell v:=z
      cases z'⟩
  keep:=fun i h h' st k=>k it (by simp) _ st
  item:=by
    intro X hP hw hK hc i pins s σ H E I hf st hg
    subst hP hw hK
    obtain ⟨f0,f1,f2,f3,f4,f5⟩:=hf it (by simp)
    have W:=Walks.range (prog:=X.prog) (w:=X.w) (I.ok.hd hc) it lo 1 n
    refine W.item i s _ _ hg st fun v h' tk hv st' kk=>?_
    obtain ⟨t,rfl⟩:=hv
    have I1:Inv X pins σ H { s with heap:=h',toks:=tk }:=I.turned (fun b o hb e=>kk b o (by simpa using hb) e) f0 f1 f3 f4 f5
    refine ⟨_,rfl,go_of (s:={ s with heap:=h',toks:=tk }) (n:="range_iterator") st' rfl rfl (by decide) ⟨.int (lo+i),H,I1,⟨t,?_⟩,⟨rfl,rfl⟩,st',fun b hb=>(hf b hb).1⟩⟩
    rw [Int.mul_one]
  done:=by
    intro X hP hw hK hc i pins s σ H E I hf st hg
    subst hP hw hK
    obtain ⟨f0,f1,f2,f3,f4,f5⟩:=hf it (by simp)
    exact wpAny_pyNext_range_end (I.ok.hd hc) st (by have:n≤i:=hg;omega) fun h' eb=>⟨rfl,I.turned (t':=s.toks) (fun b o hb e=>eb b o hb e) f0 f1 f3 f4 f5⟩
  self:=fun _ _ _ _ _ st h=>wpAny_pyIter_rangeiter st h
end L2
namespace L2
open PySem PySem.Spec PyProof.Rows
section
variable {X:Cx}{tg:Expr}
noncomputable def iList (K:PySem.W.Frag)(tl:TE):TI:=fun σ H R=>tl σ H fun x H1=>∃a,x=.ref a∧(∃xs,SqL K H1 a xs)∧R (Itl K a) H1
theorem pi_list {l:Expr}{tl:TE}(hl:PE X l tl):PI X tg l (iList X.K tl):=by
 intro pins s σ H R I h
 refine thn (hl pins s σ H _ I h) fun v s1 hz9=>?_
 obtain ⟨x,H1,I1,r1,q1⟩:=hz9
 obtain ⟨a,e,⟨xs,hq⟩,q⟩:=q1
 subst e
 cases r1
 obtain ⟨its,rv,p,hz⟩:=I1.list hq
 refine wpAny_pyIter_list p.isList ?_
 refine ⟨s1.heap.objs.size,[s1.heap.objs.size],_,_,H1,rfl,I1.kept (t':=s1.toks) fun b o e=>Heap.get?_push_of_some _ e,turn_list a _,⟨_,Heap.get?_push_size _ rfl,rfl,rfl⟩,fun b hb=>?_,q⟩
 have e:b=s1.heap.objs.size:=by simpa using hb
 subst e
 exact I1.fpOk (Nat.le_refl _) (I1.hok.fresh (Nat.le_refl _))
theorem range_it {pins:List (Addr×Obj)}{σ:St}{H:Hp}{s:Shared}{R:It→Hp→Prop}{E:Value→Shared→Prop}{lo hi:Int}{t u v:Tok}{tk:Nat}(I:Inv X pins σ H s)(h1:-(2 ^ 62)≤lo)(h2:lo<2 ^ 62)(h3:-(2 ^ 62)≤hi)(h4:hi<2 ^ 62)
    (q:R (Itr lo (hi - lo).toNat) H):wpAny (model X.prog X.w) X.A (pyIter (.ref s.heap.objs.size)) (PIE X pins σ tg R) E { s with heap:=s.heap.push { cls:=.type "range",data:=.fields #[.int lo t,.int hi u,.int 1 v] },toks:=tk }:=by
  refine wpAny_pyIter_range (IsRange.new ..) (small_one h1 h2 h3 h4) ?_
  have I1:Inv X pins σ H { s with heap:=s.heap.push { cls:=.type "range",data:=.fields #[.int lo t,.int hi u,.int 1 v] },toks:=tk }:=I.kept fun b o e=>Heap.get?_push_of_some _ e
  refine ⟨(s.heap.push { cls:=.type "range",data:=.fields #[.int lo t,.int hi u,.int 1 v] }).objs.size,[(s.heap.push { cls:=.type "range",data:=.fields #[.int lo t,.int hi u,.int 1 v] }).objs.size],_,_,H,rfl,
    I1.kept (t':=tk) fun b o e=>Heap.get?_push_of_some _ e,turn_range _ lo (hi - lo).toNat,?_,fun b hb=>?_,q⟩
  · have e1:lo+((0:Nat):Int)*1=lo:=by simp
    have e2:(((hi - lo).toNat:Nat):Int) - ((0:Nat):Int)=Builtin.Range.rangeSize lo hi 1:=by rw [rangeSize_one];split<;>omega
    show IsRangeIter _ _ (lo+((0:Nat):Int)*1) ((((hi - lo).toNat:Nat):Int) - ((0:Nat):Int)) 1
    rw [e1,e2]
    exact Heap.get?_push_size _ rfl
  · have e:b=(s.heap.push { cls:=.type "range",data:=.fields #[.int lo t,.int hi u,.int 1 v] }).objs.size:=by simpa using hb
    subst e
    exact I1.fpOk (Nat.le_refl _) (I1.hok.fresh (Nat.le_refl _))
noncomputable def iRng1 (ta:TA):TI:=fun σ H R=>ta σ H fun vs H1=>∃j:Int,vs=[.int j]∧-(2 ^ 62)≤j∧j<2 ^ 62∧R (Itr 0 j.toNat) H1
noncomputable def iRng2 (ta:TA):TI:=fun σ H R=>ta σ H fun vs H1=>∃i j:Int,vs=[.int i,.int j]∧(-(2 ^ 62)≤i∧i<2 ^ 62∧-(2 ^ 62)≤j∧j<2 ^ 62)∧R (Itr i (j - i).toNat) H1
theorem pi_range1 {a:Expr}{ta:TA}{p pos:Pos}(hg:Gl X "range")(hm:X.mg "range"=none)(ha:PA X [a] ta)(hs:autoParam (starEach [a] X.env=[(false,eval a X.env)]) aT2._auto_1):PI X tg (.Call (.Name "range" p) [a] [] pos) (iRng1 ta):=by
 intro pins s σ H R I h
 refine Call_ (ld_blt I hg hm boot_range (PyProof.Rows.callWith_type1 (thn (ha pos pins s σ H _ I h) fun us s1 hz9=>?_) hs rfl))
 obtain ⟨vs,H1,I1,r1,q1⟩:=hz9
 obtain ⟨j,e,q1,q2,q⟩:=q1
 subst e
 cases r1 with
 | cons r rr =>
  cases rr
  obtain ⟨t,rfl⟩:=r
  exact call_range_1 (range_it I1 (by omega) (by omega) q1 q2 (by simpa using q))
theorem pi_range2 {a b:Expr}{ta:TA}{p pos:Pos}(hg:Gl X "range")(hm:X.mg "range"=none)(ha:PA X [a,b] ta)(hs:autoParam (starEach [a,b] X.env=[(false,eval a X.env),(false,eval b X.env)]) aT2._auto_1)(hs2:autoParam (starEach [b] X.env=[(false,eval b X.env)]) aT2._auto_1) :
  PI X tg (.Call (.Name "range" p) [a,b] [] pos) (iRng2 ta):=by
 intro pins s σ H R I h
 refine Call_ (ld_blt I hg hm boot_range (PyProof.Rows.callWith_type1 (thn (ha pos pins s σ H _ I h) fun us s1 hz9=>?_) (by rw [hs,hs2]) (by rw [hs2];rfl)))
 obtain ⟨vs,H1,I1,r1,q1⟩:=hz9
 obtain ⟨i,j,e,⟨q1,q2,q3,q4⟩,q⟩:=q1
 subst e
 cases r1 with
 | cons r rr =>
  cases rr with
  | cons r' rr =>
   cases rr
   obtain ⟨t,rfl⟩:=r
   obtain ⟨t',rfl⟩:=r'
   exact call_range_2 (range_it I1 q1 q2 q3 q4 q)
noncomputable def tFor (wi:TI)(g:TG)(tb:TS):TS:=fun D σ H=>wi σ H fun J H1=>∃W:Nat→Nat→St→Hp→Prop,(∃m,W 0 m σ H1)∧∀i m σ H,W i m σ H→
 (J.stop i H∧D.nx σ H)∨(J.go i H∧∃N:St→Hp→Prop,(∀σ' H',N σ' H'→∃m',m'<m∧W (i+1) m' σ' H')∧∀x H',J.yld i H x H'→g x σ H' fun σ2 H2=>tb { D with nx:=N,ct:=N,bk:=D.nx } σ2 H2)
noncomputable def pinsAt (fp:List Addr)(h:Heap):List (Addr×Obj):=fp.filterMap fun b=>(h.get? b).map fun o=>(b,o)
theorem mem_pinsAt {fp:List Addr}{h:Heap}{b:Addr}{o:Obj}(hb:b∈fp)(e:h.get? b=some o):(b,o)∈pinsAt fp h:=List.mem_filterMap.mpr ⟨b,hb,by rw [e];rfl⟩
theorem of_pinsAt {fp:List Addr}{h:Heap}{p:Addr×Obj}(hp:p∈pinsAt fp h):p.1∈fp∧h.get? p.1=some p.2:=by
 obtain ⟨b,hb,e⟩:=List.mem_filterMap.mp hp
 cases q:h.get? b with
 | none=>rw [q] at e;cases e
 | some o =>
  rw [q] at e
  have e':(b,o)=p:=Option.some.inj e
  subst e'
  exact ⟨hb,q⟩
theorem Inv.pinned {pins:List (Addr×Obj)}{σ:St}{H:Hp}{s:Shared}{fp:List Addr}(I:Inv X pins σ H s)(hf:∀b∈fp,FpOk X pins H b)(ho:∀b∈fp,∃o,s.heap.get? b=some o∧∀v,o.data≠.cell v):Inv X (pins++pinsAt fp s.heap) σ H s :=
 I.pins_of fun p hp=>(List.mem_append.mp hp).elim (fun z=>I.pin p (List.mem_append_right _ z)) fun z=>by
  obtain ⟨hb,e⟩:=of_pinsAt z
  obtain ⟨f0,f1,f2,_⟩:=hf p.1 hb
  obtain ⟨o,e',d⟩:=ho p.1 hb
  rw [e] at e';cases e'
  exact ⟨e,f0,f1,f2,d⟩
theorem Inv.unpinned {pins pl:List (Addr×Obj)}{σ:St}{H:Hp}{s:Shared}(I:Inv X (pins++pl) σ H s):Inv X pins σ H s:=I.pins_of fun p hp=>I.pin p (List.mem_append_right _ (List.mem_append_left _ hp))
theorem ps_for {iter:Expr}{body:List Stmt}{wi:TI}{g:TG}{tb:TS}{pos:Pos}(hp:PassesOwn (model X.prog X.w) X.A X.env X.xe)(hc:X.calm=true)(hi:PI X tg iter wi)(hg:PG X tg g)(hb:PSs X body tb)
  (hs:∀x,foldedSetIterable iter X.env x=pure x:=by intro _;rfl):PS X (.For tg iter body [] pos) (tFor wi g tb):=by
 intro pins s σ H D I h
 refine wpAny_For (thn (hi pins s σ H _ I h) fun v s1 h1=>thn h1 fun itv s2 h2=>?_) hs
 obtain ⟨it,fp,tn,J,H2,e,I2,T,st2,f2,W,⟨m0,w0⟩,turn⟩:=h2
 subst e
 have stat:∀{H':Hp},(∀b∈fp,H' b=none)→∀b∈fp,FpOk X pins H' b:=fun hn b hb=>⟨hn b hb,(f2 b hb).2⟩
 refine codeAny_forLoop_any (fun n s'=>∃i σ' H',Inv X pins σ' H' s'∧tn i s'.heap∧(∀b∈fp,H' b=none)∧W i n σ' H') ?_ m0 ⟨0,σ,H2,I2,st2,fun b hb=>(f2 b hb).1,w0⟩
 rintro n s3 ⟨i,σ3,H3,I3,st3,fr3,w3⟩
 rcases turn i n σ3 H3 w3 with ⟨stop,qn⟩ | ⟨go,N,hN,step⟩
 ·refine wpAny_passesOwn hp (thn (T.done X rfl rfl rfl hc i pins s3 σ3 H3 X.xe I3 (stat fr3) st3 stop) fun r s4 ⟨hr,I4⟩=>?_)
  subst hr
  exact wpAny_execs_nil ⟨σ3,H3,I4,qn⟩
 ·refine wpAny_passesOwn hp (thn (T.item X rfl rfl rfl hc i pins s3 σ3 H3 X.xe I3 (stat fr3) st3 go) fun r s4 ⟨u,hr,h4⟩=>?_)
  subst hr
  refine wpAny_passesOwn hp (thn h4 fun _ s5 hz9=>?_)
  obtain ⟨x,H5,I5,r5,y5,st5,fr5⟩:=hz9
  have I5':=I5.pinned (stat fr5) (T.obj _ _ st5)
  refine wpAny_passesOwn hp (thn (hg _ s5 σ3 H5 x u _ I5' r5 (step x H5 y5)) fun _ s6 hz9=>?_)
  obtain ⟨σ6,H6,I6,q6⟩:=hz9
  refine wpAny_passesOwn hp (thn (hb _ s6 σ6 H6 _ I6 q6) fun f s7 q7=>?_)
  have again:∀{σ7:St} {H7:Hp},Inv X (pins++pinsAt fp s5.heap) σ7 H7 s7→N σ7 H7→∃m,m<n∧∃i σ' H',Inv X pins σ' H' s7∧tn i s7.heap∧(∀b∈fp,H' b=none)∧W i m σ' H':=fun {σ7 H7} I7 n7=>by
   obtain ⟨m',hm,w7⟩:=hN σ7 H7 n7
   refine ⟨m',hm,i+1,σ7,H7,I7.unpinned,T.keep _ _ _ st5 fun b hb o e=>(I7.pin (b,o) (List.mem_append_right _ (List.mem_append_right _ (mem_pinsAt hb e)))).1,fun b hb=>?_,w7⟩
   obtain ⟨o,e,d⟩:=T.obj _ _ st5 b hb
   exact (I7.pin (b,o) (List.mem_append_right _ (List.mem_append_right _ (mem_pinsAt hb e)))).2.1
  cases f with
  | next=>obtain ⟨σ7,H7,I7,n7⟩:=q7;exact again I7 n7
  | cont=>obtain ⟨σ7,H7,I7,n7⟩:=q7;exact again I7 n7
  | brk=>obtain ⟨σ7,H7,I7,q7⟩:=q7;exact ⟨σ7,H7,I7.unpinned,q7⟩
  | ret v=>obtain ⟨x7,σ7,H7,I7,r7,q7⟩:=q7;exact ⟨x7,σ7,H7,I7.unpinned,r7,q7⟩
end
end L2
namespace L2
open PySem PySem.Spec PyProof.Rows
noncomputable abbrev R2:=V→V→Hp→VK→Prop
noncomputable def OpR (X:Cx)(f:Value→Value→Sem Value)(r:R2):Prop :=
 ∀(pins:List (Addr×Obj)) (s:Shared) (σ:St) (H:Hp) (x y:V) (v u:Value) (Q:VK),Inv X pins σ H s→RelV x v→RelV y u→r x y H Q→
  wpAny (model X.prog X.w) X.A (f v u) (EP X pins σ Q) X.xe s
noncomputable def UnR (X:Cx)(f:Value→Sem Value)(r:V→Hp→VK→Prop):Prop :=
 ∀(pins:List (Addr×Obj)) (s:Shared) (σ:St) (H:Hp) (x:V) (v:Value) (Q:VK),Inv X pins σ H s→RelV x v→r x H Q→
  wpAny (model X.prog X.w) X.A (f v) (EP X pins σ Q) X.xe s
noncomputable def CallR (X:Cx)(f:Value)(r:List V→Hp→VK→Prop):Prop :=
 ∀(pins:List (Addr×Obj)) (s:Shared) (σ:St) (H:Hp) (xs:List V) (us:List Value) (Q:VK),Inv X pins σ H s→Vals xs us→r xs H Q→
  wpAny (model X.prog X.w) X.A (call f us) (EP X pins σ Q) X.xe s
noncomputable def tOp (r:R2)(ta tb:TE):TE:=fun σ H Q=>ta σ H fun x H1=>tb σ H1 fun y H2=>r x y H2 Q
noncomputable def tUn (r:V→Hp→VK→Prop)(ta:TE):TE:=fun σ H Q=>ta σ H fun x H1=>r x H1 Q
noncomputable def rI (C:Int→Int→Prop)(g:Int→Int→V):R2:=fun x y H Q=>∃i j,x=.int i∧y=.int j∧C i j∧Q (g i j) H
noncomputable def rI0 (g:Int→Int→V):R2:=fun x y H Q=>∃i j,x=.int i∧y=.int j∧Q (g i j) H
noncomputable def rU (g:Int→V):V→Hp→VK→Prop:=fun x H Q=>∃i,x=.int i∧Q (g i) H
section
variable {X:Cx}{a b c:Expr}{ta tb tc:TE}{pos:Pos}
theorem binT (ha:PE X a ta)(hb:PE X b tb){pins:List (Addr×Obj)}{s:Shared}{σ:St}{H:Hp}{R:V→V→Hp→Prop}(I:Inv X pins σ H s)
  (h:ta σ H fun x H1=>tb σ H1 fun y H2=>R x y H2) {Q:Value→Shared→Prop} {f:Value→Value→Sem Value}
  (hf:∀v u s2 x y H2,Inv X pins σ H2 s2→RelV x v→RelV y u→R x y H2→wpAny (model X.prog X.w) X.A (f v u) Q X.xe s2) :
  wpAny (model X.prog X.w) X.A (eval a X.env) (fun v s₁=>wpAny (model X.prog X.w) X.A (eval b X.env) (fun u s₂=>wpAny (model X.prog X.w) X.A (f v u) Q X.xe s₂) X.xe s₁) X.xe s:=by
 refine thn (ha pins s σ H _ I h) fun v s1 hz9=>?_
 obtain ⟨x,H1,I1,r1,q1⟩:=hz9
 refine thn (hb pins s1 σ H1 _ I1 q1) fun u s2 hz9=>?_
 obtain ⟨y,H2,I2,r2,q2⟩:=hz9
 exact hf v u s2 x y H2 I2 r1 r2 q2
theorem pe_op {op:Operator}{r:R2}(ho:OpR X (binaryOp op) r)(ha:PE X a ta)(hb:PE X b tb):PE X (.BinOp a op b pos) (tOp r ta tb):=by
 intro pins s σ H Q I h
 exact wpAny_BinOp (binT ha hb I h fun v u s2 x y H2 I2 rx ry q=>ho pins s2 σ H2 x y v u Q I2 rx ry q)
theorem pe_un {op:UnaryOp}{r:V→Hp→VK→Prop}(ho:UnR X (unaryOp op) r)(ha:PE X a ta):PE X (.UnaryOp op a pos) (tUn r ta):=by
 intro pins s σ H Q I h
 exact UnaryOp_ (thn (ha pins s σ H _ I h) fun v s1 ⟨x,H1,I1,r1,q1⟩=>ho pins s1 σ H1 x v Q I1 r1 q1)
theorem opI {f:Value→Value→Sem Value}{C:Int→Int→Prop}{g:Int→Int→Int}
  (rule:∀(i j:Int) (t u:Tok) (s:Shared) (Q:Value→Shared→Prop) (E:Value→Shared→Prop),C i j→Q (.int (g i j) s.toks) { s with toks:=s.toks+1 }→wpAny (model X.prog X.w) X.A (f (.int i t) (.int j u)) Q E s) :
  OpR X f (rI C fun i j=>.int (g i j)):=by
 intro pins s σ H x y v u Q I rx ry h
 obtain ⟨i,j,rfl,rfl,hc,q⟩:=h
 obtain ⟨t,rfl⟩:=rx
 obtain ⟨t',rfl⟩:=ry
 exact rule i j t t' s _ _ hc ⟨.int (g i j),H,I.tok _,⟨_,rfl⟩,q⟩
theorem opI0 {f:Value→Value→Sem Value}{g:Int→Int→Int}
  (rule:∀(i j:Int) (t u:Tok) (s:Shared) (Q:Value→Shared→Prop) (E:Value→Shared→Prop),Q (.int (g i j) s.toks) { s with toks:=s.toks+1 }→wpAny (model X.prog X.w) X.A (f (.int i t) (.int j u)) Q E s) :
  OpR X f (rI0 fun i j=>.int (g i j)):=by
 intro pins s σ H x y v u Q I rx ry h
 obtain ⟨i,j,rfl,rfl,q⟩:=h
 obtain ⟨t,rfl⟩:=rx
 obtain ⟨t',rfl⟩:=ry
 exact rule i j t t' s _ _ ⟨.int (g i j),H,I.tok _,⟨_,rfl⟩,q⟩
theorem opB0 {f:Value→Value→Sem Value}{g:Int→Int→Bool}
  (rule:∀(i j:Int) (t u:Tok) (s:Shared) (Q:Value→Shared→Prop) (E:Value→Shared→Prop),Q (.bool (g i j)) s→wpAny (model X.prog X.w) X.A (f (.int i t) (.int j u)) Q E s) :
  OpR X f (rI0 fun i j=>.bl (g i j)):=by
 intro pins s σ H x y v u Q I rx ry h
 obtain ⟨i,j,rfl,rfl,q⟩:=h
 obtain ⟨t,rfl⟩:=rx
 obtain ⟨t',rfl⟩:=ry
 exact rule i j t t' s _ _ ⟨.bl (g i j),H,I,rfl,q⟩
noncomputable def CPow (i j:Int):Prop:=0≤j∧j≤1000000∧i.natAbs<2 ^ 64
noncomputable def CMul (i j:Int):Prop:=(-(2 ^ 64)<i∧i<2 ^ 64)∨(-(2 ^ 64)<j∧j<2 ^ 64)
theorem CMul.ok {i j:Int}(h:CMul i j):IntMulOk i j:=by
 rcases h with ⟨h1,h2⟩ | ⟨h1,h2⟩
 ·exact .of_left (intBits_le_64 h1 h2)
 ·exact .of_right (intBits_le_64 h1 h2)
theorem op_add:OpR X (binaryOp .Add) (rI0 fun i j=>.int (i+j)):=opI0 fun _ _ _ _ _ _ _ q=>add_int q
theorem Zdt:OpR X (binaryOp .Sub) (rI0 fun i j=>.int (i - j)):=opI0 fun _ _ _ _ _ _ _ q=>sub_int q
theorem op_mul:OpR X (binaryOp .Mult) (rI CMul fun i j=>.int (i*j)):=opI fun _ _ _ _ _ _ _ hc q=>mul_int q hc.ok
theorem Zcx:OpR X (binaryOp .Mod) (rI (fun _ j=>0<j) fun i j=>.int (i % j)):=opI fun i j _ _ _ _ _ hc q=>by
 have h1:(0:Int)<j:=hc
 exact mod_int' (by omega) (by rw [Int.fmod_eq_emod_of_nonneg i (by omega)];exact q)
theorem Zef:OpR X (binaryOp .Pow) (rI CPow fun i j=>.int (i ^ j.toNat)):=opI fun _ _ _ _ _ _ _ hc q=>pow_int_small hc.1 hc.2.1 hc.2.2 q
theorem unI {f:Value→Sem Value}{g:Int→Int}
  (rule:∀(i:Int) (t:Tok) (s:Shared) (Q:Value→Shared→Prop) (E:Value→Shared→Prop),Q (.int (g i) s.toks) { s with toks:=s.toks+1 }→wpAny (model X.prog X.w) X.A (f (.int i t)) Q E s) :
  UnR X f (rU fun i=>.int (g i)):=by
 intro pins s σ H x v Q I rx h
 obtain ⟨i,rfl,q⟩:=h
 obtain ⟨t,rfl⟩:=rx
 exact rule i t s _ _ ⟨.int (g i),H,I.tok _,⟨_,rfl⟩,q⟩
theorem un_neg:UnR X (unaryOp .USub) (rU fun i=>.int (-i)):=unI fun _ _ _ _ _ q=>neg_int q
end
noncomputable def scal:V→V→Bool
 | .non,.non=>true | .non,.int _=>true | .int _,.non=>true | .non,.bl _=>true | .bl _,.non=>true | .non,.str _=>true | .str _,.non=>true
 | .int _,.int _=>true | .bl _,.bl _=>true | .str _,.str _=>true | .byt _,.byt _=>true
 | .int _,.str _=>true | .str _,.int _=>true | .bl _,.str _=>true | .str _,.bl _=>true
 | _,_=>false
noncomputable def rEq:R2:=fun x y H Q=>scal x y=true∧Q (.bl (decide (x=y))) H
noncomputable def rNe:R2:=fun x y H Q=>scal x y=true∧Q (.bl (!decide (x=y))) H
theorem dec_int {i j:Int}:decide (V.int i=V.int j)=(i==j):=by
 rw [Bool.eq_iff_iff]
 simp
theorem dec_bl {i j:Bool}:decide (V.bl i=V.bl j)=(i==j):=by
 rw [Bool.eq_iff_iff]
 simp
theorem dec_str {i j:Str}:decide (V.str i=V.str j)=(i==j):=by
 rw [Bool.eq_iff_iff]
 simp
theorem dec_byt {i j:Array UInt8}:decide (V.byt i=V.byt j)=(i.toList==j.toList):=by
 rw [Bool.eq_iff_iff]
 cases i
 cases j
 simp
section
variable {X:Cx}{a b c:Expr}{ta tb tc:TE}{pos:Pos}
theorem Zbf {pins:List (Addr×Obj)}{σ:St}{H:Hp}{s:Shared}{Q:VK}{k k':Bool}(I:Inv X pins σ H s)(q:Q (.bl k) H)(e:k=k'):EP X pins σ Q (.bool k') s:=by
 subst e
 exact ⟨.bl k,H,I,rfl,q⟩
theorem op_eq:OpR X (compareOp .Eq) rEq:=by
 intro pins s σ H x y v u Q I rx ry h
 obtain ⟨hs,q⟩:=h
 cases x with
 | non =>
  cases rx
  cases y with
  | non=>cases ry;exact PySem.EqNone.eq_none_none (Zbf I q (by simp))
  | bl j=>cases ry;exact PySem.EqNone.eq_none_bool (Zbf I q (by simp))
  | int j=>obtain ⟨t',rfl⟩:=ry;exact PySem.EqNone.eq_none_int (Zbf I q (by simp))
  | str j=>obtain ⟨t',rfl⟩:=ry;exact PySem.EqNone.eq_none_str (Zbf I q (by simp))
  | _=>exact absurd (show false=true from hs) Bool.false_ne_true
 | bl i =>
  cases rx
  cases y with
  | non=>cases ry;exact PySem.EqNone.eq_bool_none (Zbf I q (by simp))
  | bl j=>cases ry;exact eq_bool (Zbf I q dec_bl)
  | str j=>obtain ⟨t',rfl⟩:=ry;exact PySem.EqMixed.eq_bool_str (Zbf I q (by simp))
  | _=>exact absurd (show false=true from hs) Bool.false_ne_true
 | int i =>
  obtain ⟨t,rfl⟩:=rx
  cases y with
  | non=>cases ry;exact PySem.EqNone.eq_int_none (Zbf I q (by simp))
  | int j=>obtain ⟨t',rfl⟩:=ry;exact eq_int (Zbf I q dec_int)
  | str j=>obtain ⟨t',rfl⟩:=ry;exact PySem.EqMixed.eq_int_str (Zbf I q (by simp))
  | _=>exact absurd (show false=true from hs) Bool.false_ne_true
 | str i =>
  obtain ⟨t,rfl⟩:=rx
  cases y with
  | non=>cases ry;exact PySem.EqNone.eq_str_none (Zbf I q (by simp))
  | bl j=>cases ry;exact PySem.EqMixed.eq_str_bool (Zbf I q (by simp))
  | int j=>obtain ⟨t',rfl⟩:=ry;exact PySem.EqMixed.eq_str_int (Zbf I q (by simp))
  | str j=>obtain ⟨t',rfl⟩:=ry;exact eq_str (Zbf I q dec_str)
  | _=>exact absurd (show false=true from hs) Bool.false_ne_true
 | byt i =>
  obtain ⟨t,rfl⟩:=rx
  cases y with
  | byt j=>obtain ⟨t',rfl⟩:=ry;exact PySem.W.eq_bytes (Zbf I q dec_byt)
  | _=>exact absurd (show false=true from hs) Bool.false_ne_true
 | _=>cases y<;>exact absurd (show false=true from hs) Bool.false_ne_true
theorem op_ne:OpR X (compareOp .NotEq) rNe:=by
 intro pins s σ H x y v u Q I rx ry h
 obtain ⟨hs,q⟩:=h
 cases x with
 | non =>
  cases rx
  cases y with
  | non=>cases ry;exact PySem.EqNone.ne_none_none (Zbf I q (by simp))
  | bl j=>cases ry;exact PySem.EqNone.ne_none_bool (Zbf I q (by simp))
  | int j=>obtain ⟨t',rfl⟩:=ry;exact PySem.EqNone.ne_none_int (Zbf I q (by simp))
  | str j=>obtain ⟨t',rfl⟩:=ry;exact PySem.EqNone.ne_none_str (Zbf I q (by simp))
  | _=>exact absurd (show false=true from hs) Bool.false_ne_true
 | bl i =>
  cases rx
  cases y with
  | non=>cases ry;exact PySem.EqNone.ne_bool_none (Zbf I q (by simp))
  | bl j=>cases ry;exact ne_bool (Zbf I q (congrArg not dec_bl))
  | str j=>obtain ⟨t',rfl⟩:=ry;exact PySem.EqMixed.ne_bool_str (Zbf I q (by simp))
  | _=>exact absurd (show false=true from hs) Bool.false_ne_true
 | int i =>
  obtain ⟨t,rfl⟩:=rx
  cases y with
  | non=>cases ry;exact PySem.EqNone.ne_int_none (Zbf I q (by simp))
  | int j=>obtain ⟨t',rfl⟩:=ry;exact ne_int (Zbf I q (congrArg not dec_int))
  | str j=>obtain ⟨t',rfl⟩:=ry;exact PySem.EqMixed.ne_int_str (Zbf I q (by simp))
  | _=>exact absurd (show false=true from hs) Bool.false_ne_true
 | str i =>
  obtain ⟨t,rfl⟩:=rx
  cases y with
  | non=>cases ry;exact PySem.EqNone.ne_str_none (Zbf I q (by simp))
  | bl j=>cases ry;exact PySem.EqMixed.ne_str_bool (Zbf I q (by simp))
  | int j=>obtain ⟨t',rfl⟩:=ry;exact PySem.EqMixed.ne_str_int (Zbf I q (by simp))
  | str j=>obtain ⟨t',rfl⟩:=ry;exact ne_str (Zbf I q (congrArg not dec_str))
  | _=>exact absurd (show false=true from hs) Bool.false_ne_true
 | byt i =>
  obtain ⟨t,rfl⟩:=rx
  cases y with
  | byt j=>obtain ⟨t',rfl⟩:=ry;exact PySem.W.ne_bytes (Zbf I q (congrArg not dec_byt))
  | _=>exact absurd (show false=true from hs) Bool.false_ne_true
 | _=>cases y<;>exact absurd (show false=true from hs) Bool.false_ne_true
theorem Zhq:OpR X (compareOp .Lt) (rI0 fun i j=>.bl (decide (i<j))):=opB0 fun _ _ _ _ _ _ _ q=>lt_int q
theorem op_le:OpR X (compareOp .LtE) (rI0 fun i j=>.bl (decide (i≤j))):=opB0 fun _ _ _ _ _ _ _ q=>le_int q
theorem op_gt:OpR X (compareOp .Gt) (rI0 fun i j=>.bl (decide (j<i))):=opB0 fun _ _ _ _ _ _ _ q=>gt_int q
theorem op_ge:OpR X (compareOp .GtE) (rI0 fun i j=>.bl (decide (j≤i))):=opB0 fun _ _ _ _ _ _ _ q=>ge_int q
theorem OpR.or {f:Value→Value→Sem Value}{r r':R2}(h:OpR X f r)(h':OpR X f r'):OpR X f (fun x y H Q=>r x y H Q∨r' x y H Q):=by
 intro pins s σ H x y v u Q I rx ry q
 rcases q with q | q
 ·exact h pins s σ H x y v u Q I rx ry q
 ·exact h' pins s σ H x y v u Q I rx ry q
theorem nomark (b:Expr){op:CmpOp}(h:autoParam (op≠.In) aT1._auto_1)(h2:autoParam (op≠.NotIn) aT1._auto_1):behindInMarks op b=false:=by
 have e1:(op==CmpOp.In)=false:=by cases op<;>first | rfl | exact absurd rfl h
 have e2:(op==CmpOp.NotIn)=false:=by cases op<;>first | rfl | exact absurd rfl h2
 cases b<;>simp [behindInMarks,e1,e2]
theorem pe_cmpR {op:CmpOp}{r:R2}(ho:OpR X (compareOp op) r)(ha:PE X a ta)(hb:PE X b tb)(hm:behindInMarks op b=false):PE X (.Compare a [op] [b] pos) (tOp r ta tb):=by
 intro pins s σ H Q I h
 exact wpAny_Compare1 (binT ha hb I h fun v u s2 x y H2 I2 rx ry q=>ho pins s2 σ H2 x y v u Q I2 rx ry q) hm
noncomputable def tTest (t:TE):TT:=fun σ H Q=>t σ H fun x H'=>∃k,x=.bl k∧Q k H'
theorem pt_cmpR {op:CmpOp}{r:R2}(ho:OpR X (compareOp op) r)(ha:PE X a ta)(hb:PE X b tb)(hm:behindInMarks op b=false):PT X (.Compare a [op] [b] pos) (tTest (tOp r ta tb)):=by
  intro pins s σ H Q I h
  refine wpAny_isTrue_Compare1 (thn (ha pins s σ H _ I h) fun v s1 ⟨x,H1,I1,r1,q1⟩=>thn (hb pins s1 σ H1 _ I1 q1) fun u s2 ⟨y,H2,I2,r2,q2⟩ =>
    thn (ho pins s2 σ H2 x y v u _ I2 r1 r2 q2) fun c s3 ⟨z,H3,I3,r3,k,e,q3⟩=>?_) hm
  subst e
  cases r3
  exact wpAny_truthy_bool ⟨H3,I3,q3⟩
theorem line63:(sizeLine:Nat)<2 ^ 63:=by rw [sizeLine_eq];decide
theorem Zht:OpR X (binaryOp .Add) (fun x y H Q=>∃i j,x=.str i∧y=.str j∧i.length+j.length≤sizeLine∧Q (.str (i++j)) H):=by
 intro pins s σ H x y v u Q I rx ry h
 obtain ⟨i,j,rfl,rfl,hz,q⟩:=h
 obtain ⟨t,rfl⟩:=rx
 obtain ⟨t',rfl⟩:=ry
 exact add_str (fun t' tk=>⟨.str (i++j),H,I.tok _,⟨_,rfl⟩,q⟩) hz
theorem vals1 {x:V}{us:List Value}(r:Vals [x] us):∃u,us=[u]∧RelV x u:=by
 cases r with
 | cons r1 r2=>cases r2;exact ⟨_,rfl,r1⟩
theorem vals2 {x y:V}{us:List Value}(r:Vals [x,y] us):∃u w',us=[u,w']∧RelV x u∧RelV y w':=by
 cases r with
 | cons r1 r2 =>
  cases r2 with
  | cons r3 r4=>cases r4;exact ⟨_,_,rfl,r1,r3⟩
theorem call_max2 (hc:X.calm=true):CallR X (.builtin "max") (fun xs H Q=>∃i j,xs=[.int i,.int j]∧Q (.int (if j > i then j else i)) H):=by
 intro pins s σ H xs us Q I r h
 obtain ⟨i,j,rfl,q⟩:=h
 obtain ⟨u,w',rfl,⟨t,rfl⟩,⟨t',rfl⟩⟩:=vals2 r
 refine max_two_ints (I.ok.hd hc) fun h' tk k=>⟨_,H,I.kept k,?_,q⟩
 by_cases hj:j > i
 ·rw [if_pos hj,if_pos hj];exact ⟨_,rfl⟩
 ·rw [if_neg hj,if_neg hj];exact ⟨_,rfl⟩
theorem call_min2 (hc:X.calm=true):CallR X (.builtin "min") (fun xs H Q=>∃i j,xs=[.int i,.int j]∧Q (.int (if j<i then j else i)) H):=by
 intro pins s σ H xs us Q I r h
 obtain ⟨i,j,rfl,q⟩:=h
 obtain ⟨u,w',rfl,⟨t,rfl⟩,⟨t',rfl⟩⟩:=vals2 r
 refine min_two_ints (I.ok.hd hc) fun h' tk k=>⟨_,H,I.kept k,?_,q⟩
 by_cases hj:j<i
 ·rw [if_pos hj,if_pos hj];exact ⟨_,rfl⟩
 ·rw [if_neg hj,if_neg hj];exact ⟨_,rfl⟩
end
end L2
namespace L2
open PySem PySem.Spec PyProof.Rows
structure ObjM (h:Heap)(x dx C:Addr)(mA:Str→Option Value):Prop where
 obj:h.get? x=some (PySem.W.instObj C dx)
 ns:h.Ns1 dx mA
 ne:dx≠x
theorem lookIn_ns {h:Heap}{dx:Addr}{mA:Str→Option Value}(n:h.Ns1 dx mA):∃od,h.get? dx=some od∧∀name,PySem.W.lookIn name od=some (mA name):=by
 obtain ⟨o,es,ep,ho,hd,hk,_,hm⟩:=n
 refine ⟨o,ho,fun name=>?_⟩
 have e:=hm name
 unfold nsFind findBy at e
 rw [← Array.find?_toList] at e
 unfold PySem.W.lookIn
 rw [hd]
 dsimp only
 split
 ·rename_i y q
  rw [q] at e
  exact congrArg some e
 ·rename_i q
  rw [q] at e
  have a:es.toList.any (·.refKey)=false:=by
   rw [List.any_eq_false]
   intro y hy
   obtain ⟨z,t,hkey⟩:=hk y (Array.mem_toList_iff.mp hy)
   simp [DictEntry.refKey,hkey]
  have a':¬es.toList.any (·.refKey)=true:=by rw [a];exact Bool.false_ne_true
  rw [if_neg a']
  exact congrArg some e
theorem ObjM.look {h:Heap}{x dx C:Addr}{mA:Str→Option Value}(I:ObjM h x dx C mA):∃od,PySem.W.InstAt h x (PySem.W.instObj C dx) C (some od)∧∀name,PySem.W.lookIn name od=some (mA name) :=
 let ⟨od,ho,hl⟩:=lookIn_ns I.ns
 ⟨od,⟨I.obj,rfl,rfl,ho⟩,hl⟩
section
variable {prog:Program}{w:World}{A:Around}{E:Value→Shared→Prop}{s:Shared}{K:PySem.W.Frag}{x dx C f:Addr}{mA:Str→Option Value}{name:Str}{v:Value}
end
noncomputable def putF (f:Str)(v:V):List (Str×V)→List (Str×V)
 | []=>[(f,v)]
 | (g,x)::r=>if g=f then (g,v)::r else (g,x)::putF f v r
theorem RelO.some_of {v:V}{o:Option Value}(r:RelO (some v) o):∃u,o=some u∧RelV v u:=by
 cases o with
 | none=>exact (show False from r).elim
 | some u=>exact ⟨u,rfl,r⟩
theorem handed_of {v:V}{u:Value}(r:RelV v u):PySem.W.handedIn u=true:=by
 cases v with
 | non=>cases (show u=Value.none from r);rfl
 | bl b=>cases (show u=Value.bool b from r);rfl
 | int i=>obtain ⟨t,e⟩:=(show ∃t,u=Value.int i t from r);cases e;rfl
 | str x=>obtain ⟨t,e⟩:=(show ∃t,u=Value.str x t from r);cases e;rfl
 | byt b=>obtain ⟨t,e⟩:=(show ∃t,u=Value.bytes b t from r);cases e;rfl
 | flt b=>obtain ⟨t,e⟩:=(show ∃t,u=Value.float b t from r);cases e;rfl
 | ref a=>cases (show u=Value.ref a from r);rfl
 | ty n=>cases (show u=Value.type n from r);rfl
section
variable {P:Program}{w:World}{H H':Hp}{h h':Heap}{a C dx:Addr}{fs fs':List (Str×V)}
theorem ins_get (hok:HOk P w H h)(e:H a=some (.ins C dx fs)):∃mA,ObjM h a dx C mA∧(∀f,RelO (fs.lookup f) (mA f))∧PySem.Within mA (fs.map (·.1))∧fs.length≤1000∧H dx=some (.own a):=by
 obtain ⟨d,z,ne,ob,mA,n,r,q⟩:=(show ObjOk P w H h a (.ins C dx fs) from hok a _ e)
 exact ⟨mA,⟨ob,n,ne⟩,r,q,z,d⟩
end
structure Cls (K:PySem.W.Frag)(C:Addr):Prop where
 pg:PySem.W.plainGet K C Str.empty=true
 hd:PySem.W.hasDictIn K C=true
 po:PySem.W.plainOver K C=true
 sa:PySem.W.findIn K (.ref C) "__setattr__"=some (some (.builtin "object.__setattr__"))
theorem Cls.get {K:PySem.W.Frag}{C:Addr}(c:Cls K C)(f:Str):PySem.W.plainGet K C f=true:=c.pg
noncomputable def NoAttr (K:PySem.W.Frag)(C:Addr)(f:Str):Prop:=PySem.W.findIn K (.ref C) f=some none
structure Con (K:PySem.W.Frag)(C:Addr)(f:Str)(v:V)(u:Value):Prop where
 at_:PySem.W.findIn K (.ref C) f=some (some u)
 rel:RelV v u
 get:PySem.W.specialIn K u "__get__"=some none
 cp:PySem.W.copiedNames.contains f=false
structure Meth (K:PySem.W.Frag)(C:Addr)(m:Str)(f:Addr):Prop where
 at_:PySem.W.findIn K (.ref C) m=some (some (.ref f))
 fn:PySem.W.isFn K (.ref f)=true
 kp:PySem.W.keepIn K (.ref f)=true
section
variable {X:Cx}{pins:List (Addr×Obj)}{σ:St}{H:Hp}{s:Shared}{a C dx:Addr}{fs:List (Str×V)}{f:Str}{v:V}{A:Around}{E:Value→Shared→Prop}
theorem attr_of {prog:Program}{w:World}{env:Env}{e:Expr}{f:Str}{pos:Pos}{s:Shared}{Q:Value→Shared→Prop}(hb:attributeBase e f env (eval e env)=eval e env)
  (h:wpAny (model prog w) A (eval e env) (fun o s₁=>wpAny (model prog w) A (getAttr o f true) Q E s₁) E s):wpAny (model prog w) A (eval (.Attribute e f pos) env) Q E s :=
 Attribute_any_ h (by rw [arm_eval_Attribute,hb])
end
noncomputable def sFld (K:PySem.W.Frag)(ta tv:TE)(f:Str):TS:=fun D σ H=>tv σ H fun y H1=>ta σ H1 fun x H2=>∃a C dx fs,x=.ref a∧H2 a=some (.ins C dx fs)∧Cls K C∧NoAttr K C f∧fs.length<1000∧
 D.nx σ (upd H2 a (.ins C dx (putF f y fs)))
section
variable {X:Cx}{o e value:Expr}{f:Str}{pos pos' tpos:Pos}{ta tv:TE}
end
section
variable {X:Cx}{pins:List (Addr×Obj)}{σ:St}{H:Hp}{s:Shared}{A:Around}{E:Value→Shared→Prop}{Q:Value→Shared→Prop}{c:Value}{b:Bool}
inductive TyOf (K:PySem.W.Frag)(H:Hp):V→Value→Prop where
 | non:TyOf K H .non (.type "NoneType")
 | bl (x:Bool):TyOf K H (.bl x) (.type "bool")
 | int (i:Int):TyOf K H (.int i) (.type "int")
 | str (x:Str):TyOf K H (.str x) (.type "str")
 | flt (x:UInt64):TyOf K H (.flt x) (.type "float")
 | lst {a:Addr} {xs:List V} (e:H a=some (.lst xs)):TyOf K H (.ref a) (.type "list")
 | frz {a:Addr} {o:Obj} {xs:List V} (e:H a=some (.frz o (.lst xs))):TyOf K H (.ref a) (.type "list")
 | tup {a:Addr} {xs:List V} (e:H a=some (.tup xs)):TyOf K H (.ref a) (.type "tuple")
 | dK {a:Addr} {kvs:List (Key×V)} (e:H a=some (.dK kvs)):TyOf K H (.ref a) (.type "dict")
 | dT {a:Addr} {kvs:List (List Key×V)} (e:H a=some (.dT kvs)):TyOf K H (.ref a) (.type "dict")
 | ins {a C dx:Addr} {fs:List (Str×V)} (e:H a=some (.ins C dx fs)) (cl:Cls K C) (ha:PySem.W.findIn K (.ref C) "__class__"=some (some (.builtin "object.__class__")))
   (hn:PySem.W.specialIn K (.builtin "object.__class__") "__get__"=some (some (.builtin "getset_descriptor.__get__"))) (htk:PySem.W.takesIn K (.builtin "object.__class__")=some true)
   (hm:PySem.W.mroIn K C (.type "object")=some true):TyOf K H (.ref a) (.ref C)
theorem isinst_ok {x:V}{u t:Value}(I:Inv X pins σ H s)(rx:RelV x u)(ty:TyOf X.K H x t)(e:PySem.W.kitOne X.K t c=some b)(h:∀tk,Q (.bool b) { s with toks:=tk }) :
  wpAny (model X.prog X.w) A (call (.builtin "isinstance") [u,c]) Q E s:=by
 cases ty with
 | non=>cases (show u=Value.none from rx);exact PySem.W.kia_one PySem.W.kitx_none I.kIn True.intro e (fun z=>nomatch z) h
 | bl y=>cases (show u=Value.bool y from rx);exact PySem.W.kia_one PySem.W.kitx_bool I.kIn True.intro e (fun z=>nomatch z) h
 | int i=>obtain ⟨t,q⟩:=(show ∃t,u=Value.int i t from rx);cases q;exact PySem.W.kia_one PySem.W.kitx_int I.kIn True.intro e (fun z=>nomatch z) h
 | str y=>obtain ⟨t,q⟩:=(show ∃t,u=Value.str y t from rx);cases q;exact PySem.W.kia_one PySem.W.kitx_str I.kIn True.intro e (fun z=>nomatch z) h
 | flt y=>obtain ⟨t,q⟩:=(show ∃t,u=Value.float y t from rx);cases q;exact PySem.W.kia_one PySem.W.kitx_float I.kIn True.intro e (fun z=>nomatch z) h
 | @lst a xs ea =>
  cases (show u=Value.ref a from rx)
  obtain ⟨_,_,n,_,h1⟩:=(show ObjOk X.prog X.w H s.heap a (.lst xs) from I.hok a _ ea)
  exact PySem.W.kia_one PySem.W.kitx_list I.kIn ⟨_,h1,rfl⟩ e (fun z=>nomatch z) h
 | @frz a ob xs ea =>
  cases (show u=Value.ref a from rx)
  obtain ⟨_,_,_,n,_,h1⟩:=(show ObjOk X.prog X.w H s.heap a (.frz ob (.lst xs)) from I.hok a _ ea)
  exact PySem.W.kia_one PySem.W.kitx_list I.kIn ⟨_,h1,rfl⟩ e (fun z=>nomatch z) h
 | @tup a xs ea =>
  cases (show u=Value.ref a from rx)
  obtain ⟨_,_,_,p⟩:=(show ObjOk X.prog X.w H s.heap a (.tup xs) from I.hok a _ ea)
  obtain ⟨o,h1,h2,_⟩:=p
  exact PySem.W.kia_one PySem.W.kitx_tuple I.kIn ⟨o,h1,h2⟩ e (fun z=>nomatch z) h
 | @dK a kvs ea =>
  cases (show u=Value.ref a from rx)
  obtain ⟨_,_,vs,_,p⟩:=(show ObjOk X.prog X.w H s.heap a (.dK kvs) from I.hok a _ ea)
  obtain ⟨o,es,ep,h1,h2,_⟩:=p
  exact PySem.W.kia_one PySem.W.kitx_dict I.kIn ⟨o,h1,h2.1⟩ e (fun z=>nomatch z) h
 | @dT a kvs ea =>
  cases (show u=Value.ref a from rx)
  obtain ⟨_,_,xs,_,o,es,ep,h1,h2,_⟩:=(show ObjOk X.prog X.w H s.heap a (.dT kvs) from I.hok a _ ea)
  exact PySem.W.kia_one PySem.W.kitx_dict I.kIn ⟨o,h1,h2.1⟩ e (fun z=>nomatch z) h
 | @ins a C dx fs ea cl ha hn htk hm =>
  cases (show u=Value.ref a from rx)
  obtain ⟨mA,O,_⟩:=ins_get I.hok ea
  obtain ⟨od,J,_⟩:=O.look
  exact PySem.W.kia_one (PySem.W.kitx_own (cl.get _) cl.hd ha hn htk hm) I.kIn J e (fun z=>nomatch z) h
end
end L2
namespace L2
open PySem PySem.Spec PyProof.Rows
structure Room (k:Nat)(A:Around):Prop where
 hd:A.handled=none
 dp:A.depth+3*k+5<recursionLimit
 un:A.units+16*k+200<cLine
 gd:A.guards=some []
theorem Room.mono {j k:Nat}{A:Around}(r:Room k A)(h:j≤k):Room j A:=⟨r.hd,by have:=r.dp;omega,by have:=r.un;omega,r.gd⟩
theorem Room.deeper {k:Nat}{A:Around}(r:Room (k+1) A)(env:Env):Room k (A.deeper env) :=
 ⟨r.hd,by have:=r.dp;show A.depth+1+3*k+5<_;omega,by have:=r.un;show A.units+3+16*k+200<_;omega,r.gd⟩
theorem make_depth {A:Around}{C:Addr}{us:List Value}{kw:List (Str×Value)}:(A.under (.builtin "type.__call__" ⟨.ref C::us,kw⟩)).depth=A.depth+1:=by
 first | rfl | simp [Around.under,Code.weight,Code.isCreation,Code.isGuard,Code.isCaller,Code.frames,Code.isFrame,guardIds]
theorem make_units {A:Around}{C:Addr}{us:List Value}{kw:List (Str×Value)}:(A.under (.builtin "type.__call__" ⟨.ref C::us,kw⟩)).units=A.units+1:=by
 first | rfl | simp [Around.under,Code.cUnits,Code.frames,Code.isFrame]
theorem Room.make {k:Nat}{A:Around}(r:Room (k+1) A)(C:Addr)(us:List Value)(kw:List (Str×Value)):Room k (A.under (.builtin "type.__call__" ⟨.ref C::us,kw⟩)) :=
 ⟨r.hd,by have:=r.dp;rw [make_depth];omega,by have:=r.un;rw [make_units];omega,by have h:=r.gd;first | exact h | (simp [Around.under,Code.guards,Code.isGuard,guardIds,pushGuards];exact h) | simpa [Around.under,Code.guards,Code.isGuard,guardIds,pushGuards] using h⟩
theorem Room.depth {k:Nat}{A:Around}(r:Room k A):A.depth<recursionLimit:=by have:=r.dp;omega
theorem Room.units {k:Nat}{A:Around}(r:Room k A):A.units+64<cLine:=by have:=r.un;omega
noncomputable def tNil:TA:=fun _ H Q=>Q [] H
noncomputable def tCons (ta:TE)(tr:TA):TA:=fun σ H Q=>ta σ H fun x H1=>tr σ H1 fun xs H2=>Q (x::xs) H2
section
variable {X:Cx}{e:Expr}{es:List Expr}{te:TE}{t:TA}{pos:Pos}
theorem pa_nil:PA X [] tNil:=fun _ _ _ _ H Q I h=>Calls.spliced_nil ⟨[],H,I,.nil,h⟩
theorem pa_cons (ha:PE X e te)(hr:PA X es t)(hs:autoParam (starEach (e::es) X.env=(false,eval e X.env)::starEach es X.env) aT2._auto_1):PA X (e::es) (tCons te t):=by
 intro pos pins s σ H Q I h
 rw [hs]
 show wpAny _ _ (spliced ((false,eval e X.env)::backTo pos (starEach es X.env))) _ _ s
 refine Calls.spliced_cons (thn (ha pins s σ H _ I h) fun u s1 hz9=>?_)
 obtain ⟨x,H1,I1,r1,q1⟩:=hz9
 exact thn (hr pos pins s1 σ H1 _ I1 q1) fun us s2 ⟨xs,H2,I2,r2,q2⟩=>⟨x::xs,H2,I2,.cons r1 r2,q2⟩
noncomputable def tTup (t:TA):TE:=fun σ H Q=>t σ H fun xs H1=>xs.length≤sizeLine∧∀p,H1 p=none→Q (.ref p) (upd H1 p (.tup xs))
noncomputable def tLst (t:TA):TE:=fun σ H Q=>t σ H fun xs H1=>xs.length≤sizeLine∧∀p,H1 p=none→Q (.ref p) (upd H1 p (.lst xs))
theorem pe_tup {x1}(h:PA X es t):PE X (.Tuple es x1 pos) (tTup t):=by
 intro pins s σ H Q I hq
 refine wpAny_Tuple_spliced (thn (h pos pins s σ H _ I hq) fun us s1 ⟨xs,H1,I1,r,z,q⟩=>⟨by rw [← r.length];exact z,?_⟩)
 have hf:H1 s1.heap.objs.size=none:=I1.hok.fresh (Nat.le_refl _)
 refine ⟨.ref s1.heap.objs.size,upd H1 s1.heap.objs.size (.tup xs),I1.laid (t':=s1.toks) (fun b u e=>Heap.get?_push_of_some _ e) (Nat.le_refl _) ?_,rfl,q _ hf⟩
 exact ⟨z,us,r,⟨_,Heap.get?_push_size _ rfl,rfl,_,rfl⟩⟩
theorem pe_lst (h:PA X es t):PE X (.List es pos) (tLst t):=by
 intro pins s σ H Q I hq
 refine wpAny_List_spliced (thn (h pos pins s σ H _ I hq) fun us s1 ⟨xs,H1,I1,r,z,q⟩=>⟨by rw [← r.length];exact z,?_⟩)
 have hf:H1 s1.heap.objs.size=none:=I1.hok.fresh (Nat.le_refl _)
 refine ⟨.ref s1.heap.objs.size,upd H1 s1.heap.objs.size (.lst xs),I1.laid (t':=s1.toks) (fun b u e=>Heap.get?_push_of_some _ e) (Nat.le_refl _) ?_,rfl,q _ hf⟩
 exact ⟨z,us,0,r,Heap.get?_push_size _ rfl⟩
end
noncomputable abbrev Sp:=List V→Hp→VK→XK→Prop
noncomputable abbrev CXT:=List Env→Hp→Shared→XK→Value→Shared→Prop
structure Env0 (P:Program)(w:World)(K:PySem.W.Frag)(mg:Str→Option Value)(base:Heap)(A:Around)(outer:List Env)(s:Shared)(H:Hp):Prop where
 frames:A.frames=some outer
 mod:Mod K mg base
 bs:∀b o,base.get? b=some o→s.heap.get? b=some o∧H b=none
 bsz:base.objs.size≤s.heap.objs.size
 funs:s.heap.FunFrames base outer
 frf:∀b∈frs outer,H b=none
 hok:HOk P w H s.heap
 bare:AllBare s.gens
noncomputable def CE (outer:List Env)(P:Program)(w:World)(H:Hp)(s:Shared)(Q:VK)(u:Value)(s':Shared):Prop :=
 ∃v H',s'.os=s.os∧AllBare s'.gens∧Un (frs outer) [] H H' s.heap s'.heap∧HOk P w H' s'.heap∧RelV v u∧Q v H'
noncomputable def CR (CX:CXT)(outer:List Env)(P:Program)(w:World)(H:Hp)(s:Shared)(Q:VK)(E:XK)(r:Result)(s':Shared):Prop :=
 match r with
 | .ok (.ret u)=>CE outer P w H s Q u s'
 | .ok _=>False
 | .error e=>CX outer H s E e s'
structure FnOk (P:Program)(w:World)(K:PySem.W.Frag)(mg:Str→Option Value)(base:Heap)(CX:CXT)(k:Nat)(f:Addr)(fd:FuncData)(ps:List Str)(sp:Sp):Prop where
 len:∀vs H Q E,sp vs H Q E→vs.length=ps.length
 run:∀(A:Around) (outer:List Env) (s:Shared) (H:Hp) (args:Args) (us:List Value) (vs:List V) (Q:VK) (E:XK),Room k A→Env0 P w K mg base A outer s H→BindsTo s fd args (ps.zip us)→Vals vs us→sp vs H Q E→
  codeAny (model P w) A (.call (.ref f) args) (CR CX outer P w H s Q E) s
theorem FnOk.imp {P:Program}{w:World}{K:PySem.W.Frag}{mg:Str→Option Value}{base:Heap}{CX:CXT}{k:Nat}{f:Addr}{fd:FuncData}{ps:List Str}{sp sp':Sp}(F:FnOk P w K mg base CX k f fd ps sp)
  (h:∀vs H Q E,sp' vs H Q E→sp vs H Q E):FnOk P w K mg base CX k f fd ps sp' :=
 ⟨fun vs H Q E q=>F.len vs H Q E (h _ _ _ _ q),fun A outer s H args us vs Q E hr he hb hv hs=>F.run A outer s H args us vs Q E hr he hb hv (h _ _ _ _ hs)⟩
theorem Env0.make {P:Program}{w:World}{K:PySem.W.Frag}{mg:Str→Option Value}{base:Heap}{A:Around}{outer:List Env}{s:Shared}{H:Hp}(e:Env0 P w K mg base A outer s H)(C:Addr)(us:List Value)(kw:List (Str×Value)) :
  Env0 P w K mg base (A.under (.builtin "type.__call__" ⟨.ref C::us,kw⟩)) outer s H:=⟨by first | exact e.frames | (simpa [Around.under,Code.envs,Code.isFrame,pushEnvs] using e.frames),e.mod,e.bs,e.bsz,e.funs,e.frf,e.hok,e.bare⟩
section
variable {X:Cx}{pins:List (Addr×Obj)}{σ:St}{H:Hp}{s s':Shared}
theorem Inv.env0 (I:Inv X pins σ H s):Env0 X.prog X.w X.K X.mg X.base X.A X.stack s H :=
 ⟨I.ok.frames,I.ok.mod,I.bs,Nat.le_trans I.ok.bsz I.sz,I.stack,I.stkFree,I.hok,I.bare⟩
theorem Inv.after {Q:VK}{u:Value}(I:Inv X pins σ H s)(h:CE X.stack X.prog X.w H s Q u s'):EP X pins σ Q u s':=by
 obtain ⟨v,H',os,bare,un,hok,r,q⟩:=h
 obtain ⟨hh,g,d,t,os'⟩:=s'
 obtain rfl:os'=s.os:=os
 exact ⟨v,H',I.call (h':=hh) (g':=g) (d':=d) (t':=t) (ch:=[]) un hok bare (fun b z=>absurd z (by simp)),r,q⟩
end
noncomputable def tCall (sp:Sp)(dvs:List V)(E:XK)(t:TA):TE:=fun σ H Q=>t σ H fun vs H1=>sp (vs++dvs) H1 Q E
noncomputable def Binds (K:PySem.W.Frag)(fd:FuncData)(ps:List Str)(ds:List Value):Prop :=
 ∀(s:Shared) (us:List Value),K.In s.heap→(us++ds).length=ps.length→BindsTo s fd ⟨us,[]⟩ (ps.zip (us++ds))
theorem Binds.all {K:PySem.W.Frag}{fd:FuncData}{ps:List Str}(h:∀us:List Value,us.length=ps.length→bindArgs fd ⟨us,[]⟩=pure (ps.zip us)):Binds K fd ps []:=fun s us _ hl=>by
 rw [List.append_nil] at hl ⊢
 exact .of_eq (h us hl)
noncomputable def Passes (CX:CXT)(X:Cx)(E:XK):Prop:=∀(pins:List (Addr×Obj)) (σ:St) (H:Hp) (s:Shared) (e:Value) (s':Shared),Inv X pins σ H s→CX X.stack H s E e s'→X.xe e s'
section
variable {X:Cx}{CX:CXT}{k:Nat}{f C:Addr}{fd:FuncData}{ps:List Str}{sp:Sp}{dvs:List V}{ds:List Value}{E:XK}{x m:Str}{p pos apos:Pos}{e o:Expr}{es:List Expr}{ta:TE}{t:TA}
theorem run_fn {pins:List (Addr×Obj)}{σ:St}{H:Hp}{s:Shared}{Q:VK}{us:List Value}{vs:List V}(F:FnOk X.prog X.w X.K X.mg X.base CX k f fd ps sp)(hr:Room k X.A)(hb:Binds X.K fd ps ds)(hd:Vals dvs ds)(hx:Passes CX X E)
  (I:Inv X pins σ H s) (r:Vals vs us) (h:sp (vs++dvs) H Q E):wpAny (model X.prog X.w) X.A (call (.ref f) us) (EP X pins σ Q) X.xe s:=by
 have r2:Vals (vs++dvs) (us++ds):=r.append hd
 have hl:(us++ds).length=ps.length:=by rw [← r2.length];exact F.len _ _ _ _ h
 refine wpAny_call (codeAny_mono (F.run X.A X.stack s H ⟨us,[]⟩ (us++ds) (vs++dvs) Q E hr I.env0 (hb s us I.kIn hl) r2 h) fun r s' hq=>?_)
 cases r with
 | error e=>exact hx pins σ H s e s' I hq
 | ok fl =>
  cases fl with
  | ret u=>exact I.after hq
  | next=>exact False.elim hq
  | brk=>exact False.elim hq
  | cont=>exact False.elim hq
theorem pe_call (F:FnOk X.prog X.w X.K X.mg X.base CX k f fd ps sp)(hr:Room k X.A)(hg:Gl X x)(hm:X.mg x=some (.ref f))(hk:PySem.W.keepIn X.K (.ref f)=true)(hb:Binds X.K fd ps ds)(hd:Vals dvs ds)(hx:Passes CX X E)
  (ha:PA X (e::es) t) (hdb:autoParam ((x==("__debug__":Str))=false) aT1._auto_1) (he:autoParam (starEach (e::es) X.env=(false,eval e X.env)::starEach es X.env) aT2._auto_1) (hpl:autoParam ((backTo pos (starEach es X.env)).any (·.1)=false) aT2._auto_1) :
  PE X (.Call (.Name x p) (e::es) [] pos) (tCall sp dvs E t):=by
 intro pins s σ H Q I h
 refine wpAny_Call_Name_kw (ld_glob I hg hm ?_ hdb)
 refine PySem.W.callWith_K (h₀:=X.base) I.ok.mod.kin hk (thn (ha pos pins s σ H _ I h) fun us s1 ⟨vs,H1,I1,r,q⟩=>⟨I1.kIn,?_⟩) he hpl
 exact run_fn F hr hb hd hx I1 r q
structure Mk (K:PySem.W.Frag)(C f:Addr):Prop where
 makes:PySem.W.makesIn K C=true
 init:PySem.W.findIn K (.ref C) "__init__"=some (some (.ref f))
 fn:PySem.W.isFn K (.ref f)=true
 kp:PySem.W.keepIn K (.ref C)=true
end
noncomputable def PK (X:Cx)(kws:List Keyword)(t:TA):Prop :=
 ∀(pos:Pos) (pins:List (Addr×Obj)) (s:Shared) (σ:St) (H:Hp) (Q:List V→Hp→Prop),Inv X pins σ H s→t σ H Q→wpAny (model X.prog X.w) X.A (evalAll ((backToKw pos (keywordEach kws X.env)).map (·.2))) (AP X pins σ Q) X.xe s
section
variable {X:Cx}{CX:CXT}{k:Nat}{f C:Addr}{fd:FuncData}{ps ks:List Str}{sp:Sp}{E:XK}{x m:Str}{p pos apos kpos:Pos}{e o:Expr}{es:List Expr}{kws:List Keyword}{te ta:TE}{t tk:TA}{nm:Option Str}
structure KBinds (K:PySem.W.Frag)(fd:FuncData)(ps ks:List Str)(g:List Value→List Value→List Value)(gV:List V→List V→List V):Prop where
 to:∀(s:Shared) (us ws:List Value),K.In s.heap→(g us ws).length=ps.length→BindsTo s fd ⟨us,ks.zip ws⟩ (ps.zip (g us ws))
 rel:∀{vs:List V} {us:List Value} {zs:List V} {ws:List Value},Vals vs us→Vals zs ws→Vals (gV vs zs) (g us ws)
variable {g:List Value→List Value→List Value}{gV:List V→List V→List V}
end
structure FnScope (N P:List Str)(sc:Scope):Prop where
 kind:sc.kind=.function
 co:sc.isCoroutine=false
 gen:sc.isGenerator=false
 nd:N.Nodup
 pre:N.take P.length=P
 par:∀x∈P,sc.names.lookup x=some .local∨sc.names.lookup x=some .cell
 nofree:∀y∈sc.names,y.2≠.free
theorem bindL_out {kindOf:Str→Option NameKind}{x:Str}:∀{binds:List (Str×Value)} {m:Str→Option Value},(∀v,(x,v)∉binds)→bindL kindOf binds m x=m x
 | [],_,_=>rfl
 | (n,v)::r,m,h=>by
  unfold bindL
  rw [bindL_out fun w hw=>h w (List.mem_cons_of_mem _ hw)]
  split
  ·have:x≠n:=by rintro rfl;exact h v List.mem_cons_self
   simp [this]
  ·rfl
theorem bindC_out {kindOf:Str→Option NameKind}{x:Str}:∀{binds:List (Str×Value)} {m:Str→Option Value},(∀v,(x,v)∉binds)→bindC kindOf binds m x=m x
 | [],_,_=>rfl
 | (n,v)::r,m,h=>by
  unfold bindC
  rw [bindC_out fun w hw=>h w (List.mem_cons_of_mem _ hw)]
  split
  ·rfl
  ·have:x≠n:=by rintro rfl;exact h v List.mem_cons_self
   simp [this]
theorem bindL_get {kindOf:Str→Option NameKind}{x:Str}{v:Value}:∀{P:List Str} {vs:List Value} {i:Nat} {m:Str→Option Value},P.Nodup→P[i]?=some x→vs[i]?=some v→kindOf x=some .local→
  bindL kindOf (P.zip vs) m x=some v
 | [],_,_,_,_,h,_,_=>by simp at h
 | _::_,[],_,_,_,_,h,_=>by simp at h
 | p::P,w::vs,0,m,nd,h1,h2,hk=>by
  simp at h1 h2;subst h1;subst h2
  show bindL kindOf ((p,w)::P.zip vs) m p=_
  unfold bindL
  rw [bindL_out fun v hv=>(List.nodup_cons.mp nd).1 (List.of_mem_zip hv).1,if_pos hk]
  simp
 | p::P,w::vs,i+1,m,nd,h1,h2,hk=>by
  show bindL kindOf ((p,w)::P.zip vs) m x=_
  unfold bindL
  exact bindL_get (i:=i) (List.nodup_cons.mp nd).2 (by simpa using h1) (by simpa using h2) hk
theorem bindC_get {kindOf:Str→Option NameKind}{x:Str}{v:Value}:∀{P:List Str} {vs:List Value} {i:Nat} {m:Str→Option Value},P.Nodup→P[i]?=some x→vs[i]?=some v→kindOf x≠some .local→
  bindC kindOf (P.zip vs) m x=some v
 | [],_,_,_,_,h,_,_=>by simp at h
 | _::_,[],_,_,_,_,h,_=>by simp at h
 | p::P,w::vs,0,m,nd,h1,h2,hk=>by
  simp at h1 h2;subst h1;subst h2
  show bindC kindOf ((p,w)::P.zip vs) m p=_
  unfold bindC
  rw [bindC_out fun v hv=>(List.nodup_cons.mp nd).1 (List.of_mem_zip hv).1,if_neg hk]
  simp
 | p::P,w::vs,i+1,m,nd,h1,h2,hk=>by
  show bindC kindOf ((p,w)::P.zip vs) m x=_
  unfold bindC
  exact bindC_get (i:=i) (List.nodup_cons.mp nd).2 (by simpa using h1) (by simpa using h2) hk
noncomputable def start (N:List Str)(vs:List V):St:=vs.map some++List.replicate (N.length - vs.length) none
noncomputable def cxOf (CX:CXT)(P:Program)(w:World)(K:PySem.W.Frag)(mg:Str→Option Value)(base:Heap)(N:List Str)(qual:Str)(scope:Scope)(f:Addr)(cd:Value)(A:Around)(outer:List Env)(s:Shared)(H:Hp)(E:XK):Cx where
 prog:=P
 w:=w
 K:=K
 mg:=mg
 base:=base
 A:=A.deeper (envOfC qual scope s.heap.objs.size f cd)
 N:=N
 s₀:=s
 H₀:=H
 env:=envOfC qual scope s.heap.objs.size f cd
 outer:=outer
 stack:=envOfC qual scope s.heap.objs.size f cd::outer
 ex:=[]
 calm:=true
 fn:=fun _=>true
 pn:=[]
 xe:=fun e s'=>wpAny (model P w) (A.deeper (envOfC qual scope s.heap.objs.size f cd)) (leaving (envOfC qual scope s.heap.objs.size f cd) e) (fun _ s''=>CX outer H s E e s'') (fun e' s''=>CX outer H s E e' s'') s'
theorem cell_has {sc:Scope}{n:Nat}{x:Str}(h:sc.names.lookup x=some .cell):∃c,(cellsFrom n sc.names []).lookup x=some c:=by
 have q:=PySem.W.cellsFrom_some sc.names n [] (.inl h)
 exact Option.isSome_iff_exists.mp q
theorem inv_start {CX:CXT}{P:Program}{w:World}{K:PySem.W.Frag}{mg:Str→Option Value}{base:Heap}{N ps:List Str}{qual:Str}{scope:Scope}{f:Addr}{cd:Value}{A:Around}{outer:List Env}{s s1:Shared}{H:Hp}{E:XK}{us:List Value}{vs:List V}
    (S:FnScope N ps scope) (hd:A.handled=none) (e0:Env0 P w K mg base A outer s H) (hl:vs.length=ps.length) (r:Vals vs us)
    (x:InCallC s s.heap.objs.size (bindL (envOfC qual scope s.heap.objs.size f cd).kindOf (ps.zip us) fun _=>none) (cellsFrom (s.heap.objs.size+1) scope.names []) (bindC (envOfC qual scope s.heap.objs.size f cd).kindOf (ps.zip us) fun _=>none) s1) :
    Inv (cxOf CX P w K mg base N qual scope f cd A outer s H E) [] (start N vs) H s1:=by
  have hpl:ps.length≤N.length:=by have:=congrArg List.length S.pre;rw [List.length_take] at this;omega
  obtain ⟨h1,tk,rfl,hk⟩:=x.done
  have noA:∀b:Addr,b∉(cxOf CX P w K mg base N qual scope f cd A outer s H E).ex:=fun b z=>absurd (show b∈([]:List Addr) from z) (by simp)
  refine ⟨⟨e0.mod,S.kind,rfl,rfl,Nat.le_refl _,fun y z c h1 h2=>?_,fun y hy=>?_,fun y c _ h=>?_,fun _=>hd,Around.frames_deeper e0.frames,.inr ⟨rfl,rfl⟩,fun b z=>absurd z (noA b),e0.bs,e0.bsz,fun b _ _=>noA b,fun b z=>absurd z (noA b),e0.funs,e0.frf⟩,
    rfl,e0.bare,Un.kept hk,⟨_,x.toInCall.ns,fun i y v h1 h2 h3=>?_⟩,fun y c h=>⟨_,x.cell y c h⟩,e0.hok.fresh (Nat.le_refl _),fun y c h=>?_,fun p hp=>absurd (show p∈([]:List (Addr×Obj)) from hp) (by simp),e0.hok.kept hk,?_⟩
  · exact name_of_addr x.apart (PySem.mem_of_lookup h1) (PySem.mem_of_lookup h2)
  · have hy:scope.names.lookup y=some .cell∨scope.names.lookup y=some .free:=hy
    rcases hy with hy | hy
    · exact cell_has hy
    · exact absurd rfl (S.nofree _ (PySem.mem_of_lookup hy))
  · exact Nat.le_of_lt (x.above y c (PySem.mem_of_lookup h))
  · have hi:i<vs.length:=by
      unfold start at h2
      by_cases hi:i<vs.length
      · exact hi
      · rw [List.getElem?_append_right (by simpa using hi)] at h2
        rw [List.getElem?_replicate] at h2
        split at h2<;>cases h2
    have ha:vs[i]?=some v:=by
      unfold start at h2
      rw [List.getElem?_append_left (by simpa using hi),List.getElem?_map] at h2
      cases e:vs[i]? with
      | none=>rw [e] at h2;cases h2
      | some a=>rw [e] at h2;cases h2;rfl
    obtain ⟨u,hu,rv⟩:=r.get ha
    have hp:ps[i]?=some y:=by
      rw [← S.pre,List.getElem?_take_of_lt (by omega)];exact h1
    have ndP:ps.Nodup:=by rw [← S.pre];exact S.nd.sublist (List.take_sublist _ _)
    refine ⟨u,rv,?_⟩
    rcases S.par y (List.mem_of_getElem? hp) with k | k
    · exact .inl ⟨k,bindL_get ndP hp hu k⟩
    · obtain ⟨c,e⟩:=cell_has (n:=s.heap.objs.size+1) k
      refine .inr ⟨.inl k,c,e,?_⟩
      have q:=x.cell y c e
      rw [bindC_get ndP hp hu (by show scope.names.lookup y≠_;rw [k];decide)] at q
      exact q
  · exact e0.hok.fresh (Nat.le_of_lt (x.above y c (PySem.mem_of_lookup h)))
  · unfold start
    show _=N.length
    rw [List.length_append,List.length_map,List.length_replicate]
    omega
theorem fn_of {CX:CXT}{P:Program}{w:World}{K:PySem.W.Frag}{mg:Str→Option Value}{base:Heap}{k:Nat}{f:Addr}{name qual:Str}{params:Arguments}{body:List Stmt}{scope:Scope}{dV kV doc pm cdv ct oc:Value}{an od:Option Addr}
    {osl:Array (Option Value)} {N ps:List Str} {sp:Sp} (lk:K.lookup f=some ⟨oc,od,.func (PySem.W.fnOf name qual params body scope dV kV doc pm an cdv ct),osl⟩) (hcd:PySem.W.codeIn K cdv qual=true) (S:FnScope N ps scope)
    (len:∀vs H Q E,sp vs H Q E→vs.length=ps.length)
    (hbody:∀(A:Around) (outer:List Env) (s:Shared) (H:Hp) (vs:List V) (Q:VK) (E:XK),Room k (A.deeper (envOfC qual scope s.heap.objs.size f cdv))→sp vs H Q E→
      ∃t,PSs (cxOf CX P w K mg base N qual scope f cdv A outer s H E) body t∧t { nx:=fun _ H'=>Q .non H',rt:=Q } (start N vs) H) :
    FnOk P w K mg base CX (k+1) f (PySem.W.fnOf name qual params body scope dV kV doc pm an cdv ct) ps sp:=by
  refine ⟨len,fun A outer s H args us vs Q E hr e0 hb r hsp=>?_⟩
  have hl:=len _ _ _ _ hsp
  have KX:K.In s.heap:=e0.mod.kin.keeps fun b o e=>(e0.bs b o e).1
  have lim:s.heap.NoLimit:=e0.mod.nolimit.keeps fun b o e=>(e0.bs b o e).1
  have hkind:∀y∈ps.zip us,scope.names.lookup y.1=some .local∨(scope.names.lookup y.1=some .cell∧((cellsFrom (s.heap.objs.size+1) scope.names []).lookup y.1).isSome=true):=fun ⟨n,v⟩ hy=>by
    rcases S.par n (List.of_mem_zip hy).1 with q | q
    · exact .inl q
    · exact .inr ⟨q,PySem.W.cellsFrom_some _ _ _ (.inl q)⟩
  refine codeAny_call_function hr.depth (KX _ _ lk) rfl S.co S.gen rfl (PySem.W.codeRec_of KX hcd) (hb _ _ _ _ ?_)
  refine wpAny_newFunctionEnv_cells S.kind hkind fun env he s1 x=>?_
  subst he
  refine ⟨lim.keeps x.toInCall.keep,codeAny_func ?_⟩
  obtain ⟨t,ht,hq⟩:=hbody A outer s H vs Q E (hr.deeper _) hsp
  have I:Inv (cxOf CX P w K mg base N qual scope f cdv A outer s H E) [] (start N vs) H s1:=inv_start S hr.hd e0 hl r x
  refine wpAny_mono (ht [] s1 (start N vs) H _ I hq) (fun fl s' hs=>?_) fun e s' hs=>hs
  have fin:∀{σ':St} {H':Hp} {v:V} {u:Value},Inv (cxOf CX P w K mg base N qual scope f cdv A outer s H E) [] σ' H' s'→RelV v u→Q v H'→CE outer P w H s Q u s' :=
    fun {σ' H' v u} J rv q=>⟨v,H',J.os,J.bare,J.base,J.hok,rv,q⟩
  cases fl with
  | ret u =>
    obtain ⟨v,σ',H',J,rv,q⟩:=hs
    exact fin J rv q
  | next =>
    obtain ⟨σ',H',J,q⟩:=hs
    exact fin (v:=V.non) (u:=Value.none) J rfl q
  | brk =>
    obtain ⟨_,_,_,q⟩:=hs
    exact False.elim q
  | cont =>
    obtain ⟨_,_,_,q⟩:=hs
    exact False.elim q
end L2
namespace L2
open PySem PySem.Spec PyProof.Rows
section
variable {X:Cx}{x:Str}{p pos:Pos}{e:Expr}{es:List Expr}{t:TA}{id T:String}{r:List V→Hp→VK→Prop}
noncomputable def tCB (r:List V→Hp→VK→Prop)(t:TA):TE:=fun σ H Q=>t σ H fun vs H1=>r vs H1 Q
theorem pe_callB (hc:CallR X (.builtin id) r)(hg:Gl X x)(hm:X.mg x=none)(hv:bootBuiltins x=some (.builtin id))(ha:PA X (e::es) t)(hn:autoParam (x≠"__name__") aT1._auto_1)(hdb:autoParam ((x==("__debug__":Str))=false) aT1._auto_1)
  (he:autoParam (starEach (e::es) X.env=(false,eval e X.env)::starEach es X.env) aT2._auto_1) (hpl:autoParam ((backTo pos (starEach es X.env)).any (·.1)=false) aT2._auto_1):PE X (.Call (.Name x p) (e::es) [] pos) (tCB r t):=by
 intro pins s σ H Q I h
 refine wpAny_Call_Name_kw (ld_blt I hg hm hv ?_ hn hdb)
 exact PyProof.Rows.callWith_builtin1 (thn (ha pos pins s σ H _ I h) fun us s1 ⟨vs,H1,I1,r1,q1⟩=>hc pins s1 σ H1 vs us Q I1 r1 q1) he hpl
theorem pe_callTy (hc:CallR X (.type T) r)(hg:Gl X x)(hm:X.mg x=none)(hv:bootBuiltins x=some (.type T))(ha:PA X (e::es) t)(hn:autoParam (x≠"__name__") aT1._auto_1)(hdb:autoParam ((x==("__debug__":Str))=false) aT1._auto_1)
  (he:autoParam (starEach (e::es) X.env=(false,eval e X.env)::starEach es X.env) aT2._auto_1) (hpl:autoParam ((backTo pos (starEach es X.env)).any (·.1)=false) aT2._auto_1):PE X (.Call (.Name x p) (e::es) [] pos) (tCB r t):=by
 intro pins s σ H Q I h
 refine wpAny_Call_Name_kw (ld_blt I hg hm hv ?_ hn hdb)
 exact PyProof.Rows.callWith_type1 (thn (ha pos pins s σ H _ I h) fun us s1 ⟨vs,H1,I1,r1,q1⟩=>hc pins s1 σ H1 vs us Q I1 r1 q1) he hpl
end
end L2
namespace HT
open PySem PyProof.Rows
noncomputable def lexLt:List Int→List Int→Bool
 | [],[]=>false
 | [],_::_=>true
 | _::_,[]=>false
 | x::xs,y::ys=>if x=y then lexLt xs ys else decide (x<y)
section
open PySem.SeqAt
open PySem.AutoSeq1 (wpAny_loadPart')
open PySem.MeetsSeq PySem.MeetsSeq2 PySem.MeetsSeq3
end
section
variable {prog:Program}{w:World}{A:Around}{E:Value→Shared→Prop}{s:Shared}
noncomputable def sIx (n d:Nat):Option Int→Nat
 | none=>d
 | some v=>if v<0 then (v+(n:Int)).toNat else min v.toNat n
theorem clip_eq (v:Int)(n d:Nat):(if v<0 then max (v+(n:Int)) 0 else min v (n:Int))=((sIx n d (some v):Nat):Int):=by
 show (if v<0 then max (v+(n:Int)) 0 else min v (n:Int))=(((if v<0 then (v+(n:Int)).toNat else min v.toNat n):Nat):Int)
 by_cases hv:v<0
 ·simp only [if_pos hv];omega
 ·simp only [if_neg hv];omega
end
end HT
namespace L2
open PySem PySem.Spec PyProof.Rows
noncomputable abbrev TO:=St→Hp→(Option Int→Hp→Prop)→Prop
noncomputable def PO (X:Cx)(e:Option Expr)(t:TO):Prop :=
 ∀(pins:List (Addr×Obj)) (s:Shared) (σ:St) (H:Hp) (Q:Option Int→Hp→Prop),Inv X pins σ H s→t σ H Q→
  wpAny (model X.prog X.w) X.A (evalPart e X.env) (fun u s'=>∃o H',Inv X pins σ H' s'∧IsPart u o∧Q o H') X.xe s
noncomputable def tNoPart:TO:=fun _ H Q=>Q none H
noncomputable def tPart (t:TE):TO:=fun σ H Q=>t σ H fun x H1=>∃i,x=.int i∧Q (some i) H1
theorem intsAre_of {ns:List Int}:∀{us:List Value},Vals (ns.map V.int) us→IntsAre us ns:=by
 induction ns with
 | nil=>intro us r;rw [List.map_nil] at r;cases r;exact .nil
 | cons n ns ih =>
  intro us r
  rw [List.map_cons] at r
  cases r with
  | cons r1 r2 =>
   obtain ⟨t,e⟩:=r1
   subst e
   exact .cons n t (ih r2)
section
variable {X:Cx}{e:Expr}{te:TE}{lo hi:Option Expr}{tl th:TO}{pos p2:Pos}
theorem po_none:PO X none tNoPart:=by
 intro pins s σ H Q I h
 rw [evalPart_none]
 exact wpAny_pure ⟨none,H,I,.none,h⟩
theorem po_some (h:PE X e te):PO X (some e) (tPart te):=by
 intro pins s σ H Q I hw
 rw [evalPart_some]
 refine thn (h pins s σ H _ I hw) fun u s1 hz9=>?_
 obtain ⟨x,H1,I1,r1,q1⟩:=hz9
 obtain ⟨i,rfl,q⟩:=q1
 obtain ⟨t,rfl⟩:=r1
 exact ⟨some i,H1,I1,.int i t,q⟩
noncomputable def SlR (X:Cx)(r:V→Option Int→Option Int→Hp→VK→Prop):Prop :=
 ∀(pins:List (Addr×Obj)) (s:Shared) (σ:St) (H:Hp) (x:V) (v vl vu:Value) (lo hi:Option Int) (sl:Addr) (Q:VK),Inv X pins σ H s→RelV x v→s.heap.IsSliceOf sl vl vu .none→IsPart vl lo→IsPart vu hi→r x lo hi H Q→
  ∃T id,typeLookup (.type T) "__getitem__"=pure (some (.builtin id))∧s.TypeIs v T∧wpAny (model X.prog X.w) X.A (getItem v (.ref sl)) (EP X pins σ Q) X.xe s
noncomputable def tSl (r:V→Option Int→Option Int→Hp→VK→Prop)(te:TE)(tl th:TO):TE:=fun σ H Q=>te σ H fun x H1=>tl σ H1 fun l H2=>th σ H2 fun u H3=>r x l u H3 Q
theorem pe_slice {r:V→Option Int→Option Int→Hp→VK→Prop}(hr:SlR X r)(he:PE X e te)(hl:PO X lo tl)(hu:PO X hi th):PE X (.Subscript e (.Slice lo hi none p2) pos) (tSl r te tl th):=by
 intro pins s σ H Q I h
 refine Subscript_ (thn (he pins s σ H _ I h) fun v s1 hz9=>?_)
 obtain ⟨x,H1,I1,r1,q1⟩:=hz9
 refine wpAny_Slice (thn (hl pins s1 σ H1 _ I1 q1) fun vl s2 ⟨l,H2,I2,pl,q2⟩=>thn (hu pins s2 σ H2 _ I2 q2) fun vu s3 ⟨u,H3,I3,pu,q3⟩=>?_)
 rw [evalPart_none]
 refine wpAny_pure ?_
 have I4:Inv X pins σ H3 { s3 with heap:=s3.heap.push { cls:=.type "slice",data:=.fields #[vl,vu,.none] } }:=I3.kept (t':=s3.toks) fun b ob q=>Heap.get?_push_of_some _ q
 obtain ⟨T,id,hT,ht,hg⟩:=hr pins { s3 with heap:=s3.heap.push { cls:=.type "slice",data:=.fields #[vl,vu,.none] } } σ H3 x v vl vu l u s3.heap.objs.size Q I4 r1 (Heap.IsSliceOf.new ..) pl pu q3
 show wpAny (model X.prog X.w) X.A (subscriptTail e (.Slice lo hi none p2) v (.ref s3.heap.objs.size)) (EP X pins σ Q) X.xe { s3 with heap:=s3.heap.push { cls:=.type "slice",data:=.fields #[vl,vu,.none] } }
 exact tail_any (ops:=[.ref s3.heap.objs.size,v]) ht hT hg (by with_unfolding_all rfl)
noncomputable def cutV (xs:List V)(lo hi:Option Int):List V:=(xs.drop (HT.sIx xs.length 0 lo)).take (HT.sIx xs.length xs.length hi - HT.sIx xs.length 0 lo)
theorem cutV_length (xs:List V)(lo hi:Option Int):(cutV xs lo hi).length≤xs.length:=by
 unfold cutV
 rw [List.length_take,List.length_drop]
 omega
end
end L2
namespace L2
open PySem PySem.Spec PyProof.Rows
noncomputable def ixN (n:Nat)(i:Int):Option Nat:=if 0≤i then (if i<n then some i.toNat else none) else if -(n:Int)≤i then some (i+n).toNat else none
noncomputable def atI {α:Type}(xs:List α)(i:Int):Option α:=(ixN xs.length i).bind fun j=>xs[j]?
theorem ixN_seq {n:Nat}{i:Int}{j:Nat}(h:ixN n i=some j):seqIndex? i n=some j∧j<n∧-(n:Int)≤i∧i<n:=by
 unfold ixN at h
 by_cases h0:0≤i
 ·rw [if_pos h0] at h
  by_cases h1:i<n
  ·rw [if_pos h1] at h
   have e:i.toNat=j:=Option.some.inj h
   exact ⟨by rw [seqIndex_of h0 h1,e],by omega,by omega,h1⟩
  ·rw [if_neg h1] at h;cases h
 ·rw [if_neg h0] at h
  by_cases h1:-(n:Int)≤i
  ·rw [if_pos h1] at h
   have e:(i+n).toNat=j:=Option.some.inj h
   exact ⟨by rw [seqIndex_neg (by omega) h1,e],by omega,h1,by omega⟩
  ·rw [if_neg h1] at h;cases h
theorem atI_get {α:Type}{xs:List α}{i:Int}{v:α}(h:atI xs i=some v):∃j,seqIndex? i xs.length=some j∧xs[j]?=some v∧j<xs.length∧-(xs.length:Int)≤i∧i<xs.length:=by
 unfold atI at h
 cases e:ixN xs.length i with
 | none=>rw [e] at h;cases h
 | some j =>
  rw [e] at h
  obtain ⟨h1,h2,h3,h4⟩:=ixN_seq e
  exact ⟨j,h1,h,h2,h3,h4⟩
noncomputable def PlainIx (b:Expr):Prop:=∀o i,subscripted b false o i=operate [o,i] (getItem o i)
noncomputable def IxR (X:Cx)(r:R2):Prop :=
 ∀(value slice:Expr) (pins:List (Addr×Obj)) (s:Shared) (σ:St) (H:Hp) (x y:V) (v u:Value) (Q:VK),Inv X pins σ H s→RelV x v→RelV y u→r x y H Q→
  subscripted slice false v u=operate [v,u] (getItem v u)→wpAny (model X.prog X.w) X.A (subscriptTail value slice v u) (EP X pins σ Q) X.xe s
noncomputable def MtR (X:Cx)(id:String)(r:V→List V→Hp→VK→Prop):Prop :=
 ∀(pins:List (Addr×Obj)) (s:Shared) (σ:St) (H:Hp) (x:V) (xs:List V) (v:Value) (us:List Value) (Q:VK),Inv X pins σ H s→RelV x v→Vals xs us→r x xs H Q→
  wpAny (model X.prog X.w) X.A (call (.builtin id) (v::us)) (EP X pins σ Q) X.xe s
section
variable {X:Cx}{a b:Expr}{ta tb:TE}{pos:Pos}
theorem IxR.or {r r':R2}(h:IxR X r)(h':IxR X r'):IxR X (fun x y H Q=>r x y H Q∨r' x y H Q):=by
 intro value slice pins s σ H x y v u Q I rx ry q hs
 rcases q with q | q
 ·exact h value slice pins s σ H x y v u Q I rx ry q hs
 ·exact h' value slice pins s σ H x y v u Q I rx ry q hs
theorem pe_ix {r:R2}(hr:IxR X r)(ha:PE X a ta)(hb:PE X b tb)(hs:PlainIx b):PE X (.Subscript a b pos) (tOp r ta tb):=by
 intro pins s σ H Q I h
 exact Subscript_ (binT ha hb I h fun v u s2 x y H2 I2 rx ry q=>hr a b pins s2 σ H2 x y v u Q I2 rx ry q (hs _ _))
noncomputable def rIxL (K:PySem.W.Frag):R2:=fun x y H Q=>∃p xs i v,x=.ref p∧y=.int i∧SqL K H p xs∧atI xs i=some v∧Q v H
noncomputable def rIxT (K:PySem.W.Frag):R2:=fun x y H Q=>∃p xs i v,x=.ref p∧y=.int i∧SqT K H p xs∧atI xs i=some v∧Q v H
noncomputable def rIxS:R2:=fun x y H Q=>∃z i c,x=.str z∧y=.int i∧z.length≤sizeLine∧atI z.cps.toList i=some c∧Q (.str ⟨#[c]⟩) H
theorem ix_list:IxR X (rIxL X.K):=by
 intro value slice pins s σ H x y v u Q I rx ry h hs
 obtain ⟨p,xs,i,z,rfl,rfl,hq,he,q⟩:=h
 cases rx
 obtain ⟨t,rfl⟩:=ry
 obtain ⟨its,r,pl,hz⟩:=I.list hq
 obtain ⟨j,h1,h2,h3,h4,h5⟩:=atI_get he
 obtain ⟨w,ew,rw'⟩:=r.get h2
 have hl:=r.length
 have hn:=line63
 have fin:EP X pins σ Q w s:=⟨z,H,I,rw',q⟩
 by_cases h0:0≤i
 ·have hj:i.toNat=j:=by
   rw [seqIndex_of h0 h5] at h1
   exact Option.some.inj h1
  exact item_listR pl.isList h0 (by omega) (by rw [hj];simpa using ew) fin hs
 ·have hj:(i+(its.toArray.size:Int)).toNat=j:=by
   rw [seqIndex_neg (by omega) h4] at h1
   rw [List.size_toArray,← hl]
   exact Option.some.inj h1
  exact subscriptTail_builtinR (x:=w) pl.isList.typeIs slot_list_getitem.lookup
   (wpAny_getItem_list_neg (Q:=fun r s'=>r=w∧EP X pins σ Q r s') pl.isList (by omega) (by rw [List.size_toArray]<;>omega) (by omega) (by rw [hj];simpa using ew) ⟨rfl,fin⟩) hs
theorem ix_tup:IxR X (rIxT X.K):=by
 intro value slice pins s σ H x y v u Q I rx ry h hs
 obtain ⟨p,xs,i,z,rfl,rfl,hq,he,q⟩:=h
 cases rx
 obtain ⟨t,rfl⟩:=ry
 obtain ⟨its,r,pl,hz⟩:=I.tuple hq
 obtain ⟨j,h1,h2,h3,h4,h5⟩:=atI_get he
 obtain ⟨w,ew,rw'⟩:=r.get h2
 have hl:=r.length
 have hn:=line63
 have fin:EP X pins σ Q w s:=⟨z,H,I,rw',q⟩
 exact subscriptTail_builtinR (x:=w) pl.typeIs slot_tuple_getitem.lookup
  (getItem_tuple (j:=j) (Q:=fun r s'=>r=w∧EP X pins σ Q r s') pl (by omega) (by omega) (by rw [List.size_toArray,← hl];exact h1) (by simpa using ew) ⟨rfl,fin⟩) hs
theorem ix_str:IxR X rIxS:=by
  intro value slice pins s σ H x y v u Q I rx ry h hs
  obtain ⟨z,i,c,rfl,rfl,hz,he,q⟩:=h
  obtain ⟨t,rfl⟩:=rx
  obtain ⟨t',rfl⟩:=ry
  obtain ⟨j,h1,h2,h3,h4,h5⟩:=atI_get he
  have hl:z.cps.toList.length=z.length:=by simp [Str.length]
  rw [hl] at h1 h4 h5
  have hn:=line63
  exact tail_any (typeIs_str s z t) slot_str_getitem.lookup (getItem_str (c:=c) (by
    have e1:decide (i < -(2 ^ 63:Int))=false:=decide_eq_false (by omega)
    have e2:decide (i≥2 ^ 63)=false:=decide_eq_false (by omega)
    rw [e1,e2,Bool.or_false]) (by rw [h1];simpa using h2) ⟨.str ⟨#[c]⟩,H,I.tok _,⟨_,rfl⟩,q⟩) hs
noncomputable def rIx (K:PySem.W.Frag):R2:=fun x y H Q=>rIxL K x y H Q∨rIxT K x y H Q∨rIxS x y H Q
theorem ix_seq:IxR X (rIx X.K):=ix_list.or (ix_tup.or ix_str)
theorem slice_bounds (lo hi:Option Int)(n:Nat):(sliceBounds lo hi none n).1=((HT.sIx n 0 lo:Nat):Int)∧(sliceBounds lo hi none n).2.1=((HT.sIx n n hi:Nat):Int)∧(sliceBounds lo hi none n).2.2=1:=by
 refine ⟨?_,?_,rfl⟩
 ·cases lo with
  | none=>simp [sliceBounds,HT.sIx]
  | some i =>
   simp only [sliceBounds,HT.sIx,Option.getD_none,show (1:Int) > 0 by decide,if_true]
   by_cases h:i<0
   ·simp only [h,if_true]<;>omega
   ·simp only [h,if_false]<;>omega
 ·cases hi with
  | none=>simp [sliceBounds,HT.sIx]
  | some i =>
   simp only [sliceBounds,HT.sIx,Option.getD_none,show (1:Int) > 0 by decide,if_true]
   by_cases h:i<0
   ·simp only [h,if_true]<;>omega
   ·simp only [h,if_false]<;>omega
theorem slicePick_cut (its:List Value)(lo hi:Option Int):slicePick its.toArray lo hi none=((its.drop (HT.sIx its.length 0 lo)).take (HT.sIx its.length its.length hi - HT.sIx its.length 0 lo)).toArray:=by
 obtain ⟨h1,h2,h3⟩:=slice_bounds lo hi its.toArray.size
 unfold slicePick
 rw [h1,h2,h3]
 simp only [sliceRange_one,pick_run,List.size_toArray]<;>rfl
noncomputable def rSlL (K:PySem.W.Frag):V→Option Int→Option Int→Hp→VK→Prop:=fun x lo hi H Q=>∃a xs,x=.ref a∧SqL K H a xs∧∀p,H p=none→Q (.ref p) (upd H p (.lst (cutV xs lo hi)))
theorem sl_list:SlR X (rSlL X.K):=by
 intro pins s σ H x v vl vu lo hi sl Q I rx hs pl pu h
 obtain ⟨a,xs,rfl,hx,q⟩:=h
 cases rx
 obtain ⟨its,r,ht,hz⟩:=I.list hx
 have hlen:=r.length
 refine ⟨"list",_,slot_list_getitem.lookup,ht.isList.typeIs,?_⟩
 refine wpAny_getItem_list_slice ht.isList hs pl pu .none (by simp) ?_ (by rw [List.size_toArray]<;>omega)
 rw [slicePick_cut,← hlen]
 refine ⟨.ref s.heap.objs.size,_,I.laid (t':=s.toks) (o:=.lst (cutV xs lo hi)) (fun b ob q=>Heap.get?_push_of_some _ q) (Nat.le_refl _) ?_,rfl,q _ (I.hok.fresh (Nat.le_refl _))⟩
 exact ⟨Nat.le_trans (cutV_length xs lo hi) hz,_,0,(r.drop (HT.sIx xs.length 0 lo)).take (HT.sIx xs.length xs.length hi - HT.sIx xs.length 0 lo),Heap.get?_push_size _ rfl⟩
theorem Zgm:CallR X (.builtin "len") (fun xs H Q=>∃p ys,xs=[.ref p]∧(SqL X.K H p ys∨SqT X.K H p ys)∧Q (.int ys.length) H):=by
 intro pins s σ H xs us Q I r h
 obtain ⟨p,ys,rfl,hq,q⟩:=h
 obtain ⟨u,rfl,rx⟩:=vals1 r
 cases rx
 have hn:=line63
 rcases hq with hq | hq
 ·obtain ⟨its,r',pl,hz⟩:=I.list hq
  have hlen:=r'.length
  exact Calls.call_len_list pl.isList (by simp only [List.size_toArray]<;>omega) ⟨.int ys.length,H,I.tok _,⟨s.toks+1,by rw [List.size_toArray,hlen]⟩,q⟩
 ·obtain ⟨its,r',pl,hz⟩:=I.tuple hq
  have hlen:=r'.length
  exact len_tuple pl (by simp only [List.size_toArray]<;>omega) ⟨.int ys.length,H,I.tok _,⟨s.toks+1,by rw [List.size_toArray,hlen]⟩,q⟩
theorem Zgj:CallR X (.builtin "len") (fun xs H Q=>∃z,xs=[.str z]∧z.length≤sizeLine∧Q (.int z.length) H):=by
 intro pins s σ H xs us Q I r h
 obtain ⟨z,rfl,hz,q⟩:=h
 obtain ⟨u,rfl,t,rfl⟩:=vals1 r
 have hn:=line63
 exact len_str (by omega) ⟨.int z.length,H,I.tok _,⟨_,rfl⟩,q⟩
theorem CallR.or {f:Value}{r r':List V→Hp→VK→Prop}(h:CallR X f r)(h':CallR X f r'):CallR X f (fun xs H Q=>r xs H Q∨r' xs H Q):=by
 intro pins s σ H xs us Q I rs q
 rcases q with q | q
 ·exact h pins s σ H xs us Q I rs q
 ·exact h' pins s σ H xs us Q I rs q
theorem Zgd:CallR X (.type "list") (fun xs H Q=>∃p ys,xs=[.ref p]∧(SqL X.K H p ys∨SqT X.K H p ys)∧∀l,H l=none→Q (.ref l) (upd H l (.lst ys))):=by
 intro pins s σ H xs us Q I r h
 obtain ⟨p,ys,rfl,hq,q⟩:=h
 obtain ⟨u,rfl,rx⟩:=vals1 r
 cases rx
 have fin:∀(its:List Value),Vals ys its→ys.length≤sizeLine→∀(h':Heap) (c':Nat),(∀b o',s.heap.get? b=some o'→h'.get? b=some o')→
   h'.get? s.heap.objs.size=some { cls:=.type "list",dict:=none,data:=.seq its.toArray c',slots:=#[] }→EP X pins σ Q (.ref s.heap.objs.size) { s with heap:=h' }:=fun its r' hz h' c' kp e =>
  ⟨.ref s.heap.objs.size,_,I.laid (t':=s.toks) kp (Nat.le_refl _) (show ObjOk X.prog X.w _ h' _ (.lst ys) from ⟨hz,its,c',r',e⟩),rfl,q _ (I.hok.fresh (Nat.le_refl _))⟩
 rcases hq with hq | hq
 ·obtain ⟨its,r',pl,hz⟩:=I.list hq
  have hlen:=r'.length
  obtain ⟨o,ho,hc,n,hd⟩:=pl.isList
  exact call_list_seq p (.inl rfl) ho hc hd (fun h' c' kp e=>fin its r' hz h' c' kp e) (by simp only [List.size_toArray]<;>omega)
 ·obtain ⟨its,r',pl,hz⟩:=I.tuple hq
  have hlen:=r'.length
  obtain ⟨o,ho,hc,n,hd⟩:=pl
  exact call_list_seq p (.inr rfl) ho hc hd (fun h' c' kp e=>fin its r' hz h' c' kp e) (by simp only [List.size_toArray]<;>omega)
noncomputable def tyV (K:PySem.W.Frag)(T:String)(x:V)(H:Hp):Prop:=match x with
 | .str _=>T="str"
 | .int _=>T="int"
 | .ref p=>(T="list"∧∃xs,SqL K H p xs)∨(T="tuple"∧∃o,K.lookup p=some o∧o.cls=.type "tuple"∧o.dict=none)∨
   (T="dict"∧((∃kvs,H p=some (.dK kvs))∨∃kvs,H p=some (.dT kvs)))∨(T="set"∧∃S n,H p=some (.set S n))
 | _=>False
theorem tyV_is {pins:List (Addr×Obj)}{σ:St}{H:Hp}{s:Shared}{T:String}{x:V}{v:Value}(I:Inv X pins σ H s)(r:RelV x v)(ty:tyV X.K T x H) :
  s.TypeIs v T∧∀a,v=.ref a→∃ob,s.heap.get? a=some ob∧ob.dict=none:=by
 cases x with
 | str z =>
  obtain ⟨t,rfl⟩:=r
  cases (show T="str" from ty)
  exact ⟨typeIs_str s z t,fun _ e=>nomatch e⟩
 | int i =>
  obtain ⟨t,rfl⟩:=r
  cases (show T="int" from ty)
  exact ⟨typeIs_int s i t,fun _ e=>nomatch e⟩
 | ref p =>
  cases r
  rcases ty with ⟨rfl,xs,hq⟩ | ⟨rfl,o,hk,hc,hd⟩ | ⟨rfl,hk⟩ | ⟨rfl,S,n,hk⟩
  ·obtain ⟨its,_,pl,_⟩:=I.list hq
   refine ⟨pl.isList.typeIs,fun a e=>?_⟩
   cases e
   obtain ⟨o,n,e,c,hd,_⟩:=pl
   exact ⟨o,e,hd⟩
  ·refine ⟨⟨o,I.kIn p o hk,hc⟩,fun a e=>?_⟩
   cases e
   exact ⟨o,I.kIn _ o hk,hd⟩
  ·have z:∃o,s.heap.get? p=some o∧o.ExactDict:=by
    rcases hk with ⟨kvs,hk⟩ | ⟨kvs,hk⟩
    ·obtain ⟨_,_,_,_,o,_,_,e,ex,_⟩:=I.hok p _ hk
     exact ⟨o,e,ex⟩
    ·obtain ⟨_,_,_,_,o,_,_,e,ex,_⟩:=I.hok p _ hk
     exact ⟨o,e,ex⟩
   obtain ⟨o,e,ex⟩:=z
   refine ⟨⟨o,e,ex.1⟩,fun a e2=>?_⟩
   cases e2
   exact ⟨o,e,ex.2.1⟩
  ·obtain ⟨o,_,_,_,e,ex,_⟩:=I.hok p _ hk
   refine ⟨⟨o,e,ex.1⟩,fun a e2=>?_⟩
   cases e2
   exact ⟨o,e,ex.2.1⟩
 | _=>exact False.elim ty
noncomputable def tBM (K:PySem.W.Frag)(T:String)(r:V→List V→Hp→VK→Prop)(to:TE)(t:TA):TE:=fun σ H Q=>to σ H fun x H1=>tyV K T x H1∧t σ H1 fun xs H2=>r x xs H2 Q
variable {o e:Expr}{es:List Expr}{to:TE}{t:TA}{name:Str}{apos cpos:Pos}{T id:String}{r:V→List V→Hp→VK→Prop}
theorem pe_bm (pa:PlainAttrs T)(slot:Slot T name id)(hty:typeOf (.builtin id)=pure (.type "method_descriptor"))(hm:MtR X id r)(ho:PE X o to)(ha:PA X (e::es) t)
    (hbase:autoParam (attributeBase o name X.env (eval o X.env)=eval o X.env) aT2._auto_1)
    (hfew:((backTo cpos (starEach (e::es) X.env)).all (fun x=>!x.1)&&(backToKw cpos (keywordEach [] X.env)).all (fun x=>x.1.isSome)
      && decide ((e::es).length+([]:List Keyword).length+(if ([]:List Keyword).isEmpty then 0 else 1)<30))=true:=by rfl)
    (hline:autoParam ((apos.endLine==cpos.line)=true) aT2._auto_1) (hs:autoParam (starEach (e::es) X.env=(false,eval e X.env)::starEach es X.env) aT2._auto_1) (hplain:autoParam ((backTo cpos (starEach es X.env)).any (·.1)=false) aT2._auto_1) :
    PE X (.Call (.Attribute o name apos) (e::es) [] cpos) (tBM X.K T r to t):=by
  intro pins s σ H Q I h
  refine wpAny_Call_method_late hbase hfew hline rfl (thn (ho pins s σ H _ I h) fun v s1 hz9=>?_)
  obtain ⟨x,H1,I1,r1,ty,q1⟩:=hz9
  obtain ⟨h1,h2⟩:=tyV_is I1 r1 ty
  refine ⟨T,id,pa,slot,hty,h1,h2,?_⟩
  have hA:=ha cpos pins s1 σ H1 _ I1 q1
  rw [hs] at hA ⊢
  refine Calls.callWith_builtin (by show (false||(backTo cpos (starEach es X.env)).any (·.1))=false;rw [hplain]<;>rfl) (Calls.evalArgs_plain ?_)
  exact thn hA fun us s2 ⟨vs,H2,I2,r2,q2⟩=>hm pins s2 σ H2 x vs v us Q I2 r1 r2 q2
end
end L2
namespace L2
open PySem PySem.Spec PyProof.Rows
noncomputable def MtM (X:Cx)(id:String)(r:V→List V→Hp→VK→Prop):Prop :=
 ∀(pins:List (Addr×Obj)) (s:Shared) (σ:St) (H:Hp) (x:V) (xs:List V) (v:Value) (us:List Value) (Q:VK),Inv X pins σ H s→RelV x v→Vals xs us→r x xs H Q→
  wpAny (model X.prog X.w) X.A (call (.builtin id) (v::us)) (EP X pins σ Q) X.xe s
theorem Vals.one:∀{x:V} {us:List Value},Vals [x] us→∃u,us=[u]∧RelV x u
 | _,_,.cons r .nil=>⟨_,rfl,r⟩
theorem Vals.zero:∀{us:List Value},Vals [] us→us=[]
 | _,.nil=>rfl
theorem Vals.rep {xs:List V}{us:List Value}(h:Vals xs us):∀k:Nat,Vals (List.replicate k xs).flatten (List.replicate k us).flatten
 | 0=>.nil
 | k+1=>by
  rw [List.replicate_succ,List.replicate_succ,List.flatten_cons,List.flatten_cons]
  exact Vals.append h (Vals.rep h k)
theorem foldl_rep (its:List Value):∀(k:Nat) (acc:List Value),
  List.foldl (fun x1 x2=>x1++x2) acc.toArray (List.replicate k its.toArray)=(acc++(List.replicate k its).flatten).toArray
 | 0,acc=>by simp
 | k+1,acc=>by
  have e:acc.toArray++its.toArray=(acc++its).toArray:=by simp
  have e2:(acc++its)++(List.replicate k its).flatten=acc++(List.replicate (k+1) its).flatten:=by
   rw [List.replicate_succ,List.flatten_cons,List.append_assoc]
  rw [← e2,← foldl_rep its k (acc++its),← e,List.replicate_succ,List.foldl_cons]
section
variable {X:Cx}{pins:List (Addr×Obj)}{σ:St}{H:Hp}{s:Shared}{l b:Addr}{xs ys zs:List V}
theorem Inv.lset {its its':List Value}{n:Nat}{f:Array Value→Array Value}{t':Nat}(I:Inv X pins σ H s)(hH:H l=some (.lst xs))
  (e:s.heap.get? l=some { cls:=.type "list",data:=.seq its.toArray n }) (hf:f its.toArray=its'.toArray) (hv:Vals ys its') (hz:ys.length≤sizeLine) :
  Inv X pins σ (upd H l (.lst ys)) { s with heap:=s.heap.update l (Obj.mapSeq f),toks:=t' }:=by
 have q:=PySem.IsL.update e f
 rw [hf] at q
 refine I.write (x:=l) (e:=l) (by rw [hH];exact trivial) (.inl rfl) (fun b' u hb hu=>(Heap.get?_update_other s.heap (Obj.mapSeq f) (Ne.symm hb)).trans hu) ⟨_,q⟩ ?_
 exact ⟨hz,its',_,hv,q⟩
theorem Inv.lnew {its:List Value}{t':Nat}(I:Inv X pins σ H s)(hv:Vals ys its)(hz:ys.length≤sizeLine) :
  Inv X pins σ (upd H s.heap.objs.size (.lst ys)) { s with heap:=s.heap.push { cls:=.type "list",data:=.seq its.toArray },toks:=t' } :=
 I.laid (fun _ _ q=>Heap.get?_push_of_some _ q) (Nat.le_refl _) ⟨hz,its,0,hv,Heap.get?_push_size _ rfl⟩
theorem Inv.fresh (I:Inv X pins σ H s):H s.heap.objs.size=none:=I.hok.fresh (Nat.le_refl _)
theorem Inv.lstM (I:Inv X pins σ H s)(hH:H l=some (.lst xs)):xs.length≤sizeLine∧∃(its:List Value) (n:Nat),Vals xs its∧xs.length=its.length∧s.heap.get? l=some { cls:=.type "list",data:=.seq its.toArray n }:=by
 obtain ⟨z,its,n,r,e⟩:=I.hok l _ hH
 exact ⟨z,its,n,r,r.length,e⟩
theorem notLongL {n:Nat}(h:n≤sizeLine):Builtin.List.listTooLong n=false:=by
 unfold Builtin.List.listTooLong
 exact decide_eq_false (by omega)
end
section
variable {X:Cx}
noncomputable def rAppend:V→List V→Hp→VK→Prop:=fun x vs H Q=>∃l xs y,x=.ref l∧vs=[y]∧H l=some (.lst xs)∧xs.length<sizeLine∧Q .non (upd H l (.lst (xs++[y])))
theorem mt_append:MtM X "list.append" rAppend:=by
 intro pins s σ H x vs v us Q I rx rv h
 obtain ⟨l,xs,y,rfl,rfl,hH,hz,q⟩:=h
 cases rx
 obtain ⟨u,rfl,ru⟩:=rv.one
 obtain ⟨z,its,n,r,hl,e⟩:=I.lstM hH
 refine call_meets F.slot_list_append ⟨_,e,rfl⟩ F.entry_list_append (F.args_list_append_2 _ _) (PySem.list_append l its.toArray n u (by rw [List.size_toArray];omega)) ⟨e,?_⟩
 refine ⟨.non,_,I.lset (its':=its++[u]) hH e (by simp) (r.append (.cons ru .nil)) ?_,rfl,q⟩
 rw [List.length_append,List.length_singleton]
 omega
noncomputable def rExtend:V→List V→Hp→VK→Prop:=fun x vs H Q=>∃l b xs zs,x=.ref l∧vs=[.ref b]∧H l=some (.lst xs)∧H b=some (.lst zs)∧xs.length+zs.length≤sizeLine∧Q .non (upd H l (.lst (xs++zs)))
theorem mt_extend:MtM X "list.extend" rExtend:=by
 intro pins s σ H x vs v us Q I rx rv h
 obtain ⟨l,b,xs,zs,rfl,rfl,hH,hB,hz,q⟩:=h
 cases rx
 obtain ⟨u,rfl,ru⟩:=rv.one
 cases ru
 obtain ⟨z,its,n,r,hl,e⟩:=I.lstM hH
 obtain ⟨z2,its2,n2,r2,hl2,e2⟩:=I.lstM hB
 have hsz:its.toArray.size+its2.toArray.size≤sizeLine:=by rw [List.size_toArray,List.size_toArray];omega
 have hlong:¬(!its.toArray.isEmpty&&Builtin.List.listTooLong (its.toArray.size+its2.toArray.size))=true:=by
  rw [notLongL hsz,Bool.and_false]
  exact Bool.false_ne_true
 refine call_meets F.slot_list_extend ⟨_,e,rfl⟩ F.entry_list_extend (F.args_list_extend_2 _ _)
  (AutoSeq1.list_extend_list_list_0 l its.toArray n b its2.toArray n2 hlong (by rw [List.size_toArray];omega) (by omega)) ⟨e,e2,?_⟩
 refine ⟨.non,_,I.lset (its':=its++its2) hH e (by simp) (r.append r2) ?_,rfl,q⟩
 rw [List.length_append]
 omega
noncomputable def rCat:R2:=fun x y H Q=>∃l b xs zs,x=.ref l∧y=.ref b∧H l=some (.lst xs)∧H b=some (.lst zs)∧xs.length+zs.length≤sizeLine∧∀p,H p=none→Q (.ref p) (upd H p (.lst (xs++zs)))
theorem op_cat:OpR X (binaryOp .Add) rCat:=by
 intro pins s σ H x y v u Q I rx ry h
 obtain ⟨l,b,xs,zs,rfl,rfl,hH,hB,hz,q⟩:=h
 cases rx
 cases ry
 obtain ⟨z,its,n,r,hl,e⟩:=I.lstM hH
 obtain ⟨z2,its2,n2,r2,hl2,e2⟩:=I.lstM hB
 refine PySem.P.add_list e e2 ?_ (by rw [List.size_toArray,List.size_toArray];omega)
 have ea:its.toArray++its2.toArray=(its++its2).toArray:=by simp
 rw [ea]
 exact ⟨.ref _,_,I.lnew (t':=s.toks) (r.append r2) (by rw [List.length_append];omega),rfl,q _ I.fresh⟩
noncomputable def rRep:R2:=fun x y H Q=>∃l k xs,x=.ref l∧y=.int k∧H l=some (.lst xs)∧-(2 ^ 63)≤k∧k<2 ^ 63∧xs.length*k.toNat≤sizeLine∧
 ∀p,H p=none→Q (.ref p) (upd H p (.lst (List.replicate k.toNat xs).flatten))
theorem len_rep {α:Type}(xs:List α)(k:Nat):(List.replicate k xs).flatten.length=k*xs.length:=by
 induction k with
 | zero=>simp
 | succ k ih=>rw [List.replicate_succ,List.flatten_cons,List.length_append,ih,Nat.succ_mul,Nat.add_comm]
theorem op_rep:OpR X (binaryOp .Mult) rRep:=by
  intro pins s σ H x y v u Q I rx ry h
  obtain ⟨l,k,xs,rfl,rfl,hH,h1,h2,hz,q⟩:=h
  cases rx
  obtain ⟨t,rfl⟩:=ry
  obtain ⟨z,its,n,r,hl,e⟩:=I.lstM hH
  have hlen:its.toArray.size*k.toNat≤sizeLine:=by rw [List.size_toArray,← hl];exact hz
  have hcap:¬its.toArray.size*k.toNat > (2 ^ 63 - 1) / 8:=by
    have:(sizeLine:Nat)≤(2 ^ 63 - 1) / 8:=by decide
    omega
  have hfit:¬(!Builtin.List.listFitsIndex k)=true:=by
    rw [fitsIndex_both h1 h2]
    exact Bool.false_ne_true
  have hlong:¬Builtin.List.listTooLong (its.toArray.size*k.toNat)=true:=by
    rw [notLongL hlen]
    exact Bool.false_ne_true
  have hnew:List.foldl (fun x1 x2=>x1++x2) #[] (List.replicate (if its.toArray.isEmpty=true then 0 else k.toNat) its.toArray)=(List.replicate k.toNat its).flatten.toArray:=by
    have f0:∀m:Nat,List.foldl (fun x1 x2=>x1++x2) #[] (List.replicate m its.toArray)=(List.replicate m its).flatten.toArray:=fun m=>by
      have:=foldl_rep its m []
      rw [List.nil_append] at this
      exact this
    rw [f0]
    cases its with
    | nil=>simp
    | cons a r'=>rw [if_neg (by simp)]
  refine wpAny_binaryOp_repeat_ref (T:="list") (U:="int") (by decide) ⟨_,e,rfl⟩ (fun s'=>typeIs_int s' k t) noFill_list_mul F.fills_int_mul F.slot_int_rmul repeat_list F.slot_int_index.lookup
    (call_meets F.slot_int_rmul (typeIs_int s k t) F.entry_int_rmul (F.args_int_rmul_2 _ _) (int___rmul___int_list k t l its.toArray n)
      ⟨e,rfl,⟨_,e,rfl⟩,call_meets F.slot_list_mul ⟨_,e,rfl⟩ F.entry_list_mul (F.args_list_mul_2 _ _) (AutoListH.list___mul___list_int_3 l its.toArray n k t hfit hcap hlong) ⟨e,?_⟩⟩)
  rw [hnew]
  exact ⟨.ref _,_,I.lnew (t':=s.toks) (r.rep k.toNat) (by rw [len_rep,Nat.mul_comm];exact hz),rfl,q _ I.fresh⟩
end
section
variable {prog:Program}{w:World}{A:Around}{E:Value→Shared→Prop}{s:Shared}
set_option maxRecDepth 100000 in
end
section
variable {X:Cx}
end
end L2
namespace Att
open PySem PySem.W PySem.Calls PyProof.Rows
theorem ints_of_wellAll {P:Params}{h:Heap}:∀(ns:List Int) (vs:List Value),WellAll P h vs (ns.map WData.int)→IntsAre vs ns:=by
 intro ns
 induction ns with
 | nil =>
  intro vs w
  rw [List.map_nil] at w
  cases w
  exact .nil
 | cons n ns ih =>
  intro vs w
  rw [List.map_cons] at w
  cases w with
  | cons a b =>
   cases a
   exact .cons _ _ (ih _ b)
theorem script_of {l:OpenLaw}{n:Nat}(hn:l.most=some n){P:Params}{h:Heap}{args:List WData}{vals:List Value}
  (hpre:l.row.toRowW.claim.pre args=true) (hwl:WellAll P h vals args) :
  ∃a vs ns,vals=[Value.ref a]∧args=[WData.list (ns.map WData.int)]∧h.get? a=some { cls:=.type "list",data:=.seq vs.toArray }∧IntsAre vs ns∧ns.length≤n:=by
 have hsh:WShape.hasAll [] args [.list .int]=true:=(pre_splitW hpre).1
 have hc:l.pre.holds [] { args:=args }=true:=(pre_splitW hpre).2
 obtain ⟨d,r,rfl,h1,h2⟩:=hasAllW_cons hsh
 obtain rfl:=hasAllW_nil h2
 obtain ⟨xs,rfl,h3⟩:=hasW_list h1
 obtain ⟨ns,rfl⟩:=items_int h3
 have hlen:ns.length≤n:=by
  unfold OpenLaw.pre at hc
  have h4:(WTm.not (.lt (.lit (.int (n:Int))) (.len (.arg 0)))).holds [] { args:=[.list (ns.map .int)] }=true:=by
   have h4:=(holds_andW hc).1
   rw [hn] at h4
   exact h4
  have h5:=condW_of h4 (w_not (w_lt w_lit (w_len_list (w_arg rfl))))
  rw [List.length_map] at h5
  refine Nat.le_of_not_lt fun q=>?_
  have q':(n:Int)<((ns.length:Nat):Int):=by omega
  first
   | (rw [decide_eq_true q'] at h5;exact absurd h5 (by decide))
   | (simp at h5;omega)
 cases hwl with
 | cons w1 w2 =>
  cases w2
  cases w1 with
  | list ho hall=>exact ⟨_,_,ns,rfl,rfl,ho,ints_of_wellAll ns _ hall,hlen⟩
theorem post_true (l:OpenLaw)(args:List WData):l.row.toRowW.claim.post args (.bool true) args=true :=
 postW_of (r:=l.row.toRowW) (X:=(true==true))
  (show WShape.has [] (.bool true) .bool=true by first | rfl | decide | simp [WShape.has,WShape.arms,WShape.armsAll])
  (show (WTm.eq .res (.lit (.bool true))).value [] { args:=args,res:=some (.bool true),after:=args }=some (.bool (true==true)) from w_eq_bool (w_res rfl) w_lit) rfl
theorem attach_call {l:OpenLaw}{n:Nat}{q:Program}{loose:List Str}{XP:(Str→Option Value)→Heap→Prop}{YP:World→Heap→Prop}{d:DefRec}
    (hn:l.most=some n) (hdf:d.params.defaults=[])
    (call:∀(w:World) (s₀ s₁:Shared) (mg mb:Str→Option Value) (fa:Addr) (o:Obj) (pm cd doc:Value) (a:Addr) (vs:List Value) (ns:List Int),
      Ground q loose [] XP w s₀ mg mb s₁.heap→YP w s₁.heap→
      s₁.heap.get? fa=some o→o.data=.func (docDef d.name d.params d.body d.scope pm cd doc)→s₁.heap.CodeRec cd d.name→mg d.name=some (.ref fa)→
      s₁.heap.get? a=some { cls:=.type "list",data:=.seq vs.toArray }→IntsAre vs ns→ns.length≤n→s₁.gens=#[]→
      codeAny (model l.prog w) callerA (.call (.ref fa) ⟨[.ref a],[]⟩) (fun r s'=>r=.ok (.ret (.bool true))∧OldK s₁.heap s'.heap∧s'.os=s₁.os∧AllBare s'.gens) s₁) :
    WalkO q loose XP YP l.row.toRowW d [] (fun f vs=>PySem.call f vs):=by
  intro w s₀ s₁ mg mb G Y fa o pm cd doc dV kV ho hd hcd hD hmg hg args vals as hpre hlay hrd hwl hlo
  obtain rfl:dV=.none:=Dflts.none hD hdf
  obtain rfl:kV=.none:=Dflts.noKw hD
  obtain ⟨a,vs,ns,rfl,rfl,hobj,hints,hlen⟩:=script_of hn hpre hwl
  refine enter_call (codeAny_mono (call w s₀ s₁ mg mb fa o pm cd doc a vs ns G Y ho (fd_plain hd) hcd hmg hobj hints hlen hg) fun r s' hq=>?_)
  obtain ⟨rfl,h2,h3,h4⟩:=hq
  exact ⟨.inl ⟨.bool true,.bool true,[],rfl,fun _=>rfl,.bool true,post_true l _,fun _=>⟨List.Pairwise.nil,fun _ hm=>(nomatch hm)⟩⟩,h2,h3,h4⟩
section
variable {prog:Program}{w:World}{A:Around}{E:Value→Shared→Prop}{s:Shared}{K:Frag}
end
end Att
namespace L2
open PySem PySem.Spec PyProof.Rows
theorem vals_ints:∀{vs:List Value} {ns:List Int},IntsAre vs ns→Vals (ns.map V.int) vs
 | _,_,.nil=>.nil
 | _,_,.cons n t h=>.cons ⟨t,rfl⟩ (vals_ints h)
noncomputable def Only (H:Hp):Prop:=∀b,H b=none∨∃o xs,H b=some (.frz o (.lst xs))
theorem law_call {P:Program}{w:World}{K:PySem.W.Frag}{mg mb:Str→Option Value}{CX:CXT}{k:Nat}{fa a:Addr}{fd:FuncData}{x:Str}{sp:Sp}{s₁:Shared}{vs:List Value}{ns:List Int}
    (KX:K.In s₁.heap) (hns:s₁.heap.Ns mainGlobals mg) (hb:s₁.heap.Ns builtinsNs mb) (hbb:∀x:Str,x≠"__name__"→mb x=bootBuiltins x) (hlim:s₁.heap.NoLimit) (hg:s₁.gens=#[])
    (ha:s₁.heap.get? a=some { cls:=.type "list",data:=.seq vs.toArray }) (hi:IntsAre vs ns) (hl:ns.length≤sizeLine) (hr:Room k callerA)
    (F:∀base:Heap,K.In base→base.Ns mainGlobals mg→FnOk P w K mg base CX k fa fd [x] sp) (hbind:∀(s:Shared) (u:Value),BindsTo s fd ⟨[u],[]⟩ [(x,u)])
    (hsp:∀H:Hp,Only H→SqL K H a (ns.map V.int)→sp [.ref a] H (fun v _=>v=.bl true) fun _ _ _=>False)
    (hCX:∀H e s',CX [] H s₁ (fun _ _ _=>False) e s'→False) :
    codeAny (model P w) callerA (.call (.ref fa) ⟨[.ref a],[]⟩) (fun r s'=>r=.ok (.ret (.bool true))∧OldK s₁.heap s'.heap∧s'.os=s₁.os∧AllBare s'.gens) s₁:=by
  have rv:=vals_ints hi
  have lenV:=hi.length
  have core:∀H:Hp,Only H→SqL K H a (ns.map V.int)→HOk P w H s₁.heap→(∀b,H b≠none→b=a)→(H a≠none→K.lookup a=none)→
      codeAny (model P w) callerA (.call (.ref fa) ⟨[.ref a],[]⟩) (fun r s'=>r=.ok (.ret (.bool true))∧OldK s₁.heap s'.heap∧s'.os=s₁.os∧AllBare s'.gens) s₁:=by
    intro H hO hS hok hA hK
    have base_of:∀{b:Addr} {o:Obj},s₁.heap.get? b=some o→H b=none→(hidT s₁.heap H).get? b=some o:=fun e n=>hidT_get e n
    have noA:∀{b:Addr} {o:Obj} {es:Array DictEntry} {ep:Nat},s₁.heap.get? b=some o→o.data=.dict es ep→H b=none:=fun {b o es ep} e d=>by
      cases q:H b with
      | none=>rfl
      | some u =>
        have e':b=a:=hA b (by rw [q];simp)
        subst e'
        rw [ha] at e;cases e
        have d':Data.seq vs.toArray _=Data.dict es ep:=d
        cases d'
    have nsK:∀{b:Addr} {m:Str→Option Value},s₁.heap.Ns b m→(hidT s₁.heap H).Ns b m:=fun {b m} ⟨o,es,ep,e,d,r⟩=>⟨o,es,ep,base_of e (noA e d),d,r⟩
    have hKb:K.In (hidT s₁.heap H):=fun b o e=>base_of (KX b o e) (by
      cases q:H b with
      | none=>rfl
      | some u =>
        have e':b=a:=hA b (by rw [q];simp)
        subst e'
        rw [hK (by rw [q];simp)] at e;cases e)
    have hM:Mod K mg (hidT s₁.heap H):=⟨hKb,nsK hns,⟨mb,nsK hb,hbb⟩,let ⟨mc,h1,h2⟩:=hlim;⟨mc,nsK h1,h2⟩⟩
    have e0:Env0 P w K mg (hidT s₁.heap H) callerA [] s₁ H:=⟨rfl,hM,fun b o e=>of_hidT e,Nat.le_of_eq (hidT_size _ _),trivial,fun b hb=>absurd (show b∈([]:List Addr) from hb) (by simp),hok,.of_eq hg⟩
    refine codeAny_mono ((F _ hKb (nsK hns)).run callerA [] s₁ H ⟨[.ref a],[]⟩ [.ref a] [.ref a] _ _ hr e0 (hbind s₁ (.ref a)) (.cons rfl .nil) (hsp H hO hS)) fun r s' h=>?_
    cases r with
    | error e=>exact (hCX H e s' h).elim
    | ok fl =>
      cases fl with
      | next=>exact False.elim h
      | brk=>exact False.elim h
      | cont=>exact False.elim h
      | ret u =>
        obtain ⟨v,H',os,bare,un,hok',r',q⟩:=h
        have q':v=.bl true:=q
        subst q'
        obtain rfl:u=Value.bool true:=r'
        refine ⟨rfl,OldK.of_keep fun b o e=>?_,os,bare⟩
        cases q:H b with
        | none=>exact un.keep b o e q (by intro z;exact absurd (show b∈([]:List Addr) from z) (by simp)) (by simp)
        | some u =>
          rcases hO b with z | ⟨ob,xs,z⟩
          · rw [q] at z;cases z
          · have z2:=un.frzs b ob _ z
            obtain ⟨e1,_⟩:=hok b _ z
            obtain ⟨e2,_⟩:=hok' b _ z2
            rw [e] at e1;cases e1
            exact e2
  cases hk:K.lookup a with
  | some o =>
    have e:=KX a o hk
    rw [ha] at e
    cases e
    refine core (fun _=>none) (fun _=>.inl rfl) (.inr ⟨_,vs.toArray,_,hk,rfl,rfl,rfl,by rw [List.size_toArray,lenV];exact hl,by simpa using rv⟩) (fun b u z=>by have z':(none:Option HO)=some u:=z;cases z') (fun b z=>absurd rfl z) fun z=>absurd rfl z
  | none =>
    refine core (fun b=>if b=a then some (.frz { cls:=.type "list",data:=.seq vs.toArray } (.lst (ns.map V.int))) else none) (fun b=>?_) (.inl (.inr ⟨{ cls:=.type "list",data:=.seq vs.toArray },if_pos rfl⟩)) (fun b u z=>?_) (fun b z=>?_) fun _=>hk
    · by_cases hb:b=a
      · exact .inr ⟨_,_,if_pos hb⟩
      · exact .inl (if_neg hb)
    · by_cases hb:b=a
      · have z':=(if_pos hb).symm.trans z
        cases z'
        subst hb
        exact ⟨ha,by rw [List.length_map];exact hl,vs,_,rv,ha⟩
      · have z':=(if_neg hb).symm.trans z
        cases z'
    · by_cases hb:b=a
      · exact hb
      · exact absurd (if_neg hb) z
end L2
namespace L2
open PySem PySem.Spec PyProof.Rows
noncomputable abbrev KOf {K:PySem.W.Frag}{h:Heap}(_:K.In h):PySem.W.Frag:=K
theorem walk_of {l:PySem.W.OpenLaw}{n k:Nat}{q:Program}{loose:List Str}{XP:(Str→Option Value)→Heap→Prop}{YP:World→Heap→Prop}{d:DefRec}{K:Params→PySem.W.Frag}{CX:World→CXT}{sp:World→Sp}{x:Str}
    (hn:l.most=some n) (hn2:n≤sizeLine) (hdf:d.params.defaults=[]) (hr:Room k callerA)
    (hY:∀(w:World) (h:Heap),YP w h→(K w.params).In h)
    (F:∀(w:World) (mg:Str→Option Value) (fa:Addr) (h:Heap),(K w.params).In h→h.Ns mainGlobals mg→mg d.name=some (.ref fa)→
      ∃fd:FuncData,(∀(s:Shared) (u:Value),BindsTo s fd ⟨[u],[]⟩ [(x,u)])∧
        ∀base:Heap,(K w.params).In base→base.Ns mainGlobals mg→FnOk l.prog w (K w.params) mg base (CX w) k fa fd [x] (sp w))
    (hsp:∀(w:World) (H:Hp) (a:Addr) (ns:List Int),ns.length≤n→Only H→SqL (K w.params) H a (ns.map V.int)→sp w [.ref a] H (fun v _=>v=.bl true) fun _ _ _=>False)
    (hCX:∀(w:World) (H:Hp) (s:Shared) (e:Value) (s':Shared),CX w [] H s (fun _ _ _=>False) e s'→False) :
    PySem.W.WalkO q loose XP YP l.row.toRowW d [] (fun f vs=>PySem.call f vs):=by
  refine Att.attach_call hn hdf fun w s₀ s₁ mg mb fa o pm cd doc a vs ns G Y ho hd hcd hmg hobj hints hlen hg=>?_
  have KX:=hY w _ Y
  obtain ⟨fd,hb,hF⟩:=F w mg fa _ KX G.T.g hmg
  exact law_call KX G.T.g G.T.b G.T.builtins G.T.nolimit hg hobj hints (Nat.le_trans hlen hn2) hr hF hb (fun H hO hS=>hsp w H a ns hlen hO hS) fun H e s'=>hCX w H s₁ e s'
end L2
namespace L2
open PySem PySem.Spec PyProof.Rows
noncomputable def inClass (s:Stmt)(j:Nat):Stmt:=match s with
 | .ClassDef _ _ _ body _ _ _ _ _ _ _=>body.getD j (.Pass ⟨0,0,0,0⟩)
 | _=>.Pass ⟨0,0,0,0⟩
noncomputable def defArgs (s:Stmt):Arguments:=match s with
 | .FunctionDef _ a _ _ _ _ _ _ _ _=>a
 | _=>{ posonlyargs:=[],args:=[],vararg:=none,kwonlyargs:=[],kw_defaults:=[],kwarg:=none,defaults:=[] }
noncomputable def defBody (s:Stmt):List Stmt:=match s with
 | .FunctionDef _ _ b _ _ _ _ _ _ _=>b
 | _=>[]
noncomputable def defScope (s:Stmt):Scope:=match s with
 | .FunctionDef _ _ _ _ _ _ sc _ _ _=>sc
 | _=>{ kind:=.function,names:=[],isGenerator:=false,isCoroutine:=false }
noncomputable abbrev CX0:CXT:=fun _ _ _ _ _ _=>False
noncomputable abbrev E0:XK:=fun _ _ _=>False
theorem pass0 {X:Cx}:Passes CX0 X E0:=fun _ _ _ _ _ _ _ h=>h.elim
structure Fun (K:PySem.W.Frag)(x qual:Str)(st:Stmt)(f:Addr)(fd:FuncData):Prop where
 ex:∃(oc:Value) (od:Option Addr) (kV doc pm:Value) (an:Option Addr) (cdv ct:Value) (osl:Array (Option Value)),
  fd=PySem.W.fnOf x qual (defArgs st) (defBody st) (defScope st) .none kV doc pm an cdv ct∧K.lookup f=some ⟨oc,od,.func fd,osl⟩∧PySem.W.codeIn K cdv qual=true
 kp:PySem.W.keepIn K (.ref f)=true
section
variable {P:Program}{w:World}{K:PySem.W.Frag}{mg:Str→Option Value}{base:Heap}
theorem Fun.ok {x qual:Str}{st:Stmt}{f:Addr}{fd:FuncData}{N ps:List Str}{k:Nat}{sp:Sp}(F:Fun K x qual st f fd)(S:FnScope N ps (defScope st))(len:∀vs H Q E,sp vs H Q E→vs.length=ps.length)
    (hbody:∀(cdv:Value) (A:Around) (outer:List Env) (s:Shared) (H:Hp) (vs:List V) (Q:VK) (E:XK),Room k (A.deeper (envOfC qual (defScope st) s.heap.objs.size f cdv))→sp vs H Q E→
      ∃t,PSs (cxOf CX0 P w K mg base N qual (defScope st) f cdv A outer s H E).nox (defBody st) t∧t { nx:=fun _ H'=>Q .non H',rt:=Q } (start N vs) H):FnOk P w K mg base CX0 (k+1) f fd ps sp:=by
  obtain ⟨oc,od,kV,doc,pm,an,cdv,ct,osl,rfl,lk,hcd⟩:=F.ex
  refine fn_of lk hcd S len fun A outer s H vs Q E hr hsp=>?_
  obtain ⟨t,h,q⟩:=hbody cdv A outer s H vs Q E hr hsp
  exact ⟨t,h.nox,q⟩
theorem Fun.binds {x qual:Str}{st:Stmt}{f:Addr}{fd:FuncData}{ps:List Str}(F:Fun K x qual st f fd)
  (h:∀(kV doc pm:Value) (an:Option Addr) (cdv ct:Value) (us:List Value),us.length=ps.length→bindArgs (PySem.W.fnOf x qual (defArgs st) (defBody st) (defScope st) .none kV doc pm an cdv ct) ⟨us,[]⟩=pure (ps.zip us)):Binds K fd ps []:=by
 obtain ⟨oc,od,kV,doc,pm,an,cdv,ct,osl,rfl,lk,hcd⟩:=F.ex
 exact .all (h kV doc pm an cdv ct)
theorem Zbq {x qual:Str}{st:Stmt}{f:Addr}{oc:Value}{od an:Option Addr}{osl:Array (Option Value)}{kV doc pm cdv ct:Value}(l:K.lookup f=some ⟨oc,od,.func (PySem.W.fnOf x qual (defArgs st) (defBody st) (defScope st) .none kV doc pm an cdv ct),osl⟩)
  (c:PySem.W.codeIn K cdv qual=true) (k:PySem.W.keepIn K (.ref f)=true):Fun K x qual st f (PySem.W.fnOf x qual (defArgs st) (defBody st) (defScope st) .none kV doc pm an cdv ct):=⟨⟨oc,od,kV,doc,pm,an,cdv,ct,osl,rfl,l,c⟩,k⟩
end
section
variable {X:Cx}
theorem pv (i:Nat){x:Str}{pos:Pos}(hN:autoParam (X.N[i]?=some x) aT2._auto_1)(hv:autoParam (Vis X.env.scope x) aT3._auto_1)(hd:autoParam ((x==("__debug__":Str))=false) aT1._auto_1)
  (hcd:autoParam ((x==("__classdict__":Str))=false) aT1._auto_1):PE X (.Name x pos) (tVar i):=pe_var hN hv hd hcd
end
noncomputable def Same (H H':Hp):Prop:=∀b o,H b=some o→H' b=some o
theorem Same.refl (H:Hp):Same H H:=fun _ _ h=>h
theorem Same.trans {H H1 H2:Hp}(a:Same H H1)(b:Same H1 H2):Same H H2:=fun c o h=>b c o (a c o h)
theorem Same.free {H H':Hp}(e:Same H H'){l:Addr}(h:H' l=Option.none):H l=Option.none:=by
 cases q:H l with
 | none=>rfl
 | some o =>
  rw [e l o q] at h
  cases h
end L2
namespace L2
open PySem PySem.Spec PyProof.Rows
theorem Zaq {a b:Expr}{op:Operator}{pos:Pos}{es:List Expr}{env:Env}:starEach (.BinOp a op b pos::es) env=(false,eval (.BinOp a op b pos) env)::starEach es env:=rfl
theorem Zab {c:Const}{k:Nat}{pos:Pos}{es:List Expr}{env:Env}:starEach (.Constant c k pos::es) env=(false,eval (.Constant c k pos) env)::starEach es env:=rfl
theorem Zaa {x:Str}{pos:Pos}{es:List Expr}{env:Env}:starEach (.Name x pos::es) env=(false,eval (.Name x pos) env)::starEach es env:=rfl
theorem Zdc {a b:Expr}{pos:Pos}{es:List Expr}{env:Env}:starEach (.Subscript a b pos::es) env=(false,eval (.Subscript a b pos) env)::starEach es env:=rfl
theorem Zba {a:Expr}{as:List Expr}{ks:List Keyword}{pos:Pos}{es:List Expr}{env:Env}:starEach (.Call a as ks pos::es) env=(false,eval (.Call a as ks pos) env)::starEach es env:=rfl
theorem Zdu {as:List Expr}{pos:Pos}{es:List Expr}{env:Env}:starEach (.List as pos::es) env=(false,eval (.List as pos) env)::starEach es env:=rfl
theorem Zfa {as:List Expr}{k:Nat}{pos:Pos}{es:List Expr}{env:Env}:starEach (.Tuple as k pos::es) env=(false,eval (.Tuple as k pos) env)::starEach es env:=rfl
theorem star_un {op:UnaryOp}{a:Expr}{pos:Pos}{es:List Expr}{env:Env}:starEach (.UnaryOp op a pos::es) env=(false,eval (.UnaryOp op a pos) env)::starEach es env:=rfl
theorem Zff {a:Expr}{x:Str}{pos:Pos}{es:List Expr}{env:Env}:starEach (.Attribute a x pos::es) env=(false,eval (.Attribute a x pos) env)::starEach es env:=rfl
theorem Zfc {a:Expr}{gs:List Comprehension}{sc:Scope}{pos:Pos}{es:List Expr}{env:Env}:starEach (.ListComp a gs sc pos::es) env=(false,eval (.ListComp a gs sc pos) env)::starEach es env:=rfl
theorem Zce {a b:Expr}{pos:Pos}:PlainIx (.Subscript a b pos):=fun _ _=>rfl
theorem Zav {x:Str}{pos:Pos}:PlainIx (.Name x pos):=fun _ _=>rfl
theorem Zal {c:Const}{k:Nat}{pos:Pos}:PlainIx (.Constant c k pos):=fun _ _=>rfl
theorem Zbw {a b:Expr}{op:Operator}{pos:Pos}:PlainIx (.BinOp a op b pos):=fun _ _=>rfl
theorem Zdi {a:Expr}{op:UnaryOp}{pos:Pos}:PlainIx (.UnaryOp op a pos):=fun _ _=>rfl
noncomputable def rAddA:R2:=fun x y H Q=>rI0 (fun i j=>.int (i+j)) x y H Q∨(∃i j,x=.str i∧y=.str j∧i.length+j.length≤sizeLine∧Q (.str (i++j)) H)∨rCat x y H Q
noncomputable def rMulA:R2:=fun x y H Q=>rI CMul (fun i j=>.int (i*j)) x y H Q∨rRep x y H Q
noncomputable def CDivL (_ j:Int):Prop:=0<j∧j<2 ^ 200
section
variable {X:Cx}
theorem Zas:OpR X (binaryOp .Add) rAddA:=op_add.or (Zht.or op_cat)
theorem Zbm:OpR X (binaryOp .Mult) rMulA:=op_mul.or op_rep
theorem log2_small {j:Int}(h1:0<j)(h2:j<2 ^ 200):j.natAbs.log2<9000:=by
 have h3:j.natAbs<2 ^ 200:=by omega
 exact Nat.lt_trans ((Nat.log2_lt (by omega)).mpr h3) (by decide)
theorem Zhm:OpR X (binaryOp .FloorDiv) (rI CDivL fun i j=>.int (i / j)):=opI fun i j _ _ _ _ _ hc q=>by
 have h1:(0:Int)<j:=hc.1
 have h2:j<2 ^ 200:=hc.2
 exact floordiv_int (by omega) (by rw [Int.fdiv_eq_ediv_of_nonneg i (by omega)];exact q) (.inl (PyProof.noPylong_of_log2 (log2_small h1 h2)))
end
mutual
inductive Dn (K:PySem.W.Frag)(H:Hp):V→PyData→Prop
 | non:Dn K H .non .none
 | bl (b:Bool):Dn K H (.bl b) (.bool b)
 | int (i:Int):Dn K H (.int i) (.int i)
 | str (x:Str):Dn K H (.str x) (.str x)
 | lst {a:Addr} {xs:List V} {ds:List PyData}:SqL K H a xs→DnA K H xs ds→Dn K H (.ref a) (.list ds)
 | tup {a:Addr} {xs:List V} {ds:List PyData}:SqT K H a xs→DnA K H xs ds→Dn K H (.ref a) (.tuple ds)
inductive DnA (K:PySem.W.Frag)(H:Hp):List V→List PyData→Prop
 | nil:DnA K H [] []
 | cons {x:V} {d:PyData} {xs:List V} {ds:List PyData}:Dn K H x d→DnA K H xs ds→DnA K H (x::xs) (d::ds)
end
section
variable {X:Cx}{pins:List (Addr×Obj)}{σ:St}{H:Hp}{s:Shared}
mutual
theorem Dn.reads (I:Inv X pins σ H s):∀{x:V} {d:PyData} {u:Value},Dn X.K H x d→RelV x u→∃as,Reads s.heap u d as
 | _,_,_,.non,r=>by cases (show _=Value.none from r);exact ⟨_,.none⟩
 | _,_,_,.bl b,r=>by cases (show _=Value.bool b from r);exact ⟨_,.bool b⟩
 | _,_,_,.int i,r=>by obtain ⟨t,q⟩:=(show ∃t,_=Value.int i t from r);cases q;exact ⟨_,.int i t⟩
 | _,_,_,.str x,r=>by obtain ⟨t,q⟩:=(show ∃t,_=Value.str x t from r);cases q;exact ⟨_,.str x t⟩
 | _,_,_,.lst (a:=a) h ra,r=>by
  cases (show _=Value.ref a from r)
  obtain ⟨its,rv,pl,_⟩:=I.list h
  obtain ⟨as,q⟩:=DnA.reads I ra rv
  obtain ⟨o,ho,hc,n,hd⟩:=pl.isList
  exact ⟨_,.list ho hc hd q⟩
 | _,_,_,.tup (a:=a) h ra,r=>by
  cases (show _=Value.ref a from r)
  obtain ⟨its,rv,pl,_⟩:=I.tuple h
  obtain ⟨as,q⟩:=DnA.reads I ra rv
  obtain ⟨o,ho,hc,n,hd⟩:=pl
  exact ⟨_,.tuple ho hc hd q⟩
theorem DnA.reads (I:Inv X pins σ H s):∀{xs:List V} {ds:List PyData} {us:List Value},DnA X.K H xs ds→Vals xs us→∃as,ReadsAll s.heap us ds as
 | _,_,_,.nil,.nil=>⟨_,.nil⟩
 | _,_,_,.cons h ra,.cons r rs=>by
  obtain ⟨as,q⟩:=Dn.reads I h r
  obtain ⟨bs,q'⟩:=DnA.reads I ra rs
  exact ⟨_,.cons q q'⟩
end
end
noncomputable def rEqD (K:PySem.W.Frag):R2:=fun x y H Q=>∃dx dy,Dn K H x dx∧Dn K H y dy∧SeqAt.shaped dx=true∧SeqAt.shaped dy=true∧Q (.bl (PyData.eqv dx dy)) H
noncomputable def rNeD (K:PySem.W.Frag):R2:=fun x y H Q=>∃dx dy,Dn K H x dx∧Dn K H y dy∧SeqAt.shaped dx=true∧SeqAt.shaped dy=true∧Q (.bl (!PyData.eqv dx dy)) H
noncomputable def rEqA (K:PySem.W.Frag):R2:=fun x y H Q=>rEq x y H Q∨rEqD K x y H Q
noncomputable def rNeA (K:PySem.W.Frag):R2:=fun x y H Q=>rNe x y H Q∨rNeD K x y H Q
section
variable {X:Cx}
theorem op_eqD (hu:X.A.units+64<cLine):OpR X (compareOp .Eq) (rEqD X.K):=by
 intro pins s σ H x y v u Q I rx ry h
 obtain ⟨dx,dy,h1,h2,s1,s2,q⟩:=h
 obtain ⟨as,ra⟩:=h1.reads I rx
 obtain ⟨bs,rb⟩:=h2.reads I ry
 exact eq_dataH ra rb s1 s2 hu ⟨.bl _,H,I,rfl,q⟩
theorem op_neD (hu:X.A.units+64<cLine):OpR X (compareOp .NotEq) (rNeD X.K):=by
 intro pins s σ H x y v u Q I rx ry h
 obtain ⟨dx,dy,h1,h2,s1,s2,q⟩:=h
 obtain ⟨as,ra⟩:=h1.reads I rx
 obtain ⟨bs,rb⟩:=h2.reads I ry
 exact ne_dataH ra rb s1 s2 hu ⟨.bl _,H,I,rfl,q⟩
theorem Zew (hu:X.A.units+64<cLine):OpR X (compareOp .Eq) (rEqA X.K):=op_eq.or (op_eqD hu)
theorem op_neA (hu:X.A.units+64<cLine):OpR X (compareOp .NotEq) (rNeA X.K):=op_ne.or (op_neD hu)
end
noncomputable def rLenA (K:PySem.W.Frag):List V→Hp→VK→Prop:=fun xs H Q=>(∃p ys,xs=[.ref p]∧(SqL K H p ys∨SqT K H p ys)∧Q (.int ys.length) H)∨∃z,xs=[.str z]∧z.length≤sizeLine∧Q (.int z.length) H
noncomputable def rSum (K:PySem.W.Frag):List V→Hp→VK→Prop:=fun xs H Q=>∃(p:Addr) (ns:List Int),xs=[.ref p]∧SqL K H p (ns.map V.int)∧Q (.int ns.sum) H
noncomputable def rIsI (K:PySem.W.Frag):List V→Hp→VK→Prop:=fun xs H Q=>∃x c t b,xs=[x,.ty c]∧TyOf K H x t∧PySem.W.kitOne K t (.type c)=some b∧Q (.bl b) H
noncomputable def rngV (lo:Int)(n:Nat):List V:=(List.range n).map fun (k:Nat)=>V.int (lo+(k:Int))
noncomputable def rList (K:PySem.W.Frag):List V→Hp→VK→Prop:=fun xs H Q=>(∃p ys,xs=[.ref p]∧(SqL K H p ys∨SqT K H p ys)∧∀l,H l=none→Q (.ref l) (upd H l (.lst ys)))∨
 ∃p i j,xs=[.ref p]∧H p=some (.rng i j)∧-(2 ^ 62)≤i∧i<2 ^ 62∧-(2 ^ 62)≤j∧j<2 ^ 62∧(j - i).toNat≤1000000∧∀l,H l=none→Q (.ref l) (upd H l (.lst (rngV i (j - i).toNat)))
section
variable {X:Cx}
theorem Zbj:CallR X (.builtin "len") (rLenA X.K):=Zgm.or Zgj
theorem Zhf (hc:X.calm=true):CallR X (.builtin "sum") (rSum X.K):=by
 intro pins s σ H xs us Q I r h
 obtain ⟨p,ns,rfl,hq,q⟩:=h
 obtain ⟨u,rfl,rx⟩:=vals1 r
 cases rx
 obtain ⟨its,rv,pl,hz⟩:=I.list hq
 have hi:IntsAre its ns:=intsAre_of rv
 obtain ⟨xs,hxs⟩:=hi.allInts.items
 have hn:numsOf its.toArray.toList=ns:=by rw [show its.toArray.toList=its from rfl,hi.numsOf]
 have hl:=pl.isList
 rw [hxs] at hl hn
 rw [nums_intItems] at hn
 refine sum_intListG (I.ok.hd hc) hl fun h' tk t' hk=>⟨.int ns.sum,H,I.kept hk,⟨t',?_⟩,q⟩
 rw [preSum_eq,List.take_of_length_le (by simp),hn]
theorem Zgr:CallR X (.builtin "isinstance") (rIsI X.K):=by
 intro pins s σ H xs us Q I r h
 obtain ⟨x,c,t,b,rfl,ty,e,q⟩:=h
 obtain ⟨u,w',rfl,rx,ry⟩:=vals2 r
 cases (show w'=Value.type c from ry)
 exact isinst_ok I rx ty e fun tk=>⟨.bl b,H,I.tok _,rfl,q⟩
theorem Zfy (hc:X.calm=true):CallR X (.type "list") (fun xs H Q=>∃p i j,xs=[.ref p]∧H p=some (.rng i j)∧-(2 ^ 62)≤i∧i<2 ^ 62∧-(2 ^ 62)≤j∧j<2 ^ 62∧(j - i).toNat≤1000000∧
    ∀l,H l=none→Q (.ref l) (upd H l (.lst (rngV i (j - i).toNat)))):=by
  intro pins s σ H xs us Q I r h
  obtain ⟨p,i,j,rfl,hH,h1,h2,h3,h4,h5,q⟩:=h
  obtain ⟨u,rfl,rx⟩:=vals1 r
  cases rx
  obtain ⟨t,u,v,e⟩:=I.hok p _ hH
  have en:Builtin.Range.rangeSize i j 1=(((j - i).toNat:Nat):Int):=by rw [rangeSize_one];split<;>omega
  refine call_list_range (n:=(j - i).toNat) (I.ok.hd hc) e (small_one h1 h2 h3 h4) en (Nat.le_trans h5 (by decide)) fun h' tk acc' c' hk hg hit=>?_
  refine ⟨.ref s.heap.objs.size,_,I.laid (t':=tk) hk (Nat.le_refl _) (show ObjOk X.prog X.w _ h' _ (.lst (rngV i (j - i).toNat)) from ⟨?_,acc'.toList,c',?_,?_⟩),rfl,q _ I.fresh⟩
  · unfold rngV
    rw [List.length_map,List.length_range]
    exact Nat.le_trans h5 (by decide)
  · obtain ⟨hsz,hv⟩:=hit
    have key:∀(k:Nat) (l:List Value) (lo:Int),l.length=k→(∀(m:Nat) (v:Value),l[m]?=some v→∃t,v=Value.int (lo+(m:Int)) t)→Vals (rngV lo k) l:=by
      intro k
      induction k with
      | zero =>
        intro l lo hl _
        rw [List.length_eq_zero_iff.mp hl]
        exact .nil
      | succ k ih =>
        intro l lo hl hv
        cases l with
        | nil=>simp at hl
        | cons x l =>
          obtain ⟨t,e⟩:=hv 0 x (by simp)
          have er:rngV lo (k+1)=V.int lo::rngV (lo+1) k:=by
            unfold rngV
            rw [List.range_succ_eq_map,List.map_cons,List.map_map]
            congr 1
            · simp
            · apply List.map_congr_left
              intro m _
              show V.int (lo+((m+1:Nat):Int))=V.int (lo+1+(m:Int))
              congr 1
              omega
          rw [er]
          refine .cons ⟨t,?_⟩ (ih l (lo+1) (by simpa using hl) fun m v hm=>?_)
          · rw [e]
            congr 1
            simp
          · obtain ⟨t',e'⟩:=hv (m+1) v (by simpa using hm)
            refine ⟨t',?_⟩
            rw [e']
            congr 1
            omega
    refine key _ _ i (by simpa using hsz) fun m v hm=>?_
    obtain ⟨t,e⟩:=hv m v (by simpa using hm)
    exact ⟨t,by rw [e];congr 1;omega⟩
  · simpa using hg
theorem Zdv (hc:X.calm=true):CallR X (.type "list") (rList X.K):=Zgd.or (Zfy hc)
end
structure Def (P:Program)(w:World)(K:PySem.W.Frag)(mg:Str→Option Value)(base:Heap)(CX:CXT)(k:Nat)(x:Str)(ps:List Str)(sp:Sp):Prop where
 ex:∃f fd,mg x=some (.ref f)∧PySem.W.keepIn K (.ref f)=true∧Binds K fd ps []∧FnOk P w K mg base CX k f fd ps sp
theorem pe_callD {X:Cx}{CX:CXT}{k:Nat}{ps:List Str}{sp:Sp}{E:XK}{x:Str}{p pos:Pos}{e:Expr}{es:List Expr}{t:TA}(D:Def X.prog X.w X.K X.mg X.base CX k x ps sp)(hr:Room k X.A)(hg:Gl X x)(hx:Passes CX X E)
  (ha:PA X (e::es) t) (hdb:autoParam ((x==("__debug__":Str))=false) aT1._auto_1) (he:autoParam (starEach (e::es) X.env=(false,eval e X.env)::starEach es X.env) aT2._auto_1) (hpl:autoParam ((backTo pos (starEach es X.env)).any (·.1)=false) aT2._auto_1) :
  PE X (.Call (.Name x p) (e::es) [] pos) (tCall sp [] E t):=by
 obtain ⟨f,fd,m,kp,b,F⟩:=D.ex
 exact pe_call F hr hg m kp b .nil hx ha hdb he hpl
section
variable {σ:St}{H:Hp}{Q:VK}{D:Ends}{K:PySem.W.Frag}
theorem rd_I {C:Int→Int→Prop}{g:Int→Int→V}{i j:Int}(c:C i j)(q:Q (g i j) H):rI C g (.int i) (.int j) H Q:=⟨i,j,rfl,rfl,c,q⟩
theorem rd_I0 {g:Int→Int→V}{i j:Int}(q:Q (g i j) H):rI0 g (.int i) (.int j) H Q:=⟨i,j,rfl,rfl,q⟩
theorem rd_U {g:Int→V}{i:Int}(q:Q (g i) H):rU g (.int i) H Q:=⟨i,rfl,q⟩
theorem rd_add {i j:Int}(q:Q (.int (i+j)) H):rAddA (.int i) (.int j) H Q:=.inl ⟨i,j,rfl,rfl,q⟩
theorem rd_mul {i j:Int}(c:CMul i j)(q:Q (.int (i*j)) H):rMulA (.int i) (.int j) H Q:=.inl ⟨i,j,rfl,rfl,c,q⟩
theorem rd_call {sp:Sp}{E:XK}{t:TA}(q:t σ H fun vs H1=>sp vs H1 Q E):tCall sp [] E t σ H Q:=by
 show t σ H fun vs H1=>sp (vs++[]) H1 Q E
 have e:(fun vs H1=>sp (vs++[]) H1 Q E)=fun vs H1=>sp vs H1 Q E:=by
  funext vs H1
  rw [List.append_nil]
 rw [e]
 exact q
theorem rd_ixL {p:Addr}{xs:List V}{i:Int}{v:V}(h:SqL K H p xs)(e:atI xs i=some v)(q:Q v H):rIx K (.ref p) (.int i) H Q:=.inl ⟨p,xs,i,v,rfl,rfl,h,e,q⟩
theorem rd_ixT {p:Addr}{xs:List V}{i:Int}{v:V}(h:SqT K H p xs)(e:atI xs i=some v)(q:Q v H):rIx K (.ref p) (.int i) H Q:=.inr (.inl ⟨p,xs,i,v,rfl,rfl,h,e,q⟩)
theorem rd_lenL {p:Addr}{ys:List V}(h:SqL K H p ys)(q:Q (.int ys.length) H):rLenA K [.ref p] H Q:=.inl ⟨p,ys,rfl,.inl h,q⟩
theorem rd_lenT {p:Addr}{ys:List V}(h:SqT K H p ys)(q:Q (.int ys.length) H):rLenA K [.ref p] H Q:=.inl ⟨p,ys,rfl,.inr h,q⟩
theorem rd_lenS {z:Str}(h:z.length≤sizeLine)(q:Q (.int z.length) H):rLenA K [.str z] H Q:=.inr ⟨z,rfl,h,q⟩
theorem rd_app {l:Addr}{xs:List V}{y:V}(h:H l=some (.lst xs))(hz:xs.length<sizeLine)(q:Q .non (upd H l (.lst (xs++[y])))):rAppend (.ref l) [y] H Q:=⟨l,xs,y,rfl,rfl,h,hz,q⟩
theorem rd_slL {a:Addr}{xs:List V}{lo hi:Option Int}(h:SqL K H a xs)(q:∀p,H p=none→Q (.ref p) (upd H p (.lst (cutV xs lo hi)))):rSlL K (.ref a) lo hi H Q:=⟨a,xs,rfl,h,q⟩
theorem rd_cat {a b:Addr}{xs zs:List V}(h1:H a=some (.lst xs))(h2:H b=some (.lst zs))(hz:xs.length+zs.length≤sizeLine)(q:∀p,H p=none→Q (.ref p) (upd H p (.lst (xs++zs)))):rAddA (.ref a) (.ref b) H Q :=
 .inr (.inr ⟨a,b,xs,zs,rfl,rfl,h1,h2,hz,q⟩)
theorem rd_rep {l:Addr}{k:Int}{xs:List V}(h:H l=some (.lst xs))(h1:-(2 ^ 63)≤k)(h2:k<2 ^ 63)(hz:xs.length*k.toNat≤sizeLine)(q:∀p,H p=none→Q (.ref p) (upd H p (.lst (List.replicate k.toNat xs).flatten))):rMulA (.ref l) (.int k) H Q :=
 .inr ⟨l,k,xs,rfl,rfl,h,h1,h2,hz,q⟩
theorem rd_sum {p:Addr}{ns:List Int}(h:SqL K H p (ns.map V.int))(q:Q (.int ns.sum) H):rSum K [.ref p] H Q:=⟨p,ns,rfl,h,q⟩
theorem rd_isI {x:V}{c:String}{t:Value}{b:Bool}(h:TyOf K H x t)(e:PySem.W.kitOne K t (.type c)=some b)(q:Q (.bl b) H):rIsI K [x,.ty c] H Q:=⟨x,c,t,b,rfl,h,e,q⟩
theorem rd_listL {p:Addr}{ys:List V}(h:SqL K H p ys)(q:∀l,H l=none→Q (.ref l) (upd H l (.lst ys))):rList K [.ref p] H Q:=.inl ⟨p,ys,rfl,.inl h,q⟩
theorem rd_listR {p:Addr}{i j:Int}(h:H p=some (.rng i j))(h1:-(2 ^ 62)≤i)(h2:i<2 ^ 62)(h3:-(2 ^ 62)≤j)(h4:j<2 ^ 62)(h5:(j - i).toNat≤1000000)(q:∀l,H l=none→Q (.ref l) (upd H l (.lst (rngV i (j - i).toNat)))):rList K [.ref p] H Q :=
 .inr ⟨p,i,j,rfl,h,h1,h2,h3,h4,h5,q⟩
end
end L2
namespace L2
open PySem PySem.Spec PyProof.Rows
structure QE (X:Cx)(e:Expr)(t:TE):Prop where
 out:PE X e t
structure QT (X:Cx)(e:Expr)(t:TT):Prop where
 out:PT X e t
structure QW (X:Cx)(e:Expr)(t:TT):Prop where
 out:PW X e t
structure QA (X:Cx)(es:List Expr)(t:TA):Prop where
 out:PA X es t
structure QO (X:Cx)(e:Option Expr)(t:TO):Prop where
 out:PO X e t
structure QG (X:Cx)(e:Expr)(t:TG):Prop where
 out:PG X e t
structure QGs (X:Cx)(es:List Expr)(t:TGs):Prop where
 out:PGs X es t
structure QI (X:Cx)(tg iter:Expr)(wi:TI):Prop where
 out:PI X tg iter wi
structure QS (X:Cx)(st:Stmt)(t:TS):Prop where
 out:PS X st t
structure QSs (X:Cx)(st:List Stmt)(t:TS):Prop where
 out:PSs X st t
section
variable {X:Cx}{a b c e st o tg iter:Expr}{rest es:List Expr}{ta tb tc te ts to:TE}{tA tB':TT}{t:TA}{pos p p2 apos cpos:Pos}
theorem qe_int {i:Int}{j:Nat}:QE X (.Constant (.int i) j pos) (tC (.int i)):=⟨pe_int⟩
theorem qe_bl {i:Bool}{j:Nat}:QE X (.Constant (.bool i) j pos) (tC (.bl i)):=⟨pe_bl⟩
theorem qe_str {x:Str}{j:Nat}:QE X (.Constant (.str x) j pos) (tC (.str x)):=⟨pe_str⟩
theorem qv (i:Nat){x:Str}(hN:autoParam (X.N[i]?=some x) aT2._auto_1)(hv:autoParam (Vis X.env.scope x) aT3._auto_1)(hd:autoParam ((x==("__debug__":Str))=false) aT1._auto_1)
  (hcd:autoParam ((x==("__classdict__":Str))=false) aT1._auto_1):QE X (.Name x pos) (tVar i):=⟨pv i hN hv hd hcd⟩
theorem qe_glob {x:Str}{v:V}{u:Value}(hg:Gl X x)(hm:X.mg x=some u)(r:RelV v u)(hd:autoParam ((x==("__debug__":Str))=false) aT1._auto_1):QE X (.Name x pos) (tC v):=⟨pe_glob hg hm r hd⟩
theorem qe_bltn {x:Str}{v:V}{u:Value}(hg:Gl X x)(hm:X.mg x=none)(hv:bootBuiltins x=some u)(r:RelV v u)(hn:autoParam (x≠"__name__") aT1._auto_1)(hd:autoParam ((x==("__debug__":Str))=false) aT1._auto_1):QE X (.Name x pos) (tC v):=⟨pe_bltn hg hm hv r hn hd⟩
theorem qe_op {op:Operator}{r:R2}(ho:OpR X (binaryOp op) r)(ha:QE X a ta)(hb:QE X b tb):QE X (.BinOp a op b pos) (tOp r ta tb):=⟨pe_op ho ha.out hb.out⟩
theorem qe_un {op:UnaryOp}{r:V→Hp→VK→Prop}(ho:UnR X (unaryOp op) r)(ha:QE X a ta):QE X (.UnaryOp op a pos) (tUn r ta):=⟨pe_un ho ha.out⟩
theorem qe_cmpR {op:CmpOp}{r:R2}(ho:OpR X (compareOp op) r)(ha:QE X a ta)(hb:QE X b tb)(hm:behindInMarks op b=false):QE X (.Compare a [op] [b] pos) (tOp r ta tb):=⟨pe_cmpR ho ha.out hb.out hm⟩
theorem qt_cmpR {op:CmpOp}{r:R2}(ho:OpR X (compareOp op) r)(ha:QE X a ta)(hb:QE X b tb)(hm:behindInMarks op b=false):QT X (.Compare a [op] [b] pos) (tTest (tOp r ta tb)):=⟨pt_cmpR ho ha.out hb.out hm⟩
theorem qe_one {op:BoolOp}(h:QE X a ta):QE X (.BoolOp op [a] pos) ta:=⟨pe_one h.out⟩
theorem qe_and (ha:QE X a ta)(hb:QE X (.BoolOp .And (b::rest) pos) tb):QE X (.BoolOp .And (a::b::rest) pos) (tAndV ta tb):=⟨pe_and ha.out hb.out⟩
theorem qe_not (ha:QE X a ta):QE X (.UnaryOp .Not a pos) (tNotV ta):=⟨pe_not ha.out⟩
theorem qt_val (h:QE X e te)(he:∀whole,isTrue e X.env whole=(do let v ← whole;standAt e.pos;holding [v] (truthy v)):=by intro _;rfl):QT X e (tB te):=⟨pt_val h.out he⟩
theorem qt_not (ha:QT X a tA):QT X (.UnaryOp .Not a pos) (tNot tA):=⟨pt_not ha.out⟩
theorem qw_and1 (ha:QT X a tA):QW X (.BoolOp .And [a] pos) tA:=⟨pw_and1 ha.out⟩
theorem qw_or1 (ha:QT X a tA):QW X (.BoolOp .Or [a] pos) tA:=⟨pw_or1 ha.out⟩
theorem qw_and (ha:QT X a tA)(hb:QW X (.BoolOp .And (b::rest) pos) tB'):QW X (.BoolOp .And (a::b::rest) pos) (tAnd tA tB'):=⟨pw_and ha.out hb.out⟩
theorem qw_or (ha:QT X a tA)(hb:QW X (.BoolOp .Or (b::rest) pos) tB'):QW X (.BoolOp .Or (a::b::rest) pos) (tOr tA tB'):=⟨pw_or ha.out hb.out⟩
theorem qt_w (h:QW X a tA):QT X a tA:=⟨h.out.pt⟩
theorem qa_nil:QA X [] tNil:=⟨pa_nil⟩
theorem qa_cons (ha:QE X e te)(hr:QA X es t)(hs:starEach (e::es) X.env=(false,eval e X.env)::starEach es X.env):QA X (e::es) (tCons te t):=⟨pa_cons ha.out hr.out hs⟩
theorem qe_tup {x1:Nat}(h:QA X es t):QE X (.Tuple es x1 pos) (tTup t):=⟨pe_tup h.out⟩
theorem qe_lst (h:QA X es t):QE X (.List es pos) (tLst t):=⟨pe_lst h.out⟩
theorem qe_ix {r:R2}(hr:IxR X r)(ha:QE X a ta)(hb:QE X b tb)(hs:PlainIx b):QE X (.Subscript a b pos) (tOp r ta tb):=⟨pe_ix hr ha.out hb.out hs⟩
theorem qo_none:QO X none tNoPart:=⟨po_none⟩
theorem qo_some (h:QE X e te):QO X (some e) (tPart te):=⟨po_some h.out⟩
theorem qe_slice {r:V→Option Int→Option Int→Hp→VK→Prop}{lo hi:Option Expr}{tl th:TO}(hr:SlR X r)(he:QE X e te)(hl:QO X lo tl)(hu:QO X hi th):QE X (.Subscript e (.Slice lo hi none p2) pos) (tSl r te tl th):=⟨pe_slice hr he.out hl.out hu.out⟩
theorem qe_callD {CX:CXT}{k:Nat}{ps:List Str}{sp:Sp}{E:XK}{x:Str}(D:Def X.prog X.w X.K X.mg X.base CX k x ps sp)(hr:Room k X.A)(hg:Gl X x)(hx:Passes CX X E)
  (ha:QA X (e::es) t) (hdb:autoParam ((x==("__debug__":Str))=false) aT1._auto_1) (he:autoParam (starEach (e::es) X.env=(false,eval e X.env)::starEach es X.env) aT2._auto_1) (hpl:autoParam ((backTo pos (starEach es X.env)).any (·.1)=false) aT2._auto_1) :
  QE X (.Call (.Name x p) (e::es) [] pos) (tCall sp [] E t):=⟨pe_callD D hr hg hx ha.out hdb he hpl⟩
theorem qe_callB {x:Str}{id:String}{r:List V→Hp→VK→Prop}(hc:CallR X (.builtin id) r)(hg:Gl X x)(hm:X.mg x=none)(hv:bootBuiltins x=some (.builtin id))(ha:QA X (e::es) t)(hn:autoParam (x≠"__name__") aT1._auto_1)(hdb:autoParam ((x==("__debug__":Str))=false) aT1._auto_1)
  (he:autoParam (starEach (e::es) X.env=(false,eval e X.env)::starEach es X.env) aT2._auto_1) (hpl:autoParam ((backTo pos (starEach es X.env)).any (·.1)=false) aT2._auto_1):QE X (.Call (.Name x p) (e::es) [] pos) (tCB r t):=⟨pe_callB hc hg hm hv ha.out hn hdb he hpl⟩
theorem qe_callTy {x:Str}{T:String}{r:List V→Hp→VK→Prop}(hc:CallR X (.type T) r)(hg:Gl X x)(hm:X.mg x=none)(hv:bootBuiltins x=some (.type T))(ha:QA X (e::es) t)(hn:autoParam (x≠"__name__") aT1._auto_1)(hdb:autoParam ((x==("__debug__":Str))=false) aT1._auto_1)
  (he:autoParam (starEach (e::es) X.env=(false,eval e X.env)::starEach es X.env) aT2._auto_1) (hpl:autoParam ((backTo pos (starEach es X.env)).any (·.1)=false) aT2._auto_1):QE X (.Call (.Name x p) (e::es) [] pos) (tCB r t):=⟨pe_callTy hc hg hm hv ha.out hn hdb he hpl⟩
theorem qe_bm {name:Str}{T id:String}{r:V→List V→Hp→VK→Prop}(pa:PlainAttrs T)(slot:Slot T name id)(hty:typeOf (.builtin id)=pure (.type "method_descriptor"))(hm:MtR X id r)(ho:QE X o to)(ha:QA X (e::es) t)
    (hbase:autoParam (attributeBase o name X.env (eval o X.env)=eval o X.env) aT2._auto_1)
    (hfew:((backTo cpos (starEach (e::es) X.env)).all (fun x=>!x.1)&&(backToKw cpos (keywordEach [] X.env)).all (fun x=>x.1.isSome)
      && decide ((e::es).length+([]:List Keyword).length+(if ([]:List Keyword).isEmpty then 0 else 1)<30))=true:=by rfl)
    (hline:autoParam ((apos.endLine==cpos.line)=true) aT2._auto_1) (hs:autoParam (starEach (e::es) X.env=(false,eval e X.env)::starEach es X.env) aT2._auto_1) (hplain:autoParam ((backTo cpos (starEach es X.env)).any (·.1)=false) aT2._auto_1) :
    QE X (.Call (.Attribute o name apos) (e::es) [] cpos) (tBM X.K T r to t):=⟨pe_bm pa slot hty hm ho.out ha.out hbase hfew hline hs hplain⟩
theorem qg_name {i:Nat}{x:Str}(hN:X.N.Nodup)(hi:X.N[i]?=some x)(hx:Loc X.env.scope x)(hf:autoParam (X.fn x=true∨X.env.scope.names.lookup x=some .local) aT0._auto_1):QG X (.Name x pos) (gName i):=⟨pg_name hN hi hx hf⟩
theorem qg_tup {k:Nat}{tt:TGs}{n:Nat}(hc:X.calm=true)(h:QGs X es tt)(hn:autoParam ((assignEach es X.env).length=n) aT2._auto_1)(hst:autoParam ((assignEach es X.env).findIdx? (·.1)=none) aT2._auto_1):QG X (.Tuple es k pos) (gTup X.K n tt):=⟨pg_tup hc h.out hn hst⟩
theorem qgs_nil:QGs X [] gNil:=⟨pgs_nil⟩
theorem qgs_cons {tt:TG}{u:TGs}(h1:QG X e tt)(h2:QGs X es u)(hs:autoParam ((assignEach (e::es) X.env).map (·.2)=assign e X.env::(assignEach es X.env).map (·.2)) aT2._auto_1):QGs X (e::es) (gCons tt u):=⟨pgs_cons h1.out h2.out hs⟩
theorem qi_list (hl:QE X e te):QI X tg e (iList X.K te):=⟨pi_list hl.out⟩
theorem qi_range1 (hg:Gl X "range")(hm:X.mg "range"=none)(ha:QA X [a] t)(hs:autoParam (starEach [a] X.env=[(false,eval a X.env)]) aT2._auto_1):QI X tg (.Call (.Name "range" p) [a] [] pos) (iRng1 t):=⟨pi_range1 hg hm ha.out hs⟩
theorem qi_range2 (hg:Gl X "range")(hm:X.mg "range"=none)(ha:QA X [a,b] t)(hs:autoParam (starEach [a,b] X.env=[(false,eval a X.env),(false,eval b X.env)]) aT2._auto_1)(hs2:autoParam (starEach [b] X.env=[(false,eval b X.env)]) aT2._auto_1):QI X tg (.Call (.Name "range" p) [a,b] [] pos) (iRng2 t):=⟨pi_range2 hg hm ha.out hs hs2⟩
variable {s1:Stmt}{ss body other:List Stmt}{u v:TS}{pos':Pos}
theorem qss_nil:QSs X [] tNext:=⟨pss_nil⟩
theorem qss_cons (h1:QS X s1 u)(h2:QSs X ss v):QSs X (s1::ss) (tSeq u v):=⟨pss_cons h1.out h2.out⟩
theorem qss_one (h1:QS X s1 u):QSs X [s1] u:=⟨pss_one h1.out⟩
theorem qs_never:QS X s1 tNever:=⟨ps_never⟩
theorem qs_expr (he:QE X e te)(hs:autoParam (swapsWith e none pos.line X.env=pure false) aT2._auto_1):QS X (.Expr e pos) (tDrop te):=⟨ps_expr he.out hs⟩
theorem qs_ret (he:QE X e te):QS X (.Return (some e) pos) (tRet te):=⟨ps_ret he.out⟩
theorem qs_if (hc:QT X c tA)(ha:QSs X body u)(hb:QSs X other v):QS X (.If c body other pos) (tIfS tA u v):=⟨ps_if hc.out ha.out hb.out⟩
theorem qs_asg {g:TG}(he:QE X e te)(hg:QG X tg g)(hs:autoParam (swapsWithSole [tg] e pos.line X.env=pure false) aT2._auto_1)(hw:autoParam (swappedStores [tg] e X.env=pure none) aT2._auto_1)(h1:autoParam ((assignEach [tg] X.env).map (·.2)=[assign tg X.env]) aT2._auto_1):QS X (.Assign [tg] e pos) (tAsg te g):=⟨ps_asg he.out hg.out hs hw h1⟩
theorem qs_set {i:Nat}{x:Str}(hN:X.N.Nodup)(hi:X.N[i]?=some x)(hx:Loc X.env.scope x)(he:QE X e te)(hs:autoParam (swapsWith e (some (.Name x pos')) pos.line X.env=pure false) aT2._auto_1)(hf:autoParam (X.fn x=true∨X.env.scope.names.lookup x=some .local) aT0._auto_1) :
  QS X (.Assign [.Name x pos'] e pos) (tAsg te (gName i)):=⟨ps_set hN hi hx he.out hs hf⟩
theorem qs_for {wi:TI}{g:TG}(hp:PassesOwn (model X.prog X.w) X.A X.env X.xe)(hc:X.calm=true)(hi:QI X tg iter wi)(hg:QG X tg g)(hb:QSs X body u)(hs:∀x,foldedSetIterable iter X.env x=pure x:=by intro _;rfl):QS X (.For tg iter body [] pos) (tFor wi g u):=⟨ps_for hp hc hi.out hg.out hb.out hs⟩
end
theorem Fun.okQ {P:Program}{w:World}{K:PySem.W.Frag}{mg:Str→Option Value}{base:Heap}{x qual:Str}{st:Stmt}{f:Addr}{fd:FuncData}{N ps:List Str}{k:Nat}{sp:Sp}(F:Fun K x qual st f fd)(S:FnScope N ps (defScope st))(len:∀vs H Q E,sp vs H Q E→vs.length=ps.length)
    (hbody:∀(cdv:Value) (A:Around) (outer:List Env) (s:Shared) (H:Hp) (vs:List V) (Q:VK) (E:XK),Room k (A.deeper (envOfC qual (defScope st) s.heap.objs.size f cdv))→sp vs H Q E→
      ∃t,QSs (cxOf CX0 P w K mg base N qual (defScope st) f cdv A outer s H E).nox (defBody st) t∧t { nx:=fun _ H'=>Q .non H',rt:=Q } (start N vs) H):FnOk P w K mg base CX0 (k+1) f fd ps sp :=
  F.ok S len fun cdv A outer s H vs Q E hr h=>by
    obtain ⟨t,ht,q⟩:=hbody cdv A outer s H vs Q E hr h
    exact ⟨t,ht.out,q⟩
end L2
namespace L2
open PySem PySem.Spec PyProof.Rows
@[reducible] noncomputable def Cx.blk (X:Cx)(N2:List Str)(x:Str)(sc:Scope)(cl:List (Str×Addr))(C:Addr)(s0:Shared)(H0:Hp)(fp:List Addr):Cx :=
 { X with N:=N2++[x],s₀:=s0,H₀:=H0,env:=compEnvC sc cl C X.env,outer:=X.stack,ex:=fp,fn:=fun _=>false,pn:=[],xe:=fun _ _=>False }
structure BlkOk (sc esc:Scope)(x:Str)(N N2:List Str):Prop where
 kind:sc.kind=.function
 cell:∀y∈sc.names,y.2≠.cell
 loc:∀y∈sc.names,y.2=.local→sc.names.lookup y.1=some .local
 own:sc.names.lookup x=some .local
 free:∀y∈sc.names,y.2=.free→esc.names.lookup y.1=some .cell∨esc.names.lookup y.1=some .free
 out:∀y∈N2,sc.names.lookup y≠some .local
 nd:N.Nodup
 nd2:N2.Nodup
 len:N2.length=N.length
 ren:∀p∈N.zip N2,p.2=p.1∨sc.names.lookup p.2=none
theorem lookup_mem {l:List (Str×NameKind)}{y:Str}{k:NameKind}(h:(y,k)∈l):l.lookup y≠none:=by
 induction l with
 | nil=>simp at h
 | cons p r ih =>
  obtain ⟨n,k'⟩:=p
  cases hy:y==n with
  | true=>rw [List.lookup_cons,hy];simp
  | false =>
   rw [List.lookup_cons,hy]
   rcases List.mem_cons.mp h with e | e
   ·cases e
    simp at hy
   ·exact ih e
noncomputable def closOf (cells:List (Str×Addr)):List (Str×NameKind)→List (Str×Addr)→List (Str×Addr)
 | [],cs=>cs
 | (n,k)::r,cs=>closOf cells r (if k=.free then (n,(cells.lookup n).getD 0)::cs else cs)
theorem closureFor_all {sc:Scope}{env:Env}(h:∀y∈sc.names,y.2=.free→∃c,env.cells.lookup y.1=some c):closureFor sc env=pure (closOf env.cells sc.names []):=by
  unfold closureFor
  generalize sc.names=l at h ⊢
  have key:∀(l:List (Str×NameKind)) (cs:List (Str×Addr)),(∀y∈l,y.2=.free→∃c,env.cells.lookup y.1=some c)→
      (forIn l cs fun (y:Str×NameKind) (r:List (Str×Addr))=>(do
        let (name,kind):=y
        if kind==.free then
          let c ← cellOf env name
          pure (ForInStep.yield ((name,c)::r))
        else pure (ForInStep.yield r):Sem (ForInStep (List (Str×Addr)))))=pure (closOf env.cells l cs):=by
    intro l
    induction l with
    | nil=>intro cs _;rfl
    | cons y r ih =>
      intro cs hy
      obtain ⟨n,k⟩:=y
      rw [List.forIn_cons]
      have hr:∀y∈r,y.2=.free→∃c,env.cells.lookup y.1=some c:=fun y h'=>hy y (List.mem_cons_of_mem _ h')
      by_cases hk:k=.free
      · subst hk
        obtain ⟨c,hc⟩:=hy _ List.mem_cons_self rfl
        have e:cellOf env n=pure c:=by unfold cellOf;rw [show env.cells.lookup n=some c from hc]
        simp only [beq_self_eq_true,if_true,e]
        rw [closOf,if_pos rfl,show env.cells.lookup n=some c from hc]
        exact ih _ hr
      · have hb:(k==NameKind.free)=false:=by simpa using hk
        rw [closOf,if_neg hk]
        simp only [hb,if_false,Bool.false_eq_true]
        exact ih _ hr
  have q:=key l [] h
  exact (congrArg (fun z:Sem (List (Str×Addr))=>z >>= fun r=>pure r) q).trans rfl
theorem clos_look {cells:List (Str×Addr)}:∀{l:List (Str×NameKind)} {cs:List (Str×Addr)} {y:Str} {c:Addr},(∀z∈l,z.2=.free→∃c,cells.lookup z.1=some c)→(∀c,cs.lookup y=some c→cells.lookup y=some c)→
  (closOf cells l cs).lookup y=some c→cells.lookup y=some c
 | [],_,_,_,_,h0,h=>h0 _ h
 | (n,k)::r,cs,y,c,hl,h0,h=>by
  rw [closOf] at h
  refine clos_look (l:=r) (fun z hz=>hl z (List.mem_cons_of_mem _ hz)) (fun c' hc'=>?_) h
  by_cases hk:k=.free
  ·rw [if_pos hk] at hc'
   obtain ⟨c0,e0⟩:=hl _ List.mem_cons_self hk
   cases hy:y==n with
   | true =>
    have e:y=n:=by simpa using hy
    subst e
    rw [List.lookup_cons,hy] at hc'
    have e1:(cells.lookup y).getD 0=c':=by simpa using hc'
    have e2:cells.lookup y=some c0:=e0
    rw [e2] at e1 ⊢
    simpa using e1
   | false =>
    rw [List.lookup_cons,hy] at hc'
    exact h0 _ hc'
  ·rw [if_neg hk] at hc'
   exact h0 _ hc'
theorem clos_keep {cells:List (Str×Addr)}:∀{l:List (Str×NameKind)} {cs:List (Str×Addr)} {y:Str},(∃c,cs.lookup y=some c)→∃c,(closOf cells l cs).lookup y=some c
 | [],_,_,h=>h
 | (n,k)::r,cs,y,h=>by
  rw [closOf]
  refine clos_keep ?_
  split
  ·cases hy:y==n with
   | true=>exact ⟨_,by rw [List.lookup_cons,hy]⟩
   | false=>rw [List.lookup_cons,hy];exact h
  ·exact h
theorem clos_has {cells:List (Str×Addr)}:∀{l:List (Str×NameKind)} {cs:List (Str×Addr)} {y:Str},(y,NameKind.free)∈l→∃c,(closOf cells l cs).lookup y=some c
 | (n,k)::r,cs,y,h=>by
  rw [closOf]
  rcases List.mem_cons.mp h with e | e
  ·cases e
   refine clos_keep ?_
   rw [if_pos rfl]
   exact ⟨_,by rw [List.lookup_cons,beq_self_eq_true]⟩
  ·exact clos_has e
theorem relabel_look {env:Env}:∀{names:List (Str×NameKind)} {y:Str} {k:NameKind},(∀z∈names,z.2≠.cell)→(k=.cell∨k=.free)→
  (names.map fun (n,k)=>if (k==NameKind.free&&env.scope.kind==.function&&env.kindOf n==some .cell) then (n,NameKind.cell) else (n,k)).lookup y=some k→(y,NameKind.free)∈names
 | [],_,_,_,_,hz=>by simp at hz
 | (n,k0)::r,y,k,hc,hk,h=>by
  rw [List.map_cons] at h
  cases hy:y==n with
  | true =>
   have e:y=n:=by simpa using hy
   subst e
   by_cases hf:k0=.free
   ·subst hf;exact List.mem_cons_self
   ·have hb:(k0==NameKind.free)=false:=by simpa using hf
    simp only [hb,Bool.false_and,Bool.false_eq_true,if_false,List.lookup_cons,beq_self_eq_true] at h
    have e1:k0=k:=by simpa using h
    subst e1
    rcases hk with z | z
    ·exact absurd z (hc _ List.mem_cons_self)
    ·exact absurd z hf
  | false =>
   refine List.mem_cons_of_mem _ (relabel_look (env:=env) (k:=k) (fun z hz=>hc z (List.mem_cons_of_mem _ hz)) hk ?_)
   by_cases hc':(k0==NameKind.free&&env.scope.kind==.function&&env.kindOf n==some .cell)=true
   ·simp only [hc',if_true,List.lookup_cons,hy] at h
    exact h
   ·simp only [hc',Bool.false_eq_true,if_false,List.lookup_cons,hy] at h
    exact h
theorem relabel_loc {env:Env}:∀{names:List (Str×NameKind)} {y:Str},
  (names.map fun (n,k)=>if (k==NameKind.free&&env.scope.kind==.function&&env.kindOf n==some .cell) then (n,NameKind.cell) else (n,k)).lookup y=some .local→names.lookup y=some .local
 | [],_,h=>by simp at h
 | (n,kn)::r,y,h=>by
  rw [List.map_cons] at h
  cases hy:y==n with
  | true =>
   rw [List.lookup_cons,hy]
   by_cases hc:(kn==NameKind.free&&env.scope.kind==.function&&env.kindOf n==some .cell)=true
   ·simp only [hc,if_true,List.lookup_cons,hy] at h
    cases h
   ·simp only [hc,Bool.false_eq_true,if_false,List.lookup_cons,hy] at h
    exact h
  | false =>
   rw [List.lookup_cons,hy]
   refine relabel_loc (env:=env) ?_
   by_cases hc:(kn==NameKind.free&&env.scope.kind==.function&&env.kindOf n==some .cell)=true
   ·simp only [hc,if_true,List.lookup_cons,hy] at h
    exact h
   ·simp only [hc,Bool.false_eq_true,if_false,List.lookup_cons,hy] at h
    exact h
section
variable {s:Shared}{R:Result→Shared→Prop}{A:Around}{P:Program}{w:World}
noncomputable def testsOf (ifs:List Expr)(env:Env):Sem Bool:=forIn ifs true fun c r=>if r=true then do let ok ← isTrue c env (eval c env);pure (ForInStep.yield ok) else pure (ForInStep.yield r)
theorem comp_turns {elt tg iter:Expr}{ifs:List Expr}{scope:Scope}{pos:Pos}{it ac:Value}{env:Env}(W:Nat→Shared→Prop)
    (turn:∀n s,W n s→wpAny (model P w) A (pyNext it) (fun r s₁=>match r with
      | none=>R (.ok .next) s₁
      | some v=>wpAny (model P w) A (letOwnedTupleGo tg it v) (fun _ s₁'=>wpAny (model P w) A (assign tg env v) (fun _ s₂ =>
          wpAny (model P w) A (testsOf ifs env) (fun ok s₃ =>
            if ok=true then wpAny (model P w) A (eval elt env) (fun z s₄ =>
              wpAny (model P w) A (call (.builtin "list.append") [ac,z]) (fun _ s₅=>∃m,m<n∧W m s₅) (fun _ _=>False) s₄) (fun _ _=>False) s₃
            else ∃m,m<n∧W m s₃) (fun _ _=>False) s₂) (fun _ _=>False) s₁') (fun _ _=>False) s₁) (fun _ _=>False) s)
    (n:Nat) (h:W n s) :
    codeAny (model P w) A (.compLoop (.ListComp elt [⟨tg,iter,ifs,0⟩] scope pos) 0 it ac env) R s:=by
  refine codeAny_loop rfl W (fun n s hI=>?_) n h
  show wpAny _ A ((compTurn (.ListComp elt [⟨tg,iter,ifs,0⟩] scope pos) 0 it ac env).onRaise (fun z=>do noteFrame z env;theTreesLotGoes z)) _ _ s
  refine wpAny_noted ?_
  rw [compTurn_list]
  refine wpAny_bind (wpAny_standAt (wpAny_bind (wpAny_mono (turn n s hI) (fun r s₁ h₁=>?_) fun _ _ h'=>h'.elim)))
  cases r with
  | none=>exact wpAny_pure h₁
  | some v =>
    refine wpAny_bind (wpAny_mono h₁ (fun _ s₁' h₁'=>?_) fun _ _ h'=>h'.elim)
    refine wpAny_bind (wpAny_mono h₁' (fun _ s₂ h₂=>wpAny_bind (wpAny_mono h₂ (fun ok s₃ h₃=>?_) fun _ _ h'=>h'.elim)) fun _ _ h'=>h'.elim)
    cases ok with
    | false=>exact wpAny_pure (And.intro rfl h₃)
    | true =>
      exact wpAny_bind (wpAny_bind (wpAny_mono h₃ (fun x s₄ h₄=>wpAny_bind (wpAny_mono h₄ (fun _ s₅ h₅=>wpAny_pure (wpAny_pure ⟨rfl,h₅⟩)) fun _ _ h'=>h'.elim)) fun _ _ h'=>h'.elim))
end
noncomputable def PIf (X:Cx)(ifs:List Expr)(t:TT):Prop :=
 ∀(pins:List (Addr×Obj)) (s:Shared) (σ:St) (H:Hp) (Q:Bool→Hp→Prop),Inv X pins σ H s→t σ H Q→wpAny (model X.prog X.w) X.A (testsOf ifs X.env) (TP X pins σ Q) X.xe s
noncomputable def tYes:TT:=fun _ H Q=>Q true H
theorem pif_nil {X:Cx}:PIf X [] tYes:=fun _ _ _ H _ I h=>wpAny_pure ⟨H,I,h⟩
theorem pif_one {X:Cx}{c:Expr}{t:TT}(h:PT X c t):PIf X [c] t:=fun pins s σ H Q I hw=>wpAny_tests_one (h pins s σ H Q I hw)
section
variable {X:Cx}{elt iter:Expr}{x:Str}{px pos:Pos}{ifs:List Expr}{sc:Scope}{N2:List Str}{wi:TI}{tc:TT}{te:TE}
end
structure QIf (X:Cx)(ifs:List Expr)(t:TT):Prop where
 out:PIf X ifs t
section
variable {X:Cx}{elt iter c:Expr}{x:Str}{px pos:Pos}{ifs:List Expr}{sc esc:Scope}{N N2:List Str}{wi:TI}{tc:TT}{te:TE}
theorem qif_nil:QIf X [] tYes:=⟨pif_nil⟩
theorem qif_one (h:QT X c tc):QIf X [c] tc:=⟨pif_one h.out⟩
end
section
variable {K:PySem.W.Frag}{a D:Addr}{xs:List V}{tc:TT}{te:TE}{σ:St}{H:Hp}{Q:VK}{R:Hp→Prop}
end
end L2
namespace L2
open PySem PySem.Spec PyProof.Rows
@[reducible] noncomputable def Cx.blkN (X:Cx)(N2 xs:List Str)(sc:Scope)(cl:List (Str×Addr))(C:Addr)(s0:Shared)(H0:Hp)(fp:List Addr):Cx :=
 { X with N:=N2++xs,s₀:=s0,H₀:=H0,env:=compEnvC sc cl C X.env,outer:=X.stack,ex:=fp,fn:=fun _=>false,pn:=[],xe:=fun _ _=>False }
structure BlkN (sc esc:Scope)(xs N N2:List Str):Prop where
 kind:sc.kind=.function
 cell:∀y∈sc.names,y.2≠.cell
 loc:∀y∈sc.names,y.2=.local→sc.names.lookup y.1=some .local
 free:∀y∈sc.names,y.2=.free→esc.names.lookup y.1=some .cell∨esc.names.lookup y.1=some .free
 out:∀y∈N2,sc.names.lookup y≠some .local
 nd:N.Nodup
 len:N2.length=N.length
 ren:∀p∈N.zip N2,p.2=p.1∨sc.names.lookup p.2=none
noncomputable def tCompN (k:Nat)(g:TG)(wi:TI)(tc:TT)(te:TE):TE:=fun σ H Q=>wi σ H fun J H1=>∀D,H1 D=none→∃W:Nat→Nat→Hp→Prop,(∃m,W 0 m (upd H1 D (.lst [])))∧∀i m H,W i m H→
  (J.stop i H∧Q (.ref D) H)∨(J.go i H∧∃N:Hp→Prop,(∀H',N H'→∃m',m'<m∧W (i+1) m' H')∧∀x H',J.yld i H x H'→∀os:St,os.length=k→g x (σ++os) H' fun σ' Hg=>(∃os',os'.length=k∧σ'=σ++os')∧tc σ' Hg fun b H2 =>
    if b=true then te σ' H2 fun v H3=>∃ys,H3 D=some (.lst ys)∧ys.length<sizeLine∧N (upd H3 D (.lst (ys++[v])))
    else N H2)
section
variable {X:Cx}{elt iter tg:Expr}{xs:List Str}{pos:Pos}{g:TG}{ifs:List Expr}{sc:Scope}{N2:List Str}{wi:TI}{tc:TT}{te:TE}
theorem blkN_start {pins:List (Addr×Obj)}{σ:St}{H:Hp}{s s1:Shared}{fp:List Addr}{h':Heap}{m:Str→Option Value}{tk:Nat}(B:BlkN sc X.env.scope xs X.N N2)(I:Inv X pins σ H s)(hf:∀b∈fp,FpOk X pins H b)
    (hfl:∀b∈fp,b<s.heap.objs.size) (hn:h'.Ns s.heap.objs.size m) (hk:∀b o,s.heap.get? b=some o→h'.get? b=some o) (e1:s1={ s with heap:=h',toks:=tk }) :
    Inv (X.blkN N2 xs sc (closOf X.env.cells sc.names []) s.heap.objs.size s H fp) [] (σ++List.replicate xs.length none) H s1:=by
  subst e1
  have hcl:∀y∈sc.names,y.2=.free→∃c,X.env.cells.lookup y.1=some c:=fun y hy hf=>I.ok.has y.1 (B.free y hy hf)
  have look:∀y c,(closOf X.env.cells sc.names []).lookup y=some c→X.env.cells.lookup y=some c:=fun y c h=>clos_look hcl (fun _ z=>by simp at z) h
  have isfree:∀y,(relabel sc X.env).names.lookup y=some .cell∨(relabel sc X.env).names.lookup y=some .free→(y,NameKind.free)∈sc.names:=fun y hy=>by
    rcases hy with hy | hy
    · exact relabel_look (env:=X.env) B.cell (.inl rfl) hy
    · exact relabel_look (env:=X.env) B.cell (.inr rfl) hy
  refine ⟨⟨I.ok.mod,B.kind,I.ok.glob,I.ok.blt,Nat.le_refl _,fun y z c h1 h2=>I.ok.inj y z c (look y c h1) (look z c h2),fun y hy=>clos_has (isfree y hy),fun _ _ h=>(by cases h),I.ok.hd,I.ok.frames,.inl rfl,fun b hb=>?_,fun b o e=>?_,Nat.le_trans I.ok.bsz I.sz,fun b o e hb=>?_,fun b hb hs=>?_,I.stack,I.stkFree⟩,
    rfl,I.bare,Un.kept hk,⟨_,hn,fun i y v h1 h2 h3=>?_⟩,fun y c h=>?_,I.hok.fresh (Nat.le_refl _),fun y c h=>I.freeC y c (look y c h),fun p hp=>absurd (show p∈([]:List (Addr×Obj)) from hp) (by simp),I.hok.kept hk,?_⟩
  · exact ⟨Nat.ne_of_lt (hfl b hb),fun y c h=>(hf b hb).2.2.2.2.1 y c (look y c h)⟩
  · exact I.bs b o e
  · rcases (hf b hb).2.2.2.1 with z | z
    · exact I.ok.noex b o e z
    · exact absurd (Nat.lt_of_lt_of_le (Heap.lt_size e) (Nat.le_trans I.ok.bsz z)) (Nat.lt_irrefl _)
  · rcases List.mem_cons.mp (I.stkSub b hs) with z | z
    · exact (hf b hb).2.1 z
    · exact (hf b hb).2.2.1 z
  · have hlen:=I.len
    have hl2:=B.len
    have h1:(N2++xs)[i]?=some y:=h1
    have h2:(σ++List.replicate xs.length none)[i]?=some (some v):=h2
    have hi:i<X.N.length:=by
      by_cases hi:i<X.N.length
      · exact hi
      · rw [List.getElem?_append_right (by omega)] at h2
        have hm:=List.mem_of_getElem? h2
        rw [List.mem_replicate] at hm
        exact absurd hm.2 (by intro z;cases z)
    rw [List.getElem?_append_left (by omega)] at h1
    rw [List.getElem?_append_left (by omega)] at h2
    have h3':(relabel sc X.env).names.lookup y=some .cell∨(relabel sc X.env).names.lookup y=some .free:=by
      rcases h3 with z | z
      · exact absurd (relabel_loc (env:=X.env) z) (B.out y (List.mem_of_getElem? h1))
      · exact z
    have hfr:=isfree y h3'
    have h1:X.N[i]?=some y:=by
      obtain ⟨z,hz⟩:∃z,X.N[i]?=some z:=⟨X.N[i],List.getElem?_eq_getElem hi⟩
      rcases B.ren (z,y) (List.mem_of_getElem? (List.getElem?_zip_eq_some.mpr ⟨hz,h1⟩)) with e | e
      · rw [hz,show y=z from e]
      · exact absurd e (lookup_mem hfr)
    obtain ⟨m3,hn3,hl3⟩:=I.loc
    have hv:X.env.scope.names.lookup y=some .cell∨X.env.scope.names.lookup y=some .free:=B.free (y,.free) hfr rfl
    obtain ⟨u,ru,lk⟩:=hl3 i y v h1 h2 (.inr hv)
    refine ⟨u,ru,.inr ⟨h3',?_⟩⟩
    rcases lk with ⟨k1,_⟩ | ⟨k1,c,ec,zc⟩
    · rcases hv with q | q
      · rw [show X.env.kindOf y=X.env.scope.names.lookup y from rfl,q] at k1
        cases k1
      · rw [show X.env.kindOf y=X.env.scope.names.lookup y from rfl,q] at k1
        cases k1
    · obtain ⟨c',e'⟩:=clos_has (cells:=X.env.cells) (cs:=[]) hfr
      have e2:=look y c' e'
      rw [ec] at e2
      cases e2
      obtain ⟨o,ho,hd⟩:=zc
      exact ⟨c,e',o,hk _ _ ho,hd⟩
  · obtain ⟨v,o,ho,hd⟩:=I.cell y c (look y c h)
    exact ⟨v,o,hk _ _ ho,hd⟩
  · show (σ++List.replicate xs.length none).length=(N2++xs).length
    rw [List.length_append,List.length_append,I.len,B.len,List.length_replicate]
theorem blkN_run {pins:List (Addr×Obj)}{σ:St}{H2:Hp}{s2:Shared}{it:Addr}{fp:List Addr}{tn:Nat→Heap→Prop}{J:It}{Q:VK}{E:Value→Shared→Prop}{RR:Value→Addr→Result→Shared→Prop}(hc:X.calm=true)(B:BlkN sc X.env.scope xs X.N N2)
    (hg:∀cl C s0 H0 fp,PG (X.blkN N2 xs sc cl C s0 H0 fp) tg g) (ht:∀cl C s0 H0 fp,PIf (X.blkN N2 xs sc cl C s0 H0 fp) ifs tc) (he:∀cl C s0 H0 fp,PE (X.blkN N2 xs sc cl C s0 H0 fp) elt te)
    (I2:Inv X pins σ H2 s2) (T:Turn X.prog X.w X.K tg J fp it tn) (st2:tn 0 s2.heap) (f2:∀b∈fp,FpOk X pins H2 b)
    (hw:∀D,H2 D=none→∃W:Nat→Nat→Hp→Prop,(∃m,W 0 m (upd H2 D (.lst [])))∧∀i m H,W i m H→
      (J.stop i H∧Q (.ref D) H)∨(J.go i H∧∃N:Hp→Prop,(∀H',N H'→∃m',m'<m∧W (i+1) m' H')∧∀x H',J.yld i H x H'→∀os:St,os.length=xs.length→g x (σ++os) H' fun σ' Hg=>(∃os',os'.length=xs.length∧σ'=σ++os')∧tc σ' Hg fun b H2 =>
        if b=true then te σ' H2 fun v H3=>∃ys,H3 D=some (.lst ys)∧ys.length<sizeLine∧N (upd H3 D (.lst (ys++[v])))
        else N H2))
    (fin:∀(D C:Addr) (H':Hp) (s':Shared) (m:Str→Option Value),Inv X pins σ H' s'→s'.heap.Ns C m→FpOk X pins H' C→Q (.ref D) H'→RR (.ref D) C (.ok .next) s') :
    wpAny (model X.prog X.w) X.A (newList []) (fun acc s₃=>wpAny (model X.prog X.w) X.A (newFunctionEnv sc X.env.globals (closOf X.env.cells sc.names []) [] X.env.qual none .none (some X.env)) (fun cenv s₄ =>
      codeAny (model X.prog X.w) X.A (.compStart (.ListComp elt [⟨tg,iter,ifs,0⟩] sc pos) 0 (.ref it) acc { cenv with scope:=relabel sc X.env }) (RR acc cenv.locals) s₄) E s₃) E s2:=by
  refine wpAny_newObj_type (wpAny_newFunctionEnv B.cell (by intro y hy;simp at hy) (fun h₁ hns₁ hsb₁=>?_) B.kind)
  have hD:H2 s2.heap.objs.size=none:=I2.fresh
  obtain ⟨W,⟨m0,w0⟩,turn⟩:=hw _ hD
  have I3:Inv X pins σ (upd H2 s2.heap.objs.size (.lst [])) { s2 with heap:=s2.heap.push { cls:=.type "list",data:=.seq ([]:List Value).toArray } }:=I2.lnew (its:=[]) (t':=s2.toks) .nil (Nat.zero_le _)
  have fne:∀b∈fp,b<s2.heap.objs.size:=fun b hb=>by
    obtain ⟨o,ho,_⟩:=T.obj _ _ st2 b hb
    exact Heap.lt_size ho
  generalize hs3:({ s2 with heap:=s2.heap.push { cls:=.type "list",data:=.seq ([]:List Value).toArray } }:Shared)=s3 at I3
  have hs3h:s3.heap=s2.heap.push { cls:=.type "list",data:=.seq ([]:List Value).toArray }:=by rw [← hs3]
  have f3:∀b∈fp,FpOk X pins (upd H2 s2.heap.objs.size (.lst [])) b:=fun b hb=>⟨by rw [Zap (Nat.ne_of_lt (fne b hb))];exact (f2 b hb).1,(f2 b hb).2⟩
  have fl3:∀b∈fp,b<s3.heap.objs.size:=fun b hb=>by
    rw [hs3h,Heap.size_push]
    exact Nat.lt_succ_of_lt (fne b hb)
  have keep3:∀b o,s3.heap.get? b=some o→h₁.get? b=some o:=fun b o e=>by
    rw [hs3h] at e
    refine hsb₁.extBut b o ?_ (Heap.get?_push_of_some _ e)
    exact Nat.ne_of_lt (Heap.lt_size e)
  have hns3:h₁.Ns s3.heap.objs.size (fun z=>([]:List (Str×Value)).reverse.lookup z):=by
    rw [hs3h]
    exact hns₁
  have I4:=blkN_start (xs:=xs) (sc:=sc) (s1:={ s3 with heap:=h₁,toks:=s3.toks+([]:List (Str×Value)).length }) B I3 f3 fl3 hns3 keep3 rfl
  have st4:tn 0 h₁:=T.keep _ _ _ st2 fun b hb o e=>keep3 b o (by rw [hs3h];exact Heap.get?_push_of_some _ e)
  have stat:∀{H':Hp},(∀b∈fp,H' b=none)→∀b∈fp,FpOk (X.blkN N2 xs sc (closOf X.env.cells sc.names []) s3.heap.objs.size s3 (upd H2 s2.heap.objs.size (.lst [])) fp) [] H' b:=fun hn b hb =>
    ⟨hn b hb,(I4.ok.exf b hb).1,I4.ok.exfs b hb,.inl hb,(I4.ok.exf b hb).2,fun p hp=>absurd (show p∈([]:List (Addr×Obj)) from hp) (by simp)⟩
  have loop:∀s4:Shared,s4={ s3 with heap:=h₁,toks:=s3.toks+([]:List (Str×Value)).length }→
      codeAny (model X.prog X.w) X.A (.compLoop (.ListComp elt [⟨tg,iter,ifs,0⟩] sc pos) 0 (.ref it) (.ref s2.heap.objs.size) (compEnvC sc (closOf X.env.cells sc.names []) s3.heap.objs.size X.env)) (RR (.ref s2.heap.objs.size) s3.heap.objs.size) s4:=by
    rintro s4 rfl
    refine comp_turns (fun n s'=>∃(i:Nat) (o:St) (H':Hp),o.length=xs.length∧Inv (X.blkN N2 xs sc (closOf X.env.cells sc.names []) s3.heap.objs.size s3 (upd H2 s2.heap.objs.size (.lst [])) fp) [] (σ++o) H' s'∧tn i s'.heap∧(∀b∈fp,H' b=none)∧W i n H') ?_ m0
      ⟨0,List.replicate xs.length none,_,by simp,I4,st4,fun b hb=>(f3 b hb).1,w0⟩
    rintro n s5 ⟨i,o,H5,ol5,I5,st5,fr5,w5⟩
    rcases turn i n H5 w5 with ⟨stop,qn⟩ | ⟨go,N,hN,step⟩
    · refine thn (T.done (X.blkN N2 xs sc (closOf X.env.cells sc.names []) s3.heap.objs.size s3 (upd H2 s2.heap.objs.size (.lst [])) fp) rfl rfl rfl hc i [] s5 (σ++o) H5 _ I5 (stat fr5) st5 stop) fun r s6 ⟨hr,I6⟩=>?_
      subst hr
      obtain ⟨m6,hn6,_⟩:=I6.loc
      refine fin _ _ H5 s6 m6 ?_ hn6 (I3.fpOk (Nat.le_refl _) I6.free) qn
      exact I3.call' (ch:=fp) I6.os I6.base I6.hok I6.bare fun b hb=>⟨(f3 b hb).2.2.2.1,(f3 b hb).2.1,(f3 b hb).2.2.2.2.1,(f3 b hb).2.2.2.2.2⟩
    · refine thn (T.item (X.blkN N2 xs sc (closOf X.env.cells sc.names []) s3.heap.objs.size s3 (upd H2 s2.heap.objs.size (.lst [])) fp) rfl rfl rfl hc i [] s5 (σ++o) H5 _ I5 (stat fr5) st5 go) fun r s6 ⟨u,hr,h6⟩=>?_
      subst hr
      refine thn h6 fun _ s7 hz9=>?_
      obtain ⟨v,H7,I7,r7,y7,st7,fr7⟩:=hz9
      have I7':=I7.pinned (stat fr7) (T.obj _ _ st7)
      refine thn (hg _ _ _ _ _ _ s7 _ H7 v u _ I7' r7 (step v H7 y7 o ol5)) fun _ s8 ⟨σ8,H8,I8,⟨os',ol8,e8⟩,q8⟩=>?_
      subst e8
      have again:∀{H9:Hp} {s9:Shared},Inv (X.blkN N2 xs sc (closOf X.env.cells sc.names []) s3.heap.objs.size s3 (upd H2 s2.heap.objs.size (.lst [])) fp) ([]++pinsAt fp s7.heap) (σ++os') H9 s9→N H9→
          ∃m,m<n∧∃(i:Nat) (o:St) (H':Hp),o.length=xs.length∧Inv (X.blkN N2 xs sc (closOf X.env.cells sc.names []) s3.heap.objs.size s3 (upd H2 s2.heap.objs.size (.lst [])) fp) [] (σ++o) H' s9∧tn i s9.heap∧(∀b∈fp,H' b=none)∧W i m H':=fun {H9 s9} I9 n9=>by
        obtain ⟨m',hm,w9⟩:=hN H9 n9
        refine ⟨m',hm,i+1,os',H9,ol8,I9.unpinned,T.keep _ _ _ st7 fun b hb o e=>(I9.pin (b,o) (List.mem_append_right _ (List.mem_append_right _ (mem_pinsAt hb e)))).1,fun b hb=>?_,w9⟩
        obtain ⟨o,e,d⟩:=T.obj _ _ st7 b hb
        exact (I9.pin (b,o) (List.mem_append_right _ (List.mem_append_right _ (mem_pinsAt hb e)))).2.1
      refine thn (ht _ _ _ _ _ _ s8 _ H8 _ I8 q8) fun ok s9 ⟨H9,I9,q9⟩=>?_
      cases ok with
      | false =>
        rw [if_neg Bool.false_ne_true] at q9 ⊢
        exact again I9 q9
      | true =>
        rw [if_pos rfl] at q9 ⊢
        refine thn (he _ _ _ _ _ _ s9 _ H9 _ I9 q9) fun ue s10 hz9=>?_
        obtain ⟨ve,H10,I10,r10,ys,hy,hz,q10⟩:=hz9
        refine thn (mt_append _ s10 _ H10 (.ref s2.heap.objs.size) [ve] (.ref s2.heap.objs.size) [ue] (fun _ H'=>N H') I10 rfl (.cons r10 .nil) ⟨_,ys,ve,rfl,rfl,hy,hz,q10⟩) fun _ s11 hz9=>?_
        obtain ⟨_,H11,I11,_,q11⟩:=hz9
        exact again I11 q11
  have fin':codeAny (model X.prog X.w) X.A (.compStart (.ListComp elt [⟨tg,iter,ifs,0⟩] sc pos) 0 (.ref it) (.ref s2.heap.objs.size) (compEnvC sc (closOf X.env.cells sc.names []) s3.heap.objs.size X.env)) (RR (.ref s2.heap.objs.size) s3.heap.objs.size) { s3 with heap:=h₁,toks:=s3.toks+([]:List (Str×Value)).length } :=
    codeAny_compStart_list (loop _ rfl) (T.self _ 0 _ _ _ st4 (loop _ rfl))
  exact fin'
theorem pe_compN (hc:X.calm=true)(B:BlkN sc X.env.scope xs X.N N2)(hi:PI X tg iter wi)(hg:∀cl C s0 H0 fp,PG (X.blkN N2 xs sc cl C s0 H0 fp) tg g)(ht:∀cl C s0 H0 fp,PIf (X.blkN N2 xs sc cl C s0 H0 fp) ifs tc)(he:∀cl C s0 H0 fp,PE (X.blkN N2 xs sc cl C s0 H0 fp) elt te)
  (hs:∀v,foldedSetIterable iter X.env v=pure v:=by intro _;rfl):PE X (.ListComp elt [⟨tg,iter,ifs,0⟩] sc pos) (tCompN xs.length g wi tc te):=by
 intro pins s σ H Q I h
 rw [eval_ListComp]
 have hcl:∀y∈sc.names,y.2=.free→∃c,X.env.cells.lookup y.1=some c:=fun y hy hf=>I.ok.has y.1 (B.free y hy hf)
 refine wpAny_comprehension_free (use:=none) rfl hs (closureFor_all hcl) B.kind B.loc (thn (hi pins s σ H _ I h) fun v s1 h1=>thn h1 fun itv s2 h2=>?_)
 obtain ⟨it,fp,tn,J,H2,e,I2,T,st2,f2,hw⟩:=h2
 subst e
 refine blkN_run (RR:=fun acc C=>compPost (model X.prog X.w) X.A X.xe none (EP X pins σ Q) acc C) hc B hg ht he I2 T st2 f2 hw ?_
 intro D C H' s' m I' hn hC q
 obtain ⟨c0,c1,c2,c3,c4,c5⟩:=hC
 refine ⟨m,hn,fun h'' hs''=>⟨.ref D,H',?_,rfl,q⟩⟩
 exact I'.turned (t':=s'.toks) (fun b o hb e=>hs''.extBut b o hb e) c0 c1 c3 c4 c5
theorem ps_compN {i:Nat}{y:Str}{py spos:Pos}(hc:X.calm=true)(B:BlkN sc X.env.scope xs X.N N2)(hi:PI X tg iter wi)(hg:∀cl C s0 H0 fp,PG (X.blkN N2 xs sc cl C s0 H0 fp) tg g)(ht:∀cl C s0 H0 fp,PIf (X.blkN N2 xs sc cl C s0 H0 fp) ifs tc)(he:∀cl C s0 H0 fp,PE (X.blkN N2 xs sc cl C s0 H0 fp) elt te)
    (hy:X.N[i]?=some y) (hl:X.env.scope.names.lookup y=some .local) (hsw:autoParam (swapsWith (.ListComp elt [⟨tg,iter,ifs,0⟩] sc pos) (some (.Name y py)) spos.line X.env=pure true) aT2._auto_1)
    (hs:∀v,foldedSetIterable iter X.env v=pure v:=by intro _;rfl):PS X (.Assign [.Name y py] (.ListComp elt [⟨tg,iter,ifs,0⟩] sc pos) spos) (tAsg (tCompN xs.length g wi tc te) (gName i)):=by
  intro pins s σ H D I h
  have hx:=exec_Assign_Name_used (env:=X.env) _ _ _ _ hsw
  rw [hx]
  refine wpAny_bind (wpAny_standAt ?_)
  refine wpAny_bind ?_
  show wpAny _ X.A (do let _ ← comprehension (.ListComp elt [⟨tg,iter,ifs,0⟩] sc pos) sc X.env _ (newList []) false (eval iter X.env) (some (assign (.Name y py) X.env))) _ _ s
  have hcl:∀y∈sc.names,y.2=.free→∃c,X.env.cells.lookup y.1=some c:=fun y hy hf=>I.ok.has y.1 (B.free y hy hf)
  refine wpAny_bind (wpAny_mono (wpAny_comprehension_free (use:=some (assign (.Name y py) X.env)) (Q:=fun _ s'=>SP X pins D .next s') rfl hs (closureFor_all hcl) B.kind B.loc
    (thn (hi pins s σ H _ I h) fun v s1 h1=>thn h1 fun itv s2 h2=>?_)) (fun _ s' hq=>wpAny_pure (wpAny_pure hq)) fun _ _ e=>e)
  obtain ⟨it,fp,tn,J,H2,e,I2,T,st2,f2,hw⟩:=h2
  subst e
  refine blkN_run (Q:=fun v H1=>gName i v σ H1 D.nx) (RR:=fun acc C=>compPost (model X.prog X.w) X.A X.xe (some (assign (.Name y py) X.env)) (fun _ s'=>SP X pins D .next s') acc C) hc B hg ht he I2 T st2 f2 hw ?_
  intro E C H' s' m I' hn hC q
  obtain ⟨c0,c1,c2,c3,c4,c5⟩:=hC
  show wpAny _ X.A (assign (.Name y py) X.env (.ref E)) _ _ _
  refine wpAny_assign_Name (store_ok2 (v:=.ref E) I' B.nd hy (.inl hl) rfl (fun s8 I8 ⟨a,sb,ha⟩=>?_) (.inr hl))
  have hCa:C≠a:=by
    rcases ha with z | z
    · rw [z];exact c1
    · exact fun z'=>c4 _ _ z z'.symm
  refine ⟨m,hn.sameBut sb hCa,fun h'' hs''=>⟨_,H',?_,q⟩⟩
  exact I8.turned (t':=s8.toks) (fun b o hb e=>hs''.extBut b o hb e) c0 c1 c3 c4 c5
end
section
variable {X:Cx}{elt iter c tg:Expr}{xs:List Str}{pos:Pos}{ifs:List Expr}{sc esc:Scope}{N N2:List Str}{wi:TI}{tc:TT}{te:TE}{g:TG}
theorem qe_compN (esc:Scope)(N N2 xs:List Str)(B:BlkN sc esc xs N N2)(hi:QI X tg iter wi)(hg:∀cl C s0 H0 fp,QG (X.blkN N2 xs sc cl C s0 H0 fp) tg g)(ht:∀cl C s0 H0 fp,QIf (X.blkN N2 xs sc cl C s0 H0 fp) ifs tc)(he:∀cl C s0 H0 fp,QE (X.blkN N2 xs sc cl C s0 H0 fp) elt te)
  (hesc:autoParam (X.env.scope=esc) aT2._auto_1) (hN:autoParam (X.N=N) aT2._auto_1) (hc:autoParam (X.calm=true) aT2._auto_1) (hs:∀v,foldedSetIterable iter X.env v=pure v:=by intro _;rfl):QE X (.ListComp elt [⟨tg,iter,ifs,0⟩] sc pos) (tCompN xs.length g wi tc te):=by
 subst hesc hN
 exact ⟨pe_compN hc B hi.out (fun cl C s0 H0 fp=>(hg cl C s0 H0 fp).out) (fun cl C s0 H0 fp=>(ht cl C s0 H0 fp).out) (fun cl C s0 H0 fp=>(he cl C s0 H0 fp).out) hs⟩
theorem qs_compN {i:Nat}{y:Str}{py spos:Pos}(esc:Scope)(N N2 xs:List Str)(B:BlkN sc esc xs N N2)(hy:N[i]?=some y)(hl:esc.names.lookup y=some .local)(hi:QI X tg iter wi)(hg:∀cl C s0 H0 fp,QG (X.blkN N2 xs sc cl C s0 H0 fp) tg g)(ht:∀cl C s0 H0 fp,QIf (X.blkN N2 xs sc cl C s0 H0 fp) ifs tc)(he:∀cl C s0 H0 fp,QE (X.blkN N2 xs sc cl C s0 H0 fp) elt te)
  (hesc:autoParam (X.env.scope=esc) aT2._auto_1) (hN:autoParam (X.N=N) aT2._auto_1) (hc:autoParam (X.calm=true) aT2._auto_1) (hsw:autoParam (swapsWith (.ListComp elt [⟨tg,iter,ifs,0⟩] sc pos) (some (.Name y py)) spos.line X.env=pure true) aT2._auto_1)
  (hs:∀v,foldedSetIterable iter X.env v=pure v:=by intro _;rfl):QS X (.Assign [.Name y py] (.ListComp elt [⟨tg,iter,ifs,0⟩] sc pos) spos) (tAsg (tCompN xs.length g wi tc te) (gName i)):=by
 subst hesc hN
 exact ⟨ps_compN hc B hi.out (fun cl C s0 H0 fp=>(hg cl C s0 H0 fp).out) (fun cl C s0 H0 fp=>(ht cl C s0 H0 fp).out) (fun cl C s0 H0 fp=>(he cl C s0 H0 fp).out) hy hl hsw hs⟩
end
end L2
namespace L2
open PySem PySem.Spec PyProof.Rows
theorem best_in (bt:Nat→Nat→Bool):∀k,argBest bt k≤k
 | 0=>Nat.le_refl _
 | k+1=>by
  rw [argBest]
  have:=best_in bt k
  split<;>omega
theorem best_top (val:Nat→Int):∀k j,j≤k→val j≤val (argBest (fun i j=>decide (val i > val j)) k)
 | 0,j,h=>by
  have e:j=0:=by omega
  subst e
  exact Int.le_refl _
 | k+1,j,h=>by
  have ih:=best_top val k
  rw [argBest]
  by_cases c:val (k+1) > val (argBest (fun i j=>decide (val i > val j)) k)
  ·rw [if_pos (by simpa using c)]
   by_cases e:j=k+1
   ·subst e;exact Int.le_refl _
   ·have:=ih j (by omega)
    omega
  ·rw [if_neg (by simpa using c)]
   by_cases e:j=k+1
   ·subst e
    omega
   ·exact ih j (by omega)
noncomputable def rMaxL (K:PySem.W.Frag):List V→Hp→VK→Prop:=fun xs H Q=>∃p ns,xs=[.ref p]∧SqL K H p (ns.map V.int)∧ns≠[]∧∀m,m∈ns→(∀n∈ns,n≤m)→Q (.int m) H
noncomputable def rMaxA (K:PySem.W.Frag):List V→Hp→VK→Prop:=fun xs H Q=>(∃i j,xs=[.int i,.int j]∧Q (.int (if j > i then j else i)) H)∨rMaxL K xs H Q
section
variable {X:Cx}
theorem call_maxL (hc:X.calm=true):CallR X (.builtin "max") (rMaxL X.K):=by
 intro pins s σ H xs us Q I r h
 obtain ⟨p,ns,rfl,hq,hne,q⟩:=h
 obtain ⟨u,rfl,rx⟩:=vals1 r
 cases rx
 obtain ⟨its,rv,pl,hz⟩:=I.list hq
 have hi:IntsAre its ns:=intsAre_of rv
 obtain ⟨xs,hxs⟩:=hi.allInts.items
 have hn:numsOf its.toArray.toList=ns:=by rw [show its.toArray.toList=its from rfl,hi.numsOf]
 have hl:=pl.isList
 rw [hxs] at hl hn
 rw [nums_intItems] at hn
 have hsz:xs.size=ns.length:=by rw [← hn];simp
 have h0:0<ns.length:=List.length_pos_iff.mpr hne
 have val:∀i,i<ns.length→numAt xs i=ns.getD i 0:=fun i hi=>by
  rw [← hn]
  have:i<xs.size:=by omega
  simp [numAt,List.getD,this]
 refine max_intList (I.ok.hd hc) hl (by omega) fun v h' tk hv hk=>?_
 obtain ⟨tk',rfl⟩:=intItems_at hv
 have hb:=best_in (fun i j=>decide (numAt xs i > numAt xs j)) (xs.size - 1)
 have hlt:argBest (fun i j=>decide (numAt xs i > numAt xs j)) (xs.size - 1)<ns.length:=by omega
 refine ⟨.int (numAt xs (argBest (fun i j=>decide (numAt xs i > numAt xs j)) (xs.size - 1))),H,I.kept hk,⟨tk',rfl⟩,q _ ?_ fun n hn'=>?_⟩
 ·rw [val _ hlt]
  have e:ns.getD (argBest (fun i j=>decide (numAt xs i > numAt xs j)) (xs.size - 1)) 0=ns[argBest (fun i j=>decide (numAt xs i > numAt xs j)) (xs.size - 1)]:=by simp [List.getD,hlt]
  rw [e]
  exact List.getElem_mem hlt
 ·obtain ⟨j,hj,e⟩:=List.mem_iff_getElem.mp hn'
  have q1:=best_top (numAt xs) (xs.size - 1) j (by omega)
  rw [val j hj] at q1
  have e2:ns.getD j 0=ns[j]:=by simp [List.getD,hj]
  rw [e2,e] at q1
  exact q1
theorem Zgn (hc:X.calm=true):CallR X (.builtin "max") (rMaxA X.K):=(call_max2 hc).or (call_maxL hc)
end
section
variable {σ:St}{H:Hp}{Q:VK}{D:Ends}{K:PySem.W.Frag}
theorem rd_max2 {i j:Int}(q:Q (.int (if j > i then j else i)) H):rMaxA K [.int i,.int j] H Q:=.inl ⟨i,j,rfl,q⟩
theorem rd_maxL {p:Addr}{ns:List Int}(h:SqL K H p (ns.map V.int))(hne:ns≠[])(q:∀m,m∈ns→(∀n∈ns,n≤m)→Q (.int m) H):rMaxA K [.ref p] H Q:=.inr ⟨p,ns,rfl,h,hne,q⟩
end
section
variable {X:Cx}{a b c e o i':Expr}{to ti te:TE}{tc:TT}{pos p2 apos cpos:Pos}{body:List Stmt}{tb:TS}
theorem qs_while (hp:PassesOwn (model X.prog X.w) X.A X.env X.xe)(hc:QT X c tc)(hb:QSs X body tb):QS X (.While c body [] pos) (tWhile tc tb):=⟨ps_while hp hc.out hb.out⟩
end
end L2
namespace L2
open PySem PySem.Spec PyProof.Rows
section
variable {s:Shared}{E:Value→Shared→Prop}{A:Around}{P:Program}{w:World}
end
section
variable {X:Cx}{e:Expr}{te:TE}{p p' pos pos':Pos}
end
section
variable {σ:St}{H:Hp}{Q:VK}{K:PySem.W.Frag}
end
end L2
namespace L2
open PySem PySem.Spec PyProof.Rows
section
variable {X:Cx}
theorem truths {prog:Program}{w:World}{A:Around}{bs:List Bool}{its:List Value}(rv:Vals (bs.map V.bl) its):TruthOf prog w A (fun i v=>its.toArray[i]?=some v) (fun i=>bs.getD i false):=by
  intro i v s Q E hv hQ
  have hl:=rv.length
  rw [List.length_map] at hl
  have hv':its[i]?=some v:=by simpa using hv
  have hi:i<its.length:=(List.getElem?_eq_some_iff.mp hv').1
  obtain ⟨u,e,ru⟩:=rv.get (i:=i) (x:=V.bl (bs.getD i false)) (by
    rw [List.getElem?_map,List.getElem?_eq_getElem (by omega)]
    simp [List.getD,show i<bs.length by omega])
  rw [hv'] at e
  cases e
  cases (show v=Value.bool (bs.getD i false) from ru)
  exact wpAny_truthy_bool hQ
end
section
variable {H:Hp}{Q:VK}{K:PySem.W.Frag}
end
end L2
namespace L2
open PySem PySem.Spec PyProof.Rows
section
variable {X:Cx}
end
section
variable {H:Hp}{Q:VK}{K:PySem.W.Frag}
end
end L2
namespace L2
open PySem PySem.Spec PyProof.Rows
noncomputable def Dk {α:Type}:Sem α→Prop
 | .pure _=>True
 | .raise _=>True
 | .unsupported _=>True
 | .finish _=>True
 | .rule _ k=>Dk (k ())
 | .at _ k=>Dk (k ())
 | .load _ _ k=>∀o,Dk (k o)
 | .update _ _ f k=>(∀o:Obj,o.isFreed=false→(f o).isFreed=false∧(f o).dict=o.dict)∧Dk (k ())
 | .alloc _ k=>∀a,Dk (k a)
 | .loadIfAlive _ k=>∀o,Dk (k o)
 | .point _ k=>Dk (k ())
 | .fresh k=>∀a,Dk (k a)
 | .ask k=>∀a,Dk (k a)
 | .choose _ _ k=>∀a,Dk (k a)
 | .os _ _ k=>∀a,Dk (k a)
 | .handled _ k=>∀a,Dk (k a)
 | .stack k=>∀a,Dk (k a)
 | .thread k=>∀a,Dk (k a)
 | .register _ _=>False
 | .call ..=>False
 | .newGen ..=>False
 | .genState ..=>False
 | .resume ..=>False
 | .yield ..=>False
 | .fork ..=>False
 | .await ..=>False
theorem Dk.bind {α β:Type}{f:α→Sem β}(hf:∀a,Dk (f a)){t:Sem α}(h:Dk t):Dk (t.bind f):=by
 induction t with
 | pure a=>exact hf a
 | raise _=>trivial
 | unsupported _=>trivial
 | finish _=>trivial
 | rule _ k ih=>exact ih () h
 | «at» _ k ih=>exact ih () h
 | load _ _ k ih=>exact fun o=>ih o (h o)
 | update _ _ _ k ih=>exact ⟨h.1,ih () h.2⟩
 | alloc _ k ih=>exact fun o=>ih o (h o)
 | loadIfAlive _ k ih=>exact fun o=>ih o (h o)
 | point _ k ih=>exact ih () h
 | register _ _ _=>exact h.elim
 | fresh k ih=>exact fun o=>ih o (h o)
 | ask k ih=>exact fun o=>ih o (h o)
 | choose _ _ k ih=>exact fun o=>ih o (h o)
 | os _ _ k ih=>exact fun o=>ih o (h o)
 | call _ _ _ _ _ _=>exact h.elim
 | handled _ k ih=>exact fun o=>ih o (h o)
 | newGen _ _ _=>exact h.elim
 | genState _ _ _=>exact h.elim
 | resume _ _ _ _ _=>exact h.elim
 | yield _ _ _ _ _=>exact h.elim
 | stack k ih=>exact fun o=>ih o (h o)
 | fork _ _ _=>exact h.elim
 | thread k ih=>exact fun o=>ih o (h o)
 | await _ _ _ _ _ _=>exact h.elim
noncomputable def DictIs (s:Shared)(e:Addr)(d:Option Addr):Prop:=∃o,s.heap.get? e=some o∧o.dict=d
theorem dict_update {h:Heap}{e a:Addr}{f:Obj→Obj}{o:Obj}(he:h.get? e=some o)(hf:∀o:Obj,o.isFreed=false→(f o).isFreed=false∧(f o).dict=o.dict):∃o',(h.update a f).get? e=some o'∧o'.dict=o.dict:=by
 by_cases q:a=e
 ·subst q
  have nf:o.isFreed=false:=(Heap.get?_some_iff.mp he).2
  exact ⟨f o,Heap.get?_update_self f he (hf o nf).1,(hf o nf).2⟩
 ·exact ⟨o,by rw [Heap.get?_update_other _ _ q];exact he,rfl⟩
theorem Dk.wp {α:Type}{M:Model}{Γ:PySem.Ctx}{e:Addr}{d:Option Addr}{t:Sem α}{Q:α→Pos→Shared→Prop}{E:Value→Pos→Shared→Prop}{p:Pos}{s:Shared}(hk:Dk t)(h:Sem.wp M Γ t Q E p s)(hd:DictIs s e d) :
  Sem.wp M Γ t (fun a p' s'=>Q a p' s'∧DictIs s' e d) (fun x p' s'=>E x p' s'∧DictIs s' e d) p s:=by
 induction t generalizing p s with
 | pure a=>exact ⟨h,hd⟩
 | raise _=>exact ⟨h,hd⟩
 | unsupported _=>exact h.elim
 | finish _=>exact h.elim
 | rule _ k ih=>exact ih () hk h hd
 | «at» _ k ih=>exact ih () hk h hd
 | load _ _ k ih =>
  obtain ⟨o,h1,h2⟩:=h
  exact ⟨o,h1,ih o (hk o) h2 hd⟩
 | update a _ f k ih =>
  obtain ⟨o,h1,h2⟩:=hd
  obtain ⟨o',g1,g2⟩:=dict_update (a:=a) h1 hk.1
  exact ⟨h.1,ih () hk.2 h.2 ⟨o',g1,g2.trans h2⟩⟩
 | alloc _ k ih =>
  obtain ⟨o,h1,h2⟩:=hd
  exact ih _ (hk _) h ⟨o,Heap.get?_push_of_some _ h1,h2⟩
 | loadIfAlive _ k ih=>exact ih _ (hk _) h hd
 | point _ k ih=>exact ih () hk h hd
 | register _ _ _=>exact hk.elim
 | fresh k ih=>exact ih _ (hk _) h hd
 | ask k ih=>exact ih _ (hk _) h hd
 | choose _ _ k ih=>exact ⟨h.1,ih _ (hk _) h.2 hd⟩
 | os _ _ k ih=>exact ih _ (hk _) h hd
 | call _ _ _ _ _ _=>exact hk.elim
 | handled _ k ih=>exact ih _ (hk _) h hd
 | newGen _ _ _=>exact hk.elim
 | genState _ _ _=>exact hk.elim
 | resume _ _ _ _ _=>exact hk.elim
 | yield _ _ _ _ _=>exact hk.elim
 | stack k ih=>exact ih _ (hk _) h hd
 | fork _ _ _=>exact hk.elim
 | thread k ih=>exact ih _ (hk _) h hd
 | await _ _ _ _ _ _=>exact hk.elim
theorem Dk.any {α:Type}{M:Model}{A:Around}{e:Addr}{d:Option Addr}{t:Sem α}{Q:α→Shared→Prop}{E:Value→Shared→Prop}{s:Shared}(hk:Dk t)(h:wpAny M A t Q E s)(hd:DictIs s e d):wpAny M A t (fun a s'=>Q a s'∧DictIs s' e d) (fun x s'=>E x s'∧DictIs s' e d) s :=
 fun Γ p hΓ=>hk.wp (h Γ p hΓ) hd
theorem dk_fieldsOf (v:Value):Dk (fieldsOf v):=by
 unfold fieldsOf
 cases v<;>first | trivial | skip
 refine Dk.bind (t:=PySem.load _) (fun o=>?_) (fun _=>trivial)
 cases o.data<;>trivial
theorem dk_field (v:Value)(i:Nat):Dk (field v i):=Dk.bind (fun vs=>by
  cases vs[i]?<;>trivial) (dk_fieldsOf v)
theorem map_dict (f:Array Value→Array Value)(o:Obj)(h:o.isFreed=false):(Obj.mapFields f o).isFreed=false∧(Obj.mapFields f o).dict=o.dict:=by
 rcases o with ⟨c,d,data,sl⟩
 cases data<;>exact ⟨h,rfl⟩
theorem dk_setField (v:Value)(i:Nat)(x:Value):Dk (setField v i x):=by
 unfold setField
 cases v<;>first | trivial | skip
 rename_i a
 show Dk (updateField a i x)
 unfold updateField
 refine Dk.bind (t:=PySem.load _) (fun o=>?_) (fun _=>trivial)
 cases o.data<;>first | trivial | skip
 rename_i vs
 show Dk (if i<vs.size then _ else _)
 split
 ·exact ⟨fun o h=>map_dict _ o h,trivial⟩
 ·trivial
theorem dk_setFlight (e:Value)(f:Option Addr):Dk (setFlight e f):=Dk.bind (fun tb=>by
  show Dk (if (tb != Value.none)=true then _ else _)
  split
  · exact dk_setField _ _ _
  · trivial) (dk_field e 1)
theorem dk_behind (env:Env)(outer:List Env):Dk (behindIsImport env outer):=by
 unfold behindIsImport
 split
 ·trivial
 ·split
  ·trivial
  ·refine Dk.bind (fun _=>?_) (dk_field _ _)
   trivial
theorem dk_kept (env:Env)(b:Bool):∀l:List Env,Dk (keptBack env b l)
 | []=>by
  show Dk (if (env.scope.isGenerator||env.scope.isCoroutine)=true then _ else _)
  split
  ·trivial
  ·refine Dk.bind (t:=underTheClaimsCaller) (fun _=>?_) (Dk.bind (t:=PySem.stack) (fun _=>?_) fun _=>trivial)
   ·trivial
   ·trivial
 | _::_=>trivial
theorem dk_ready:∀l:List Env,Dk (readyFrames l)
 | []=>trivial
 | env::outer=>by
  unfold readyFrames
  cases env.frame with
  | none=>trivial
  | some f =>
   refine Dk.bind (t:=PySem.load f) (fun o=>?_) fun _=>trivial
   split
   ·trivial
   ·refine Dk.bind (fun b=>?_) (dk_behind env outer)
    refine Dk.bind (fun k=>?_) (dk_kept env b outer)
    refine Dk.bind (t:=PySem.update f _) (fun _=>dk_ready outer) ⟨fun o h=>by rcases o with ⟨c,d,data,sl⟩;cases data<;>exact ⟨h,rfl⟩,trivial⟩
theorem dk_frameObject (l:List Env):Dk (frameObject l):=by
 cases l with
 | nil=>trivial
 | cons e l =>
  refine Dk.bind (fun _=>?_) (dk_ready (e::l))
  trivial
theorem dk_frameOf (env:Env):Dk (PySem.frameOf env):=by
 unfold PySem.frameOf
 refine Dk.bind (t:=frameEnvs) (fun l=>?_) (Dk.bind (t:=PySem.stack) (fun _=>?_) fun _=>trivial)
 ·refine Dk.bind (fun o=>?_) (dk_frameObject _)
  cases o<;>trivial
 ·trivial
theorem dk_place (f:Addr)(b:Bool):Dk (entryPlaceOf f b):=by
 unfold entryPlaceOf
 refine Dk.bind (t:=PySem.stack) (fun acts=>?_) fun _=>trivial
 split<;>trivial
theorem dk_newFields (ty:String)(vs:List Value):Dk (newFields ty vs):=by
 have h:Dk (newObjAsIs (.type ty) (.fields vs.toArray)):=by
  unfold newObjAsIs
  refine Dk.bind (t:=PySem.alloc _) (fun _=>?_) fun _=>trivial
  trivial
 show Dk (if vs.toArray.size > sizeLine+2 then _ else _)
 split
 ·trivial
 ·exact h
theorem dk_note (e:Value)(env:Env):Dk (noteFrame e env):=by
 unfold noteFrame
 cases env.frame with
 | none=>trivial
 | some f =>
  have last:∀head:Value,Dk (do setField e 1 (← EntryCells.newEntry head (← PySem.frameOf env) .none (rawInt f) .none (← entryPlaceOf f (head != .none)))):=fun head =>
   Dk.bind (fun fr=>Dk.bind (fun pl=>Dk.bind (fun b=>dk_setField _ _ _) (dk_newFields _ _)) (dk_place _ _)) (dk_frameOf env)
  refine Dk.bind (fun head=>?_) (dk_field e 1)
  split
  ·refine Dk.bind (fun x=>?_) (dk_field head 3)
   split
   ·trivial
   ·exact Dk.bind (fun _=>last head) (dk_setField _ _ _)
  ·exact last head
theorem dk_leaving (env:Env)(e:Value):Dk (leaving env e):=Dk.bind (fun _=>dk_setFlight _ _) (dk_note e env)
end L2
namespace L2
open PySem PySem.Spec PyProof.Rows
theorem ObjOk.ob {P:Program}{w:World}{H:Hp}{h:Heap}{a:Addr}{o:HO}(x:ObjOk P w H h a o):∃ob,h.get? a=some ob:=by
 cases o with
 | lst xs=>obtain ⟨_,its,n,_,e⟩:=x;exact ⟨_,e⟩
 | tup xs=>obtain ⟨_,its,_,ob,e,_⟩:=x;exact ⟨ob,e⟩
 | dK kvs=>obtain ⟨_,_,vs,_,ob,es,ep,e,_⟩:=x;exact ⟨ob,e⟩
 | dT kvs=>obtain ⟨_,_,xs,_,ob,es,ep,e,_⟩:=x;exact ⟨ob,e⟩
 | set S n=>obtain ⟨ob,es,ep,t,e,_⟩:=x;exact ⟨ob,e⟩
 | ins C dx fs=>obtain ⟨_,_,_,e,_⟩:=x;exact ⟨_,e⟩
 | own y=>exact x
 | xd fs=>obtain ⟨mA,⟨od,es,ep,e,_⟩,_⟩:=x;exact ⟨od,e⟩
 | rng lo hi=>obtain ⟨t,u,v,e⟩:=x;exact ⟨_,e⟩
 | frz ob u=>obtain ⟨e,_⟩:=x;exact ⟨_,e⟩
 | tbl ps=>exact ⟨_,x⟩
 | met f y=>exact ⟨_,x⟩
 | ext φ=>obtain ⟨_,⟨ob,e⟩,_⟩:=x;exact ⟨ob,e⟩
section
variable {X:Cx}{pins:List (Addr×Obj)}{σ:St}{H H':Hp}{s:Shared}{h':Heap}
theorem Inv.step' {g':Array GenState}{t':Nat}{d':Drawn}{ch:List Addr}(I:Inv X pins σ H s)
  (hch:∀b∈ch,X.s₀.heap.get? b=none∧b≠X.env.locals∧(∀x c,X.env.cells.lookup x=some c→c≠b)∧∀p∈X.pn++pins,p.1≠b)
  (keep:∀b o,b≠X.env.locals→b∉X.fs→b∉ch→s.heap.get? b=some o→H b=none→h'.get? b=some o)
  (slot:∀b o,b≠X.env.locals→b∈X.fs→b∉ch→s.heap.get? b=some o→H b=none→∃sl,h'.get? b=some { o with slots:=sl }) (free:∀b o,b∉ch→s.heap.get? b=some o→H b=none→H' b=none)
  (there:∀b o,b∉ch→s.heap.get? b=some o→∃o',h'.get? b=some o')
  (tups:∀b xs,H b=some (.tup xs)→H' b=some (.tup xs)) (frzs:∀b o u,H b=some (.frz o u)→H' b=some (.frz o u)) (tbls:∀b ps,H b=some (.tbl ps)→∃more,H' b=some (.tbl (ps++more)))
  (ns:∀m,s.heap.Ns X.env.locals m→h'.Ns X.env.locals m) (hok:HOk X.prog X.w H' h') (hg:AllBare g') :
  Inv X pins σ H' { s with heap:=h',gens:=g',drawn:=d',toks:=t' }:=by
 have neL:∀b o,X.s₀.heap.get? b=some o→b≠X.env.locals:=fun b o e=>Nat.ne_of_lt (Nat.lt_of_lt_of_le (Heap.lt_size e) I.ok.above)
 have neC:∀b o,X.s₀.heap.get? b=some o→b∉X.ex→b∉ch:=fun b o e hx hb=>by
  have z:=(hch b hb).1
  rw [z] at e
  cases e
 have cellK:∀x c,X.env.cells.lookup x=some c→∀v,s.heap.IsCell c v→h'.IsCell c v:=fun x c e v ⟨o,ho,hd⟩=>by
  have nch:c∉ch:=fun z=>(hch c z).2.2.1 x c e rfl
  by_cases hc:c∈X.fs
  ·obtain ⟨sl,q⟩:=slot c o (I.cne x c e) hc nch ho (I.freeC x c e)
   exact ⟨_,q,hd⟩
  ·exact ⟨o,keep c o (I.cne x c e) hc nch ho (I.freeC x c e),hd⟩
 refine ⟨I.ok,I.os,hg,⟨fun b o e n hb hx=>?_,fun b o e n hb hx=>?_,fun b o e n hx=>?_,fun b o e hx=>?_,fun b xs e=>tups b xs (I.base.tups b xs e),fun b o xs e=>frzs b o xs (I.base.frzs b o xs e),fun b ps e=>?_⟩,?_,fun x c e=>?_,?_,fun x c e=>?_,fun p hp=>?_,hok,I.len⟩
 ·exact keep b o (neL b o e) hb (neC b o e hx) (I.base.keep b o e n hb hx) (I.base.free b o e n hx)
 ·obtain ⟨sl,e1⟩:=I.base.slot b o e n hb hx
  obtain ⟨sl',e2⟩:=slot b _ (neL b o e) hb (neC b o e hx) e1 (I.base.free b o e n hx)
  exact ⟨sl',e2⟩
 ·obtain ⟨o',e1⟩:=I.base.there b o e hx
  exact free b o' (neC b o e hx) e1 (I.base.free b o e n hx)
 ·obtain ⟨o',e1⟩:=I.base.there b o e hx
  exact there b o' (neC b o e hx) e1
 ·obtain ⟨m1,e1⟩:=I.base.tbls b ps e
  obtain ⟨m2,e2⟩:=tbls b _ e1
  exact ⟨m1++m2,by rw [e2,Array.append_assoc]⟩
 ·obtain ⟨m,hn,hl⟩:=I.loc
  refine ⟨m,ns m hn,fun i x v e1 e2 e3=>?_⟩
  obtain ⟨u,r,l⟩:=hl i x v e1 e2 e3
  refine ⟨u,r,?_⟩
  rcases l with l | ⟨k,c,e,z⟩
  ·exact .inl l
  ·exact .inr ⟨k,c,e,cellK x c e _ z⟩
 ·obtain ⟨v,z⟩:=I.cell x c e
  exact ⟨v,cellK x c e v z⟩
 ·obtain ⟨m,⟨o,_,_,ho,_⟩,_⟩:=I.loc
  exact free _ o (fun z=>(hch _ z).2.1 rfl) ho I.free
 ·obtain ⟨v,o,ho,hd⟩:=I.cell x c e
  exact free c o (fun z=>(hch c z).2.2.1 x c e rfl) ho (I.freeC x c e)
 ·obtain ⟨e,n,ne,nf,d⟩:=I.pin p hp
  have nch:p.1∉ch:=fun z=>(hch p.1 z).2.2.2 p hp rfl
  exact ⟨keep p.1 p.2 ne nf nch e n,free p.1 p.2 nch e n,ne,nf,d⟩
end
noncomputable def ExAt (h:Heap)(e:Addr)(cls:Value)(own:List Addr)(z:Option Value):Prop :=
 ∃oe vs a0,h.get? e=some oe∧oe.cls=cls∧oe.data=.fields vs∧vs[0]?=some a0∧
  ((z=none∧own=[e]∧vs[1]?=some .none)∨∃T oT ts fl,z=some fl∧own=[e,T]∧vs[1]?=some (.ref T)∧T≠e∧h.get? T=some oT∧oT.data=.fields ts∧ts[3]?=some fl)
noncomputable def OwnOk (X:Cx)(pins:List (Addr×Obj))(H:Hp)(own:List Addr):Prop :=
 ∀b∈own,H b=none∧X.s₀.heap.get? b=none∧b≠X.env.locals∧(∀x c,X.env.cells.lookup x=some c→c≠b)∧∀p∈X.pn++pins,p.1≠b
noncomputable def CXE0 (P:Program)(w:World):CXT:=fun outer H s E ev s' =>
 ∃e T cls H',ev=.ref e∧s'.os=s.os∧AllBare s'.gens∧Un (frs outer) [] H H' s.heap s'.heap∧HOk P w H' s'.heap∧(∃B,s'.heap.FunFrames B outer)∧ExAt s'.heap e cls [e,T] (some .none)∧
  s.heap.get? e=none∧s.heap.get? T=none∧H' e=none∧H' T=none∧E cls none H'
noncomputable def ER0 (X:Cx)(E:XK)(ev:Value)(s':Shared):Prop :=
 ∃pins e own cls z σ H,ev=.ref e∧Inv X pins σ H s'∧ExAt s'.heap e cls own z∧(z=none∨z=some .none∨∃L,X.env.frame=some L∧z=some (rawInt L))∧OwnOk X pins H own∧E cls none H
section
variable {X:Cx}{pins:List (Addr×Obj)}{σ:St}{H:Hp}{s:Shared}
theorem Inv.noteOf (I:Inv X pins σ H s):∀b∈frs X.stack,∃o,s.heap.get? b=some o∧∀vs,o.data≠.fields vs:=fun b hb=>(I.stack.mem hb).2
theorem Inv.hide (I:Inv X pins σ H s)(own:List Addr):(PySem.W.hideAll s.heap (own++frs X.stack)).StaysIn s.heap∧s.heap.FunFrames (PySem.W.hideAll s.heap (own++frs X.stack)) X.stack :=
 ⟨fun _ _ q=>PySem.W.of_hideAll _ q,PySem.W.funFrames_hide I.stack fun _ he _ ha=>List.mem_append_right _ (List.mem_filterMap.mpr ⟨_,he,ha⟩)⟩
structure Kept (X:Cx)(own:List Addr)(h h':Heap):Prop where
 st:(PySem.W.hideAll h (own++frs X.stack)).StaysIn h'
 fr:h'.FunFrames (PySem.W.hideAll h (own++frs X.stack)) X.stack
 up:h.UpToSlots h'
theorem Kept.get {own:List Addr}{h h':Heap}(k:Kept X own h h'){b:Addr}{o:Obj}(e:h.get? b=some o)(n1:b∉own)(n2:b∉frs X.stack):h'.get? b=some o :=
 k.st b o (PySem.W.hideAll_get _ e fun z=>(List.mem_append.mp z).elim n1 n2)
theorem Kept.hok {own:List Addr}{h':Heap}(k:Kept X own s.heap h')(I:Inv X pins σ H s)(oo:∀b∈own,H b=none):HOk X.prog X.w H h':=fun a o e=>by
 refine (I.hok a o e).stay (fun b u hb q=>?_) (fun _ q=>q) fun _ _ q=>q
 have tr:∃u',H b=some u':=by
  rcases hb with rfl | hb
  ·exact ⟨_,e⟩
  ·exact ⟨_,hb⟩
 obtain ⟨u',eu⟩:=tr
 exact k.get q (fun z=>by rw [oo b z] at eu;cases eu) (fun z=>by rw [I.stkFree b z] at eu;cases eu)
theorem Kept.there {own:List Addr}{h':Heap}(k:Kept X own s.heap h')(I:Inv X pins σ H s){b:Addr}{o:Obj}(e:s.heap.get? b=some o)(n1:b∉own):∃sl,h'.get? b=some { o with slots:=sl }:=by
 by_cases n2:b∈frs X.stack
 ·obtain ⟨o',e',hd⟩:=I.noteOf b n2
  rw [e] at e'
  cases e'
  exact k.up b o e hd
 ·exact ⟨o.slots,k.get e n1 n2⟩
theorem Kept.inv {own:List Addr}{h':Heap}(k:Kept X own s.heap h')(I:Inv X pins σ H s)(oo:OwnOk X pins H own){t':Nat}:Inv X pins σ H { s with heap:=h',toks:=t' }:=by
 refine I.step' (g':=s.gens) (d':=s.drawn) (ch:=own) (fun b hb=>(oo b hb).2) (fun b o h1 h2 h3 e n=>?_) (fun b o _ _ h3 e n=>k.there I e h3) (fun _ _ _ _ n=>n) (fun b o h3 e=>?_) (fun _ _ e=>e) (fun _ _ _ e=>e) (fun b ps e=>⟨#[],by rw [e];simp⟩)
  (fun m hm=>k.up.ns hm) (k.hok I fun b hb=>(oo b hb).1) I.bare
 ·exact k.get e h3 fun z=>(List.mem_cons.mp (I.stkSub b z)).elim h1 h2
 ·obtain ⟨sl,q⟩:=k.there I e h3
  exact ⟨_,q⟩
theorem Kept.new {own:List Addr}{h':Heap}(k:Kept X own s.heap h'){T:Addr}{oT:Obj}{ts:Array Value}(hn:(PySem.W.hideAll s.heap (own++frs X.stack)).get? T=none)(hT:h'.get? T=some oT)(hd:oT.data=.fields ts)(no:T∉own):s.heap.get? T=none:=by
 cases q:s.heap.get? T with
 | none=>rfl
 | some o =>
  have nf:T∉frs X.stack:=fun z=>by
   obtain ⟨_,o',e',hd'⟩:=k.fr.mem z
   rw [hT] at e'
   cases e'
   exact hd' ts hd
  rw [PySem.W.hideAll_get _ q fun z=>(List.mem_append.mp z).elim no nf] at hn
  cases hn
end
theorem er_leaves0 {X:Cx}{P:Program}{w:World}{outer:List Env}{H₀:Hp}{s₀:Shared}{E:XK}{ev:Value}{s':Shared}{R:Value→Shared→Prop}(h:ER0 X E ev s')
    (hP:X.prog=P) (hw:X.w=w) (hs:X.s₀=s₀) (hH:X.H₀=H₀) (ho:X.outer=outer) (hx:X.ex=[]) (hst:X.stack=X.env::outer) (hf:X.env.frame=some X.env.locals) :
    wpAny (model P w) X.A (leaving X.env ev) (fun _ s''=>CXE0 P w outer H₀ s₀ E ev s'') R s':=by
  obtain ⟨pins,e,own,cls,z,σ,H,rfl,I,x,hz,oo,q⟩:=h
  subst hP hw hs hH ho
  have hfr:X.A.frames=some (X.env::X.outer):=by rw [← hst];exact I.ok.frames
  obtain ⟨hkb,hfl⟩:=I.hide own
  obtain ⟨B,hB⟩:∃B,B=PySem.W.hideAll s'.heap (own++frs X.stack):=⟨_,rfl⟩
  rw [← hB] at hkb hfl
  have hen:B.get? e=none:=by
    rw [hB]
    refine PySem.W.hideAll_none _ (List.mem_append_left _ ?_)
    obtain ⟨_,_,_,_,_,_,_,(⟨_,r,_⟩ | ⟨_,_,_,_,_,r,_⟩)⟩:=x<;>(rw [r];simp)
  have fin:∀(h':Heap) (a0:Value),B.StaysIn h'→h'.FunFrames B X.stack→h'.TracedW B e cls a0→s'.heap.UpToSlots h'→
      CXE0 X.prog X.w X.outer X.H₀ X.s₀ E (.ref e) { s' with heap:=h' }:=fun h' a0 k1 k2 k3 k4=>by
    have k2':h'.FunFrames B X.outer:=by
      rw [hst] at k2
      exact k2.2.2
    subst hB
    have K:Kept X own s'.heap h':=⟨k1,k2,k4⟩
    obtain ⟨oe,vs,T,oT,ts,he,⟨hc,h0⟩,hd,h1,hnT,hTe,hT,hdT,h3⟩:=k3
    have eo:e∈own:=by obtain ⟨_,_,_,_,_,_,_,(⟨_,r,_⟩ | ⟨_,_,_,_,_,r,_⟩)⟩:=x<;>(rw [r];simp)
    have newT:X.s₀.heap.get? T=none∧H T=none:=by
      by_cases no:T∈own
      · exact ⟨(oo T no).2.1,(oo T no).1⟩
      · have hn:=K.new hnT hT hdT no
        refine ⟨?_,?_⟩
        · cases qq:X.s₀.heap.get? T with
          | none=>rfl
          | some o =>
            obtain ⟨o',e'⟩:=I.base.there T o qq (by rw [hx];simp)
            rw [hn] at e'
            cases e'
        · cases qq:H T with
          | none=>rfl
          | some o =>
            obtain ⟨o',e'⟩:∃o',s'.heap.get? T=some o':=(I.hok T o qq).ob
            rw [hn] at e'
            cases e'
    have neL:∀b o,X.s₀.heap.get? b=some o→b≠X.env.locals:=fun b o e=>Nat.ne_of_lt (Nat.lt_of_lt_of_le (Heap.lt_size e) I.ok.above)
    have neO:∀b o,X.s₀.heap.get? b=some o→b∉own:=fun b o e z=>by rw [(oo b z).2.1] at e;cases e
    have nx:∀b:Addr,b∉X.ex:=fun b z=>by rw [hx] at z;simp at z
    refine ⟨e,T,cls,H,rfl,I.os,I.bare,⟨fun b o e n hb _=>?_,fun b o e n hb _=>?_,fun b o e n _=>I.base.free b o e n (nx b),fun b o e _=>?_,I.base.tups,I.base.frzs,I.base.tbls⟩,K.hok I fun b hb=>(oo b hb).1,⟨PySem.W.hideAll s'.heap (own++frs X.stack),?_⟩,
      ⟨oe,vs,a0,he,hc,hd,h0,.inr ⟨T,oT,ts,.none,rfl,rfl,h1,hTe,hT,hdT,h3⟩⟩,(oo e eo).2.1,newT.1,(oo e eo).1,newT.2,q⟩
    · exact K.get (I.base.keep b o e n hb (nx b)) (neO b o e) fun z=>(List.mem_cons.mp (I.stkSub b z)).elim (neL b o e) hb
    · obtain ⟨sl,e1⟩:=I.base.slot b o e n hb (nx b)
      obtain ⟨sl',e2⟩:=K.there I e1 (neO b o e)
      exact ⟨sl',e2⟩
    · obtain ⟨o',e1⟩:=I.base.there b o e (nx b)
      obtain ⟨sl',e2⟩:=K.there I e1 (neO b o e)
      exact ⟨_,e2⟩
    · exact k2'
  rw [hst] at hfl
  obtain ⟨oe,vs,a0,he,hc,hd,h0,r⟩:=x
  subst hc
  rcases r with ⟨_,_,h1⟩ | ⟨T,oT,ts,fl,rfl,ro,h1,hTe,hT,hdT,h3⟩
  · exact wpAny_leaving_firstW hfr hfl hf he hkb hen hd h1 h0 fun h' L=>fin h' a0 L.1 (by rw [hst];exact L.2.1) L.2.2.1 L.2.2.2
  · have hnT:B.get? T=none:=by
      rw [hB]
      exact PySem.W.hideAll_none _ (List.mem_append_left _ (by rw [ro];simp))
    have tr:s'.heap.TracedAtW B e oe.cls a0 fl:=⟨oe,vs,T,oT,ts,he,⟨rfl,h0⟩,hd,h1,hnT,hTe,hT,hdT,h3⟩
    rcases hz with hz | hz | ⟨L,hL,hz⟩
    · cases hz
    · cases hz
      exact wpAny_leaving_nextW hfr hfl hf tr hkb hen fun h' L=>fin h' a0 L.1 (by rw [hst];exact L.2.1) L.2.2.1 L.2.2.2
    · cases hz
      unfold leaving
      refine wpAny_bind (wpAny_noteFrame_againW hL tr ?_)
      exact wpAny_landsW ⟨hkb,hen,hfl,tr⟩ fun h' F up=>fin h' a0 F.1 (by rw [hst];exact F.2.2.1) F.2.2.2 up
noncomputable def CXE (P:Program)(w:World):CXT:=fun outer H s E ev s'=>∃e dx,ev=.ref e∧DictIs s' e dx∧CXE0 P w outer H s (fun cls _ H'=>E cls dx H') ev s'
noncomputable def ER (X:Cx)(E:XK)(ev:Value)(s':Shared):Prop:=∃e dx,ev=.ref e∧DictIs s' e dx∧ER0 X (fun cls _ H'=>E cls dx H') ev s'
theorem er_leaves {X:Cx}{P:Program}{w:World}{outer:List Env}{H₀:Hp}{s₀:Shared}{E:XK}{ev:Value}{s':Shared}{R:Value→Shared→Prop}(h:ER X E ev s')
  (hP:X.prog=P) (hw:X.w=w) (hs:X.s₀=s₀) (hH:X.H₀=H₀) (ho:X.outer=outer) (hx:X.ex=[]) (hst:X.stack=X.env::outer) (hf:X.env.frame=some X.env.locals) :
  wpAny (model P w) X.A (leaving X.env ev) (fun _ s''=>CXE P w outer H₀ s₀ E ev s'') R s':=by
 obtain ⟨e,dx,rfl,hd,h⟩:=h
 exact wpAny_mono ((dk_leaving X.env (.ref e)).any (er_leaves0 (R:=R) h hP hw hs hH ho hx hst hf) hd) (fun _ s'' q=>⟨e,dx,rfl,q.2,q.1⟩) fun _ _ q=>q.1
section
variable {X:Cx}{pins:List (Addr×Obj)}{σ:St}{H:Hp}{s:Shared}
theorem Inv.ownNew (I:Inv X pins σ H s)(hx:X.ex=[]){b:Addr}(hb:s.heap.get? b=none):H b=none∧X.s₀.heap.get? b=none∧b≠X.env.locals∧(∀x c,X.env.cells.lookup x=some c→c≠b)∧∀p∈X.pn++pins,p.1≠b:=by
 refine ⟨?_,?_,?_,fun x c e z=>?_,fun p hp z=>?_⟩
 ·cases q:H b with
  | none=>rfl
  | some o =>
   obtain ⟨ob,e⟩:=(I.hok b o q).ob
   rw [hb] at e
   cases e
 ·cases q:X.s₀.heap.get? b with
  | none=>rfl
  | some o =>
   obtain ⟨o',e⟩:=I.base.there b o q (by rw [hx];simp)
   rw [hb] at e
   cases e
 ·rintro rfl
  obtain ⟨m,⟨o,_,_,ho,_⟩,_⟩:=I.loc
  rw [hb] at ho
  cases ho
 ·obtain ⟨v,o,ho,_⟩:=I.cell x c e
  rw [z,hb] at ho
  cases ho
 ·have e:=(I.pin p hp).1
  rw [z,hb] at e
  cases e
end
theorem PSs.weak {X:Cx}{E':Value→Shared→Prop}{st:List Stmt}{t:TS}(h:PSs (X.wish E') st t)(hE:∀e s,E' e s→X.xe e s):PSs X st t:=fun pins s σ H D I hw =>
 wpAny_mono (h pins s σ H D (I.wish E') hw) (fun _ _ q=>q.unwish) hE
theorem PS.nox {X:Cx}{st:Stmt}{t:TS}(h:PS X.nox st t):PS X st t:=fun pins s σ H D I hw =>
 wpAny_mono (h pins s σ H D (I.wish _) hw) (fun _ _ q=>q.unwish) fun _ _ x=>x.elim
theorem Fun.okE {P:Program}{w:World}{K:PySem.W.Frag}{mg:Str→Option Value}{base:Heap}{x qual:Str}{st:Stmt}{f:Addr}{fd:FuncData}{N ps:List Str}{k:Nat}{sp:Sp}(F:Fun K x qual st f fd)(S:FnScope N ps (defScope st))(len:∀vs H Q E,sp vs H Q E→vs.length=ps.length)
    (hbody:∀(cdv:Value) (A:Around) (outer:List Env) (s:Shared) (H:Hp) (vs:List V) (Q:VK) (E:XK),Room k (A.deeper (envOfC qual (defScope st) s.heap.objs.size f cdv))→sp vs H Q E→
      ∃t,PSs ((cxOf (CXE P w) P w K mg base N qual (defScope st) f cdv A outer s H E).wish (ER (cxOf (CXE P w) P w K mg base N qual (defScope st) f cdv A outer s H E) E)) (defBody st) t∧t { nx:=fun _ H'=>Q .non H',rt:=Q } (start N vs) H):FnOk P w K mg base (CXE P w) (k+1) f fd ps sp:=by
  obtain ⟨oc,od,kV,doc,pm,an,cdv,ct,osl,rfl,lk,hcd⟩:=F.ex
  refine fn_of lk hcd S len fun A outer s H vs Q E hr hsp=>?_
  obtain ⟨t,h,q⟩:=hbody cdv A outer s H vs Q E hr hsp
  exact ⟨t,h.weak fun e s' x=>er_leaves x rfl rfl rfl rfl rfl rfl rfl rfl,q⟩
theorem passE0 {X:Cx}{E:XK}(hx:autoParam (X.ex=[]) aT2._auto_1):Passes (CXE0 X.prog X.w) (X.wish (ER0 X E)) E:=fun pins σ H s ev s' I h=>by
 obtain ⟨e,T,cls,H',rfl,os,bare,un,hok,fr,x,ne,nT,hH1,hH2,q⟩:=h
 have J:Inv X pins σ H s:=I.unwish
 have I':Inv X pins σ H' s':=J.call' (ch:=[]) os un hok bare (by simp)
 refine ⟨pins,e,[e,T],cls,some .none,σ,H',rfl,I',x,.inr (.inl rfl),fun b hb=>?_,q⟩
 simp only [List.mem_cons,or_false,List.not_mem_nil] at hb
 rcases hb with rfl | rfl
 ·exact ⟨hH1,(J.ownNew hx ne).2⟩
 ·exact ⟨hH2,(J.ownNew hx nT).2⟩
theorem passE {X:Cx}{E:XK}(hx:autoParam (X.ex=[]) aT2._auto_1):Passes (CXE X.prog X.w) (X.wish (ER X E)) E:=fun pins σ H s ev s' I h=>by
 obtain ⟨e,dx,rfl,hd,h⟩:=h
 exact ⟨e,dx,rfl,hd,passE0 (X:=X) (E:=fun cls _ H'=>E cls dx H') hx pins σ H s (.ref e) s' (I.unwish.wish _) h⟩
noncomputable abbrev bmV:List Value:=[.type "ValueError",.type "Exception",.type "BaseException",.type "object"]
end L2
namespace L2
open PySem PySem.Spec PyProof.Rows
section
variable {X:Cx}{pins:List (Addr×Obj)}{σ:St}{H:Hp}{s:Shared}
theorem ExAt.mem {h:Heap}{e:Addr}{cls:Value}{own:List Addr}{z:Option Value}(x:ExAt h e cls own z):e∈own:=by
 obtain ⟨_,_,_,_,_,_,_,(⟨_,r,_⟩ | ⟨_,_,_,_,_,r,_⟩)⟩:=x<;>(rw [r];simp)
theorem traced_own {own:List Addr}{e:Addr}{cls a0 fl:Value}{h':Heap}(I:Inv X pins σ H s)(oo:OwnOk X pins H own)(eo:e∈own)(hx:X.ex=[])(K:Kept X own s.heap h')
  (tr:h'.TracedAtW (PySem.W.hideAll s.heap (own++frs X.stack)) e cls a0 fl):∃T,ExAt h' e cls [e,T] (some fl)∧OwnOk X pins H [e,T]:=by
 obtain ⟨oe,vs,T,oT,ts,he,⟨hc,h0⟩,hd,h1,hnT,hTe,hT,hdT,h3⟩:=tr
 refine ⟨T,⟨oe,vs,a0,he,hc,hd,h0,.inr ⟨T,oT,ts,fl,rfl,rfl,h1,hTe,hT,hdT,h3⟩⟩,fun b hb=>?_⟩
 simp only [List.mem_cons,or_false,List.not_mem_nil] at hb
 rcases hb with rfl | rfl
 ·exact oo _ eo
 ·by_cases no:b∈own
  ·exact oo _ no
  ·exact I.ownNew hx (K.new hnT hT hdT no)
theorem ex_note {A':Around}{e:Addr}{own:List Addr}{cls:Value}{z:Option Value}{Q:Unit→Shared→Prop}{R:Value→Shared→Prop}(I:Inv X pins σ H s)(x:ExAt s.heap e cls own z)
  (hz:z=none∨z=some .none∨∃L,X.env.frame=some L∧z=some (rawInt L)) (oo:OwnOk X pins H own) (hx:X.ex=[]) (hfr:A'.frames=some X.stack) (hst:X.stack=X.env::X.outer) (hf:X.env.frame=some X.env.locals)
  (k:∀s2 T,Inv X pins σ H s2→ExAt s2.heap e cls [e,T] (some (rawInt X.env.locals))→OwnOk X pins H [e,T]→Q () s2):wpAny (model X.prog X.w) A' (noteFrame (.ref e) X.env) Q R s:=by
 obtain ⟨hkb,hfl⟩:=I.hide own
 obtain ⟨B,hB⟩:∃B,B=PySem.W.hideAll s.heap (own++frs X.stack):=⟨_,rfl⟩
 rw [← hB] at hkb hfl
 have eo:=x.mem
 have hen:B.get? e=none:=by
  rw [hB]
  exact PySem.W.hideAll_none _ (List.mem_append_left _ eo)
 have fin:∀(h':Heap) (a0:Value),Heap.NotedW B X.stack e cls a0 (rawInt X.env.locals) s.heap h'→Q () { s with heap:=h' }:=fun h' a0 N=>by
  subst hB
  obtain ⟨k1,k2,k3,k4⟩:=N
  have K:Kept X own s.heap h':=⟨k1,k2,k4⟩
  obtain ⟨T,x',oo'⟩:=traced_own I oo eo hx K k3
  exact k _ T (K.inv I oo (t':=s.toks)) x' oo'
 obtain ⟨oe,vs,a0,he,hc,hd,h0,r⟩:=x
 subst hc
 rw [hst] at hfr hfl
 rcases r with ⟨_,_,h1⟩ | ⟨T,oT,ts,fl,rfl,ro,h1,hTe,hT,hdT,h3⟩
 ·unfold noteFrame
  simp only [hf]
  refine (wpAny_bind (wpAny_field he hd h1 ?_))
  rw [if_neg (by decide)]
  exact wpAny_entryW hfr hfl hf he hkb hen hd (Array.getElem?_eq_some_iff.mp h1).1 h0 fun h' N=>fin h' a0 (by rw [hst];exact N)
 ·have hnT:B.get? T=none:=by
   rw [hB]
   exact PySem.W.hideAll_none _ (List.mem_append_left _ (by rw [ro];simp))
  have tr:s.heap.TracedAtW B e oe.cls a0 fl:=⟨oe,vs,T,oT,ts,he,⟨rfl,h0⟩,hd,h1,hnT,hTe,hT,hdT,h3⟩
  rcases hz with hz | hz | ⟨L,hL,hz⟩
  ·cases hz
  ·cases hz
   exact wpAny_noteFrame_onW hfr hfl hf tr hkb hen fun h' N=>fin h' a0 (by rw [hst];exact N)
  ·cases hz
   obtain rfl:X.env.locals=L:=Option.some.inj (hf.symm.trans hL)
   refine wpAny_noteFrame_againW hf tr ?_
   subst ro
   exact k s T I ⟨oe,vs,a0,he,rfl,hd,h0,.inr ⟨T,oT,ts,_,rfl,rfl,h1,hTe,hT,hdT,h3⟩⟩ oo
theorem ex_land {A':Around}{e T:Addr}{cls fl:Value}{Q:Unit→Shared→Prop}{R:Value→Shared→Prop}(I:Inv X pins σ H s)(x:ExAt s.heap e cls [e,T] (some fl))(oo:OwnOk X pins H [e,T])(hx:X.ex=[])
  (k:∀s2 T',Inv X pins σ H s2→ExAt s2.heap e cls [e,T'] (some .none)→OwnOk X pins H [e,T']→Q () s2):wpAny (model X.prog X.w) A' (setFlight (.ref e) none) Q R s:=by
 obtain ⟨hkb,hfl⟩:=I.hide [e,T]
 have eo:=x.mem
 obtain ⟨oe,vs,a0,he,hc,hd,h0,r⟩:=x
 rcases r with ⟨z,_⟩ | ⟨T',oT,ts,fl',z,ro,h1,hTe,hT,hdT,h3⟩
 ·cases z
 ·cases z
  have hnT:(PySem.W.hideAll s.heap ([e,T]++frs X.stack)).get? T'=none:=PySem.W.hideAll_none _ (List.mem_append_left _ (by rw [ro];simp))
  refine wpAny_setFlight_noneW hkb hfl ⟨oe,vs,T',oT,ts,he,⟨hc,h0⟩,hd,h1,hnT,hTe,hT,hdT,h3⟩ fun h' k1 k2 k3 k4=>?_
  have K:Kept X [e,T] s.heap h':=⟨k1,k2,fun b o q hn=>⟨o.slots,k4 b o q hn⟩⟩
  obtain ⟨T2,x',oo'⟩:=traced_own I oo eo hx K k3
  exact k _ T2 (K.inv I oo (t':=s.toks)) x' oo'
theorem ex_noteD {A':Around}{e:Addr}{dx:Option Addr}{own:List Addr}{cls:Value}{z:Option Value}{Q:Unit→Shared→Prop}{R:Value→Shared→Prop}(I:Inv X pins σ H s)(x:ExAt s.heap e cls own z)
  (hz:z=none∨z=some .none∨∃L,X.env.frame=some L∧z=some (rawInt L)) (oo:OwnOk X pins H own) (hx:X.ex=[]) (hfr:A'.frames=some X.stack) (hst:X.stack=X.env::X.outer) (hf:X.env.frame=some X.env.locals) (hd:DictIs s e dx)
  (k:∀s2 T,Inv X pins σ H s2→ExAt s2.heap e cls [e,T] (some (rawInt X.env.locals))→OwnOk X pins H [e,T]→DictIs s2 e dx→Q () s2):wpAny (model X.prog X.w) A' (noteFrame (.ref e) X.env) Q R s :=
 wpAny_mono ((dk_note (.ref e) X.env).any (ex_note (R:=R) (Q:=fun _ s2=>∃T,Inv X pins σ H s2∧ExAt s2.heap e cls [e,T] (some (rawInt X.env.locals))∧OwnOk X pins H [e,T]) I x hz oo hx hfr hst hf fun s2 T a b c=>⟨T,a,b,c⟩) hd)
  (fun _ s2 ⟨⟨T,a,b,c⟩,d⟩=>k s2 T a b c d) fun _ _ q=>q.1
theorem ex_landD {A':Around}{e T:Addr}{dx:Option Addr}{cls fl:Value}{Q:Unit→Shared→Prop}{R:Value→Shared→Prop}(I:Inv X pins σ H s)(x:ExAt s.heap e cls [e,T] (some fl))(oo:OwnOk X pins H [e,T])(hx:X.ex=[])(hd:DictIs s e dx)
  (k:∀s2 T',Inv X pins σ H s2→ExAt s2.heap e cls [e,T'] (some .none)→OwnOk X pins H [e,T']→DictIs s2 e dx→Q () s2):wpAny (model X.prog X.w) A' (setFlight (.ref e) none) Q R s :=
 wpAny_mono ((dk_setFlight (.ref e) none).any (ex_land (R:=R) (Q:=fun _ s2=>∃T',Inv X pins σ H s2∧ExAt s2.heap e cls [e,T'] (some .none)∧OwnOk X pins H [e,T']) I x oo hx fun s2 T a b c=>⟨T,a,b,c⟩) hd)
  (fun _ s2 ⟨⟨T,a,b,c⟩,d⟩=>k s2 T a b c d) fun _ _ q=>q.1
noncomputable def exO (e:Addr)(cls:Value)(dx:Option Addr):HO:=.ext fun h=>∃o vs,h.get? e=some o∧o.cls=cls∧o.data=.fields vs∧o.dict=dx
theorem Inv.track {e:Addr}{cls:Value}{dx:Option Addr}{own:List Addr}{z:Option Value}(I:Inv X pins σ H s)(x:ExAt s.heap e cls own z)(oo:OwnOk X pins H own)(hdx:DictIs s e dx):Inv X pins σ (upd H e (exO e cls dx)) s:=by
 have eo:=x.mem
 obtain ⟨oe,vs,a0,he,hc,hd,h0,r⟩:=x
 obtain ⟨o2,he2,hd2⟩:=hdx
 cases Option.some.inj (he.symm.trans he2)
 have hn:=(oo e eo).1
 have ne:∀b u,H b=some u→b≠e:=fun b u q z=>by rw [z,hn] at q;cases q
 rcases s with ⟨hp,g,d,tk,os⟩
 refine I.step' (h':=hp) (g':=g) (t':=tk) (d':=d) (ch:=[e]) (fun b hb=>by rw [List.mem_singleton.mp hb];exact (oo e eo).2) (fun b o _ _ _ q _=>q) (fun b o _ _ _ q _=>⟨o.slots,q⟩) (fun b o hb q n=>?_) (fun b o _ q=>⟨o,q⟩)
  (fun b xs q=>by rw [Zap (ne _ _ q)];exact q) (fun b o u q=>by rw [Zap (ne _ _ q)];exact q) (fun b ps q=>⟨#[],by rw [Zap (ne _ _ q),q];simp⟩) (fun m hm=>hm) (fun a o q=>?_) I.bare
 ·rw [Zap (fun z=>hb (by simp [z]))]
  exact n
 ·by_cases ea:a=e
  ·subst ea
   rw [Zay] at q
   cases q
   exact ⟨⟨oe,vs,he,hc,hd,hd2⟩,⟨oe,he⟩,fun h1 h2 ⟨o,vs,q1,q2⟩ kk=>⟨o,vs,kk o q1,q2⟩⟩
  ·rw [Zap ea] at q
   exact (I.hok a o q).stay (fun b u _ q=>q) (fun b q=>by rw [Zap (ne _ _ q)];exact q) (fun b xs q=>by rw [Zap (ne _ _ q)];exact q)
theorem Inv.gone {h':Heap}{m':Str→Option Value}{t':Nat}(I:Inv X pins σ H s)(hn':h'.Ns X.env.locals m')(hs:Heap.SameBut X.env.locals s.heap h'):Inv X pins (List.replicate X.N.length none) H { s with heap:=h',toks:=t' }:=by
 obtain ⟨m,hn,hl⟩:=id I.loc
 obtain ⟨oL,_,_,hoL,_⟩:=id hn
 have lt:∀b o,X.s₀.heap.get? b=some o→b≠X.env.locals:=fun b o e=>Nat.ne_of_lt (Nat.lt_of_lt_of_le (Heap.lt_size e) I.ok.above)
 refine ⟨I.ok,I.os,I.bare,⟨fun b o e n hb hx=>?_,fun b o e n hb hx=>?_,I.base.free,fun b o e hx=>?_,I.base.tups,I.base.frzs,I.base.tbls⟩,⟨m',hn',fun j y v' e1 e2 e3=>?_⟩,fun y c e=>?_,I.free,I.freeC,fun p hp=>?_,fun b ob e=>?_,by simp⟩
 ·exact (hs.2 b (lt b o e)).trans (I.base.keep b o e n hb hx)
 ·obtain ⟨sl,e1⟩:=I.base.slot b o e n hb hx
  exact ⟨sl,(hs.2 b (lt b o e)).trans e1⟩
 ·obtain ⟨o',e1⟩:=I.base.there b o e hx
  exact ⟨o',(hs.2 b (lt b o e)).trans e1⟩
 ·rw [List.getElem?_replicate] at e2
  split at e2<;>cases e2
 ·obtain ⟨w',z⟩:=I.cell y c e
  exact ⟨w',z.sameBut hs (I.cne y c e)⟩
 ·obtain ⟨e,n,ne,nf,d⟩:=I.pin p hp
  exact ⟨(hs.2 p.1 ne).trans e,n,ne,nf,d⟩
 ·refine (I.hok b ob e).stay (fun c w' hc q=>(hs.2 c ?_).trans q) (fun _ q=>q) fun _ _ q=>q
  rintro rfl
  rcases hc with hc | hc
  ·rw [← hc,I.free] at e
   cases e
  ·rw [I.free] at hc
   cases hc
theorem Cx.Ok.setPn (ok:X.Ok)(pn:List (Addr×Obj)):({ X with pn:=pn }:Cx).Ok :=
 ⟨ok.mod,ok.kind,ok.glob,ok.blt,ok.above,ok.inj,ok.has,ok.cab,ok.hd,ok.frames,ok.stk,ok.exf,ok.bs,ok.bsz,ok.noex,ok.exfs,ok.funs,ok.frf⟩
theorem Cx.Ok.unsetPn {pn:List (Addr×Obj)}(ok:({ X with pn:=pn }:Cx).Ok):X.Ok :=
 ⟨ok.mod,ok.kind,ok.glob,ok.blt,ok.above,ok.inj,ok.has,ok.cab,ok.hd,ok.frames,ok.stk,ok.exf,ok.bs,ok.bsz,ok.noex,ok.exfs,ok.funs,ok.frf⟩
theorem Inv.inpin (I:Inv X pins σ H s):Inv { X with pn:=X.pn++pins } [] σ H s :=
 ⟨I.ok.setPn _,I.os,I.bare,I.base,I.loc,I.cell,I.free,I.freeC,fun p hp=>I.pin p (by simpa using hp),I.hok,I.len⟩
theorem Inv.outpin {pins':List (Addr×Obj)}(I:Inv { X with pn:=X.pn++pins } pins' σ H s):Inv X pins σ H s :=
 ⟨I.ok.unsetPn,I.os,I.bare,I.base,I.loc,I.cell,I.free,I.freeC,fun p hp=>I.pin p (List.mem_append_left _ hp),I.hok,I.len⟩
noncomputable abbrev Cx.hand (X:Cx)(e:Addr):Cx:={ X with A:=X.A.mark (some (.ref e)),calm:=false,xe:=fun _ _=>False }
theorem Inv.hand (I:Inv X pins σ H s)(e:Addr):Inv (X.hand e) pins σ H s :=
  ⟨⟨I.ok.mod,I.ok.kind,I.ok.glob,I.ok.blt,I.ok.above,I.ok.inj,I.ok.has,I.ok.cab,(fun z=>by cases z),I.ok.frames,I.ok.stk,I.ok.exf,I.ok.bs,I.ok.bsz,I.ok.noex,I.ok.exfs,I.ok.funs,I.ok.frf⟩,
    I.os,I.bare,I.base,I.loc,I.cell,I.free,I.freeC,I.pin,I.hok,I.len⟩
theorem Inv.unhand {e:Addr}(I:Inv (X.hand e) pins σ H s)(hd:X.calm=true→X.A.handled=none):Inv X pins σ H s :=
  ⟨⟨I.ok.mod,I.ok.kind,I.ok.glob,I.ok.blt,I.ok.above,I.ok.inj,I.ok.has,I.ok.cab,hd,I.ok.frames,I.ok.stk,I.ok.exf,I.ok.bs,I.ok.bsz,I.ok.noex,I.ok.exfs,I.ok.funs,I.ok.frf⟩,
    I.os,I.bare,I.base,I.loc,I.cell,I.free,I.freeC,I.pin,I.hok,I.len⟩
end
noncomputable def tTry (K:PySem.W.Frag)(c:Value)(i N:Nat)(tb:XK→TS)(th:TS):TS:=fun D σ H=>∃E:XK,tb E D σ H∧∀cls dx H' e,E cls dx H'→H' e=none→PySem.W.exmOne K cls c=some true∧
 ∀σ':St,σ'.length=N→th { nx:=fun _ H2=>D.nx (List.replicate N none) H2,rt:=D.rt,bk:=fun _ H2=>D.bk (List.replicate N none) H2,ct:=fun _ H2=>D.ct (List.replicate N none) H2 } (σ'.set i (some (.ref e))) (upd H' e (exO e cls dx))
theorem ps_try {X:Cx}{body:List Stmt}{c n:Str}{np hpos pos:Pos}{C:Addr}{b₀:Stmt}{suite:List Stmt}{i:Nat}{tb:XK→TS}{th:TS}(hm:X.mg c=some (.ref C))
  (hb:∀(E:XK) (pn:List (Addr×Obj)),PSs (({ X with pn:=pn }:Cx).wish (ER { X with pn:=pn } E)) body (tb E)) (hh:∀e:Addr,PSs (X.hand e) (b₀::suite) th)
  (hN:X.N.Nodup) (hi:X.N[i]?=some n) (hl:X.env.scope.names.lookup n=some .local) (hg:autoParam (Gl X c) aT2._auto_1) (hx:autoParam (X.ex=[]) aT2._auto_1) (hst:autoParam (X.stack=X.env::X.outer) aT2._auto_1) (hf:autoParam (X.env.frame=some X.env.locals) aT2._auto_1) (hdb:autoParam ((c==("__debug__":Str))=false) aT1._auto_1) :
  PS X (.Try body [.ExceptHandler (some (.Name c np)) (some n) (b₀::suite) hpos] [] [] pos) (tTry X.K (.ref C) i X.N.length tb th):=by
 intro pins s σ H D I h
 obtain ⟨E,h1,h2⟩:=h
 refine wpAny_Try_except (wpAny_mono (hb E (X.pn++pins) [] s σ H D (I.inpin.wish _) h1) (fun f s1 q=>?_) fun ev s1 q=>?_)
 ·have q1:SP ({ X with pn:=X.pn++pins }:Cx) [] D f s1:=q.unwish
  have q':SP X pins D f s1:=by
   cases f with
   | next=>obtain ⟨σ',H',I',z⟩:=q1;exact ⟨σ',H',I'.outpin,z⟩
   | brk=>obtain ⟨σ',H',I',z⟩:=q1;exact ⟨σ',H',I'.outpin,z⟩
   | cont=>obtain ⟨σ',H',I',z⟩:=q1;exact ⟨σ',H',I'.outpin,z⟩
   | ret u=>obtain ⟨v,σ',H',I',r,z⟩:=q1;exact ⟨v,σ',H',I'.outpin,r,z⟩
  cases f with
  | next=>exact wpAny_execs_nil q'
  | brk=>exact q'
  | cont=>exact q'
  | ret u=>exact q'
 ·obtain ⟨e0,dx,rfl,hdx,pins',e,own,cls,z,σ1,H1,ee,I1,x,hz,oo,qE⟩:=q
  cases ee
  have J1:Inv X pins σ1 H1 s1:=I1.outpin
  have oo1:OwnOk X pins H1 own:=fun b hb=>let ⟨a1,a2,a3,a4,a5⟩:=oo b hb;⟨a1,a2,a3,a4,fun p hp=>a5 p (List.mem_append_left _ hp)⟩
  obtain ⟨hmat,hth⟩:=h2 cls dx H1 e0 qE (oo e0 x.mem).1
  refine ex_noteD J1 x hz oo1 hx I.ok.frames hst hf hdx fun s2 T I2 x2 oo2 hd2=>?_
  refine ex_landD I2 x2 oo2 hx hd2 fun s3 T3 I3 x3 oo3 hd3=>?_
  refine wpAny_handleBy_cons (codeAny_handlers_test ?_) (by intro q;cases q)
  refine ld_glob (X:=X.hand e0) (I3.hand e0) hg hm ?_ hdb
  have ty:PySem.W.Looks (model X.prog X.w) s3.heap (typeOf (.ref e0)) cls:=by
   obtain ⟨oe,vs,a0,he,hc,_⟩:=x3
   subst hc
   exact (PySem.W.Looks.ld he).andThen .now
  refine (PySem.W.exm_one I3.kIn ty hmat).here ?_
  refine (codeAny_handlers_suite_as ?_)
  refine ex_landD (X:=X.hand e0) (I3.hand e0) x3 oo3 hx hd3 fun s4 T4 I4 x4 oo4 hd4=>?_
  have I5:=I4.track x4 oo4 hd4
  refine store_ok (X:=X.hand e0) I5 hN hi (.inl hl) (v:=.ref e0) rfl (fun s5 I6=>?_) (.inr hl)
  refine wpAny_mono (hh e0 pins s5 _ _ _ I6 (hth σ1 J1.len)) (fun f s6 q=>?_) fun _ _ z=>z.elim
  have fin:∀{σ':St} {H':Hp} {Qf:Shared→Prop},Inv (X.hand e0) pins σ' H' s6→(∀s7,Inv X pins (List.replicate X.N.length none) H' s7→Qf s7)→wpAny (model X.prog X.w) X.A (do bindName X.env n .none;unbindBehindTheSuite X.env n hpos) (fun _ s7=>Qf s7) X.xe s6:=fun {σ' H' Qf} J k=>by
   have J':Inv X pins σ' H' s6:=J.unhand I.ok.hd
   obtain ⟨m,hn,_⟩:=J'.loc
   exact wpAny_nameGoes hl hn (by rw [I.ok.kind];rfl) fun h' m' hn' hs=>k _ (J'.gone hn' hs)
  cases f with
  | next=>obtain ⟨σ',H',I',z⟩:=q;exact fin I' fun s7 J=>⟨_,_,J,z⟩
  | brk=>obtain ⟨σ',H',I',z⟩:=q;exact fin I' fun s7 J=>⟨_,_,J,z⟩
  | cont=>obtain ⟨σ',H',I',z⟩:=q;exact fin I' fun s7 J=>⟨_,_,J,z⟩
  | ret u=>obtain ⟨v,σ',H',I',r,z⟩:=q;exact fin I' fun s7 J=>⟨v,_,_,J,r,z⟩
end L2
namespace L2
open PySem PySem.Spec
section
variable {prog:Program}{w:World}{A:Around}{E:Value→Shared→Prop}{h:Heap}{g:Array GenState}{d:Drawn}{t:Nat}{os:OsState}{a C:Addr}{o:Obj}{vs:Array Value}
open PySem.W (Looks)
theorem xcls_get {R:Result→Shared→Prop}(hx:h.get? a=some o)(hc:o.cls=.ref C)(hsub:Looks (model prog w) h (isSubtype (.ref C) (.type "object")) true)(hq:R (.ok (.ret (.ref C))) ⟨h,g,d,t,os⟩) :
  codeAny (model prog w) A (.call (.builtin "getset_descriptor.__get__") ⟨[.builtin "object.__class__",.ref a,.ref C],[]⟩) R ⟨h,g,d,t,os⟩:=by
 have isGs:(⟨h,g,d,t,os⟩:Shared).TypeIs (.builtin "object.__class__") "getset_descriptor":=F.typeOf_object_class
 refine codeAny_call_builtin F.slot_gs_get.plain F.entry_gs_get (F.slot_gs_get.check _ _ _ _ _ _ _ _ isGs (F.args_gs_get _ _ _) ?_)
 have ho:(".".intercalate ("object.__class__".cutAt '.').dropLast)="object":=F.owner_object_class
 repeat (any_goals (first | assumption | (with_reducible refine wpAny_loadPart_at hx ?_;rw [hc]) | (rw [ho];with_reducible refine hsub.here ?_) | wp_step))
 refine And.intro (Code.quiet_builtin _ (by decide +kernel)) (codeAny_builtin F.entry_object_class ?_)
 repeat (any_goals (first | assumption | (with_reducible refine wpAny_loadPart_at hx ?_;rw [hc]) | wp_step))
theorem xcls_entry {ct:Tok}{Q:Fin→Shared→Prop}(hx:h.get? a=some o)(hc:o.cls=.ref C)(hd:o.data=.fields vs)(hlk:Looks (model prog w) h (typeLookup (.ref C) "__class__") (some (.builtin "object.__class__")))(hsub:Looks (model prog w) h (isSubtype (.ref C) (.type "object")) true)(hq:Q (.done (.ret (.ref C))) ⟨h,g,d,t,os⟩) :
  wpAny (model prog w) A (Builtin.«object.__getattribute__» ⟨[.ref a,.str "__class__" ct],[]⟩) Q E ⟨h,g,d,t,os⟩:=by
 have isGs:(⟨h,g,d,t,os⟩:Shared).TypeIs (.builtin "object.__class__") "getset_descriptor":=F.typeOf_object_class
 have known:=And.intro F.typeOf_object_class (And.intro F.slot_gs_get.lookup F.slot_gs_set.lookup)
 obtain ⟨f5,f6,f7⟩:=known
 repeat (any_goals (first | assumption | (with_reducible refine wpAny_loadPart_at hx ?_;rw [hc]) | with_reducible refine hlk.here ?_ | wp_step))
 refine xcls_get hx hc hsub ?_
 repeat (any_goals first | assumption | wp_step)
theorem xcls_check {nameV:Value}{Q:Unit→Shared→Prop}(hx:h.get? a=some o)(hc:o.cls=.ref C)(hsb:Looks (model prog w) h (isSubtype (.ref C) (.type "BaseException")) true)(hq:Q () ⟨h,g,d,t,os⟩) :
  wpAny (model prog w) A (checkBuiltinCall "BaseException.__getattribute__" ⟨[.ref a,nameV],[]⟩) Q E ⟨h,g,d,t,os⟩:=by
 have hk:builtinKind "BaseException.__getattribute__"=some .slot∧splitId "BaseException.__getattribute__"=some ("BaseException","__getattribute__"):=⟨by decide +kernel,by decide +kernel⟩
 have hag:=F.args_bexc_ga (.ref a) nameV
 simp only [checkBuiltinCall,hk.1,hk.2]
 refine wpAny_bind ?_
 ·unfold isInstance
  repeat (first | (with_reducible refine wpAny_loadPart_at hx ?_;rw [hc]) | with_reducible refine hsb.here ?_ | wp_step)
  exact hq
theorem xcls_call {ct:Tok}{R:Result→Shared→Prop}(hx:h.get? a=some o)(hc:o.cls=.ref C)(hd:o.data=.fields vs)(hlk:Looks (model prog w) h (typeLookup (.ref C) "__class__") (some (.builtin "object.__class__")))(hsub:Looks (model prog w) h (isSubtype (.ref C) (.type "object")) true)
  (hsb:Looks (model prog w) h (isSubtype (.ref C) (.type "BaseException")) true) (hq:R (.ok (.ret (.ref C))) ⟨h,g,d,t,os⟩) :
  codeAny (model prog w) A (.call (.builtin "BaseException.__getattribute__") ⟨[.ref a,.str "__class__" ct],[]⟩) R ⟨h,g,d,t,os⟩ :=
 codeAny_call_builtin PySem.F.attr_ValueError.ga.plain F.entry_bexc_ga (xcls_check hx hc hsb (xcls_entry hx hc hd hlk hsub hq))
theorem xcls_by {ct:Tok}{Q:Value→Shared→Prop}(hx:h.get? a=some o)(hc:o.cls=.ref C)(hd:o.data=.fields vs)(hga:Looks (model prog w) h (typeLookup (.ref C) "__getattribute__") (some (.builtin "BaseException.__getattribute__")))(hge:Looks (model prog w) h (typeLookup (.ref C) "__getattr__") none)(hlk:Looks (model prog w) h (typeLookup (.ref C) "__class__") (some (.builtin "object.__class__")))(hsub:Looks (model prog w) h (isSubtype (.ref C) (.type "object")) true)
  (hsb:Looks (model prog w) h (isSubtype (.ref C) (.type "BaseException")) true) (hq:Q (.ref C) ⟨h,g,d,t,os⟩):wpAny (model prog w) A (getAttrBy (.ref a) (.str "__class__" ct) false) Q E ⟨h,g,d,t,os⟩:=by
 have f3:=PySem.F.attr_ValueError.ga.bind (.ref a)
 have hz2:(Value.builtin "BaseException.__getattribute__"==Value.builtin "object.__getattribute__")=false:=by decide +kernel
 have hz1:(onTheHeap (Value.ref C)&&Value.builtin "BaseException.__getattribute__"==Value.builtin "object.__getattribute__")=false:=by rw [hz2];rfl
 repeat (any_goals (first | assumption | (with_reducible refine wpAny_loadPart_at hx ?_;rw [hc]) | with_reducible refine hga.here ?_ | with_reducible refine hge.here ?_ | wp_step))
 refine xcls_call hx hc hd hlk hsub hsb ?_
 repeat (any_goals first | assumption | wp_step)
theorem xcls_attr {Q:Option Value→Shared→Prop}(hx:h.get? a=some o)(hc:o.cls=.ref C)(hd:o.data=.fields vs)(hga:Looks (model prog w) h (typeLookup (.ref C) "__getattribute__") (some (.builtin "BaseException.__getattribute__")))(hge:Looks (model prog w) h (typeLookup (.ref C) "__getattr__") none)(hlk:Looks (model prog w) h (typeLookup (.ref C) "__class__") (some (.builtin "object.__class__")))(hsub:Looks (model prog w) h (isSubtype (.ref C) (.type "object")) true)
  (hsb:Looks (model prog w) h (isSubtype (.ref C) (.type "BaseException")) true) (hq:Q (some (.ref C)) ⟨h,g,d,t+1,os⟩):wpAny (model prog w) A (getAttr? (.ref a) "__class__") Q E ⟨h,g,d,t,os⟩:=by
 unfold getAttr? getAttrBy?
 repeat (any_goals (first | assumption | with_reducible apply xcls_by hx hc hd hga hge hlk hsub hsb | wp_step))
end
end L2
namespace L2
open PySem PySem.Spec PyProof.Rows
noncomputable abbrev TJ:=St→Hp→(Hp→Prop)→Prop
noncomputable def PJ (X:Cx)(es:List Expr)(t:TJ):Prop :=
 ∀(out:Str) (pins:List (Addr×Obj)) (s:Shared) (σ:St) (H:Hp) (Q:VK),Inv X pins σ H s→out.length+2000*es.length≤sizeLine→t σ H (fun H1=>∀z,Q (.str z) H1)→
  wpAny (model X.prog X.w) X.A (joinParts out (evalEach es X.env)) (EP X pins σ Q) X.xe s
structure QJ (X:Cx)(es:List Expr)(t:TJ):Prop where
 out:PJ X es t
noncomputable def jNil:TJ:=fun _ H Q=>Q H
noncomputable def jCons (te:TE)(t:TJ):TJ:=fun σ H Q=>te σ H fun x H1=>∃y,x=.str y∧y.length≤2000∧t σ H1 Q
noncomputable def tJs (t:TJ):TE:=fun σ H Q=>t σ H fun H1=>∀z,Q (.str z) H1
noncomputable def tFv (te:TE):TE:=fun σ H Q=>te σ H fun x H1=>∃i,x=.int i∧i.natAbs.log2<1920∧∀y:Str,y.length≤2000→Q (.str y) H1
section
variable {X:Cx}{a b e:Expr}{es:List Expr}{te:TE}{t:TJ}{pos:Pos}
theorem pj_nil:PJ X [] jNil:=by
 intro out pins s σ H Q I hz q
 exact joinParts_nil ⟨.str out,H,I.tok _,⟨_,rfl⟩,q out⟩ (by simpa using hz)
theorem pj_cons (he:PE X e te)(hr:PJ X es t)(hv:evalEach (e::es) X.env=eval e X.env::evalEach es X.env):PJ X (e::es) (jCons te t):=by
 intro out pins s σ H Q I hz q
 rw [hv]
 refine joinParts_cons (thn (he pins s σ H _ I q) fun v s1 hz9=>?_)
 obtain ⟨x,H1,I1,r1,y,ex,hl,q1⟩:=hz9
 subst ex
 obtain ⟨tk,rfl⟩:=r1
 have e1:(out++y).length=out.length+y.length:=strLen_append ..
 rw [List.length_cons] at hz
 exact ⟨by omega,hr (out++y) pins s1 σ H1 Q I1 (by omega) q1⟩
theorem qj_nil:QJ X [] jNil:=⟨pj_nil⟩
theorem qj_cons (he:QE X e te)(hr:QJ X es t)(hv:autoParam (evalEach (e::es) X.env=eval e X.env::evalEach es X.env) aT2._auto_1):QJ X (e::es) (jCons te t):=⟨pj_cons he.out hr.out hv⟩
theorem qe_js (h:QJ X (a::b::es) t)(hn:autoParam (es.length≤100) aT1._auto_1)(hv:autoParam (evalEach (a::b::es) X.env=eval a X.env::eval b X.env::evalEach es X.env) aT2._auto_1):QE X (.JoinedStr (a::b::es) pos) (tJs t):=⟨fun pins s σ H Q I q =>
  JoinedStr_many (by
    have hz:(Str.empty).length+2000*(a::b::es).length≤sizeLine:=by
      have e0:(Str.empty).length=0:=rfl
      rw [e0,List.length_cons,List.length_cons,sizeLine_eq]
      omega
    have q':=h.out Str.empty pins s σ H Q I hz q
    rw [hv] at q'
    exact q')⟩
theorem qe_fv (he:QE X e te):QE X (.FormattedValue e (-1) none pos) (tFv te):=⟨fun pins s σ H Q I q =>
  FormattedValue_plain (thn (he.out pins s σ H _ I q) fun v s1 ⟨x,H1,I1,r1,i,ex,hd,q1⟩=>by
    subst ex
    obtain ⟨tk,rfl⟩:=r1
    exact formatField_int_small hd ⟨.str (toString i),H1,I1.tok _,⟨_,rfl⟩,q1 _ (Nat.le_trans (int_text_len_1921 hd) (by decide))⟩)⟩
end
end L2
namespace L2
open PySem PySem.Spec PyProof.Rows
open PySem.W (Looks)
structure ErrIn (K:PySem.W.Frag)(C:Addr):Prop where
 exc:PySem.W.excIn K C bmV "ValueError.__new__"=true
 ty:PySem.W.typeIn K (.ref C)=some (.type "type")
 cl:∃c,PySem.W.clsIn K C=some c
 ga:PySem.W.findIn K (.ref C) "__getattribute__"=some (some (.builtin "BaseException.__getattribute__"))
 ge:PySem.W.findIn K (.ref C) "__getattr__"=some none
 lk:PySem.W.findIn K (.ref C) "__class__"=some (some (.builtin "object.__class__"))
 so:PySem.W.subIn K (.ref C) (.type "object")=some true
 sb:PySem.W.subIn K (.ref C) (.type "BaseException")=some true
 se:PySem.W.subIn K (.ref C) (.ref C)=some true
section
variable {K:PySem.W.Frag}{C D e:Addr}{b:Bool}
structure ErrK (K:PySem.W.Frag)(C:Addr):Prop where
 ob:∃dd cd sl,K.lookup C=some ⟨.type "type",dd,.cls cd,sl⟩
 ty:PySem.W.typeIn K (.ref C)=some (.type "type")
 cl:∃c,PySem.W.clsIn K C=some c
 ga:PySem.W.findIn K (.ref C) "__getattribute__"=some (some (.builtin "BaseException.__getattribute__"))
 ge:PySem.W.findIn K (.ref C) "__getattr__"=some none
 lk:PySem.W.findIn K (.ref C) "__class__"=some (some (.builtin "object.__class__"))
 so:PySem.W.subIn K (.ref C) (.type "object")=some true
 sb:PySem.W.subIn K (.ref C) (.type "BaseException")=some true
 se:PySem.W.subIn K (.ref C) (.ref C)=some true
theorem ErrIn.ob (E:ErrIn K C):∃dd cd sl,K.lookup C=some ⟨.type "type",dd,.cls cd,sl⟩:=by
 have q:=E.exc
 unfold PySem.W.excIn at q
 split at q
 next dct cls slots look=>exact ⟨_,_,_,look⟩
 next=>cases q
theorem ErrIn.k (E:ErrIn K C):ErrK K C:=⟨E.ob,E.ty,E.cl,E.ga,E.ge,E.lk,E.so,E.sb,E.se⟩
theorem ErrK.kitC (E:ErrK K C)(h:PySem.W.subIn K (.ref D) (.ref C)=some b):PySem.W.kitCls K (.ref D) (.ref C)=some b:=by
 obtain ⟨c,hc⟩:=E.cl
 show (if ((PySem.W.clsIn K C).isSome&&PySem.W.typeIn K (.ref C)==some (.type "type"))=true then PySem.W.subIn K (.ref D) (.ref C) else none)=some b
 rw [hc,E.ty,if_pos (by simp)]
 exact h
theorem ErrK.exm (E:ErrK K C)(h:PySem.W.subIn K (.ref D) (.ref C)=some b):PySem.W.exmOne K (.ref D) (.ref C)=some b:=by
 unfold PySem.W.exmOne
 rw [E.sb,if_pos (by simp)]
 exact E.kitC h
theorem ErrK.kitO (E:ErrK K C)(h:PySem.W.subIn K (.ref D) (.ref C)=some b):PySem.W.kitOne K (.ref D) (.ref C)=some b:=by
 unfold PySem.W.kitOne
 by_cases q:((Value.ref D)==(Value.ref C))=true
 ·rw [if_pos q]
  have e:D=C:=by
   have:=beq_iff_eq.mp q
   cases this
   rfl
  subst e
  rw [E.se] at h
  exact h
 ·rw [if_neg q]
  exact E.kitC h
theorem ErrK.kit (E:ErrK K C):PySem.W.KitX K (.ref e) (.ref C) (fun h=>∃o vs,h.get? e=some o∧o.cls=.ref C∧o.data=.fields vs) where
 ty:=fun M h X ⟨o,vs,he,hc,hd⟩=>by
  rw [← hc]
  exact (Looks.ld he).andThen .now
 it:=fun M h X _=>(PySem.W.kit_cls X (E.kitC E.se)).2.1
 ne:=fun h tq dd its n sl X htq=>by
  refine Bool.eq_false_iff.mpr fun same=>?_
  have e:C=tq:=by
   have:=beq_iff_eq.mp same
   cases this
   rfl
  subst e
  obtain ⟨dd2,cd2,sl2,look⟩:=E.ob
  have hC:=X _ _ look
  rw [htq] at hC
  have z:Value.type "tuple"=Value.type "type":=congrArg Obj.cls (Option.some.inj hC)
  exact absurd z (by decide)
 ca:=fun {prog w A E' Q s} X ⟨o,vs,he,hc,hd⟩ hq=>by
  obtain ⟨h,g,d,t,os⟩:=s
  exact xcls_attr he hc hd (PySem.W.looks_findIn X E.ga) (PySem.W.looks_findIn X E.ge) (PySem.W.looks_findIn X E.lk) (PySem.W.looks_subIn X E.so) (PySem.W.looks_subIn X E.sb) hq
end
noncomputable def rIsX (K:PySem.W.Frag):List V→Hp→VK→Prop:=fun xs H Q=>∃(e D C:Addr) (b:Bool),xs=[.ref e,.ref C]∧(∃dx,H e=some (exO e (.ref D) dx))∧ErrK K D∧PySem.W.kitOne K (.ref D) (.ref C)=some b∧Q (.bl b) H
section
variable {X:Cx}
theorem call_isX:CallR X (.builtin "isinstance") (rIsX X.K):=by
 intro pins s σ H xs us Q I r h
 obtain ⟨e,D,C,b,rfl,⟨dx,he⟩,hE,hk,q⟩:=h
 obtain ⟨ho,hvs,q1,q2,q3,_⟩:=(I.hok e _ he).1
 obtain ⟨u,w',rfl,rx,ry⟩:=vals2 r
 cases rx
 cases ry
 exact PySem.W.kia_one hE.kit I.kIn ⟨ho,hvs,q1,q2,q3⟩ hk (by intro z;cases z) fun tk=>⟨.bl b,H,I.tok _,rfl,q⟩
end
section
variable {σ:St}{H:Hp}{Q:VK}{D:Ends}{K:PySem.W.Frag}
end
section
variable {X:Cx}{a b c d:Expr}{ta tb tc td:TE}{pos:Pos}
end
section
variable {X:Cx}{e:Expr}{es:List Expr}{t:TA}{np cpos pos hpos:Pos}
theorem qs_try {body:List Stmt}{c n:Str}{C:Addr}{b₀:Stmt}{suite:List Stmt}{i:Nat}{tb:XK→TS}{th:TS}(hm:X.mg c=some (.ref C))
  (hN:X.N.Nodup) (hi:X.N[i]?=some n) (hl:X.env.scope.names.lookup n=some .local)
  (hb:∀(E:XK) (pn:List (Addr×Obj)),QSs (({ X with pn:=pn }:Cx).wish (ER { X with pn:=pn } E)) body (tb E)) (hh:∀e:Addr,QSs (X.hand e) (b₀::suite) th)
  (hg:autoParam (Gl X c) aT2._auto_1) (hx:autoParam (X.ex=[]) aT2._auto_1) (hst:autoParam (X.stack=X.env::X.outer) aT2._auto_1) (hf:autoParam (X.env.frame=some X.env.locals) aT2._auto_1) (hdb:autoParam ((c==("__debug__":Str))=false) aT1._auto_1) :
  QS X (.Try body [.ExceptHandler (some (.Name c np)) (some n) (b₀::suite) hpos] [] [] pos) (tTry X.K (.ref C) i X.N.length tb th) :=
 ⟨ps_try hm (fun E pn=>(hb E pn).out) (fun e=>(hh e).out) hN hi hl hg hx hst hf hdb⟩
end
theorem qs_nox {X:Cx}{st:Stmt}{t:TS}(h:QS X.nox st t):QS X st t:=⟨h.out.nox⟩
theorem Fun.okEQ {P:Program}{w:World}{K:PySem.W.Frag}{mg:Str→Option Value}{base:Heap}{x qual:Str}{st:Stmt}{f:Addr}{fd:FuncData}{N ps:List Str}{k:Nat}{sp:Sp}(F:Fun K x qual st f fd)(S:FnScope N ps (defScope st))(len:∀vs H Q E,sp vs H Q E→vs.length=ps.length)
    (hbody:∀(cdv:Value) (A:Around) (outer:List Env) (s:Shared) (H:Hp) (vs:List V) (Q:VK) (E:XK),Room k (A.deeper (envOfC qual (defScope st) s.heap.objs.size f cdv))→sp vs H Q E→
      ∃t,QSs ((cxOf (CXE P w) P w K mg base N qual (defScope st) f cdv A outer s H E).wish (ER (cxOf (CXE P w) P w K mg base N qual (defScope st) f cdv A outer s H E) E)) (defBody st) t∧t { nx:=fun _ H'=>Q .non H',rt:=Q } (start N vs) H):FnOk P w K mg base (CXE P w) (k+1) f fd ps sp :=
  F.okE S len fun cdv A outer s H vs Q E hr h=>by
    obtain ⟨t,ht,q⟩:=hbody cdv A outer s H vs Q E hr h
    exact ⟨t,ht.out,q⟩
end L2
namespace L2
open PySem PySem.Spec PyProof.Rows
structure Pl (n:Nat)(x:Str):Prop where
 len:x.length≤n
 asc:∀c∈x.cps.toList,c<128
section
variable {X:Cx}{e:Expr}{te:TE}{pos:Pos}
end
end L2
namespace L2
open PySem PySem.Spec PyProof.Rows
section
variable {κ:Type}[DecidableEq κ]
noncomputable def putK (kvs:List (κ×V))(k:κ)(v:V):List (κ×V) :=
 if (kvs.any fun kv=>decide (kv.1=k))=true then kvs.map (fun kv=>if kv.1=k then (kv.1,v) else kv) else kvs++[(k,v)]
end
section
variable {P:Program}{w:World}{H:Hp}{h:Heap}{a:Addr}
end
noncomputable def DPut (H:Hp)(a:Addr)(y v:V)(H':Hp):Prop :=
 (∃kvs k,H a=some (.dK kvs)∧y=kV k∧kvs.length<sizeLine∧H'=upd H a (.dK (putK kvs k v)))∨
 ∃kvs k b,H a=some (.dT kvs)∧y=.ref b∧H b=some (.tup (k.map kV))∧kvs.length<sizeLine∧H'=upd H a (.dT (putK kvs k v))
section
variable {X:Cx}{pins:List (Addr×Obj)}{σ:St}{H:Hp}{s:Shared}{a:Addr}{y v:V}{u r:Value}{o:Option V}{A:Around}{E:Value→Shared→Prop}
end
section
variable {X:Cx}{pins:List (Addr×Obj)}{σ:St}{H:Hp}{s:Shared}{a:Addr}{kvs:List (Key×V)}{k:Key}{u:Value}{A:Around}{E:Value→Shared→Prop}
end
noncomputable def sDPut (td ty tv:TE):TS:=fun D σ H=>tv σ H fun v H1=>td σ H1 fun x H2=>ty σ H2 fun y H3=>∃a H4,x=.ref a∧DPut H3 a y v H4∧D.nx σ H4
section
variable {X:Cx}{o i e value:Expr}{pos pos' tpos:Pos}{td ty tv:TE}
end
section
variable {X:Cx}{pos:Pos}
end
noncomputable def tPairs:List (TE×TE)→St→Hp→(List (V×V)→Hp→Prop)→Prop
 | [],_,H,Q=>Q [] H
 | (tk,tv)::r,σ,H,Q=>tk σ H fun x H1=>tv σ H1 fun y H2=>tPairs r σ H2 fun ps H3=>Q ((x,y)::ps) H3
structure M1 (X:Cx)(o:Expr)(m:Str)(apos:Pos)(e:Expr)(cpos:Pos):Prop where
  base:attributeBase o m X.env (eval o X.env)=eval o X.env
  few:((backTo cpos (starEach [e] X.env)).all (fun x=>!x.1)&&(backToKw cpos (keywordEach [] X.env)).all (fun x=>x.1.isSome)
    && decide (([e]:List Expr).length+([]:List Keyword).length+(if ([]:List Keyword).isEmpty then 0 else 1)<30))=true
  line:(apos.endLine==cpos.line)=true
  trees:backTo cpos (starEach [e] X.env)=[(false,eval e X.env)]
structure M2 (X:Cx)(o:Expr)(m:Str)(apos:Pos)(e f:Expr)(cpos:Pos):Prop where
  base:attributeBase o m X.env (eval o X.env)=eval o X.env
  few:((backTo cpos (starEach [e,f] X.env)).all (fun x=>!x.1)&&(backToKw cpos (keywordEach [] X.env)).all (fun x=>x.1.isSome)
    && decide (([e,f]:List Expr).length+([]:List Keyword).length+(if ([]:List Keyword).isEmpty then 0 else 1)<30))=true
  line:(apos.endLine==cpos.line)=true
  trees:backTo cpos (starEach [e,f] X.env)=[(false,eval e X.env),(false,eval f X.env)]
section
variable {X:Cx}{pins:List (Addr×Obj)}{σ:St}{H:Hp}{s:Shared}{a:Addr}{y d:V}{u r:Value}{o:Option V}{A:Around}{E:Value→Shared→Prop}
end
section
variable {X:Cx}{o e f:Expr}{apos cpos:Pos}{td ty tx:TE}
end
section
variable {X:Cx}{pins:List (Addr×Obj)}{σ:St}{H:Hp}{s:Shared}{a:Addr}{kvs:List (Key×V)}{A:Around}{E:Value→Shared→Prop}
end
section
variable {X:Cx}{pins:List (Addr×Obj)}{σ:St}{H:Hp}{s:Shared}{a:Addr}{y:V}{u:Value}{A:Around}{E:Value→Shared→Prop}
end
end L2
namespace Dl
open PySem
set_option genInjectivity true in
inductive D where
 | non
 | bl (b:Bool)
 | int (i:Int)
 | str (x:Str)
 | lst (xs:List D)
 | tup (xs:List D)
 | scr (ns:List Int)
 | rng (lo hi:Int)
 | exc (c:String) (f:Option Int)
 | obj (c:String) (ns:List Str) (xs:List D)
 | dct (ks:List (Int ⊕ Str)) (xs:List D)
 | dtt (ks:List (List (Int ⊕ Str))) (xs:List D)
 deriving Inhabited
set_option genInjectivity true in
inductive R (α:Type) where
 | ok (a:α)
 | err (c:String) (f:Option Int)
 | bad
noncomputable abbrev Env:=List (Option D)
set_option genInjectivity true in
inductive Fl where
 | nx (ρ:Env)
 | ret (d:D)
 | brk (ρ:Env)
 | cnt (ρ:Env)
noncomputable def R.bind {α β:Type}:R α→(α→R β)→R β
 | .ok a,f=>f a
 | .err c x,_=>.err c x
 | .bad,_=>.bad
@[simp] theorem bind_ok {α β:Type}(a:α)(f:α→R β):(R.ok a).bind f=f a:=(rfl)
@[simp] theorem bind_err {α β:Type}(c:String)(x:Option Int)(f:α→R β):(R.err c x:R α).bind f=.err c x:=(rfl)
@[simp] theorem bind_bad {α β:Type}(f:α→R β):(R.bad:R α).bind f=.bad:=(rfl)
noncomputable abbrev FE:=Env→R D
noncomputable abbrev FT:=Env→R Bool
noncomputable abbrev FA:=Env→R (List D)
noncomputable abbrev FO:=Env→R (Option Int)
noncomputable abbrev FS:=Env→R Fl
noncomputable def fC (d:D):FE:=fun _=>.ok d
noncomputable def fV (i:Nat):FE:=fun ρ=>match ρ[i]? with
 | some (some d)=>.ok d
 | _=>.bad
noncomputable def oR {α:Type}:Option α→R α
 | some a=>.ok a
 | none=>.bad
@[simp] theorem oR_some {α:Type}(a:α):oR (some a)=.ok a:=(rfl)
@[simp] theorem oR_none {α:Type}:(oR (none:Option α))=.bad:=(rfl)
noncomputable def f1 (g:D→Option D)(a:FE):FE:=fun ρ=>(a ρ).bind fun x=>oR (g x)
noncomputable def f2 (g:D→D→Option D)(a b:FE):FE:=fun ρ=>(a ρ).bind fun x=>(b ρ).bind fun y=>oR (g x y)
noncomputable def aNil:FA:=fun _=>.ok []
noncomputable def aCons (a:FE)(r:FA):FA:=fun ρ=>(a ρ).bind fun x=>(r ρ).bind fun xs=>.ok (x::xs)
noncomputable def fA (g:List D→Option D)(a:FA):FE:=fun ρ=>(a ρ).bind fun xs=>oR (g xs)
noncomputable def fCall (F:List D→R D)(a:FA):FE:=fun ρ=>(a ρ).bind F
noncomputable abbrev lim:Nat:=1000000
noncomputable def gLst (xs:List D):Option D:=if xs.length≤lim then some (.lst xs) else none
noncomputable def gTup (xs:List D):Option D:=if xs.length≤lim then some (.tup xs) else none
mutual
noncomputable def flat:D→Bool
 | .lst _=>false
 | .tup xs=>flatA xs
 | .non=>true
 | .bl _=>true
 | .int _=>true
 | .str _=>true
 | .scr _=>true
 | .rng _ _=>true
 | .exc _ _=>true
 | .obj _ _ _=>false
 | .dct _ _=>false
 | .dtt _ _=>false
noncomputable def flatA:List D→Bool
 | []=>true
 | x::xs=>flat x&&flatA xs
end
noncomputable def gFlat (d:D):Option D:=if flat d then some d else none
noncomputable def gAdd:D→D→Option D
 | .int i,.int j=>some (.int (i+j))
 | .str x,.str y=>if x.length+y.length≤lim then some (.str (x++y)) else none
 | .lst xs,.lst ys=>if xs.length+ys.length≤lim∧flatA xs∧flatA ys then some (.lst (xs++ys)) else none
 | _,_=>none
noncomputable def gAddI:D→D→Option D
 | .int i,.int j=>some (.int (i+j))
 | _,_=>none
noncomputable def gSub:D→D→Option D
 | .int i,.int j=>some (.int (i - j))
 | _,_=>none
noncomputable def short (i:Int):Bool:=decide (-(2 ^ 64)<i)&&decide (i<2 ^ 64)
noncomputable def gMul:D→D→Option D
 | .int i,.int j=>if short i||short j then some (.int (i*j)) else none
 | .lst xs,.int k=>if k≤1000000∧xs.length*k.toNat≤lim∧-1000000≤k∧flatA xs then some (.lst (List.replicate k.toNat xs).flatten) else none
 | _,_=>none
noncomputable def gMod:D→D→Option D
 | .int i,.int j=>if 0<j then some (.int (i % j)) else none
 | _,_=>none
noncomputable def gDiv:D→D→Option D
 | .int i,.int j=>if 0<j∧j<2 ^ 200 then some (.int (i / j)) else none
 | _,_=>none
noncomputable def gPow:D→D→Option D
 | .int i,.int j=>if 0≤j∧j≤1000000∧i.natAbs<2 ^ 64 then some (.int (i ^ j.toNat)) else none
 | _,_=>none
noncomputable def gNeg:D→Option D
 | .int i=>some (.int (-i))
 | _=>none
noncomputable def gLt:D→D→Option D
 | .int i,.int j=>some (.bl (decide (i<j)))
 | _,_=>none
noncomputable def gLe:D→D→Option D
 | .int i,.int j=>some (.bl (decide (i≤j)))
 | _,_=>none
noncomputable def gGt:D→D→Option D
 | .int i,.int j=>some (.bl (decide (j<i)))
 | _,_=>none
noncomputable def gGe:D→D→Option D
 | .int i,.int j=>some (.bl (decide (j≤i)))
 | _,_=>none
mutual
noncomputable def dep:D→Nat
 | .lst xs=>depA xs+1
 | .tup xs=>depA xs+1
 | .scr _=>100
 | .rng _ _=>100
 | .exc _ _=>100
 | .obj _ _ _=>100
 | .dct _ _=>100
 | .dtt _ _=>100
 | .non=>0
 | .bl _=>0
 | .int _=>0
 | .str _=>0
noncomputable def depA:List D→Nat
 | []=>0
 | x::xs=>max (dep x) (depA xs)
end
mutual
noncomputable def eqv:D→D→Bool
 | .non,.non=>true
 | .bl a,.bl b=>a==b
 | .bl a,.int j=>(if a then 1 else 0)==j
 | .int i,.bl b=>i==(if b then 1 else 0)
 | .int i,.int j=>i==j
 | .str x,.str y=>x==y
 | .lst xs,.lst ys=>eqvA xs ys
 | .tup xs,.tup ys=>eqvA xs ys
 | _,_=>false
noncomputable def eqvA:List D→List D→Bool
 | [],[]=>true
 | x::xs,y::ys=>eqv x y&&eqvA xs ys
 | _,_=>false
end
noncomputable def gEq (a b:D):Option D:=if dep a≤20∧dep b≤20 then some (.bl (eqv a b)) else none
noncomputable def gNe (a b:D):Option D:=if dep a≤20∧dep b≤20 then some (.bl (!eqv a b)) else none
noncomputable def isNon:D→Bool
 | .non=>true
 | _=>false
noncomputable def gIs (x:D):D→Option D
 | .non=>some (.bl (isNon x))
 | .bl c=>match x with
  | .bl b=>some (.bl (b==c))
  | _=>none
 | _=>none
noncomputable def gIsNot (x:D):D→Option D
 | .non=>some (.bl (!isNon x))
 | .bl c=>match x with
  | .bl b=>some (.bl (!(b==c)))
  | _=>none
 | _=>none
noncomputable def ixD (n:Nat)(i:Int):Option Nat:=if 0≤i then (if i<n then some i.toNat else none) else if -(n:Int)≤i then some (i+n).toNat else none
noncomputable def atD {α:Type}(xs:List α)(i:Int):Option α:=(ixD xs.length i).bind fun j=>xs[j]?
noncomputable def sixD (n d:Nat):Option Int→Nat
 | none=>d
 | some v=>if v<0 then (max (v+(n:Int)) 0).toNat else min v.toNat n
noncomputable def cut {α:Type}(xs:List α)(lo hi:Option Int):List α:=(xs.drop (sixD xs.length 0 lo)).take (sixD xs.length xs.length hi - sixD xs.length 0 lo)
noncomputable def gIx:D→D→Option D
 | .lst xs,.int i=>(atD xs i)
 | .tup xs,.int i=>(atD xs i)
 | .scr ns,.int i=>((atD ns i).map D.int)
 | .str z,.int i=>if z.length≤lim then ((atD z.cps.toList i).map fun c=>D.str ⟨#[c]⟩) else none
 | _,_=>none
noncomputable def gIxL (x y:D):Option D:=match x with
 | .lst _=>gIx x y
 | _=>none
noncomputable def oNone:FO:=fun _=>.ok none
noncomputable def oSome (a:FE):FO:=fun ρ=>(a ρ).bind fun d=>match d with
 | .int i=>.ok (some i)
 | _=>.bad
noncomputable def fSl (g:D→Option Int→Option Int→Option D)(a:FE)(l h:FO):FE:=fun ρ=>(a ρ).bind fun x=>(l ρ).bind fun lo=>(h ρ).bind fun hi=>oR (g x lo hi)
noncomputable def gSl:D→Option Int→Option Int→Option D
 | .lst xs,lo,hi=>if flatA xs then some (.lst (cut xs lo hi)) else none
 | .scr ns,lo,hi=>some (.lst ((cut ns lo hi).map D.int))
 | _,_,_=>none
noncomputable def plain (n:Nat)(z:Str):Bool:=decide (z.length≤n)&&z.cps.toList.all (fun c=>decide (c<128))
noncomputable def intsOf:List D→Option (List Int)
 | []=>some []
 | .int i::r=>(intsOf r).map (i::·)
 | _::_=>none
noncomputable def bools:List D→Option (List Bool)
 | []=>some []
 | .bl i::r=>(bools r).map (i::·)
 | _::_=>none
noncomputable def gLen:List D→Option D
 | [.lst xs]=>some (.int xs.length)
 | [.tup xs]=>some (.int xs.length)
 | [.scr xs]=>some (.int xs.length)
 | [.str z]=>if z.length≤lim then some (.int z.length) else none
 | _=>none
noncomputable def gSum:List D→Option D
 | [.lst xs]=>(intsOf xs).bind fun ns=>some (.int ns.sum)
 | _=>none
noncomputable def maxL:List Int→Int
 | []=>0
 | x::r=>r.foldl max x
noncomputable def gMax:List D→Option D
 | [.int i,.int j]=>some (.int (if j > i then j else i))
 | [.lst xs]=>(intsOf xs).bind fun ns=>if ns=[] then none else some (.int (maxL ns))
 | _=>none
noncomputable def gMin:List D→Option D
 | [.int i,.int j]=>some (.int (if j<i then j else i))
 | _=>none
noncomputable def rngL (lo:Int)(n:Nat):List D:=(List.range n).map fun (k:Nat)=>D.int (lo+(k:Int))
noncomputable def gList:List D→Option D
 | [.lst xs]=>if flatA xs then some (.lst xs) else none
 | [.tup xs]=>if flatA xs then some (.lst xs) else none
 | [.rng i j]=>if -1000000000≤i∧i≤1000000000∧-1000000000≤j∧j≤1000000000∧(j - i).toNat≤lim then some (.lst (rngL i (j - i).toNat)) else none
 | _=>none
noncomputable def gListV:List D→Option D
 | [.lst xs]=>some (.lst xs)
 | _=>none
noncomputable def tyName:D→String
 | .non=>"NoneType"
 | .bl _=>"bool"
 | .int _=>"int"
 | .str _=>"str"
 | .lst _=>"list"
 | .tup _=>"tuple"
 | .scr _=>"list"
 | .rng _ _=>"range"
 | .exc c _=>c
 | .obj c _ _=>c
 | .dct _ _=>"dict"
 | .dtt _ _=>"dict"
noncomputable def gIsI (c:String):D→Option D
 | .non=>some (.bl false)
 | .bl _=>some (.bl (c=="bool"||c=="int"))
 | .int _=>some (.bl (c=="int"))
 | .str _=>some (.bl (c=="str"))
 | .lst _=>some (.bl (c=="list"))
 | .tup _=>some (.bl (c=="tuple"))
 | _=>none
noncomputable def gIsT (tb:List (String×Bool)):D→Option D
 | .exc k _=>(tb.lookup k).map D.bl
 | _=>none
noncomputable def cE (a:FE):FT:=fun ρ=>(a ρ).bind fun d=>match d with
 | .bl b=>.ok b
 | _=>.bad
noncomputable def cNot (a:FT):FT:=fun ρ=>(a ρ).bind fun b=>.ok (!b)
noncomputable def cAnd (a b:FT):FT:=fun ρ=>(a ρ).bind fun x=>if x then b ρ else .ok false
noncomputable def cOr (a b:FT):FT:=fun ρ=>(a ρ).bind fun x=>if x then .ok true else b ρ
noncomputable def fAnd (a b:FE):FE:=fun ρ=>(a ρ).bind fun x=>match x with
 | .bl true=>b ρ
 | .bl false=>.ok (.bl false)
 | _=>.bad
noncomputable def fOr (a b:FE):FE:=fun ρ=>(a ρ).bind fun x=>match x with
 | .bl true=>.ok (.bl true)
 | .bl false=>b ρ
 | _=>.bad
noncomputable def gNot:D→Option D
 | .bl b=>some (.bl (!b))
 | _=>none
noncomputable def fIf (c:FT)(a b:FE):FE:=fun ρ=>(c ρ).bind fun x=>if x then a ρ else b ρ
noncomputable def fChain (g g':D→D→Option D)(a b c:FE):FE:=fun ρ=>(a ρ).bind fun x=>(b ρ).bind fun y=>(oR (g x y)).bind fun z=>match z with
 | .bl true=>(c ρ).bind fun w=>oR (g' y w)
 | .bl false=>.ok (.bl false)
 | _=>.bad
noncomputable abbrev FB:=D→Env→R Env
noncomputable def bName (i:Nat):FB:=fun d ρ=>.ok (ρ.set i (some d))
noncomputable def bNil:List D→Env→R Env
 | [],ρ=>.ok ρ
 | _,_=>.bad
noncomputable def bCons (b:FB)(r:List D→Env→R Env):List D→Env→R Env
 | d::ds,ρ=>(b d ρ).bind fun ρ'=>r ds ρ'
 | _,_=>.bad
noncomputable def bTup (r:List D→Env→R Env):FB:=fun d ρ=>match d with
 | .tup ds=>r ds ρ
 | _=>.bad
noncomputable def R.calm {α:Type}:R α→R α
 | .ok a=>.ok a
 | .err _ _=>.bad
 | .bad=>.bad
@[simp] theorem calm_ok {α:Type}(a:α):(R.ok a).calm=.ok a:=(rfl)
noncomputable def compN (k:Nat)(b:FB)(c:FT)(e:FE)(ρ:Env):List D→R (List D)
 | []=>.ok []
 | x::xs=>(b x (ρ++List.replicate k none)).calm.bind fun ρ1=>(c ρ1).bind fun t=>if t then (e ρ1).bind fun y=>(compN k b c e ρ xs).bind fun ys=>.ok (y::ys) else compN k b c e ρ xs
noncomputable def cYes:FT:=fun _=>.ok true
noncomputable abbrev FI:=Env→R (List D)
noncomputable def jList (a:FE):FI:=fun ρ=>(a ρ).bind fun d=>match d with
 | .lst xs=>if xs.length≤lim then .ok xs else .bad
 | .scr ns=>if ns.length≤lim then .ok (ns.map D.int) else .bad
 | _=>.bad
noncomputable def jTup (a:FE):FI:=fun ρ=>(a ρ).bind fun d=>match d with
 | .tup xs=>if xs.length≤lim then .ok xs else .bad
 | _=>.bad
noncomputable def jRng1 (a:FA):FI:=fun ρ=>(a ρ).bind fun ds=>match ds with
 | [.int j]=>if -1000000000≤j∧j≤1000000 then .ok (rngL 0 j.toNat) else .bad
 | _=>.bad
noncomputable def jRng2 (a:FA):FI:=fun ρ=>(a ρ).bind fun ds=>match ds with
 | [.int i,.int j]=>if -1000000000≤i∧i≤1000000000∧-1000000000≤j∧j≤1000000000∧(j - i).toNat≤lim then .ok (rngL i (j - i).toNat) else .bad
 | _=>.bad
noncomputable def downL (lo:Int)(n:Nat):List Int:=(List.range n).map fun (k:Nat)=>lo - (k:Int)
noncomputable def jRng3 (a:FA):FI:=fun ρ=>(a ρ).bind fun ds=>match ds with
 | [.int i,.int j,.int k]=>if k=-1∧-1000000000≤i∧i≤1000000000∧-1000000000≤j∧j≤1000000000∧(i - j).toNat≤lim then .ok ((downL i (i - j).toNat).map D.int) else .bad
 | _=>.bad
noncomputable def fComp (n k:Nat)(it:FI)(b:FB)(c:FT)(e:FE):FE:=fun ρ=>if ρ.length=n then (it ρ).bind fun xs=>(compN k b c e ρ xs).calm.bind fun ys=>.ok (.lst ys) else .bad
noncomputable def sNx:FS:=fun ρ=>.ok (.nx ρ)
noncomputable def sNever:FS:=fun _=>.bad
noncomputable def sSeq (a b:FS):FS:=fun ρ=>(a ρ).bind fun fl=>match fl with
 | .nx ρ'=>b ρ'
 | fl=>.ok fl
noncomputable def sSet (i:Nat)(e:FE):FS:=fun ρ=>(e ρ).bind fun d=>.ok (.nx (ρ.set i (some d)))
noncomputable def sRet (e:FE):FS:=fun ρ=>(e ρ).bind fun d=>.ok (.ret d)
noncomputable def sIf (c:FT)(a b:FS):FS:=fun ρ=>(c ρ).bind fun x=>if x then a ρ else b ρ
noncomputable def sApp (i:Nat)(e:FE):FS:=fun ρ=>match ρ[i]? with
 | some (some (.lst xs))=>(e ρ).bind fun d=>if xs.length<lim then .ok (.nx (ρ.set i (some (.lst (xs++[d]))))) else .bad
 | _=>.bad
noncomputable def updP (f:List D→Option (List D)):List Int→D→Option D
 | [],.lst xs=>(f xs).map D.lst
 | n::r,.lst xs=>(ixD xs.length n).bind fun j=>xs[j]?.bind fun d=>(updP f r d).map fun d'=>D.lst (xs.set j d')
 | n::r,.tup xs=>(ixD xs.length n).bind fun j=>xs[j]?.bind fun d=>(updP f r d).map fun d'=>D.tup (xs.set j d')
 | _,_=>none
noncomputable def addL (d:D)(xs:List D):Option (List D):=if xs.length<lim then some (xs++[d]) else none
noncomputable def sPath (i:Nat)(ks:FA)(e:FE):FS:=fun ρ=>match ρ[i]? with
 | some (some d)=>(ks ρ).calm.bind fun zs=>match intsOf zs with
  | some path=>(e ρ).calm.bind fun v=>match updP (addL v) path d with
   | some d'=>.ok (.nx (ρ.set i (some d')))
   | none=>.bad
  | none=>.bad
 | _=>.bad
noncomputable def forApp (i j:Nat)(c:FT)(r:D)(e:FE)(ρ:Env):List D→List D→R Fl
 | dn,[]=>.ok (.nx ((ρ.set i (some (.lst dn))).set j none))
 | dn,x::rest=>(c ((ρ.set i (some (.lst (dn++x::rest)))).set j (some x))).bind fun b=>if b then .ok (.ret r) else
   (e ((ρ.set i (some (.lst (dn++x::rest)))).set j (some x))).calm.bind fun v=>match updP (addL v) [] x with
    | some x'=>forApp i j c r e ρ (dn++[x']) rest
    | none=>.bad
noncomputable def sAsg (e:FE)(b:FB):FS:=fun ρ=>(e ρ).bind fun d=>(b d ρ).calm.bind fun ρ'=>.ok (.nx ρ')
noncomputable def forD (b:FB)(s:FS):List D→Env→R Fl
 | [],ρ=>.ok (.nx ρ)
 | x::xs,ρ=>(b x ρ).calm.bind fun ρ1=>(s ρ1).bind fun fl=>match fl with
  | .nx ρ2=>forD b s xs ρ2
  | .cnt ρ2=>forD b s xs ρ2
  | .brk ρ2=>.ok (.nx ρ2)
  | .ret d=>.ok (.ret d)
noncomputable def sFor (it:FI)(b:FB)(s:FS):FS:=fun ρ=>(it ρ).bind fun xs=>forD b s xs ρ
noncomputable def whileD (c:FT)(s:FS):Nat→Env→R Fl
 | 0,_=>.bad
 | n+1,ρ=>(c ρ).bind fun b=>if b then (s ρ).bind fun fl=>match fl with
  | .nx ρ2=>whileD c s n ρ2
  | .cnt ρ2=>whileD c s n ρ2
  | .brk ρ2=>.ok (.nx ρ2)
  | .ret d=>.ok (.ret d)
  else .ok (.nx ρ)
noncomputable def sWhile (n:Nat)(c:FT)(s:FS):FS:=fun ρ=>whileD c s n ρ
noncomputable def sRaise (c:String)(words:FA):FS:=fun ρ=>(words ρ).bind fun _=>.err c none
noncomputable def strsOf:List D→Option (List Str)
 | []=>some []
 | .str i::r=>(strsOf r).map (i::·)
 | _::_=>none
noncomputable def gJoin:D→D→Option D
 | .str s,.lst ds=>(strsOf ds).bind fun ts=>if (ts.map (·.length)).sum+ts.length*s.length≤lim then some (.str (Str.join s ts)) else none
 | _,_=>none
noncomputable def fJoin (a b:FE):FE:=fun ρ=>(a ρ).bind fun x=>match x with
 | .str s=>(b ρ).bind fun y=>oR (gJoin (.str s) y)
 | _=>.bad
noncomputable def sTry (cs:List String)(N i:Nat)(b h:FS):FS:=fun ρ=>match b ρ with
 | .err c x=>if cs.contains c then (h ((List.replicate N none).set i (some (.exc c x)))).calm.bind fun fl=>match fl with
   | .nx _=>.ok (.nx (List.replicate N none))
   | .brk _=>.ok (.brk (List.replicate N none))
   | .cnt _=>.ok (.cnt (List.replicate N none))
   | .ret d=>.ok (.ret d)
  else .bad
 | r=>r
noncomputable def pickM (N:Nat)(c:String)(x:Option Int):List (List (String×Bool)×Option Nat×FS)→R Fl
  | []=>.bad
  | z::r=>match z.1.lookup c with
    | some true=>(match z.2.1 with
      | some i=>(z.2.2 ((List.replicate N none).set i (some (.exc c x)))).calm.bind fun fl=>match fl with
        | .nx _=>.ok (.nx (List.replicate N none))
        | .brk _=>.ok (.brk (List.replicate N none))
        | .cnt _=>.ok (.cnt (List.replicate N none))
        | .ret d=>.ok (.ret d)
      | none=>(z.2.2 (List.replicate N none)).calm)
    | some false=>pickM N c x r
    | none=>.bad
noncomputable def gExF (cs:List String):D→Option D
 | .exc c (some i)=>if cs.contains c then some (.int i) else none
 | _=>none
noncomputable def sRaiseI (c:String)(e:FE):FS:=fun ρ=>(e ρ).bind fun d=>match d with
 | .int i=>if i.natAbs<2 ^ 200 then .err c (some i) else .bad
 | _=>.bad
noncomputable def fIx (f:Str):List Str→Option Nat
 | []=>none
 | g::r=>if g=f then some 0 else (fIx f r).map (·+1)
noncomputable def putO (c:String)(f:Str)(d:D):D→Option D
 | .obj c' ns xs=>if c'=c∧ns.length<100 then match fIx f ns with
   | some j=>some (.obj c' ns (xs.set j d))
   | none=>some (.obj c' (ns++[f]) (xs++[d]))
  else none
 | _=>none
noncomputable def sFld (i:Nat)(c:String)(f:Str)(e:FE):FS:=fun ρ=>(e ρ).bind fun d=>match ρ[i]? with
 | some (some o)=>(oR (putO c f d o)).bind fun o'=>.ok (.nx (ρ.set i (some o')))
 | _=>.bad
noncomputable abbrev FM:=Env→R (D×Env)
noncomputable abbrev FMT:=Env→R (Bool×Env)
noncomputable def run (N:Nat)(b:FS)(ds:List D):R D:=(b (ds.map some++List.replicate (N - ds.length) none)).bind fun fl=>match fl with
 | .nx _=>.ok .non
 | .ret d=>.ok d
 | _=>.bad
end Dl
namespace Dl
open PySem
noncomputable def keyD:D→Option (Int ⊕ Str)
 | .int i=>some (.inl i)
 | .str x=>some (.inr x)
 | _=>none
noncomputable def dHas (ks:List (Int ⊕ Str))(k:Int ⊕ Str):Bool:=ks.any fun j=>decide (j=k)
noncomputable def dPut (ks:List (Int ⊕ Str))(xs:List D)(k:Int ⊕ Str)(d:D):D:=if dHas ks k then .dct ks (List.zipWith (fun j x=>if j=k then d else x) ks xs) else .dct (ks++[k]) (xs++[d])
noncomputable def sDPut (i:Nat)(k e:FE):FS:=fun ρ=>(e ρ).bind fun d=>match ρ[i]? with
 | some (some (.dct ks xs))=>(k ρ).bind fun z=>match keyD z with
  | some q=>if flat d=true∧flatA xs=true∧ks.length<lim then .ok (.nx (ρ.set i (some (dPut ks xs q d)))) else .bad
  | none=>.bad
 | _=>.bad
noncomputable def catO:Str→List D→Option D
 | out,[]=>some (.str out)
 | out,.str y::r=>if y.length≤2000 then catO (out++y) r else none
 | _,_=>none
noncomputable def splitL (c:Nat):List Nat→List (List Nat)
 | []=>[[]]
 | x::r=>if x=c then []::splitL c r else match splitL c r with
  | []=>[[x]]
  | w::ws=>(x::w)::ws
noncomputable def unR (p:List Nat):Option (List Nat):=if p.getLast?=some 32 then some p.dropLast else none
noncomputable def unL:List Nat→Option (List Nat)
 | []=>none
 | x::r=>if x=32 then some r else none
noncomputable def unP:List Nat→List (List Nat)→Option (List (List Nat))
 | p,[]=>some [p]
 | p,q::r=>(unR p).bind fun w=>(unL q).bind fun q'=>(unP q' r).bind fun ws=>some (w::ws)
noncomputable def keysD:List D→Option (List (Int ⊕ Str))
 | []=>some []
 | d::r=>(keyD d).bind fun k=>(keysD r).bind fun ks=>some (k::ks)
noncomputable def tAt:List (List (Int ⊕ Str))→List D→List (Int ⊕ Str)→Option D
 | j::ks,x::xs,k=>if j=k then some x else tAt ks xs k
 | _,_,_=>none
noncomputable def extL (es xs:List D):Option (List D):=if xs.length+es.length≤lim then some (xs++es) else none
noncomputable def sPathX (i:Nat)(k e:FE):FS:=fun ρ=>match ρ[i]? with
 | some (some d)=>(k ρ).calm.bind fun z=>match z with
  | .int n=>(e ρ).calm.bind fun v=>match v with
   | .lst es=>match updP (extL es) [n] d with
    | some d'=>.ok (.nx (ρ.set i (some d')))
    | none=>.bad
   | _=>.bad
  | _=>.bad
 | _=>.bad
noncomputable abbrev Pc:=Int×Str
noncomputable def sLt (x y:Str):Bool:=decide (x.cps.toList<y.cps.toList)
noncomputable def pcLt (p q:Pc):Bool:=if p.1=q.1 then (if p.2=q.2 then false else sLt p.2 q.2) else decide (p.1<q.1)
noncomputable def ctLt:List Pc→List Pc→Bool
 | [],[]=>false
 | [],_::_=>true
 | _::_,[]=>false
 | p::c,q::d=>if p=q then ctLt c d else pcLt p q
noncomputable def insC (c:List Pc):List (List Pc)→List (List Pc)
 | []=>[c]
 | d::r=>if ctLt c d=true then c::d::r else d::insC c r
noncomputable def sortC:List (List Pc)→List (List Pc)
 | []=>[]
 | c::r=>insC c (sortC r)
noncomputable def ctD (c:List Pc):D:=.lst (c.map fun p=>.tup [.int p.1,.str p.2])
noncomputable def pcOf:D→Option Pc
 | .tup [.int i,.str z]=>some (i,z)
 | _=>none
noncomputable def pcsOf:List D→Option (List Pc)
 | []=>some []
 | d::r=>(pcOf d).bind fun p=>(pcsOf r).bind fun ps=>some (p::ps)
noncomputable def ctOf:D→Option (List Pc)
 | .lst ds=>pcsOf ds
 | _=>none
noncomputable def ctsOf:List D→Option (List (List Pc))
 | []=>some []
 | d::r=>(ctOf d).bind fun c=>(ctsOf r).bind fun cs=>some (c::cs)
noncomputable def gSortC:List D→Option D
 | [.lst ds]=>(ctsOf ds).bind fun cs=>if cs.length≤1000 then some (.lst ((sortC cs).map ctD)) else none
 | _=>none
end Dl
namespace L2
open PySem PySem.Spec PyProof.Rows
open Dl (D R FE FT FA FO FS FI FB Fl)
noncomputable def FzL (K:PySem.W.Frag)(H:Hp)(a:Addr)(xs:List V):Prop :=
 (∃o,H a=some (.frz o (.lst xs)))∨∃(o:Obj) (its:Array Value) (n:Nat),K.lookup a=some o∧o.cls=.type "list"∧o.dict=none∧o.data=.seq its n∧its.size≤sizeLine∧Vals xs its.toList
theorem FzL.sq {K:PySem.W.Frag}{H:Hp}{a:Addr}{xs:List V}(h:FzL K H a xs):SqL K H a xs:=by
 rcases h with ⟨o,h⟩ | h
 ·exact .inl (.inr ⟨o,h⟩)
 ·exact .inr h
noncomputable def fnm (c:String):Str:=if c="TooMany" then "most" else "at"
noncomputable def FOk (H:Hp)(c:String)(f:Option Int)(dx:Option Addr):Prop:=match f with
 | none=>True
 | some i=>∃d,dx=some d∧H d=some (.xd [(fnm c,.int i)])
section
variable (K:PySem.W.Frag)(C:String→Addr)
mutual
noncomputable def Rp (H:Hp):D→V→List Addr→Prop
 | .non,v,A=>v=.non∧A=[]
 | .bl b,v,A=>v=.bl b∧A=[]
 | .int i,v,A=>v=.int i∧A=[]
 | .str x,v,A=>v=.str x∧PyData.strOk x=true∧A=[]
 | .lst ds,v,A=>∃a xs B,v=.ref a∧H a=some (.lst xs)∧RpA H ds xs B∧A=a::B
 | .tup ds,v,A=>∃a xs,v=.ref a∧H a=some (.tup xs)∧RpA H ds xs A
 | .scr ns,v,A=>∃a,v=.ref a∧FzL K H a (ns.map V.int)∧A=[]
 | .rng lo hi,v,A=>∃a,v=.ref a∧H a=some (.rng lo hi)∧A=[]
 | .exc c f,v,A=>∃e dx,v=.ref e∧H e=some (exO e (.ref (C c)) dx)∧FOk H c f dx∧A=[]
 | .obj c ns ds,v,A=>∃a dx xs B,v=.ref a∧H a=some (.ins (C c) dx (ns.zip xs))∧ns.length=ds.length∧RpA H ds xs B∧A=a::B
 | .dct ks ds,v,A=>∃a xs B,v=.ref a∧H a=some (.dK (ks.zip xs))∧ks.length=ds.length∧RpA H ds xs B∧A=a::B
 | .dtt ks ds,v,A=>∃a xs B,v=.ref a∧H a=some (.dT (ks.zip xs))∧ks.length=ds.length∧RpA H ds xs B∧A=a::B
noncomputable def RpA (H:Hp):List D→List V→List Addr→Prop
 | [],xs,A=>xs=[]∧A=[]
 | d::ds,xs,A=>∃x r B B',xs=x::r∧Rp H d x B∧RpA H ds r B'∧A=B++B'
end
end
section
variable {K:PySem.W.Frag}{C:String→Addr}{H H' H1 H2:Hp}
inductive IsM:HO→Prop where
 | lst {xs:List V}:IsM (.lst xs)
 | ins {C dx:Addr} {fs:List (Str×V)}:IsM (.ins C dx fs)
 | dct {kvs:List (Key×V)}:IsM (.dK kvs)
 | dtt {kvs:List (List Key×V)}:IsM (.dT kvs)
noncomputable def Ext (W:Addr→Prop)(H H':Hp):Prop:=∀b o,H b=some o→H' b=some o∨(W b∧IsM o)
theorem Ext.same (h:Same H H'):Ext (fun _=>False) H H':=fun b o q=>.inl (h b o q)
mutual
theorem Rp.ext {W:Addr→Prop}(h:Ext W H H'):∀{d:D} {v:V} {A:List Addr},(∀a∈A,¬W a)→Rp K C H d v A→Rp K C H' d v A
 | .non,_,_,_,r=>r
 | .bl _,_,_,_,r=>r
 | .int _,_,_,_,r=>r
 | .str _,_,_,_,r=>r
 | .lst ds,v,A,hw,r=>by
  obtain ⟨a,xs,B,e1,e2,e3,e4⟩:=r
  subst e4
  refine ⟨a,xs,B,e1,?_,RpA.ext h (fun b hb=>hw b (.tail _ hb)) e3,rfl⟩
  rcases h a _ e2 with q | ⟨q,_⟩
  ·exact q
  ·exact absurd q (hw a (.head _))
 | .tup ds,v,A,hw,r=>by
  obtain ⟨a,xs,e1,e2,e3⟩:=r
  refine ⟨a,xs,e1,?_,RpA.ext h hw e3⟩
  rcases h a _ e2 with q | ⟨_,q⟩
  ·exact q
  ·cases q
 | .scr ns,v,A,_,r=>by
  obtain ⟨a,e1,e2,e3⟩:=r
  refine ⟨a,e1,?_,e3⟩
  rcases e2 with ⟨o,e2⟩ | e2
  ·rcases h a _ e2 with q | ⟨_,q⟩
   ·exact .inl ⟨o,q⟩
   ·cases q
  ·exact .inr e2
 | .rng lo hi,v,A,_,r=>by
  obtain ⟨a,e1,e2,e3⟩:=r
  refine ⟨a,e1,?_,e3⟩
  rcases h a _ e2 with q | ⟨_,q⟩
  ·exact q
  ·cases q
 | .exc c f,v,A,_,r=>by
  obtain ⟨a,dx,e1,e2,e3,e4⟩:=r
  refine ⟨a,dx,e1,?_,?_,e4⟩
  ·rcases h a _ e2 with q | ⟨_,q⟩
   ·exact q
   ·cases q
  ·cases f with
   | none=>trivial
   | some i =>
    obtain ⟨d,z1,z2⟩:=e3
    refine ⟨d,z1,?_⟩
    rcases h d _ z2 with q | ⟨_,q⟩
    ·exact q
    ·cases q
 | .obj c ns ds,v,A,hw,r=>by
  obtain ⟨a,dx,xs,B,e1,e2,e0,e3,e4⟩:=r
  subst e4
  refine ⟨a,dx,xs,B,e1,?_,e0,RpA.ext h (fun b hb=>hw b (.tail _ hb)) e3,rfl⟩
  rcases h a _ e2 with q | ⟨q,_⟩
  ·exact q
  ·exact absurd q (hw a (.head _))
 | .dct ks ds,v,A,hw,r=>by
  obtain ⟨a,xs,B,e1,e2,e0,e3,e4⟩:=r
  subst e4
  refine ⟨a,xs,B,e1,?_,e0,RpA.ext h (fun b hb=>hw b (.tail _ hb)) e3,rfl⟩
  rcases h a _ e2 with q | ⟨q,_⟩
  ·exact q
  ·exact absurd q (hw a (.head _))
 | .dtt ks ds,v,A,hw,r=>by
  obtain ⟨a,xs,B,e1,e2,e0,e3,e4⟩:=r
  subst e4
  refine ⟨a,xs,B,e1,?_,e0,RpA.ext h (fun b hb=>hw b (.tail _ hb)) e3,rfl⟩
  rcases h a _ e2 with q | ⟨q,_⟩
  ·exact q
  ·exact absurd q (hw a (.head _))
theorem RpA.ext {W:Addr→Prop}(h:Ext W H H'):∀{ds:List D} {vs:List V} {A:List Addr},(∀a∈A,¬W a)→RpA K C H ds vs A→RpA K C H' ds vs A
 | [],_,_,_,r=>r
 | d::ds,vs,A,hw,r=>by
  obtain ⟨x,l,B,B',e1,e2,e3,e4⟩:=r
  subst e4
  exact ⟨x,l,B,B',e1,Rp.ext h (fun a ha=>hw a (List.mem_append_left _ ha)) e2,RpA.ext h (fun a ha=>hw a (List.mem_append_right _ ha)) e3,rfl⟩
end
theorem Rp.same (h:Same H H'){d:D}{v:V}{A:List Addr}(r:Rp K C H d v A):Rp K C H' d v A:=r.ext (Ext.same h) (fun _ _ q=>q)
theorem RpA.same (h:Same H H'){d:List D}{v:List V}{A:List Addr}(r:RpA K C H d v A):RpA K C H' d v A:=r.ext (Ext.same h) (fun _ _ q=>q)
noncomputable def Agree (W:List Addr)(H Hb:Hp):Prop:=(∀a∈W,Hb a=H a)∧∀b o,H b=some o→¬IsM o→Hb b=some o
theorem Agree.ext {W:List Addr}(h:Agree W H H'):Ext (fun a=>a∉W) H H':=fun b o q=>by
 by_cases hb:b∈W
 ·exact .inl ((h.1 b hb).trans q)
 ·by_cases ho:IsM o
  ·exact .inr ⟨hb,ho⟩
  ·exact .inl (h.2 b o q ho)
theorem RpA.agree {W:List Addr}(h:Agree W H H'){ds:List D}{vs:List V}{A:List Addr}(hA:∀a∈A,a∈W)(r:RpA K C H ds vs A):RpA K C H' ds vs A:=r.ext h.ext fun a ha z=>z (hA a ha)
mutual
theorem Rp.isl:∀{d:D} {v:V} {A:List Addr},Rp K C H d v A→∀a∈A,∃o,H a=some o∧IsM o
 | .non,_,_,r,a,ha=>by rw [r.2] at ha;cases ha
 | .bl _,_,_,r,a,ha=>by rw [r.2] at ha;cases ha
 | .int _,_,_,r,a,ha=>by rw [r.2] at ha;cases ha
 | .str _,_,_,r,a,ha=>by rw [r.2.2] at ha;cases ha
 | .lst ds,_,_,r,a,ha=>by
  obtain ⟨b,xs,B,e1,e2,e3,e4⟩:=r
  rw [e4] at ha
  rcases List.mem_cons.mp ha with z | z
  ·rw [z];exact ⟨_,e2,.lst⟩
  ·exact RpA.isl e3 a z
 | .tup ds,_,_,r,a,ha=>by
  obtain ⟨b,xs,e1,e2,e3⟩:=r
  exact RpA.isl e3 a ha
 | .scr _,_,_,r,a,ha=>by obtain ⟨_,_,_,e⟩:=r;rw [e] at ha;cases ha
 | .rng _ _,_,_,r,a,ha=>by obtain ⟨_,_,_,e⟩:=r;rw [e] at ha;cases ha
 | .exc _ _,_,_,r,a,ha=>by obtain ⟨_,_,_,_,_,e⟩:=r;rw [e] at ha;cases ha
 | .obj c ns ds,_,_,r,a,ha=>by
  obtain ⟨b,dx,xs,B,e1,e2,e0,e3,e4⟩:=r
  rw [e4] at ha
  rcases List.mem_cons.mp ha with z | z
  ·rw [z];exact ⟨_,e2,.ins⟩
  ·exact RpA.isl e3 a z
 | .dct ks ds,_,_,r,a,ha=>by
  obtain ⟨b,xs,B,e1,e2,e0,e3,e4⟩:=r
  rw [e4] at ha
  rcases List.mem_cons.mp ha with z | z
  ·rw [z];exact ⟨_,e2,.dct⟩
  ·exact RpA.isl e3 a z
 | .dtt ks ds,_,_,r,a,ha=>by
  obtain ⟨b,xs,B,e1,e2,e0,e3,e4⟩:=r
  rw [e4] at ha
  rcases List.mem_cons.mp ha with z | z
  ·rw [z];exact ⟨_,e2,.dtt⟩
  ·exact RpA.isl e3 a z
theorem RpA.isl:∀{ds:List D} {vs:List V} {A:List Addr},RpA K C H ds vs A→∀a∈A,∃o,H a=some o∧IsM o
 | [],_,_,r,a,ha=>by rw [r.2] at ha;cases ha
 | d::ds,_,_,r,a,ha=>by
  obtain ⟨x,l,B,B',e1,e2,e3,e4⟩:=r
  rw [e4] at ha
  rcases List.mem_append.mp ha with z | z
  ·exact Rp.isl e2 a z
  ·exact RpA.isl e3 a z
end
mutual
theorem Rp.flat:∀{d:D} {v:V} {A:List Addr},Dl.flat d=true→Rp K C H d v A→A=[]
 | .non,_,_,_,r=>r.2
 | .bl _,_,_,_,r=>r.2
 | .int _,_,_,_,r=>r.2
 | .str _,_,_,_,r=>r.2.2
 | .lst _,_,_,h,_=>by simp [Dl.flat] at h
 | .tup ds,_,_,h,r=>by
  obtain ⟨b,xs,e1,e2,e3⟩:=r
  exact RpA.flat (by simpa [Dl.flat] using h) e3
 | .scr _,_,_,_,r=>by obtain ⟨_,_,_,e⟩:=r;exact e
 | .rng _ _,_,_,_,r=>by obtain ⟨_,_,_,e⟩:=r;exact e
 | .exc _ _,_,_,_,r=>by obtain ⟨_,_,_,_,_,e⟩:=r;exact e
 | .obj _ _ _,_,_,h,_=>by simp [Dl.flat] at h
 | .dct _ _,_,_,h,_=>by simp [Dl.flat] at h
 | .dtt _ _,_,_,h,_=>by simp [Dl.flat] at h
theorem RpA.flat:∀{ds:List D} {vs:List V} {A:List Addr},Dl.flatA ds=true→RpA K C H ds vs A→A=[]
 | [],_,_,_,r=>r.2
 | d::ds,_,_,h,r=>by
  obtain ⟨x,l,B,B',e1,e2,e3,e4⟩:=r
  simp only [Dl.flatA,Bool.and_eq_true] at h
  rw [e4,Rp.flat h.1 e2,RpA.flat h.2 e3]
  rfl
end
theorem RpA.len:∀{ds:List D} {vs:List V} {A:List Addr},RpA K C H ds vs A→vs.length=ds.length
 | [],_,_,r=>by rw [r.1];rfl
 | d::ds,_,_,r=>by
  obtain ⟨x,l,B,B',e1,e2,e3,e4⟩:=r
  rw [e1,List.length_cons,List.length_cons,RpA.len e3]
theorem RpA.get:∀{ds:List D} {vs:List V} {A:List Addr} {i:Nat} {d:D},RpA K C H ds vs A→ds[i]?=some d→∃v B,vs[i]?=some v∧Rp K C H d v B∧∀a∈B,a∈A
 | [],_,_,_,_,_,h=>by simp at h
 | d::ds,_,_,0,_,r,h=>by
  obtain ⟨x,l,B,B',e1,e2,e3,e4⟩:=r
  simp only [List.getElem?_cons_zero,Option.some.injEq] at h
  subst h e1 e4
  exact ⟨x,B,rfl,e2,fun a ha=>List.mem_append_left _ ha⟩
 | d::ds,_,_,i+1,_,r,h=>by
  obtain ⟨x,l,B,B',e1,e2,e3,e4⟩:=r
  simp only [List.getElem?_cons_succ] at h
  obtain ⟨v,B2,q1,q2,q3⟩:=RpA.get e3 h
  subst e1 e4
  exact ⟨v,B2,by simpa using q1,q2,fun a ha=>List.mem_append_right _ (q3 a ha)⟩
theorem RpA.get':∀{ds:List D} {vs:List V} {A:List Addr} {i:Nat} {v:V},RpA K C H ds vs A→vs[i]?=some v→∃d B,ds[i]?=some d∧Rp K C H d v B∧∀a∈B,a∈A:=fun {ds vs A i v} r h=>by
 have hl:=r.len
 have hi:i<ds.length:=by
  have:=(List.getElem?_eq_some_iff.mp h).1
  omega
 obtain ⟨v',B,q1,q2,q3⟩:=r.get (List.getElem?_eq_getElem hi)
 rw [h] at q1
 cases q1
 exact ⟨_,B,List.getElem?_eq_getElem hi,q2,q3⟩
theorem RpA.app:∀{ds es:List D} {vs ws:List V} {A B:List Addr},RpA K C H ds vs A→RpA K C H es ws B→RpA K C H (ds++es) (vs++ws) (A++B)
 | [],_,_,_,_,_,r,q=>by
  obtain ⟨e1,e2⟩:=r
  subst e1 e2
  exact q
 | d::ds,_,_,_,_,_,r,q=>by
  obtain ⟨x,l,B,B',e1,e2,e3,e4⟩:=r
  subst e1 e4
  exact ⟨x,_,B,_,rfl,e2,RpA.app e3 q,List.append_assoc ..⟩
theorem RpA.one {d:D}{v:V}{A:List Addr}(r:Rp K C H d v A):RpA K C H [d] [v] A:=⟨v,[],A,[],rfl,r,⟨rfl,rfl⟩,(List.append_nil _).symm⟩
theorem RpA.flatDrop {ds:List D}{vs:List V}{A:List Addr}:Dl.flatA ds=true→RpA K C H ds vs A→∀n,RpA K C H (ds.drop n) (vs.drop n) []:=by
 intro h r n
 induction ds generalizing vs A n with
 | nil=>rw [r.1];simp;exact ⟨rfl,rfl⟩
 | cons d ds ih =>
  have r0:=r
  obtain ⟨x,l,B,B',e1,e2,e3,e4⟩:=r
  cases n with
  | zero =>
   have z:=RpA.flat h r0
   subst z
   exact r0
  | succ n =>
   simp only [Dl.flatA,Bool.and_eq_true] at h
   subst e1
   exact ih h.2 e3 n
theorem RpA.flatTake {ds:List D}{vs:List V}{A:List Addr}:Dl.flatA ds=true→RpA K C H ds vs A→∀n,RpA K C H (ds.take n) (vs.take n) []:=by
 intro h r n
 induction ds generalizing vs A n with
 | nil=>rw [r.1];simp;exact ⟨rfl,rfl⟩
 | cons d ds ih =>
  obtain ⟨x,l,B,B',e1,e2,e3,e4⟩:=r
  simp only [Dl.flatA,Bool.and_eq_true] at h
  have z:=Rp.flat h.1 e2
  subst e1 z
  cases n with
  | zero=>exact ⟨rfl,rfl⟩
  | succ n=>exact ⟨x,_,[],_,rfl,e2,ih h.2 e3 n,rfl⟩
theorem flatA_drop {ds:List D}(h:Dl.flatA ds=true):∀n,Dl.flatA (ds.drop n)=true:=by
 intro n
 induction ds generalizing n with
 | nil=>simp;rfl
 | cons d ds ih =>
  cases n with
  | zero=>exact h
  | succ n =>
   simp only [Dl.flatA,Bool.and_eq_true] at h
   exact ih h.2 n
theorem RpA.ints {ns:List Int}:RpA K C H (ns.map D.int) (ns.map V.int) []:=by
 induction ns with
 | nil=>exact ⟨rfl,rfl⟩
 | cons n ns ih=>exact ⟨_,_,[],[],rfl,⟨rfl,rfl⟩,ih,rfl⟩
theorem RpA.ofInts:∀{ds:List D} {vs:List V} {A:List Addr} {ns:List Int},RpA K C H ds vs A→Dl.intsOf ds=some ns→vs=ns.map V.int
 | [],_,_,ns,r,h=>by
  simp only [Dl.intsOf,Option.some.injEq] at h
  rw [r.1,← h]
  rfl
 | d::ds,_,_,ns,r,h=>by
  obtain ⟨x,l,B,B',e1,e2,e3,e4⟩:=r
  cases d<;>simp only [Dl.intsOf] at h<;>try cases h
  obtain ⟨ms,h1,h2⟩:=Option.map_eq_some_iff.mp h
  rw [e1,e2.1,RpA.ofInts e3 h1,← h2]
  rfl
mutual
noncomputable def toPy:D→PyData
 | .non=>.none
 | .bl b=>.bool b
 | .int i=>.int i
 | .str x=>.str x
 | .lst ds=>.list (toPyA ds)
 | .tup ds=>.tuple (toPyA ds)
 | .scr _=>.none
 | .rng _ _=>.none
 | .exc _ _=>.none
 | .obj _ _ _=>.none
 | .dct _ _=>.none
 | .dtt _ _=>.none
noncomputable def toPyA:List D→List PyData
 | []=>[]
 | d::ds=>toPy d::toPyA ds
end
mutual
theorem Rp.dn:∀{d:D} {v:V} {A:List Addr} {n:Nat},Dl.dep d≤n→n<100→Rp K C H d v A→Dn K H v (toPy d)∧(toPy d).canLay0=true∧(toPy d).depth=Dl.dep d
 | .non,_,_,_,_,_,r=>by rw [r.1];exact ⟨.non,rfl,rfl⟩
 | .bl _,_,_,_,_,_,r=>by rw [r.1];exact ⟨.bl _,rfl,rfl⟩
 | .int _,_,_,_,_,_,r=>by rw [r.1];exact ⟨.int _,rfl,rfl⟩
 | .str _,_,_,_,_,_,r=>by rw [r.1];exact ⟨.str _,by simpa [toPy,PyData.canLay0] using r.2.1,by simp [toPy,PyData.depth,Dl.dep]⟩
 | .lst ds,_,_,n,h,hn,r=>by
  obtain ⟨a,xs,B,e1,e2,e3,e4⟩:=r
  simp only [Dl.dep] at h
  obtain ⟨q1,q2,q3⟩:=RpA.dn (n:=n) (by omega) hn e3
  rw [e1]
  exact ⟨.lst (SqL.of e2) q1,by simpa [toPy,PyData.canLay0] using q2,by simp [toPy,PyData.depth,Dl.dep,q3]⟩
 | .tup ds,_,_,n,h,hn,r=>by
  obtain ⟨a,xs,e1,e2,e3⟩:=r
  simp only [Dl.dep] at h
  obtain ⟨q1,q2,q3⟩:=RpA.dn (n:=n) (by omega) hn e3
  rw [e1]
  exact ⟨.tup (SqT.of e2) q1,by simpa [toPy,PyData.canLay0] using q2,by simp [toPy,PyData.depth,Dl.dep,q3]⟩
 | .scr _,_,_,n,h,hn,_=>by simp only [Dl.dep] at h;omega
 | .rng _ _,_,_,n,h,hn,_=>by simp only [Dl.dep] at h;omega
 | .exc _ _,_,_,n,h,hn,_=>by simp only [Dl.dep] at h;omega
 | .obj _ _ _,_,_,n,h,hn,_=>by simp only [Dl.dep] at h;omega
 | .dct _ _,_,_,n,h,hn,_=>by simp only [Dl.dep] at h;omega
 | .dtt _ _,_,_,n,h,hn,_=>by simp only [Dl.dep] at h;omega
theorem RpA.dn:∀{ds:List D} {vs:List V} {A:List Addr} {n:Nat},Dl.depA ds≤n→n<100→RpA K C H ds vs A→DnA K H vs (toPyA ds)∧PyData.canLayAll0 (toPyA ds)=true∧PyData.depthAll (toPyA ds)=Dl.depA ds
 | [],_,_,_,_,_,r=>by rw [r.1];exact ⟨.nil,rfl,rfl⟩
 | d::ds,_,_,n,h,hn,r=>by
  obtain ⟨x,l,B,B',e1,e2,e3,e4⟩:=r
  simp only [Dl.depA] at h
  obtain ⟨q1,q2,q3⟩:=Rp.dn (n:=n) (by omega) hn e2
  obtain ⟨p1,p2,p3⟩:=RpA.dn (n:=n) (by omega) hn e3
  rw [e1]
  exact ⟨.cons q1 p1,by simp [toPyA,PyData.canLayAll0,q2,p2],by simp [toPyA,PyData.depthAll,Dl.depA,q3,p3]⟩
end
mutual
theorem eqv_py:∀{d e:D},Dl.dep d<100→Dl.dep e<100→PyData.eqv (toPy d) (toPy e)=Dl.eqv d e
 | .non,e,_,h=>by cases e<;>first | rfl | exact absurd h (Nat.lt_irrefl 100)
 | .bl _,e,_,h=>by cases e<;>first | rfl | exact absurd h (Nat.lt_irrefl 100)
 | .int _,e,_,h=>by cases e<;>first | rfl | exact absurd h (Nat.lt_irrefl 100)
 | .str _,e,_,h=>by cases e<;>first | rfl | exact absurd h (Nat.lt_irrefl 100)
 | .lst ds,e,h1,h=>by
  cases e with
  | lst es=>exact eqvA_py (Nat.lt_of_succ_lt h1) (Nat.lt_of_succ_lt h)
  | _=>rfl
 | .tup ds,e,h1,h=>by
  cases e with
  | tup es=>exact eqvA_py (Nat.lt_of_succ_lt h1) (Nat.lt_of_succ_lt h)
  | _=>rfl
 | .scr _,_,h,_=>absurd h (Nat.lt_irrefl 100)
 | .rng _ _,_,h,_=>absurd h (Nat.lt_irrefl 100)
 | .exc _ _,_,h,_=>absurd h (Nat.lt_irrefl 100)
 | .obj _ _ _,_,h,_=>absurd h (Nat.lt_irrefl 100)
 | .dct _ _,_,h,_=>absurd h (Nat.lt_irrefl 100)
 | .dtt _ _,_,h,_=>absurd h (Nat.lt_irrefl 100)
theorem eqvA_py:∀{d e:List D},Dl.depA d<100→Dl.depA e<100→PyData.eqvAll (toPyA d) (toPyA e)=Dl.eqvA d e
 | [],[],_,_=>rfl
 | [],_::_,_,_=>rfl
 | _::_,[],_,_=>rfl
 | d::ds,e::es,h1,h=>by
  have a1:Dl.dep d<100∧Dl.depA ds<100:=Nat.max_lt.mp h1
  have a2:Dl.dep e<100∧Dl.depA es<100:=Nat.max_lt.mp h
  show (PyData.eqv (toPy d) (toPy e)&&PyData.eqvAll (toPyA ds) (toPyA es))=(Dl.eqv d e&&Dl.eqvA ds es)
  rw [eqv_py a1.1 a2.1,eqvA_py a1.2 a2.2]
end
end
end L2
namespace L2
open PySem PySem.Spec PyProof.Rows
open Dl (D R FE FT FA FO FS FI FB Fl)
noncomputable abbrev DEnv:=Dl.Env
section
variable (K:PySem.W.Frag)(C:String→Addr)
structure EnvOk (H0 Hb H:Hp)(Γ Δ:List Nat)(σ:St)(ρ:DEnv)(A:Nat→List Addr):Prop where
 s0:Same H0 Hb
 same:Same Hb H
 len:σ.length=ρ.length
 rep:∀i d,ρ[i]?=some (some d)→∃v,σ[i]?=some (some v)∧Rp K C H d v (A i)
 nil:∀i,(∀d,ρ[i]?≠some (some d))→A i=[]
 loc:∀i∈Γ,∀a∈A i,H0 a=none
 top:∀i∈Γ,∀a r,A i=a::r→Hb a=none∧a∉r∧∀j,j≠i→a∉A j
 deep:∀i∈Δ,(A i).Nodup∧(∀j,j≠i→∀a∈A i,a∉A j)∧∀a∈A i,Hb a=none
noncomputable def InS (A:Nat→List Addr)(S:List (Nat×Bool))(a:Addr):Prop:=∃p∈S,if p.2=true then a∈(A p.1).tail else a∈A p.1
noncomputable def Res (m:Nat)(S:List (Nat×Bool))(H:Hp)(A:Nat→List Addr)(d:D)(v:V)(H':Hp):Prop :=
 ∃B,Rp K C H' d v B∧(∀a∈B,H a=none∨InS A S a)∧(m=1→∀a r,B=a::r→H a=none∧a∉r)∧(m=2→B.Nodup)
noncomputable def ResA (m:Nat)(S:List (Nat×Bool))(H:Hp)(A:Nat→List Addr)(ds:List D)(vs:List V)(H':Hp):Prop :=
 ∃B,RpA K C H' ds vs B∧(∀a∈B,H a=none∨InS A S a)∧(m=2→B.Nodup)
noncomputable def EC (E:XK)(c:String)(x:Option Int)(H:Hp):Prop:=∀dx,FOk H c x dx→E (.ref (C c)) dx H
noncomputable def Post {α:Type}(r:R α)(ok:α→Prop)(er:String→Option Int→Prop):Prop:=match r with
 | .ok a=>ok a
 | .err c x=>er c x
 | .bad=>False
noncomputable def EOk (E:XK)(Γ Δ:List Nat)(m:Nat)(S:List (Nat×Bool))(t:TE)(f:FE):Prop:=∀(H0 Hb H:Hp) (σ:St) (ρ:DEnv) (A:Nat→List Addr) (Q:VK),EnvOk K C H0 Hb H Γ Δ σ ρ A→
 Post (f ρ) (fun d=>∀v H',Same H H'→Res K C m S H A d v H'→Q v H') (fun c x=>∀H',Same H H'→EC C E c x H')→t σ H Q
noncomputable def AOk (E:XK)(Γ Δ:List Nat)(m:Nat)(S:List (Nat×Bool))(t:TA)(f:FA):Prop:=∀(H0 Hb H:Hp) (σ:St) (ρ:DEnv) (A:Nat→List Addr) (Q:List V→Hp→Prop),EnvOk K C H0 Hb H Γ Δ σ ρ A→
 Post (f ρ) (fun d=>∀v H',Same H H'→ResA K C m S H A d v H'→Q v H') (fun c x=>∀H',Same H H'→EC C E c x H')→t σ H Q
noncomputable def TOk (E:XK)(Γ Δ:List Nat)(t:TT)(f:FT):Prop:=∀(H0 Hb H:Hp) (σ:St) (ρ:DEnv) (A:Nat→List Addr) (Q:Bool→Hp→Prop),EnvOk K C H0 Hb H Γ Δ σ ρ A→
 Post (f ρ) (fun b=>∀H',Same H H'→Q b H') (fun c x=>∀H',Same H H'→EC C E c x H')→t σ H Q
noncomputable def OOk (E:XK)(Γ Δ:List Nat)(t:TO)(f:FO):Prop:=∀(H0 Hb H:Hp) (σ:St) (ρ:DEnv) (A:Nat→List Addr) (Q:Option Int→Hp→Prop),EnvOk K C H0 Hb H Γ Δ σ ρ A→
 Post (f ρ) (fun b=>∀H',Same H H'→Q b H') (fun c x=>∀H',Same H H'→EC C E c x H')→t σ H Q
noncomputable def PostS (E:XK)(mr:Nat)(Γl Δl Γ' Δ':List Nat)(H0 Hb:Hp)(D:Ends)(r:R Fl):Prop:=Post r (fun fl=>match fl with
    | .nx ρ'=>∀σ' H' A',EnvOk K C H0 Hb H' Γ' Δ' σ' ρ' A'→D.nx σ' H'
    | .ret d=>∀v H',Same H0 H'→Res K C mr [] H0 (fun _=>[]) d v H'→D.rt v H'
    | .brk ρ'=>∀σ' H' A',EnvOk K C H0 Hb H' Γl Δl σ' ρ' A'→D.bk σ' H'
    | .cnt ρ'=>∀σ' H' A',EnvOk K C H0 Hb H' Γl Δl σ' ρ' A'→D.ct σ' H')
  (fun c x=>∀H',Same H0 H'→EC C E c x H')
noncomputable def SOk (E:XK)(mr:Nat)(Γl Δl Γ Δ Γ' Δ':List Nat)(t:TS)(f:FS):Prop:=∀(H0 Hb H:Hp) (σ:St) (ρ:DEnv) (A:Nat→List Addr) (D:Ends),EnvOk K C H0 Hb H Γ Δ σ ρ A→
 PostS K C E mr Γl Δl Γ' Δ' H0 Hb D (f ρ)→t D σ H
end
section
variable {K:PySem.W.Frag}{C:String→Addr}{E:XK}{Γ Δ Γ' Δ' Γ1 Δ1 Γl Δl:List Nat}{m m1 m2 mr:Nat}{S S1 S2:List (Nat×Bool)}
theorem EnvOk.mono {H0 Hb H H':Hp}{σ:St}{ρ:DEnv}{A:Nat→List Addr}(h:EnvOk K C H0 Hb H Γ Δ σ ρ A)(g:Same H H'):EnvOk K C H0 Hb H' Γ Δ σ ρ A :=
 ⟨h.s0,h.same.trans g,h.len,fun i d e=>let ⟨v,q1,q2⟩:=h.rep i d e;⟨v,q1,q2.same g⟩,h.nil,h.loc,h.top,h.deep⟩
theorem EnvOk.weak {H0 Hb H:Hp}{σ:St}{ρ:DEnv}{A:Nat→List Addr}(h:EnvOk K C H0 Hb H Γ Δ σ ρ A)(h1:∀i∈Γ',i∈Γ)(h2:∀i∈Δ',i∈Δ):EnvOk K C H0 Hb H Γ' Δ' σ ρ A :=
 ⟨h.s0,h.same,h.len,h.rep,h.nil,fun i hi=>h.loc i (h1 i hi),fun i hi=>h.top i (h1 i hi),fun i hi=>h.deep i (h2 i hi)⟩
theorem EnvOk.is {H0 Hb H:Hp}{σ:St}{ρ:DEnv}{A:Nat→List Addr}(h:EnvOk K C H0 Hb H Γ Δ σ ρ A){j:Nat}{a:Addr}(ha:a∈A j):∃o,H a=some o∧IsM o:=by
 by_cases q:∃d,ρ[j]?=some (some d)
 ·obtain ⟨d,q⟩:=q
  obtain ⟨v,_,r⟩:=h.rep j d q
  exact r.isl a ha
 ·rw [h.nil j fun d e=>q ⟨d,e⟩] at ha
  cases ha
theorem EnvOk.ne {H0 Hb H:Hp}{σ:St}{ρ:DEnv}{A:Nat→List Addr}(h:EnvOk K C H0 Hb H Γ Δ σ ρ A){j:Nat}{a:Addr}(ha:a∈A j)(hn:H a=none):False:=by
 obtain ⟨xs,q,_⟩:=h.is ha
 rw [q] at hn
 cases hn
theorem InS.mem {A:Nat→List Addr}{a:Addr}(h:InS A S a):∃p∈S,a∈A p.1:=by
 obtain ⟨p,hp,q⟩:=h
 refine ⟨p,hp,?_⟩
 split at q
 ·exact List.mem_of_mem_tail q
 ·exact q
theorem InS.mono {A:Nat→List Addr}{a:Addr}(h:InS A S1 a)(hs:∀p∈S1,p∈S2):InS A S2 a:=let ⟨p,hp,q⟩:=h;⟨p,hs p hp,q⟩
theorem Post.imp {α:Type}{r:R α}{ok ok':α→Prop}{er er':String→Option Int→Prop}(h:Post r ok er)(h1:∀a,ok a→ok' a)(h2:∀c x,er c x→er' c x):Post r ok' er':=by
 cases r with
 | ok a=>exact h1 a h
 | err c x=>exact h2 c x h
 | bad=>exact h
theorem Post.bind {α β:Type}{r:R α}{g:α→R β}{ok:β→Prop}{er:String→Option Int→Prop}(h:Post (r.bind g) ok er):Post r (fun a=>Post (g a) ok er) er:=by
 cases r with
 | ok a=>exact h
 | err c x=>exact h
 | bad=>exact h
theorem Res.flat {H H':Hp}{A:Nat→List Addr}{d:D}{v:V}(r:Rp K C H' d v []):Res K C m S H A d v H':=⟨[],r,fun _ h=>(nomatch h),fun _ _ _ e=>(nomatch e),fun _=>List.nodup_nil⟩
theorem eok_c {d:D}{v:V}(h:∀H,Rp K C H d v []):EOk K C E Γ Δ 2 [] (tC v) (Dl.fC d):=fun _ _ H _ _ _ _ _ p=>p v H (Same.refl _) (Res.flat (h H))
theorem fV_ok {i:Nat}{ρ:DEnv}{ok:D→Prop}{er:String→Option Int→Prop}(h:Post (Dl.fV i ρ) ok er):∃d,ρ[i]?=some (some d)∧ok d:=by
 unfold Dl.fV at h
 split at h
 ·rename_i d e
  exact ⟨d,e,h⟩
 ·exact h.elim
theorem eok_v {i:Nat}:EOk K C E Γ Δ 0 [(i,false)] (tVar i) (Dl.fV i):=fun H0 Hb H σ ρ A Q I p=>by
 obtain ⟨d,e,p⟩:=fV_ok p
 obtain ⟨v,e1,r⟩:=I.rep i d e
 exact ⟨v,e1,p v H (Same.refl _) ⟨A i,r,fun a ha=>.inr ⟨(i,false),.head _,ha⟩,(fun z=>nomatch z),(fun z=>nomatch z)⟩⟩
theorem eok_vd {i:Nat}(hi:i∈Δ):EOk K C E Γ Δ 2 [(i,false)] (tVar i) (Dl.fV i):=fun H0 Hb H σ ρ A Q I p=>by
 obtain ⟨d,e,p⟩:=fV_ok p
 obtain ⟨v,e1,r⟩:=I.rep i d e
 exact ⟨v,e1,p v H (Same.refl _) ⟨A i,r,fun a ha=>.inr ⟨(i,false),.head _,ha⟩,(fun z=>nomatch z),fun _=>(I.deep i hi).1⟩⟩
theorem eok_flat {t:TE}{f:FE}(h:EOk K C E Γ Δ m S t f):EOk K C E Γ Δ 2 [] t (Dl.f1 Dl.gFlat f):=fun H0 Hb H σ ρ A Q I p =>
  h H0 Hb H σ ρ A Q I (p.bind.imp (fun d q v H' g r=>by
    unfold Dl.gFlat at q
    split at q
    · rename_i hf
      obtain ⟨B,r1,_⟩:=r
      have e:=r1.flat hf
      subst e
      exact q v H' g (Res.flat r1)
    · exact q.elim) fun _ _ q=>q)
theorem Res.later {H0 H1 H2 H3:Hp}{A:Nat→List Addr}{d:D}{v:V}(g1:Same H0 H1)(g2:Same H2 H3)(r:Res K C m S H1 A d v H2):Res K C m S H0 A d v H3:=by
 obtain ⟨B,r1,r2,r3,r4⟩:=r
 exact ⟨B,r1.same g2,fun a ha=>(r2 a ha).imp (fun h=>g1.free h) id,fun hm a l e=>⟨g1.free (r3 hm a l e).1,(r3 hm a l e).2⟩,r4⟩
theorem Res.new {H H':Hp}{A:Nat→List Addr}{d:D}{v:V}{B:List Addr}(r:Rp K C H' d v B)(h1:B.Nodup)(h2:∀a∈B,H a=none):Res K C m S H A d v H' :=
 ⟨B,r,fun a ha=>.inl (h2 a ha),fun _ a l e=>by subst e;exact ⟨h2 a (.head _),(List.nodup_cons.mp h1).1⟩,fun _=>h1⟩
theorem oR_ok {α:Type}{o:Option α}{ok:α→Prop}{er:String→Option Int→Prop}(h:Post (Dl.oR o) ok er):∃a,o=some a∧ok a:=by
 cases o with
 | none=>exact h.elim
 | some a=>exact ⟨a,rfl,h⟩
noncomputable def GOk (K:PySem.W.Frag)(C:String→Addr)(r:R2)(g:D→D→Option D):Prop :=
 ∀(H:Hp) (x y d:D) (vx vy:V) (Bx By:List Addr) (Q:VK),Rp K C H x vx Bx→Rp K C H y vy By→g x y=some d→(∀v H' B,Same H H'→Rp K C H' d v B→B.Nodup→(∀a∈B,H a=none)→Q v H')→r vx vy H Q
noncomputable def GAk (K:PySem.W.Frag)(C:String→Addr)(r:List V→Hp→VK→Prop)(g:List D→Option D):Prop :=
 ∀(H:Hp) (xs:List D) (d:D) (vs:List V) (Bx:List Addr) (Q:VK),RpA K C H xs vs Bx→g xs=some d→(∀v H' B,Same H H'→Rp K C H' d v B→B.Nodup→(∀a∈B,H a=none)→Q v H')→r vs H Q
theorem eok_op {r:R2}{g:D→D→Option D}{ta tb:TE}{fa fb:FE}(hg:GOk K C r g)(ha:EOk K C E Γ Δ m1 S1 ta fa)(hb:EOk K C E Γ Δ m2 S2 tb fb):EOk K C E Γ Δ 2 [] (tOp r ta tb) (Dl.f2 g fa fb) :=
  fun H0 Hb H σ ρ A Q I p=>ha H0 Hb H σ ρ A _ I (p.bind.imp (fun x q vx H1 g1 r1=>hb H0 Hb H1 σ ρ A _ (I.mono g1) (q.bind.imp (fun y q vy H2 g2 r2=>by
    obtain ⟨d,e,q⟩:=oR_ok q
    obtain ⟨Bx,r1,_⟩:=r1
    obtain ⟨By,r2,_⟩:=r2
    exact hg H2 x y d vx vy Bx By Q (r1.same g2) r2 e fun v H' B g3 r3 h1 h2=>q v H' (g1.trans (g2.trans g3)) (Res.new r3 h1 fun a ha=>(g1.trans g2).free (h2 a ha))) fun c x q H' g'=>q H' (g1.trans g'))) fun c x q H' g'=>q H' g')
theorem eok_un {r:V→Hp→VK→Prop}{g:D→Option D}{ta:TE}{fa:FE}(hg:∀(H:Hp) (x d:D) (vx:V) (Bx:List Addr) (Q:VK),Rp K C H x vx Bx→g x=some d→(∀v H' B,Same H H'→Rp K C H' d v B→B.Nodup→(∀a∈B,H a=none)→Q v H')→r vx H Q)
    (ha:EOk K C E Γ Δ m1 S1 ta fa):EOk K C E Γ Δ 2 [] (tUn r ta) (Dl.f1 g fa) :=
  fun H0 Hb H σ ρ A Q I p=>ha H0 Hb H σ ρ A _ I (p.bind.imp (fun x q vx H1 g1 r1=>by
    obtain ⟨d,e,q⟩:=oR_ok q
    obtain ⟨Bx,r1,_⟩:=r1
    exact hg H1 x d vx Bx Q r1 e fun v H' B g3 r3 h1 h2=>q v H' (g1.trans g3) (Res.new r3 h1 fun a ha=>g1.free (h2 a ha))) fun c x q H' g'=>q H' g')
theorem Zbz {α:Type}{d:α}{P:Prop}(e:(none:Option α)=some d):P:=nomatch e
theorem one_at {F:List D→Option D}(hn:F []=none)(hc:∀x y r,F (x::y::r)=none):∀{ds:List D} {d:D},F ds=some d→∃x,ds=[x]
 | [],_,e=>Zbz (hn.symm.trans e)
 | [x],_,_=>⟨x,rfl⟩
 | x::y::r,_,e=>Zbz ((hc x y r).symm.trans e)
theorem gIx_lst {ds:List D}{y d:D}(e:Dl.gIx (.lst ds) y=some d):∃i,y=.int i∧atI ds i=some d:=by
 cases y with
 | int i=>exact ⟨i,rfl,e⟩
 | _=>exact Zbz e
theorem gIx_tup {ds:List D}{y d:D}(e:Dl.gIx (.tup ds) y=some d):∃i,y=.int i∧atI ds i=some d:=by
 cases y with
 | int i=>exact ⟨i,rfl,e⟩
 | _=>exact Zbz e
theorem gIx_scr {ns:List Int}{y d:D}(e:Dl.gIx (.scr ns) y=some d):∃i,y=.int i∧(atI ns i).map D.int=some d:=by
 cases y with
 | int i=>exact ⟨i,rfl,e⟩
 | _=>exact Zbz e
theorem gIx_str {z:Str}{y d:D}(e:Dl.gIx (.str z) y=some d):∃i,y=.int i∧z.length≤Dl.lim∧(atI z.cps.toList i).map (fun c=>D.str ⟨#[c]⟩)=some d:=by
 cases y with
 | int i =>
  have e':(if z.length≤Dl.lim then ((Dl.atD z.cps.toList i).map fun c=>D.str ⟨#[c]⟩) else none)=some d:=e
  by_cases h:z.length≤Dl.lim
  ·rw [if_pos h] at e'
   exact ⟨i,rfl,h,e'⟩
  ·rw [if_neg h] at e'
   exact Zbz e'
 | _=>exact Zbz e
theorem gIx_at {x y d:D}(e:Dl.gIx x y=some d):∃i,y=.int i∧((∃ds,x=.lst ds∧atI ds i=some d)∨(∃ds,x=.tup ds∧atI ds i=some d)∨(∃ns,x=.scr ns∧(atI ns i).map D.int=some d)∨∃z,x=.str z∧z.length≤Dl.lim∧(atI z.cps.toList i).map (fun c=>D.str ⟨#[c]⟩)=some d):=by
 cases x with
 | lst ds=>exact (gIx_lst e).imp fun _ h=>⟨h.1,.inl ⟨ds,rfl,h.2⟩⟩
 | tup ds=>exact (gIx_tup e).imp fun _ h=>⟨h.1,.inr (.inl ⟨ds,rfl,h.2⟩)⟩
 | scr ns=>exact (gIx_scr e).imp fun _ h=>⟨h.1,.inr (.inr (.inl ⟨ns,rfl,h.2⟩))⟩
 | str z=>exact (gIx_str e).imp fun _ h=>⟨h.1,.inr (.inr (.inr ⟨z,rfl,h.2⟩))⟩
 | _=>exact Zbz e
theorem at_seq {α β:Type}{ds:List α}{xs:List β}{i:Int}{d:α}{v:β}{j:Nat}(hl:xs.length=ds.length)(e:atI ds i=some d)(h1:seqIndex? i ds.length=some j)(hv:xs[j]?=some v):atI xs i=some v:=by
 unfold atI at e ⊢
 rw [hl]
 cases hx:ixN ds.length i with
 | none=>rw [hx] at e;cases e
 | some k =>
  obtain ⟨z1,_⟩:=ixN_seq hx
  rw [h1] at z1
  cases z1
  exact hv
theorem gIx_ok {H:Hp}{x y d:D}{vx vy:V}{Bx By:List Addr}{Q:VK}(rx:Rp K C H x vx Bx)(ry:Rp K C H y vy By)(e:Dl.gIx x y=some d)(q:∀v B,Rp K C H d v B→(∀a∈B,a∈Bx)→((∃ds,x=.lst ds)→∀a∈B,a∈Bx.tail)→Q v H):rIx K vx vy H Q:=by
 obtain ⟨i,rfl,h⟩:=gIx_at e
 cases ry.1
 rcases h with ⟨ds,rfl,e'⟩ | ⟨ds,rfl,e'⟩ | ⟨ns,rfl,e'⟩ | ⟨z,rfl,hz,e'⟩
 ·obtain ⟨a,xs,B,rfl,e2,e3,rfl⟩:=rx
  obtain ⟨j,h1,h2,_⟩:=atI_get e'
  obtain ⟨v,B',q1,q2,q3⟩:=e3.get h2
  exact rd_ixL (SqL.of e2) (v:=v) (at_seq e3.len e' h1 q1) (q v B' q2 (fun a ha=>.tail _ (q3 a ha)) fun _ a ha=>q3 a ha)
 ·obtain ⟨a,xs,rfl,e2,e3⟩:=rx
  obtain ⟨j,h1,h2,_⟩:=atI_get e'
  obtain ⟨v,B',q1,q2,q3⟩:=e3.get h2
  exact rd_ixT (SqT.of e2) (v:=v) (at_seq e3.len e' h1 q1) (q v B' q2 q3 fun z=>by obtain ⟨_,z⟩:=z;cases z)
 ·obtain ⟨a,rfl,e2,rfl⟩:=rx
  obtain ⟨n,h1,rfl⟩:=Option.map_eq_some_iff.mp e'
  obtain ⟨j,h2,h3,_⟩:=atI_get h1
  exact .inl ⟨a,ns.map V.int,i,.int n,rfl,rfl,e2.sq,at_seq (List.length_map _) h1 h2 (by rw [List.getElem?_map,h3];rfl),q (.int n) [] ⟨rfl,rfl⟩ (fun _ h=>(nomatch h)) fun _ _ h=>(nomatch h)⟩
 ·obtain ⟨rfl,e2,rfl⟩:=rx
  obtain ⟨c,h1,rfl⟩:=Option.map_eq_some_iff.mp e'
  refine .inr (.inr ⟨z,i,c,rfl,rfl,Nat.le_trans hz (by decide),h1,q _ [] ⟨rfl,?_,rfl⟩ (fun _ h=>(nomatch h)) fun _ _ h=>(nomatch h)⟩)
  obtain ⟨j,_,h3,_⟩:=atI_get h1
  have hm:c∈z.cps:=Array.mem_toList_iff.mp (List.mem_of_getElem? h3)
  have ho:z.cps.all (·<0x110000)=true:=e2
  have:=(Array.all_eq_true_iff_forall_mem.mp ho) c hm
  unfold PyData.strOk
  simpa using this
theorem eok_ix {ta tb:TE}{fa fb:FE}(ha:EOk K C E Γ Δ m1 S1 ta fa)(hb:EOk K C E Γ Δ m2 S2 tb fb):EOk K C E Γ Δ 0 S1 (tOp (rIx K) ta tb) (Dl.f2 Dl.gIx fa fb) :=
  fun H0 Hb H σ ρ A Q I p=>ha H0 Hb H σ ρ A _ I (p.bind.imp (fun x q vx H1 g1 r1=>hb H0 Hb H1 σ ρ A _ (I.mono g1) (q.bind.imp (fun y q vy H2 g2 r2=>by
    obtain ⟨d,e,q⟩:=oR_ok q
    obtain ⟨Bx,r1,r1',_⟩:=r1
    obtain ⟨By,r2,_⟩:=r2
    exact gIx_ok (r1.same g2) r2 e fun v B r3 h _=>q v H2 (g1.trans g2) ⟨B,r3,fun a ha=>r1' a (h a ha),(fun z=>nomatch z),(fun z=>nomatch z)⟩) fun c x q H' g'=>q H' (g1.trans g'))) fun c x q H' g'=>q H' g')
noncomputable def gIxL (x y:D):Option D:=match x with
 | .lst _=>Dl.gIx x y
 | _=>none
end
end L2
namespace L2
open PySem PySem.Spec PyProof.Rows
open Dl (D R FE FT FA FO FS FI FB Fl)
section
variable {K:PySem.W.Frag}{C:String→Addr}{E:XK}{Γ Δ:List Nat}{m m1 m2 m3 mr:Nat}{S S1 S2 S3:List (Nat×Bool)}{H:Hp}{Q:VK}
theorem sameNew {H:Hp}{p:Addr}(h:H p=none)(o:HO):Same H (upd H p o):=fun b u q=>by rw [Zap (Zbu q h)];exact q
noncomputable abbrev Out (K:PySem.W.Frag)(C:String→Addr)(H:Hp)(d:D)(Q:VK):Prop:=∀v H' B,Same H H'→Rp K C H' d v B→B.Nodup→(∀a∈B,H a=none)→Q v H'
theorem Out.flat {d:D}{v:V}(q:Out K C H d Q)(r:Rp K C H d v []):Q v H:=q v H [] (Same.refl _) r List.nodup_nil (fun _ h=>nomatch h)
theorem Out.lst {ds:List D}{vs:List V}{p:Addr}(q:Out K C H (.lst ds) Q)(r:RpA K C H ds vs [])(hp:H p=none):Q (.ref p) (upd H p (.lst vs)) :=
 q _ _ [p] (sameNew hp _) ⟨p,vs,[],rfl,Zay,r.same (sameNew hp _),rfl⟩ (by simp) (fun a ha=>by rw [List.mem_singleton.mp ha];exact hp)
theorem limLine {n:Nat}(h:n≤Dl.lim):n≤sizeLine:=Nat.le_trans h (by decide)
theorem limLine' {n:Nat}(h:n<Dl.lim):n<sizeLine:=Nat.lt_of_lt_of_le h (by decide)
theorem strOk_cat {x y:Str}(h1:PyData.strOk x=true)(h2:PyData.strOk y=true):PyData.strOk (x++y)=true:=by
 unfold PyData.strOk at *
 show (x.cps++y.cps).all _=true
 rw [Array.all_append,h1,h2]
 rfl
theorem RpA.nil:RpA K C H [] [] []:=⟨rfl,rfl⟩
theorem RpA.flat' {ds:List D}{vs:List V}{A:List Addr}(h:Dl.flatA ds=true)(r:RpA K C H ds vs A):RpA K C H ds vs []:=by
 have e:=RpA.flat h r
 subst e
 exact r
theorem RpA.rep {ds:List D}{vs:List V}(r:RpA K C H ds vs []):∀n,RpA K C H (List.replicate n ds).flatten (List.replicate n vs).flatten []
 | 0=>RpA.nil
 | n+1=>by
  rw [List.replicate_succ,List.replicate_succ,List.flatten_cons,List.flatten_cons]
  exact r.app (RpA.rep r n)
theorem Zar:GOk K C rAddA Dl.gAdd:=by
 intro H x y d vx vy Bx By Q rx ry e q
 unfold Dl.gAdd at e
 split at e
 ·cases e
  obtain ⟨rfl,_⟩:=rx
  obtain ⟨rfl,_⟩:=ry
  exact rd_add (Out.flat q ⟨rfl,rfl⟩)
 ·split at e
  ·rename_i hz
   cases e
   obtain ⟨rfl,h1,_⟩:=rx
   obtain ⟨rfl,h2,_⟩:=ry
   exact .inr (.inl ⟨_,_,rfl,rfl,limLine hz,Out.flat q ⟨rfl,strOk_cat h1 h2,rfl⟩⟩)
  ·cases e
 ·split at e
  ·rename_i hz
   cases e
   obtain ⟨a,xs,B,rfl,e2,e3,_⟩:=rx
   obtain ⟨a',xs',B',rfl,e2',e3',_⟩:=ry
   obtain ⟨hz,f1,f2⟩:=hz
   refine rd_cat e2 e2' (by rw [e3.len,e3'.len];exact limLine hz) fun p hp=>?_
   exact Out.lst q ((e3.flat' f1).app (e3'.flat' f2)) hp
  ·cases e
 ·cases e
theorem Zgg {g:Int→Int→D}{gv:Int→Int→V}{f:D→D→Option D}(hf:∀x y d,f x y=some d→∃i j,x=.int i∧y=.int j∧d=g i j)(hr:∀H i j,Rp K C H (g i j) (gv i j) []):GOk K C (rI0 gv) f:=by
 intro H x y d vx vy Bx By Q rx ry e q
 obtain ⟨i,j,rfl,rfl,rfl⟩:=hf x y d e
 obtain ⟨rfl,_⟩:=rx
 obtain ⟨rfl,_⟩:=ry
 exact rd_I0 (Out.flat q (hr H i j))
theorem gok_I {Cd:Int→Int→Prop}{g:Int→Int→D}{gv:Int→Int→V}{f:D→D→Option D}(hf:∀x y d,f x y=some d→∃i j,x=.int i∧y=.int j∧d=g i j∧Cd i j)(hr:∀H i j,Rp K C H (g i j) (gv i j) []):GOk K C (rI Cd gv) f:=by
 intro H x y d vx vy Bx By Q rx ry e q
 obtain ⟨i,j,rfl,rfl,rfl,hc⟩:=hf x y d e
 obtain ⟨rfl,_⟩:=rx
 obtain ⟨rfl,_⟩:=ry
 exact rd_I hc (Out.flat q (hr H i j))
theorem rpI {i:Int}:Rp K C H (.int i) (.int i) []:=⟨rfl,rfl⟩
theorem rpB {i:Bool}:Rp K C H (.bl i) (.bl i) []:=⟨rfl,rfl⟩
theorem Zcv:GOk K C (rI0 fun i j=>.int (i - j)) Dl.gSub:=Zgg (fun x y d e=>by unfold Dl.gSub at e;split at e<;>cases e;exact ⟨_,_,rfl,rfl,rfl⟩) fun _ _ _=>rpI
theorem Zfu:GOk K C (rI0 fun i j=>.bl (decide (i<j))) Dl.gLt:=Zgg (fun x y d e=>by unfold Dl.gLt at e;split at e<;>cases e;exact ⟨_,_,rfl,rfl,rfl⟩) fun _ _ _=>rpB
theorem Zhl:GOk K C (rI0 fun i j=>.bl (decide (i≤j))) Dl.gLe:=Zgg (fun x y d e=>by unfold Dl.gLe at e;split at e<;>cases e;exact ⟨_,_,rfl,rfl,rfl⟩) fun _ _ _=>rpB
theorem Zgh:GOk K C (rI0 fun i j=>.bl (decide (j<i))) Dl.gGt:=Zgg (fun x y d e=>by unfold Dl.gGt at e;split at e<;>cases e;exact ⟨_,_,rfl,rfl,rfl⟩) fun _ _ _=>rpB
theorem gok_ge:GOk K C (rI0 fun i j=>.bl (decide (j≤i))) Dl.gGe:=Zgg (fun x y d e=>by unfold Dl.gGe at e;split at e<;>cases e;exact ⟨_,_,rfl,rfl,rfl⟩) fun _ _ _=>rpB
theorem Zca:GOk K C (rI (fun _ j=>0<j) fun i j=>.int (i % j)) Dl.gMod:=gok_I (fun x y d e=>by
  unfold Dl.gMod at e
  split at e
  · split at e
    · rename_i h;cases e;exact ⟨_,_,rfl,rfl,rfl,h⟩
    · cases e
  · cases e) fun _ _ _=>rpI
theorem gok_div:GOk K C (rI CDivL fun i j=>.int (i / j)) Dl.gDiv:=gok_I (fun x y d e=>by
  unfold Dl.gDiv at e
  split at e
  · split at e
    · rename_i h;cases e;exact ⟨_,_,rfl,rfl,rfl,h⟩
    · cases e
  · cases e) fun _ _ _=>rpI
theorem Zdk:GOk K C (rI CPow fun i j=>.int (i ^ j.toNat)) Dl.gPow:=gok_I (fun x y d e=>by
  unfold Dl.gPow at e
  split at e
  · split at e
    · rename_i h;cases e;exact ⟨_,_,rfl,rfl,rfl,h⟩
    · cases e
  · cases e) fun _ _ _=>rpI
theorem short_mul {i j:Int}(h:(Dl.short i||Dl.short j)=true):CMul i j:=by
 unfold Dl.short at h
 simp only [Bool.or_eq_true,Bool.and_eq_true,decide_eq_true_eq] at h
 exact h
theorem Zbn:GOk K C rMulA Dl.gMul:=by
 intro H x y d vx vy Bx By Q rx ry e q
 unfold Dl.gMul at e
 split at e
 ·split at e
  ·rename_i h
   cases e
   obtain ⟨rfl,_⟩:=rx
   obtain ⟨rfl,_⟩:=ry
   exact rd_mul (short_mul h) (Out.flat q rpI)
  ·cases e
 ·split at e
  ·rename_i h
   cases e
   obtain ⟨a,xs,B,rfl,e2,e3,_⟩:=rx
   obtain ⟨rfl,_⟩:=ry
   obtain ⟨h1,h2,h3,h4⟩:=h
   refine rd_rep e2 (by omega) (by omega) (by rw [e3.len];exact limLine h2) fun p hp=>?_
   exact Out.lst q ((e3.flat' h4).rep _) hp
  ·cases e
 ·cases e
theorem shaped_of {d:D}{v:V}{A:List Addr}(h:Dl.dep d≤20)(r:Rp K C H d v A):Dn K H v (toPy d)∧SeqAt.shaped (toPy d)=true:=by
 obtain ⟨q1,q2,q3⟩:=r.dn h (by decide)
 refine ⟨q1,?_⟩
 unfold SeqAt.shaped
 rw [q2,q3]
 simp only [Bool.true_and,decide_eq_true_eq]
 omega
theorem Zev:GOk K C (rEqA K) Dl.gEq:=by
 intro H x y d vx vy Bx By Q rx ry e q
 unfold Dl.gEq at e
 split at e
 ·rename_i h
  cases e
  obtain ⟨a1,a2⟩:=shaped_of h.1 rx
  obtain ⟨b1,b2⟩:=shaped_of h.2 ry
  refine .inr ⟨_,_,a1,b1,a2,b2,?_⟩
  rw [eqv_py (by omega) (by omega)]
  exact Out.flat q rpB
 ·cases e
theorem gok_ne:GOk K C (rNeA K) Dl.gNe:=by
 intro H x y d vx vy Bx By Q rx ry e q
 unfold Dl.gNe at e
 split at e
 ·rename_i h
  cases e
  obtain ⟨a1,a2⟩:=shaped_of h.1 rx
  obtain ⟨b1,b2⟩:=shaped_of h.2 ry
  refine .inr ⟨_,_,a1,b1,a2,b2,?_⟩
  rw [eqv_py (by omega) (by omega)]
  exact Out.flat q rpB
 ·cases e
theorem aok_nil:AOk K C E Γ Δ 2 [] tNil Dl.aNil:=fun _ _ H _ _ _ _ _ p=>p [] H (Same.refl _) ⟨[],RpA.nil,(fun _ h=>nomatch h),fun _=>List.nodup_nil⟩
theorem InS.left {A:Nat→List Addr}{a:Addr}(h:InS A S1 a):InS A (S1++S2) a:=h.mono fun _ hp=>List.mem_append_left _ hp
theorem InS.right {A:Nat→List Addr}{a:Addr}(h:InS A S2 a):InS A (S1++S2) a:=h.mono fun _ hp=>List.mem_append_right _ hp
theorem aok_cons {te:TE}{t:TA}{fe:FE}{f:FA}(he:EOk K C E Γ Δ m1 S1 te fe)(ha:AOk K C E Γ Δ m2 S2 t f):AOk K C E Γ Δ 0 (S1++S2) (tCons te t) (Dl.aCons fe f) :=
  fun H0 Hb H σ ρ A Q I p=>he H0 Hb H σ ρ A _ I (p.bind.imp (fun x q vx H1 g1 r1=>ha H0 Hb H1 σ ρ A _ (I.mono g1) (q.bind.imp (fun ys q vs H2 g2 r2=>by
    obtain ⟨Bx,r1,r1',_⟩:=r1
    obtain ⟨By,r2,r2',_⟩:=r2
    exact q _ H2 (g1.trans g2) ⟨Bx++By,⟨vx,vs,Bx,By,rfl,r1.same g2,r2,rfl⟩,fun a h=>(List.mem_append.mp h).elim (fun h=>(r1' a h).imp id InS.left) (fun h=>(r2' a h).imp (fun h=>g1.free h) InS.right),(fun z=>nomatch z)⟩)
    fun c x q H' g'=>q H' (g1.trans g'))) fun c x q H' g'=>q H' g')
theorem aok_consD {te:TE}{t:TA}{fe:FE}{f:FA}(he:EOk K C E Γ Δ 2 S1 te fe)(ha:AOk K C E Γ Δ 2 S2 t f)(h1:autoParam (∀p∈S1,p.1∈Δ) aT1._auto_1)(h2:autoParam (∀p∈S1,∀q∈S2,p.1≠q.1) aT1._auto_1):AOk K C E Γ Δ 2 (S1++S2) (tCons te t) (Dl.aCons fe f) :=
  fun H0 Hb H σ ρ A Q I p=>he H0 Hb H σ ρ A _ I (p.bind.imp (fun x q vx H1 g1 r1=>ha H0 Hb H1 σ ρ A _ (I.mono g1) (q.bind.imp (fun ys q vs H2 g2 r2=>by
    obtain ⟨Bx,r1,r1',_,n1⟩:=r1
    obtain ⟨By,r2,r2',n2⟩:=r2
    refine q _ H2 (g1.trans g2) ⟨Bx++By,⟨vx,vs,Bx,By,rfl,r1.same g2,r2,rfl⟩,fun a h=>(List.mem_append.mp h).elim (fun h=>(r1' a h).imp id InS.left) (fun h=>(r2' a h).imp (fun h=>g1.free h) InS.right),fun _=>?_⟩
    refine List.nodup_append.mpr ⟨n1 rfl,n2 rfl,fun a ha b hb e=>?_⟩
    subst e
    rcases r2' a hb with z | z
    · obtain ⟨xs,w,_⟩:=r1.isl a ha
      rw [w] at z
      cases z
    · obtain ⟨p2,hp2,z⟩:=z.mem
      rcases r1' a ha with w | w
      · exact I.ne z w
      · obtain ⟨p1,hp1,w⟩:=w.mem
        exact (I.deep p1.1 (h1 p1 hp1)).2.1 p2.1 (fun e=>h2 p1 hp1 p2 hp2 e.symm) a w z)
    fun c x q H' g'=>q H' (g1.trans g'))) fun c x q H' g'=>q H' g')
theorem eok_lst {t:TA}{f:FA}(ha:AOk K C E Γ Δ 2 S t f):EOk K C E Γ Δ 2 S (tLst t) (Dl.fA Dl.gLst f) :=
  fun H0 Hb H σ ρ A Q I p=>ha H0 Hb H σ ρ A _ I (p.bind.imp (fun ds q vs H1 g1 r1=>by
    obtain ⟨d,e,q⟩:=oR_ok q
    unfold Dl.gLst at e
    split at e
    · rename_i hz
      cases e
      obtain ⟨B,r1,r1',n1⟩:=r1
      refine ⟨by rw [r1.len];exact limLine hz,fun p hp=>?_⟩
      have g2:=sameNew hp (.lst vs)
      refine q _ _ (g1.trans g2) ⟨p::B,⟨p,vs,B,rfl,Zay,r1.same g2,rfl⟩,fun a ha=>?_,(fun z=>nomatch z),fun _=>List.nodup_cons.mpr ⟨fun h=>?_,n1 rfl⟩⟩
      · rcases List.mem_cons.mp ha with z | z
        · rw [z];exact .inl (g1.free hp)
        · exact r1' a z
      · obtain ⟨xs,w,_⟩:=r1.isl p h
        rw [w] at hp
        cases hp
    · cases e) fun c x q H' g'=>q H' g')
theorem eok_lst1 {t:TA}{f:FA}(ha:AOk K C E Γ Δ m S t f):EOk K C E Γ Δ 1 S (tLst t) (Dl.fA Dl.gLst f) :=
  fun H0 Hb H σ ρ A Q I p=>ha H0 Hb H σ ρ A _ I (p.bind.imp (fun ds q vs H1 g1 r1=>by
    obtain ⟨d,e,q⟩:=oR_ok q
    unfold Dl.gLst at e
    split at e
    · rename_i hz
      cases e
      obtain ⟨B,r1,r1',n1⟩:=r1
      refine ⟨by rw [r1.len];exact limLine hz,fun p hp=>?_⟩
      have g2:=sameNew hp (.lst vs)
      refine q _ _ (g1.trans g2) ⟨p::B,⟨p,vs,B,rfl,Zay,r1.same g2,rfl⟩,fun a ha=>?_,fun _ a r e=>?_,(fun z=>nomatch z)⟩
      · rcases List.mem_cons.mp ha with z | z
        · rw [z];exact .inl (g1.free hp)
        · exact r1' a z
      · cases e
        refine ⟨g1.free hp,fun h=>?_⟩
        obtain ⟨xs,w,_⟩:=r1.isl p h
        rw [w] at hp
        cases hp
    · cases e) fun c x q H' g'=>q H' g')
theorem eok_tup (hm:m=0∨m=2){t:TA}{f:FA}(ha:AOk K C E Γ Δ m S t f):EOk K C E Γ Δ m S (tTup t) (Dl.fA Dl.gTup f) :=
  fun H0 Hb H σ ρ A Q I p=>ha H0 Hb H σ ρ A _ I (p.bind.imp (fun ds q vs H1 g1 r1=>by
    obtain ⟨d,e,q⟩:=oR_ok q
    unfold Dl.gTup at e
    split at e
    · rename_i hz
      cases e
      obtain ⟨B,r1,r1',n1⟩:=r1
      refine ⟨by rw [r1.len];exact limLine hz,fun p hp=>?_⟩
      have g2:=sameNew hp (.tup vs)
      exact q _ _ (g1.trans g2) ⟨B,⟨p,vs,rfl,Zay,r1.same g2⟩,r1',(fun z=>by omega),n1⟩
    · cases e) fun c x q H' g'=>q H' g')
theorem eok_cb {r:List V→Hp→VK→Prop}{g:List D→Option D}{t:TA}{f:FA}(hg:GAk K C r g)(ha:AOk K C E Γ Δ m S t f):EOk K C E Γ Δ 2 [] (tCB r t) (Dl.fA g f) :=
  fun H0 Hb H σ ρ A Q I p=>ha H0 Hb H σ ρ A _ I (p.bind.imp (fun ds q vs H1 g1 r1=>by
    obtain ⟨d,e,q⟩:=oR_ok q
    obtain ⟨B,r1,_⟩:=r1
    exact hg H1 ds d vs B Q r1 e fun v H' B' g2 r2 h1 h2=>q v H' (g1.trans g2) (Res.new r2 h1 fun a ha=>g1.free (h2 a ha))) fun c x q H' g'=>q H' g')
theorem RpA.one' {d:D}{vs:List V}{A:List Addr}(r:RpA K C H [d] vs A):∃v,vs=[v]∧Rp K C H d v A:=by
 obtain ⟨x,l,B,B',e1,e2,e3,e4⟩:=r
 obtain ⟨e5,e6⟩:=e3
 subst e1 e4 e5 e6
 rw [List.append_nil]
 exact ⟨x,rfl,e2⟩
theorem RpA.two' {d e:D}{vs:List V}{A:List Addr}(r:RpA K C H [d,e] vs A):∃v w B B',vs=[v,w]∧Rp K C H d v B∧Rp K C H e w B':=by
 obtain ⟨x,l,B,B',e1,e2,e3,e4⟩:=r
 obtain ⟨w,e5,e6⟩:=e3.one'
 subst e1 e5
 exact ⟨x,w,B,B',rfl,e2,e6⟩
theorem Zch:GAk K C (rLenA K) Dl.gLen:=by
 intro H xs d vs B Q r e q
 obtain ⟨x,rfl⟩:=one_at (F:=Dl.gLen) rfl (fun x _ _=>by cases x<;>rfl) e
 obtain ⟨v,rfl,r1⟩:=r.one'
 cases x with
 | lst xs =>
  cases (show some (D.int xs.length)=some d from e)
  obtain ⟨a,ys,B,rfl,e2,e3,_⟩:=r1
  refine rd_lenL (SqL.of e2) ?_
  rw [e3.len]
  exact Out.flat q rpI
 | tup xs =>
  cases (show some (D.int xs.length)=some d from e)
  obtain ⟨a,ys,rfl,e2,e3⟩:=r1
  refine rd_lenT (SqT.of e2) ?_
  rw [e3.len]
  exact Out.flat q rpI
 | scr xs =>
  cases (show some (D.int xs.length)=some d from e)
  obtain ⟨a,rfl,e2,_⟩:=r1
  refine rd_lenL e2.sq ?_
  rw [List.length_map]
  exact Out.flat q rpI
 | str z =>
  have e:(if z.length≤Dl.lim then some (D.int z.length) else none)=some d:=e
  by_cases hz:z.length≤Dl.lim
  ·rw [if_pos hz] at e
   cases e
   obtain ⟨rfl,_⟩:=r1
   exact rd_lenS (limLine hz) (Out.flat q rpI)
  ·rw [if_neg hz] at e
   exact Zbz e
 | _=>exact Zbz e
theorem gak_sum:GAk K C (rSum K) Dl.gSum:=by
 intro H xs d vs B Q r e q
 obtain ⟨x,rfl⟩:=one_at (F:=Dl.gSum) rfl (fun x _ _=>by cases x<;>rfl) e
 obtain ⟨v,rfl,r1⟩:=r.one'
 cases x with
 | lst xs =>
  obtain ⟨ns,h1,h2⟩:=Option.bind_eq_some_iff.mp e
  cases h2
  obtain ⟨a,ys,B,rfl,e2,e3,_⟩:=r1
  have h:=e3.ofInts h1
  subst h
  exact rd_sum (SqL.of e2) (Out.flat q rpI)
 | _=>exact Zbz e
theorem foldl_max (x:Int):∀(r:List Int),(r.foldl max x=x∨r.foldl max x∈r)∧x≤r.foldl max x∧∀y∈r,y≤r.foldl max x:=by
 intro r
 induction r generalizing x with
 | nil=>simp
 | cons y r ih =>
  obtain ⟨h1,h2,h3⟩:=ih (max x y)
  rw [List.foldl_cons]
  refine ⟨?_,by omega,fun z hz=>?_⟩
  ·rcases h1 with h | h
   ·rw [h]
    by_cases hxy:x≤y
    ·right;rw [Int.max_eq_right hxy];exact .head _
    ·left;omega
   ·right;exact .tail _ h
  ·rcases List.mem_cons.mp hz with e | e
   ·omega
   ·exact h3 z e
theorem maxL_spec {ns:List Int}(h:ns≠[]):Dl.maxL ns∈ns∧∀n∈ns,n≤Dl.maxL ns:=by
 cases ns with
 | nil=>exact absurd rfl h
 | cons x r =>
  obtain ⟨h1,h2,h3⟩:=foldl_max x r
  show r.foldl max x∈x::r∧∀n∈x::r,n≤r.foldl max x
  refine ⟨?_,fun n hn=>?_⟩
  ·rcases h1 with e | e
   ·rw [e];exact .head _
   ·exact .tail _ e
  ·rcases List.mem_cons.mp hn with e | e
   ·omega
   ·exact h3 n e
theorem gak_max:GAk K C (rMaxA K) Dl.gMax:=by
 intro H xs d vs B Q r e q
 unfold Dl.gMax at e
 split at e
 ·cases e
  obtain ⟨v,w,B,B',rfl,r1,r2⟩:=r.two'
  obtain ⟨rfl,_⟩:=r1
  obtain ⟨rfl,_⟩:=r2
  exact rd_max2 (Out.flat q rpI)
 ·obtain ⟨ns,h1,h2⟩:=Option.bind_eq_some_iff.mp e
  split at h2
  ·cases h2
  ·rename_i hne
   cases h2
   obtain ⟨v,rfl,r1⟩:=r.one'
   obtain ⟨a,ys,B,rfl,e2,e3,_⟩:=r1
   have h:=e3.ofInts h1
   subst h
   obtain ⟨s1,s2⟩:=maxL_spec hne
   refine rd_maxL (SqL.of e2) hne fun mm h1 h2=>?_
   have e:mm=Dl.maxL ns:=Int.le_antisymm (s2 mm h1) (h2 _ s1)
   rw [e]
   exact Out.flat q rpI
 ·cases e
noncomputable def rMin2:List V→Hp→VK→Prop:=fun xs H Q=>∃i j,xs=[.int i,.int j]∧Q (.int (if j<i then j else i)) H
theorem Zfm {X:Cx}(hc:X.calm=true):CallR X (.builtin "min") rMin2:=call_min2 hc
theorem Zgs:GAk K C rMin2 Dl.gMin:=by
 intro H xs d vs B Q r e q
 unfold Dl.gMin at e
 split at e
 ·cases e
  obtain ⟨v,w,B,B',rfl,r1,r2⟩:=r.two'
  obtain ⟨rfl,_⟩:=r1
  obtain ⟨rfl,_⟩:=r2
  exact ⟨_,_,rfl,Out.flat q rpI⟩
 ·cases e
theorem RpA.rng {lo:Int}{n:Nat}:RpA K C H (Dl.rngL lo n) (rngV lo n) []:=by
 unfold Dl.rngL rngV
 generalize List.range n=l
 induction l with
 | nil=>exact RpA.nil
 | cons k l ih=>exact ⟨_,_,[],[],rfl,rpI,ih,rfl⟩
theorem Zfb:GAk K C (rList K) Dl.gList:=by
 intro H xs d vs B Q r e q
 obtain ⟨x,rfl⟩:=one_at (F:=Dl.gList) rfl (fun x _ _=>by cases x<;>rfl) e
 obtain ⟨v,rfl,r1⟩:=r.one'
 cases x with
 | lst xs =>
  have e:(if Dl.flatA xs then some (D.lst xs) else none)=some d:=e
  split at e
  ·rename_i hf
   cases e
   obtain ⟨a,ys,B,rfl,e2,e3,_⟩:=r1
   exact rd_listL (SqL.of e2) fun l hl=>Out.lst q (e3.flat' hf) hl
  ·exact Zbz e
 | tup xs =>
  have e:(if Dl.flatA xs then some (D.lst xs) else none)=some d:=e
  split at e
  ·rename_i hf
   cases e
   obtain ⟨a,ys,rfl,e2,e3⟩:=r1
   exact .inl ⟨a,ys,rfl,.inr (SqT.of e2),fun l hl=>Out.lst q (e3.flat' hf) hl⟩
  ·exact Zbz e
 | rng i j =>
  have e:(if -1000000000≤i∧i≤1000000000∧-1000000000≤j∧j≤1000000000∧(j - i).toNat≤Dl.lim then some (D.lst (Dl.rngL i (j - i).toNat)) else none)=some d:=e
  split at e
  ·rename_i hf
   cases e
   obtain ⟨a,rfl,e2,_⟩:=r1
   obtain ⟨h1,h2,h3,h4,h5⟩:=hf
   exact rd_listR e2 (by omega) (by omega) (by omega) (by omega) h5 fun l hl=>Out.lst q RpA.rng hl
  ·exact Zbz e
 | _=>exact Zbz e
theorem ook_none:OOk K C E Γ Δ tNoPart Dl.oNone:=fun _ _ H _ _ _ _ _ p=>p H (Same.refl _)
theorem ook_some {t:TE}{f:FE}(h:EOk K C E Γ Δ m S t f):OOk K C E Γ Δ (tPart t) (Dl.oSome f):=fun H0 Hb H σ ρ A Q I p=>h H0 Hb H σ ρ A _ I (p.bind.imp (fun d q v H' g r=>by
  obtain ⟨B,r,_⟩:=r
  cases d with
  | int i =>
    obtain ⟨rfl,_⟩:=r
    exact ⟨i,rfl,q H' g⟩
  | _=>exact q.elim) fun c x q H' g'=>q H' g')
theorem six_eq (n d:Nat)(o:Option Int):Dl.sixD n d o=HT.sIx n d o:=by
 cases o with
 | none=>rfl
 | some v =>
  have h:=HT.clip_eq v n d
  show (if v<0 then (max (v+(n:Int)) 0).toNat else min v.toNat n)=_
  by_cases hv:v<0
  ·rw [if_pos hv] at h ⊢
   omega
  ·rw [if_neg hv] at h ⊢
   omega
theorem RpA.cut {ds:List D}{vs:List V}{A:List Addr}(h:Dl.flatA ds=true)(r:RpA K C H ds vs A)(lo hi:Option Int):RpA K C H (Dl.cut ds lo hi) (cutV vs lo hi) []:=by
 unfold Dl.cut cutV
 rw [six_eq,six_eq,r.len]
 exact (r.flatDrop h _).flatTake (flatA_drop h _) _
theorem cut_ints (ns:List Int)(lo hi:Option Int):cutV (ns.map V.int) lo hi=(Dl.cut ns lo hi).map V.int:=by
 unfold Dl.cut cutV
 rw [six_eq,six_eq,List.length_map,List.map_take,List.map_drop]
theorem eok_sl {ta:TE}{tl th:TO}{fa:FE}{fl fh:FO}(ha:EOk K C E Γ Δ m S ta fa)(hl:OOk K C E Γ Δ tl fl)(hh:OOk K C E Γ Δ th fh):EOk K C E Γ Δ 2 [] (tSl (rSlL K) ta tl th) (Dl.fSl Dl.gSl fa fl fh) :=
  fun H0 Hb H σ ρ A Q I p=>ha H0 Hb H σ ρ A _ I (p.bind.imp (fun x q vx H1 g1 r1=>hl H0 Hb H1 σ ρ A _ (I.mono g1) (q.bind.imp (fun lo q H2 g2=>hh H0 Hb H2 σ ρ A _ (I.mono (g1.trans g2)) (q.bind.imp (fun hi q H3 g3=>by
    obtain ⟨d,e,q⟩:=oR_ok q
    obtain ⟨B,r1,_⟩:=r1
    have r1:=r1.same (g2.trans g3)
    have g13:=g1.trans (g2.trans g3)
    have out:Out K C H3 d Q:=fun v H' B g4 r h1 h2=>q v H' (g13.trans g4) (Res.new r h1 fun a ha=>g13.free (h2 a ha))
    unfold Dl.gSl at e
    split at e
    · split at e
      · rename_i hf
        cases e
        obtain ⟨a,ys,B,rfl,e2,e3,_⟩:=r1
        exact rd_slL (SqL.of e2) fun p hp=>Out.lst out (e3.cut hf _ _) hp
      · cases e
    · cases e
      obtain ⟨a,rfl,e2,_⟩:=r1
      refine rd_slL e2.sq fun p hp=>?_
      rw [cut_ints]
      exact Out.lst out RpA.ints hp
    · cases e) fun c x q H' g'=>q H' ((g1.trans g2).trans g'))) fun c x q H' g'=>q H' (g1.trans g'))) fun c x q H' g'=>q H' g')
end
end L2
namespace L2
open PySem PySem.Spec PyProof.Rows
open Dl (D R FE FT FA FO FS FI FB Fl)
section
variable {K:PySem.W.Frag}{C:String→Addr}{E:XK}{Γ Δ Γ' Δ' Γ1 Δ1 Γl Δl:List Nat}{m m1 m2 m3 mr:Nat}{S S1 S2 S3:List (Nat×Bool)}{H:Hp}{Q:VK}
theorem tok_of {t:TE}{f:FE}(h:EOk K C E Γ Δ m S t f):∀(H0 Hb H:Hp) (σ:St) (ρ:DEnv) (A:Nat→List Addr) (Q:Bool→Hp→Prop),EnvOk K C H0 Hb H Γ Δ σ ρ A→
    Post (Dl.cE f ρ) (fun b=>∀H',Same H H'→Q b H') (fun c x=>∀H',Same H H'→EC C E c x H')→t σ H fun x H'=>∃k,x=.bl k∧Q k H':=fun H0 Hb H σ ρ A Q I p=>h H0 Hb H σ ρ A _ I (p.bind.imp (fun d q v H' g r=>by
  obtain ⟨B,r,_⟩:=r
  cases d with
  | bl b =>
    obtain ⟨rfl,_⟩:=r
    exact ⟨b,rfl,q H' g⟩
  | _=>exact q.elim) fun c x q H' g'=>q H' g')
theorem tok_test {t:TE}{f:FE}(h:EOk K C E Γ Δ m S t f):TOk K C E Γ Δ (tTest t) (Dl.cE f):=tok_of h
theorem tok_B {t:TE}{f:FE}(h:EOk K C E Γ Δ m S t f):TOk K C E Γ Δ (tB t) (Dl.cE f):=tok_of h
theorem tok_not {t:TT}{f:FT}(h:TOk K C E Γ Δ t f):TOk K C E Γ Δ (tNot t) (Dl.cNot f):=fun H0 Hb H σ ρ A Q I p=>h H0 Hb H σ ρ A _ I (p.bind.imp (fun b q H' g=>q H' g) fun c x q H' g'=>q H' g')
theorem tok_and {t u:TT}{f g:FT}(h:TOk K C E Γ Δ t f)(h':TOk K C E Γ Δ u g):TOk K C E Γ Δ (tAnd t u) (Dl.cAnd f g):=fun H0 Hb H σ ρ A Q I p=>h H0 Hb H σ ρ A _ I (p.bind.imp (fun b q H' g'=>by
  cases b with
  | true=>exact h' H0 Hb H' σ ρ A Q (I.mono g') (Post.imp q (fun b q H2 g2=>q H2 (g'.trans g2)) fun c x q H2 g2=>q H2 (g'.trans g2))
  | false=>exact q H' g') fun c x q H' g'=>q H' g')
theorem tok_or {t u:TT}{f g:FT}(h:TOk K C E Γ Δ t f)(h':TOk K C E Γ Δ u g):TOk K C E Γ Δ (tOr t u) (Dl.cOr f g):=fun H0 Hb H σ ρ A Q I p=>h H0 Hb H σ ρ A _ I (p.bind.imp (fun b q H' g'=>by
  cases b with
  | false=>exact h' H0 Hb H' σ ρ A Q (I.mono g') (Post.imp q (fun b q H2 g2=>q H2 (g'.trans g2)) fun c x q H2 g2=>q H2 (g'.trans g2))
  | true=>exact q H' g') fun c x q H' g'=>q H' g')
theorem tok_yes:TOk K C E Γ Δ tYes Dl.cYes:=fun _ _ H _ _ _ _ _ p=>p H (Same.refl _)
theorem EOk.run {t:TE}{f:FE}(h:EOk K C E Γ Δ m S t f){H0 Hb H H1:Hp}{σ:St}{ρ:DEnv}{A:Nat→List Addr}{Q:VK}(I:EnvOk K C H0 Hb H Γ Δ σ ρ A)(g:Same H H1)
  (p:Post (f ρ) (fun d=>∀v H',Same H H'→Res K C m S H A d v H'→Q v H') (fun c x=>∀H',Same H H'→EC C E c x H')):t σ H1 Q :=
 h H0 Hb H1 σ ρ A Q (I.mono g) (p.imp (fun d q v H2 g2 r=>q v H2 (g.trans g2) (r.later g (Same.refl _))) fun c x q H2 g2=>q H2 (g.trans g2))
theorem eok_and {ta tb:TE}{fa fb:FE}(ha:EOk K C E Γ Δ m1 S1 ta fa)(hb:EOk K C E Γ Δ m S tb fb):EOk K C E Γ Δ m S (tAndV ta tb) (Dl.fAnd fa fb):=fun H0 Hb H σ ρ A Q I p=>ha H0 Hb H σ ρ A _ I (p.bind.imp (fun d q v H' g r=>by
  obtain ⟨B,r,_⟩:=r
  cases d with
  | bl b =>
    obtain ⟨rfl,_⟩:=r
    refine ⟨b,rfl,?_⟩
    cases b with
    | true=>exact hb.run I g q
    | false=>exact q _ H' g (Res.flat rpB)
  | _=>exact q.elim) fun c x q H' g'=>q H' g')
theorem eok_not {ta:TE}{fa:FE}(ha:EOk K C E Γ Δ m1 S1 ta fa):EOk K C E Γ Δ 2 [] (tNotV ta) (Dl.f1 Dl.gNot fa):=fun H0 Hb H σ ρ A Q I p=>ha H0 Hb H σ ρ A _ I (p.bind.imp (fun d q v H' g r=>by
  obtain ⟨B,r,_⟩:=r
  cases d with
  | bl b =>
    obtain ⟨rfl,_⟩:=r
    exact ⟨b,rfl,q _ H' g (Res.flat rpB)⟩
  | _=>exact q.elim) fun c x q H' g'=>q H' g')
noncomputable def spD (K:PySem.W.Frag)(C:String→Addr)(n mr:Nat)(F:List D→R D):Sp:=fun vs H Q E=>∃ds B,ds.length=n∧RpA K C H ds vs B∧
 Post (F ds) (fun d=>∀v H',Same H H'→Res K C mr [] H (fun _=>[]) d v H'→Q v H') (fun c x=>∀H',Same H H'→EC C E c x H')
theorem InS.none {A:Nat→List Addr}{a:Addr}(h:InS A [] a):False:=by
 obtain ⟨p,hp,_⟩:=h
 cases hp
theorem Res.reA {H H':Hp}{A A':Nat→List Addr}{d:D}{v:V}(r:Res K C m [] H A d v H'):Res K C m S H A' d v H':=by
 obtain ⟨B,r1,r2,r3,r4⟩:=r
 exact ⟨B,r1,fun a ha=>(r2 a ha).imp id fun h=>h.none.elim,r3,r4⟩
theorem Zhd {n:Nat}{F:List D→R D}{t:TA}{f:FA}(ha:AOk K C E Γ Δ m S t f)(hn:∀ρ ds,f ρ=.ok ds→ds.length=n):EOk K C E Γ Δ mr [] (tCall (spD K C n mr F) [] E t) (Dl.fCall F f) :=
  fun H0 Hb H σ ρ A Q I p=>rd_call (ha H0 Hb H σ ρ A _ I (by
    have p':=p.bind
    cases e:f ρ with
    | bad=>rw [e] at p';exact p'
    | err c x=>rw [e] at p';exact p'
    | ok ds =>
      rw [e] at p'
      intro vs H1 g1 r1
      obtain ⟨B,r1,_⟩:=r1
      exact ⟨ds,B,hn ρ ds e,r1,Post.imp p' (fun d q v H' g2 r=>q v H' (g1.trans g2) ((r.later g1 (Same.refl _)).reA)) fun c x q H' g'=>q H' (g1.trans g')⟩))
theorem len_nil (ρ:DEnv)(ds:List D)(h:Dl.aNil ρ=.ok ds):ds.length=0:=by cases h;rfl
theorem len_cons {n:Nat}{fe:FE}{f:FA}(hf:∀ρ ds,f ρ=.ok ds→ds.length=n)(ρ:DEnv)(ds:List D)(h:Dl.aCons fe f ρ=.ok ds):ds.length=n+1:=by
 unfold Dl.aCons at h
 cases e:fe ρ with
 | ok x =>
  rw [e] at h
  cases e':f ρ with
  | ok xs =>
   rw [e'] at h
   cases h
   rw [List.length_cons,hf ρ xs e']
  | err c x=>rw [e'] at h;cases h
  | bad=>rw [e'] at h;cases h
 | err c x=>rw [e] at h;cases h
 | bad=>rw [e] at h;cases h
noncomputable def Goes (K:PySem.W.Frag)(C:String→Addr)(J:It)(ds:List D)(Hb:Hp):Prop:=∀H2,Same Hb H2→(∀i,i<ds.length→J.go i H2)∧(∀i,ds.length≤i→J.stop i H2)∧
 ∀i x H3,i<ds.length→J.yld i H2 x H3→Same H2 H3∧∃d B,ds[i]?=some d∧Rp K C H3 d x B∧∀a∈B,Hb a≠none
noncomputable def IOk (K:PySem.W.Frag)(C:String→Addr)(E:XK)(Γ Δ:List Nat)(S:List (Nat×Bool))(wi:TI)(f:FI):Prop:=∀(H0 Hb H:Hp) (σ:St) (ρ:DEnv) (A:Nat→List Addr) (Rr:It→Hp→Prop),EnvOk K C H0 Hb H Γ Δ σ ρ A→
  Post (f ρ) (fun ds=>∀J H' W,Same H H'→(∀a∈W,(∃o,H' a=some o∧IsM o)∧(H a=none∨InS A S a))→ds.length≤Dl.lim→
    (∀Hc,Agree W H' Hc→Goes K C J ds Hc)→Rr J H') (fun c x=>∀H',Same H H'→EC C E c x H')→wi σ H Rr
theorem goes_of {J:It}{ds:List D}{vs:List V}{B:List Addr}{Hc:Hp}(r:RpA K C Hc ds vs B)(h:∀H2,Same Hc H2→(∀i,i<vs.length→J.go i H2)∧(∀i,vs.length≤i→J.stop i H2)∧∀i x H3,J.yld i H2 x H3→H3=H2∧(i<vs.length→vs[i]?=some x)):Goes K C J ds Hc:=fun H2 g=>by
 obtain ⟨h1,h2,h3⟩:=h H2 g
 have hl:=r.len
 refine ⟨fun i hi=>h1 i (by omega),fun i hi=>h2 i (by omega),fun i x H3 hi y=>?_⟩
 obtain ⟨e,y2⟩:=h3 i x H3 y
 subst e
 obtain ⟨d,Bd,q1,q2,q3⟩:=r.get' (y2 (by omega))
 refine ⟨Same.refl _,d,Bd,q1,q2.same g,fun a ha z=>?_⟩
 obtain ⟨xs,e,_⟩:=q2.isl a ha
 rw [e] at z
 cases z
theorem goes_list {a:Addr}{ds:List D}{vs:List V}{B:List Addr}{Hc:Hp}(r:RpA K C Hc ds vs B)(h:∀H2,Same Hc H2→SqL K H2 a vs):Goes K C (Itl K a) ds Hc:=goes_of r fun H2 g=>by
 have q:=h H2 g
 exact ⟨fun i hi=>⟨vs,vs[i],q,by simp [hi]⟩,fun i hi=>⟨vs,q,hi⟩,fun i x H3 y=>⟨y.1,fun _=>y.2 vs q⟩⟩
theorem goes_rng {lo:Int}{n:Nat}{Hc:Hp}:Goes K C (Itr lo n) (Dl.rngL lo n) Hc:=goes_of (vs:=rngV lo n) RpA.rng fun H2 _=>by
 have hl:(rngV lo n).length=n:=by simp [rngV]
 refine ⟨fun i hi=>by rw [hl] at hi;exact hi,fun i hi=>by rw [hl] at hi;exact hi,fun i x H3 y=>⟨y.1,fun hi=>?_⟩⟩
 rw [hl] at hi
 rw [y.2]
 simp [rngV,hi]
theorem FzL.keep {a:Addr}{xs:List V}{H Hb:Hp}(h:FzL K H a xs)(hk:∀b o,H b=some o→¬IsM o→Hb b=some o):FzL K Hb a xs:=by
 rcases h with ⟨o,h⟩ | h
 ·exact .inl ⟨o,hk a _ h (fun z=>by cases z)⟩
 ·exact .inr h
theorem FzL.same {a:Addr}{xs:List V}{H Hb:Hp}(h:FzL K H a xs)(g:Same H Hb):FzL K Hb a xs:=h.keep fun b o q _=>g b o q
theorem iok_list {t:TE}{f:FE}(h:EOk K C E Γ Δ m S t f):IOk K C E Γ Δ S (iList K t) (Dl.jList f):=fun H0 Hb H σ ρ A Rr I p=>h H0 Hb H σ ρ A _ I (p.bind.imp (fun d q v H' g r=>by
  obtain ⟨B,r,r',_⟩:=r
  cases d with
  | lst ds =>
    obtain ⟨a,xs,B',rfl,e2,e3,e4⟩:=r
    subst e4
    simp only at q
    split at q
    · rename_i hl
      refine ⟨a,rfl,⟨xs,SqL.of e2⟩,q _ H' (a::B') g (fun b hb=>?_) hl fun Hc h1=>goes_list (e3.agree h1 fun b hb=>.tail _ hb) fun H2 g2=>SqL.of (g2 _ _ ((h1.1 a (.head _)).trans e2))⟩
      rcases List.mem_cons.mp hb with z | z
      · rw [z]
        exact ⟨⟨_,e2,.lst⟩,r' a (.head _)⟩
      · exact ⟨e3.isl b z,r' b (.tail _ z)⟩
    · exact q.elim
  | scr ns =>
    obtain ⟨a,rfl,e2,_⟩:=r
    simp only at q
    split at q
    · rename_i hl
      exact ⟨a,rfl,⟨_,e2.sq⟩,q _ H' [] g (fun b hb=>nomatch hb) (by rw [List.length_map];exact hl) fun Hc h2=>goes_list RpA.ints fun H2 g2=>((e2.keep h2.2).same g2).sq⟩
    · exact q.elim
  | _=>exact q.elim) fun c x q H' g'=>q H' g')
theorem rngL_len (lo:Int)(n:Nat):(Dl.rngL lo n).length=n:=by simp [Dl.rngL]
theorem iok_rng1 {t:TA}{f:FA}(h:AOk K C E Γ Δ m S t f):IOk K C E Γ Δ [] (iRng1 t) (Dl.jRng1 f):=fun H0 Hb H σ ρ A Rr I p=>h H0 Hb H σ ρ A _ I (p.bind.imp (fun ds q vs H' g r=>by
  obtain ⟨B,r,_⟩:=r
  split at q
  · split at q
    · rename_i hl
      obtain ⟨v,rfl,r1⟩:=r.one'
      obtain ⟨rfl,_⟩:=r1
      exact ⟨_,rfl,by omega,by omega,q _ H' [] g (fun b hb=>nomatch hb) (by rw [rngL_len];show _≤1000000;omega) fun Hc _=>goes_rng⟩
    · exact q.elim
  · exact q.elim) fun c x q H' g'=>q H' g')
theorem iok_rng2 {t:TA}{f:FA}(h:AOk K C E Γ Δ m S t f):IOk K C E Γ Δ [] (iRng2 t) (Dl.jRng2 f):=fun H0 Hb H σ ρ A Rr I p=>h H0 Hb H σ ρ A _ I (p.bind.imp (fun ds q vs H' g r=>by
  obtain ⟨B,r,_⟩:=r
  split at q
  · split at q
    · rename_i hl
      obtain ⟨v,w,B,B',rfl,r1,r2⟩:=r.two'
      obtain ⟨rfl,_⟩:=r1
      obtain ⟨rfl,_⟩:=r2
      obtain ⟨h1,h2,h3,h4,h5⟩:=hl
      exact ⟨_,_,rfl,⟨by omega,by omega,by omega,by omega⟩,q _ H' [] g (fun b hb=>nomatch hb) (by rw [rngL_len];exact h5) fun Hc _=>goes_rng⟩
    · exact q.elim
  · exact q.elim) fun c x q H' g'=>q H' g')
theorem comp_gen {J:It}{ds:List D}{Hc H:Hp}{Dd:Addr}{k:Nat}{g:TG}{tc:TT}{te:TE}{σ:St}{Rr:Hp→Prop}(go:Goes K C J ds Hc)(Pv:Nat→Hp→Prop)(h0:Pv 0 (upd H Dd (.lst [])))(hb:∀i H,Pv i H→Same Hc H)
    (hs:∀i d x B H H3,ds[i]?=some d→Pv i H→Same H H3→Rp K C H3 d x B→(∀a∈B,Hc a≠none)→∀os:St,os.length=k→g x (σ++os) H3 fun σ' Hg=>(∃os',os'.length=k∧σ'=σ++os')∧tc σ' Hg fun b H2=>if b=true then te σ' H2 fun v H3=>∃ys,H3 Dd=some (.lst ys)∧ys.length<sizeLine∧Pv (i+1) (upd H3 Dd (.lst (ys++[v]))) else Pv (i+1) H2)
    (hd:∀H,Pv ds.length H→Rr H) :
    ∃W:Nat→Nat→Hp→Prop,(∃m,W 0 m (upd H Dd (.lst [])))∧∀i m H,W i m H→
      (J.stop i H∧Rr H)∨(J.go i H∧∃N:Hp→Prop,(∀H',N H'→∃m',m'<m∧W (i+1) m' H')∧∀x H',J.yld i H x H'→∀os:St,os.length=k→g x (σ++os) H' fun σ' Hg=>(∃os',os'.length=k∧σ'=σ++os')∧tc σ' Hg fun b H2 =>
        if b=true then te σ' H2 fun v H3=>∃ys,H3 Dd=some (.lst ys)∧ys.length<sizeLine∧N (upd H3 Dd (.lst (ys++[v])))
        else N H2):=by
  refine ⟨fun i m H=>m=ds.length - i∧i≤ds.length∧Pv i H,⟨ds.length,by simp,Nat.zero_le _,h0⟩,?_⟩
  rintro i m H1 ⟨rfl,hi,p⟩
  obtain ⟨g1,g2,g3⟩:=go H1 (hb i H1 p)
  by_cases hlt:i<ds.length
  · refine .inr ⟨g1 i hlt,Pv (i+1),fun H' p'=>⟨ds.length - (i+1),by omega,rfl,hlt,p'⟩,fun x H' y=>?_⟩
    obtain ⟨e,d,B,y1,y2,y3⟩:=g3 i x H' hlt y
    exact hs i d x B H1 H' y1 p e y2 y3
  · have e:i=ds.length:=by omega
    subst e
    exact .inl ⟨g2 _ (Nat.le_refl _),hd H1 p⟩
theorem for_gen {J:It}{ds:List D}{Hc H:Hp}{g:TG}{tb:TS}{Dd:Ends}{σ:St}(go:Goes K C J ds Hc)(Pv:Nat→St→Hp→Prop)(h0:Pv 0 σ H)(hb:∀i σ H,Pv i σ H→Same Hc H)
  (hs:∀i d x B σ H H3,ds[i]?=some d→Pv i σ H→Same H H3→Rp K C H3 d x B→(∀a∈B,Hc a≠none)→g x σ H3 fun σ2 H2=>tb { Dd with nx:=Pv (i+1),ct:=Pv (i+1),bk:=Dd.nx } σ2 H2) (hd:∀σ H,Pv ds.length σ H→Dd.nx σ H) :
  ∃W:Nat→Nat→St→Hp→Prop,(∃m,W 0 m σ H)∧∀i m σ H,W i m σ H→
   (J.stop i H∧Dd.nx σ H)∨(J.go i H∧∃N:St→Hp→Prop,(∀σ' H',N σ' H'→∃m',m'<m∧W (i+1) m' σ' H')∧∀x H',J.yld i H x H'→g x σ H' fun σ2 H2=>tb { Dd with nx:=N,ct:=N,bk:=Dd.nx } σ2 H2):=by
 refine ⟨fun i m σ H=>m=ds.length - i∧i≤ds.length∧Pv i σ H,⟨ds.length,by simp,Nat.zero_le _,h0⟩,?_⟩
 rintro i m σ H1 ⟨rfl,hi,p⟩
 obtain ⟨g1,g2,g3⟩:=go H1 (hb i σ H1 p)
 by_cases hlt:i<ds.length
 ·refine .inr ⟨g1 i hlt,Pv (i+1),fun σ' H' p'=>⟨ds.length - (i+1),by omega,rfl,hlt,p'⟩,fun x H' y=>?_⟩
  obtain ⟨e,d,B,y1,y2,y3⟩:=g3 i x H' hlt y
  exact hs i d x B σ H1 H' y1 p e y2 y3
 ·have e:i=ds.length:=by omega
  subst e
  exact .inl ⟨g2 _ (Nat.le_refl _),hd σ H1 p⟩
theorem EnvOk.more {H0 Hb H:Hp}{σ:St}{ρ:DEnv}{A:Nat→List Addr}(I:EnvOk K C H0 Hb H Γ Δ σ ρ A)(os:St):EnvOk K C H H H [] [] (σ++os) (ρ++List.replicate os.length none) A:=by
 refine ⟨Same.refl _,Same.refl _,by rw [List.length_append,List.length_append,I.len,List.length_replicate],fun i e h=>?_,fun i h=>?_,(fun _ h=>nomatch h),(fun _ h=>nomatch h),(fun _ h=>nomatch h)⟩
 ·by_cases hi:i<ρ.length
  ·rw [List.getElem?_append_left hi] at h
   obtain ⟨w,q1,q2⟩:=I.rep i e h
   refine ⟨w,?_,q2⟩
   rw [List.getElem?_append_left (by rw [I.len];exact hi)]
   exact q1
  ·rw [List.getElem?_append_right (by omega)] at h
   have hm:=List.mem_of_getElem? h
   rw [List.mem_replicate] at hm
   exact absurd hm.2 (by intro z;cases z)
 ·refine I.nil i fun e h'=>h e ?_
  rw [List.getElem?_append_left (List.getElem?_eq_some_iff.mp h').1]
  exact h'
noncomputable def NOk (K:PySem.W.Frag)(C:String→Addr)(n k:Nat)(g:TG)(b:FB):Prop:=∀(H:Hp) (σ os:St) (ρ:DEnv) (A:Nat→List Addr) (d:D) (v:V) (B:List Addr) (Rr:St→Hp→Prop),σ.length=n→os.length=k→EnvOk K C H H H [] [] (σ++os) ρ A→Rp K C H d v B→
 Post (b d ρ) (fun ρ'=>∀os' A',os'.length=k→EnvOk K C H H H [] [] (σ++os') ρ' A'→Rr (σ++os') H) (fun _ _=>False)→g v (σ++os) H Rr
noncomputable def NsOk (K:PySem.W.Frag)(C:String→Addr)(n k:Nat)(g:TGs)(b:List D→DEnv→R DEnv):Prop:=∀(H:Hp) (σ os:St) (ρ:DEnv) (A:Nat→List Addr) (d:List D) (v:List V) (B:List Addr) (Rr:St→Hp→Prop),σ.length=n→os.length=k→EnvOk K C H H H [] [] (σ++os) ρ A→RpA K C H d v B→
 Post (b d ρ) (fun ρ'=>∀os' A',os'.length=k→EnvOk K C H H H [] [] (σ++os') ρ' A'→Rr (σ++os') H) (fun _ _=>False)→g v (σ++os) H Rr
theorem comp_split (k:Nat)(b:FB)(c:FT)(e:FE)(ρ:DEnv)(xs:List D){i:Nat}{x:D}(h:xs[i]?=some x):Dl.compN k b c e ρ (xs.drop i)=(b x (ρ++List.replicate k none)).calm.bind fun ρ1=>(c ρ1).bind fun t=>if t then (e ρ1).bind fun y=>(Dl.compN k b c e ρ (xs.drop (i+1))).bind fun ys=>.ok (y::ys) else Dl.compN k b c e ρ (xs.drop (i+1)):=by
 obtain ⟨hi,rfl⟩:=List.getElem?_eq_some_iff.mp h
 rw [List.drop_eq_getElem_cons hi]
 rfl
theorem calm_of {α:Type}{r:R α}{ok:α→Prop}{er:String→Option Int→Prop}(h:Post r.calm ok er):Post r ok (fun _ _=>False):=by
 cases r with
 | ok a=>exact h
 | err c x=>exact h
 | bad=>exact h
theorem get_set {α:Type}{l:List α}{i j:Nat}{x y:α}(h:(l.set i x)[j]?=some y):(j=i∧i<l.length∧y=x)∨(j≠i∧l[j]?=some y):=by
 by_cases e:i=j
 ·subst e
  rw [List.getElem?_set_self'] at h
  by_cases hi:i<l.length
  ·rw [List.getElem?_eq_getElem hi] at h
   simp at h
   exact .inl ⟨rfl,hi,h.symm⟩
  ·rw [List.getElem?_eq_none (by omega)] at h
   cases h
 ·rw [List.getElem?_set_ne e] at h
  exact .inr ⟨fun z=>e z.symm,h⟩
theorem EnvOk.put {H0 Hb H:Hp}{σ:St}{ρ:DEnv}{A:Nat→List Addr}{i:Nat}{d:D}{v:V}{B:List Addr}(I:EnvOk K C H0 Hb H Γ Δ σ ρ A)(r:Rp K C H d v B)
  (h1:∀j∈Γ',j≠i→j∈Γ∧∀a l,A j=a::l→a∉B)
  (h2:i∈Γ'→(∀a∈B,H0 a=none)∧∀a l,B=a::l→Hb a=none∧a∉l∧∀j,j≠i→a∉A j)
  (h3:∀j∈Δ',j≠i→j∈Δ∧∀a∈A j,a∉B)
  (h4:i∈Δ'→B.Nodup∧(∀j,j≠i→∀a∈B,a∉A j)∧∀a∈B,Hb a=none):∃A',EnvOk K C H0 Hb H Γ' Δ' (σ.set i (some v)) (ρ.set i (some d)) A'∧∀j a,a∈A' j→a∈B∨a∈A j:=by
 by_cases hi:i<ρ.length
 ·refine ⟨fun j=>if j=i then B else A j,⟨I.s0,I.same,by rw [List.length_set,List.length_set,I.len],fun j e h=>?_,fun j h=>?_,fun j hj a ha=>?_,fun j hj a l e=>?_,fun j hj=>?_⟩,fun j a ha=>?_⟩
  ·rcases get_set h with ⟨e1,_,e2⟩ | ⟨e1,e2⟩
   ·subst e1
    cases e2
    refine ⟨v,?_,by rw [if_pos rfl];exact r⟩
    rw [List.getElem?_set_self (by rw [I.len];exact hi)]
   ·obtain ⟨w,q1,q2⟩:=I.rep j e e2
    refine ⟨w,?_,by rw [if_neg e1];exact q2⟩
    rw [List.getElem?_set_ne (fun z=>e1 z.symm)]
    exact q1
  ·by_cases e:j=i
   ·subst e
    exact absurd (List.getElem?_set_self hi) (h d)
   ·rw [if_neg e]
    refine I.nil j fun x hx=>h x ?_
    rw [List.getElem?_set_ne (fun z=>e z.symm)]
    exact hx
  ·by_cases e:j=i
   ·subst e
    rw [if_pos rfl] at ha
    exact (h2 hj).1 a ha
   ·rw [if_neg e] at ha
    exact I.loc j (h1 j hj e).1 a ha
  ·by_cases e':j=i
   ·subst e'
    rw [if_pos rfl] at e
    obtain ⟨q0,q1,q2⟩:=(h2 hj).2 a l e
    refine ⟨q0,q1,fun k hk=>?_⟩
    rw [if_neg hk]
    exact q2 k hk
   ·rw [if_neg e'] at e
    obtain ⟨q0,q⟩:=h1 j hj e'
    obtain ⟨q3,q1,q2⟩:=I.top j q0 a l e
    refine ⟨q3,q1,fun k hk=>?_⟩
    by_cases ek:k=i
    ·rw [if_pos ek];exact q a l e
    ·rw [if_neg ek];exact q2 k hk
  ·by_cases e:j=i
   ·subst e
    rw [if_pos rfl]
    obtain ⟨q1,q2,q3⟩:=h4 hj
    refine ⟨q1,fun k hk a ha=>?_,q3⟩
    rw [if_neg hk]
    exact q2 k hk a ha
   ·rw [if_neg e]
    obtain ⟨q0,q⟩:=h3 j hj e
    obtain ⟨q1,q2,q3⟩:=I.deep j q0
    refine ⟨q1,fun k hk a ha=>?_,q3⟩
    by_cases ek:k=i
    ·rw [if_pos ek];exact q a ha
    ·rw [if_neg ek];exact q2 k hk a ha
  ·have ha:a∈(if j=i then B else A j):=ha
   by_cases e:j=i
   ·rw [if_pos e] at ha;exact .inl ha
   ·rw [if_neg e] at ha;exact .inr ha
 ·have e1:ρ.set i (some d)=ρ:=List.set_eq_of_length_le (by omega)
  have e2:σ.set i (some v)=σ:=List.set_eq_of_length_le (by rw [I.len];omega)
  have e3:A i=[]:=I.nil i fun x h=>by
   have:=(List.getElem?_eq_some_iff.mp h).1
   omega
  refine ⟨A,?_,fun j a ha=>.inr ha⟩
  rw [e1,e2]
  refine ⟨I.s0,I.same,I.len,I.rep,I.nil,fun j hj a ha=>?_,fun j hj a l e=>?_,fun j hj=>?_⟩
  ·by_cases e:j=i
   ·subst e;rw [e3] at ha;cases ha
   ·exact I.loc j (h1 j hj e).1 a ha
  ·by_cases e':j=i
   ·subst e';rw [e3] at e;cases e
   ·exact I.top j (h1 j hj e').1 a l e
  ·by_cases e:j=i
   ·subst e
    rw [e3]
    exact ⟨List.nodup_nil,fun _ _ _ h=>(nomatch h),fun _ h=>(nomatch h)⟩
   ·exact I.deep j (h3 j hj e).1
theorem EnvOk.writeO {H0 Hb H:Hp}{σ:St}{ρ:DEnv}{A:Nat→List Addr}{i:Nat}{es:List D}{ys:List V}{o':HO}{d':D}{B':List Addr}{a:Addr}{l:List Addr}(I:EnvOk K C H0 Hb H Γ Δ σ ρ A)(hi:i∈Γ)(hA:A i=a::l)(hl:i<ρ.length)(hs:σ[i]?=some (some (.ref a)))
  (mk:∀H',H' a=some o'→RpA K C H' es ys B'→Rp K C H' d' (.ref a) (a::B')) (r:RpA K C H es ys B') (hn:∀b∈B',H0 b=none) (ha:a∉B')
  (h1:∀j∈Γ',j≠i→j∈Γ∧∀b l,A j=b::l→b∉B')
  (h2:∀j∈Δ',j≠i→j∈Δ∧∀b∈A j,b∉B')
  (h3:i∈Δ'→B'.Nodup∧(∀j,j≠i→∀b∈B',b∉A j)∧∀b∈B',Hb b=none):∃A',EnvOk K C H0 Hb (upd H a o') Γ' Δ' σ (ρ.set i (some d')) A':=by
 obtain ⟨xs,hxs,hm⟩:=I.is (j:=i) (a:=a) (by rw [hA];exact .head _)
 have hne:∀j,j≠i→a∉A j:=(I.top i hi a l hA).2.2
 have hb0:Hb a=none:=(I.top i hi a l hA).1
 have h0:H0 a=none:=I.loc i hi a (by rw [hA];exact .head _)
 have ext:Ext (fun b=>b=a) H (upd H a o'):=fun b o h=>by
  by_cases e:b=a
  ·subst e
   rw [hxs] at h
   cases h
   exact .inr ⟨rfl,hm⟩
  ·rw [Zap e]
   exact .inl h
 refine ⟨fun j=>if j=i then a::B' else A j,I.s0,fun b o h=>?_,by rw [List.length_set,I.len],fun j e h=>?_,fun j h=>?_,fun j hj b hb=>?_,fun j hj b l' e=>?_,fun j hj=>?_⟩
 ·rw [Zap (Zbu h hb0)]
  exact I.same b o h
 ·rcases get_set h with ⟨e1,_,e2⟩ | ⟨e1,e2⟩
  ·subst e1
   cases e2
   refine ⟨.ref a,hs,?_⟩
   rw [if_pos rfl]
   exact mk _ Zay (r.ext ext (fun b hb h=>ha (by rw [h] at hb;exact hb)))
  ·obtain ⟨w,q1,q2⟩:=I.rep j e e2
   refine ⟨w,q1,?_⟩
   rw [if_neg e1]
   exact q2.ext ext fun b hb h=>hne j e1 (by rw [h] at hb;exact hb)
 ·by_cases e:j=i
  ·subst e
   exact absurd (List.getElem?_set_self hl) (h _)
  ·rw [if_neg e]
   refine I.nil j fun x hx=>h x ?_
   rw [List.getElem?_set_ne (fun z=>e z.symm)]
   exact hx
 ·by_cases e:j=i
  ·subst e
   rw [if_pos rfl] at hb
   rcases List.mem_cons.mp hb with z | z
   ·rw [z];exact h0
   ·exact hn b z
  ·rw [if_neg e] at hb
   exact I.loc j (h1 j hj e).1 b hb
 ·by_cases e':j=i
  ·subst e'
   rw [if_pos rfl] at e
   cases e
   refine ⟨hb0,ha,fun k hk=>?_⟩
   rw [if_neg hk]
   exact hne k hk
  ·rw [if_neg e'] at e
   obtain ⟨q0,q⟩:=h1 j hj e'
   obtain ⟨q3,q1,q2⟩:=I.top j q0 b l' e
   refine ⟨q3,q1,fun k hk=>?_⟩
   by_cases ek:k=i
   ·rw [if_pos ek]
    intro z
    rcases List.mem_cons.mp z with z | z
    ·exact hne j e' (by rw [e,z];exact .head _)
    ·exact q b l' e z
   ·rw [if_neg ek];exact q2 k hk
 ·by_cases e:j=i
  ·subst e
   rw [if_pos rfl]
   obtain ⟨q1,q2,q3⟩:=h3 hj
   refine ⟨List.nodup_cons.mpr ⟨ha,q1⟩,fun k hk b hb=>?_,fun b hb=>?_⟩
   ·rw [if_neg hk]
    rcases List.mem_cons.mp hb with z | z
    ·rw [z];exact hne k hk
    ·exact q2 k hk b z
   ·rcases List.mem_cons.mp hb with z | z
    ·rw [z];exact hb0
    ·exact q3 b z
  ·rw [if_neg e]
   obtain ⟨q0,q⟩:=h2 j hj e
   obtain ⟨q1,q2,q3⟩:=I.deep j q0
   refine ⟨q1,fun k hk b hb=>?_,q3⟩
   by_cases ek:k=i
   ·rw [if_pos ek]
    intro z
    rcases List.mem_cons.mp z with z | z
    ·exact hne j e (by rw [← z];exact hb)
    ·exact q b hb z
   ·rw [if_neg ek];exact q2 k hk b hb
theorem EnvOk.write {H0 Hb H:Hp}{σ:St}{ρ:DEnv}{A:Nat→List Addr}{i:Nat}{es:List D}{ys:List V}{B':List Addr}{a:Addr}{l:List Addr}(I:EnvOk K C H0 Hb H Γ Δ σ ρ A)(hi:i∈Γ)(hA:A i=a::l)(hl:i<ρ.length)(hs:σ[i]?=some (some (.ref a)))
  (r:RpA K C H es ys B') (hn:∀b∈B',H0 b=none) (ha:a∉B')
  (h1:∀j∈Γ',j≠i→j∈Γ∧∀b l,A j=b::l→b∉B')
  (h2:∀j∈Δ',j≠i→j∈Δ∧∀b∈A j,b∉B')
  (h3:i∈Δ'→B'.Nodup∧(∀j,j≠i→∀b∈B',b∉A j)∧∀b∈B',Hb b=none):∃A',EnvOk K C H0 Hb (upd H a (.lst ys)) Γ' Δ' σ (ρ.set i (some (.lst es))) A':=I.writeO hi hA hl hs (fun _ q1 q2=>⟨a,_,_,rfl,q1,q2,rfl⟩) r hn ha h1 h2 h3
theorem nok_name {n k:Nat}(i:Nat)(h1:n≤i)(h2:i<n+k):NOk K C n k (gName i) (Dl.bName i):=fun H σ os ρ A d v B Rr hσ hos I r p=>by
 have e:(σ++os).set i (some v)=σ++os.set (i - n) (some v):=by rw [← hσ,List.set_append_right _ _ (by omega)]
 obtain ⟨A',I',_⟩:=I.put (Γ':=[]) (Δ':=[]) (i:=i) r (fun _ h=>nomatch h) (fun h=>nomatch h) (fun _ h=>nomatch h) (fun h=>nomatch h)
 show Rr ((σ++os).set i (some v)) H
 rw [e] at I' ⊢
 exact p _ A' (by rw [List.length_set];exact hos) I'
theorem Zhk {n k:Nat}{g:TG}{wi:TI}{tc:TT}{te:TE}{fi:FI}{fb:FB}{fc:FT}{fe:FE}(hi:IOk K C E Γ Δ S wi fi)(hg:NOk K C n k g fb)(hc:TOk K C E0 [] [] tc fc)(he:EOk K C E0 [] [] 2 [] te fe):EOk K C E Γ Δ 2 [] (tCompN k g wi tc te) (Dl.fComp n k fi fb fc fe):=fun H0 Hb H σ ρ A Q I p=>by
  unfold Dl.fComp at p
  split at p
  · rename_i hn
    refine hi H0 Hb H σ ρ A _ I (p.bind.imp (fun ds q J H1 W g1 hW hlen hJ Dd hD=>?_) fun c x q H' g'=>q H' g')
    have I1:=I.mono g1
    have go:Goes K C J ds H1:=hJ H1 ⟨fun _ _=>rfl,fun b o h _=>h⟩
    have q':=calm_of q.bind
    refine comp_gen go (fun i H2=>Same H1 H2∧∃(us:List D) (ys:List V) (B':List Addr),H2 Dd=some (.lst ys)∧us.length≤i∧RpA K C H2 us ys B'∧B'.Nodup∧Dd∉B'∧(∀a∈B',H1 a=none)∧
      Post (Dl.compN k fb fc fe ρ (ds.drop i)) (fun zs=>∀v H',Same H H'→Res K C 2 [] H A (.lst (us++zs)) v H'→Q v H') (fun _ _=>False)) ⟨sameNew hD _,[],[],[],Zay,Nat.le_refl _,RpA.nil,List.nodup_nil,(fun h=>nomatch h),(fun _ h=>nomatch h),q'⟩ (fun _ _ h=>h.1) ?_ ?_
    · rintro i x v Bx H2a H2 hx ⟨g2a,us,ys,B',hD2,hul,ru,nd,hDB,hnew,pq⟩ g2b rx _ os hos
      have g2:=g2a.trans g2b
      have hil:=(List.getElem?_eq_some_iff.mp hx).1
      rw [comp_split _ _ _ _ _ _ hx] at pq
      have I2:=(I1.mono g2).more os
      have pq':=calm_of pq.bind
      rw [← hos] at pq'
      refine hg H2 σ os _ A x v Bx _ (by rw [I.len,hn]) hos I2 rx (pq'.imp (fun ρ1 pq os1 A1 ho1 I3=>⟨⟨os1,ho1,rfl⟩,?_⟩) fun _ _ z=>z)
      refine hc H2 H2 H2 _ _ _ _ I3 (pq.bind.imp (fun b pq H3 g3=>?_) fun _ _ z=>z.elim)
      have hD2':=g2b _ _ hD2
      have ru':=ru.same g2b
      cases b with
      | false =>
        simp only [Bool.false_eq_true,if_false] at pq ⊢
        rw [hos] at pq
        exact ⟨g2.trans g3,us,ys,B',g3 _ _ hD2',by omega,ru'.same g3,nd,hDB,hnew,pq⟩
      | true =>
        simp only [if_true] at pq ⊢
        refine he H2 H2 H3 _ _ _ _ (I3.mono g3) (pq.bind.imp (fun y pq w H4 g4 r4=>?_) fun _ _ z=>z.elim)
        rw [hos] at pq
        obtain ⟨By,ry,hy1,_,hy2⟩:=r4
        have g24:=g3.trans g4
        have hD4:=g24 _ _ hD2'
        have hnewy:∀a∈By,H3 a=none:=fun a ha=>(hy1 a ha).elim id fun z=>z.none.elim
        have hDy:Dd∉By:=fun h=>by
          have z:=hnewy Dd h
          rw [g3 _ _ hD2'] at z
          cases z
        have ext:Ext (fun a=>a=Dd) H4 (upd H4 Dd (.lst (ys++[w]))):=fun b o h=>by
          by_cases e:b=Dd
          · subst e
            rw [hD4] at h
            cases h
            exact .inr ⟨rfl,.lst⟩
          · rw [Zap e]
            exact .inl h
        have hDB':Dd∉B'++By:=fun h=>(List.mem_append.mp h).elim hDB hDy
        refine ⟨ys,hD4,?_,?_,us++[y],ys++[w],B'++By,Zay,by rw [List.length_append];simp;omega,?_,?_,hDB',?_,?_⟩
        · rw [ru.len]
          exact limLine' (by omega)
        · intro b o h
          have hb:b≠Dd:=Zbu h hD
          rw [Zap hb]
          exact (g2.trans g24) b o h
        · exact ((ru'.same g24).app (RpA.one ry)).ext ext fun a ha h=>hDB' (by rw [h] at ha;exact ha)
        · refine List.nodup_append.mpr ⟨nd,hy2 rfl,fun a ha b hb e=>?_⟩
          subst e
          obtain ⟨xs,z,_⟩:=(ru'.same g3).isl a ha
          rw [hnewy a hb] at z
          cases z
        · intro a ha
          rcases List.mem_append.mp ha with h | h
          · exact hnew a h
          · exact (g2.trans g3).free (hnewy a h)
        · exact pq.bind.imp (fun zs pq v H' g' r=>by
            rw [List.append_assoc] at r
            exact pq v H' g' r) fun _ _ z=>z
    · rintro H2 ⟨g2,us,ys,B',hD2,hul,ru,nd,hDB,hnew,pq⟩
      rw [List.drop_length] at pq
      have pq:∀v H',Same H H'→Res K C 2 [] H A (.lst (us++[])) v H'→Q v H':=pq
      rw [List.append_nil] at pq
      refine pq _ H2 (g1.trans g2) ⟨Dd::B',⟨Dd,ys,B',rfl,hD2,ru,rfl⟩,fun a ha=>.inl ?_,(fun z=>nomatch z),fun _=>List.nodup_cons.mpr ⟨hDB,nd⟩⟩
      rcases List.mem_cons.mp ha with h | h
      · rw [h];exact g1.free hD
      · exact g1.free (hnew a h)
  · exact p.elim
end
end L2
namespace L2
open PySem PySem.Spec PyProof.Rows
open Dl (D R FE FT FA FO FS FI FB Fl)
section
variable {K:PySem.W.Frag}{C:String→Addr}{E:XK}{Γ Δ Γ' Δ' Γ1 Δ1 Γl Δl Γk Δk:List Nat}{m m1 m2 m3 mr:Nat}{S S1 S2 S3:List (Nat×Bool)}{H:Hp}{Q:VK}
theorem PostS.weak {H0 Hb:Hp}{D:Ends}{r:R Fl}(h:PostS K C E mr Γl Δl Γ' Δ' H0 Hb D r)(h1:∀i∈Γ',i∈Γ1)(h2:∀i∈Δ',i∈Δ1):PostS K C E mr Γl Δl Γ1 Δ1 H0 Hb D r:=by
 unfold PostS at *
 refine Post.imp h (fun fl q=>?_) fun _ _ q=>q
 cases fl with
 | nx ρ'=>exact fun σ' H' A' I=>q σ' H' A' (I.weak h1 h2)
 | ret d=>exact q
 | brk ρ'=>exact q
 | cnt ρ'=>exact q
theorem sok_weak {t:TS}{f:FS}(h:SOk K C E mr Γl Δl Γ Δ Γ1 Δ1 t f)(h1:autoParam (∀i∈Γ',i∈Γ1) aT1._auto_1)(h2:autoParam (∀i∈Δ',i∈Δ1) aT1._auto_1):SOk K C E mr Γl Δl Γ Δ Γ' Δ' t f:=fun H0 Hb H σ ρ A D I p =>
 h H0 Hb H σ ρ A D I (p.weak h1 h2)
theorem sok_nx:SOk K C E mr Γl Δl Γ Δ Γ Δ tNext Dl.sNx:=fun _ _ H σ _ A _ I p=>p σ H A I
theorem sok_never:SOk K C E mr Γl Δl Γ Δ Γ' Δ' tNever Dl.sNever:=fun _ _ _ _ _ _ _ _ p=>p.elim
theorem sok_seq {t u:TS}{f g:FS}(h1:SOk K C E mr Γl Δl Γ Δ Γ1 Δ1 t f)(h2:SOk K C E mr Γl Δl Γ1 Δ1 Γ' Δ' u g):SOk K C E mr Γl Δl Γ Δ Γ' Δ' (tSeq t u) (Dl.sSeq f g):=fun H0 Hb H σ ρ A D I p =>
  h1 H0 Hb H σ ρ A _ I (Post.imp (Post.bind p) (fun fl q=>by
    cases fl with
    | nx ρ'=>exact fun σ' H' A' I'=>h2 H0 Hb H' σ' ρ' A' D I' q
    | ret d=>exact q
    | brk ρ'=>exact q
    | cnt ρ'=>exact q) fun _ _ q=>q)
theorem Same.from0 {H0 Hb H H':Hp}{σ:St}{ρ:DEnv}{A:Nat→List Addr}(I:EnvOk K C H0 Hb H Γ Δ σ ρ A)(g:Same H H'):Same H0 H':=I.s0.trans (I.same.trans g)
theorem EnvOk.top_out {H0 Hb H:Hp}{σ:St}{ρ:DEnv}{A:Nat→List Addr}(I:EnvOk K C H0 Hb H Γ Δ σ ρ A){j:Nat}(hj:j∈Γ)(hS:(j,false)∉S){a:Addr}{l:List Addr}(e:A j=a::l):¬InS A S a:=fun h=>by
 obtain ⟨q0,q1,q2⟩:=I.top j hj a l e
 obtain ⟨p,hp,q⟩:=h
 split at q
 ·by_cases ep:p.1=j
  ·rw [ep,e] at q
   exact q1 q
  ·exact q2 p.1 ep (List.mem_of_mem_tail q)
 ·rename_i hf
  by_cases ep:p.1=j
  ·refine hS ?_
   have:p=(j,false):=by
    obtain ⟨p1,p2⟩:=p
    simp at ep hf
    rw [ep,hf]
   rw [← this]
   exact hp
  ·exact q2 p.1 ep q
theorem EnvOk.deep_out {H0 Hb H:Hp}{σ:St}{ρ:DEnv}{A:Nat→List Addr}(I:EnvOk K C H0 Hb H Γ Δ σ ρ A){j:Nat}(hj:j∈Δ)(hS:∀p∈S,p.1≠j){a:Addr}(e:a∈A j):¬InS A S a:=fun h=>by
 obtain ⟨p,hp,q⟩:=h.mem
 exact (I.deep j hj).2.1 p.1 (hS p hp) a e q
theorem Zhn {i:Nat}{te:TE}{fe:FE}(he:EOk K C E Γ Δ 2 [] te fe)(h1:autoParam (∀j∈Γ',j=i∨j∈Γ) aT1._auto_1)(h2:autoParam (∀j∈Δ',j=i∨j∈Δ) aT1._auto_1):SOk K C E mr Γl Δl Γ Δ Γ' Δ' (tAsg te (gName i)) (Dl.sSet i fe):=fun H0 Hb H σ ρ A D I p =>
  he H0 Hb H σ ρ A _ I (Post.imp (Post.bind p) (fun d q v H1 g1 r=>by
    obtain ⟨B,r1,r2,r3,r4⟩:=r
    have hn:∀a∈B,H a=none:=fun a ha=>(r2 a ha).elim id fun z=>z.none.elim
    have nd:=r4 rfl
    obtain ⟨A',I',_⟩:=(I.mono g1).put (Γ':=Γ') (Δ':=Δ') (i:=i) r1 (fun j hj e=>⟨(h1 j hj).elim (fun z=>absurd z e) id,fun a l e' ha=>I.ne (j:=j) (by rw [e'];exact .head _) (hn a ha)⟩)
      (fun _=>⟨fun a ha=>I.s0.free (I.same.free (hn a ha)),fun a l e=>by subst e;exact ⟨I.same.free (hn a (.head _)),(List.nodup_cons.mp nd).1,fun j _ h=>I.ne h (hn a (.head _))⟩⟩)
      (fun j hj e=>⟨(h2 j hj).elim (fun z=>absurd z e) id,fun a ha hB=>I.ne ha (hn a hB)⟩)
      (fun _=>⟨nd,fun j _ a ha h=>I.ne h (hn a ha),fun a ha=>I.same.free (hn a ha)⟩)
    exact q _ H1 A' I') fun c x q H' g'=>q H' (Same.from0 I g'))
theorem sok_ret2 {te:TE}{fe:FE}(he:EOk K C E Γ Δ 2 S te fe)(h0:autoParam (∀p∈S,p.1∈Δ) aT1._auto_1):SOk K C E 2 Γl Δl Γ Δ Γ' Δ' (tRet te) (Dl.sRet fe):=fun H0 Hb H σ ρ A D I p =>
  he H0 Hb H σ ρ A _ I (Post.imp (Post.bind p) (fun d q v H1 g1 r=>by
    obtain ⟨B,r1,r2,r3,r4⟩:=r
    refine q v H1 (Same.from0 I g1) ⟨B,r1,fun a ha=>.inl ((r2 a ha).elim (fun z=>I.s0.free (I.same.free z)) fun z=>?_),(fun z=>nomatch z),r4⟩
    obtain ⟨p,hp,z⟩:=z.mem
    exact I.s0.free ((I.deep p.1 (h0 p hp)).2.2 a z)) fun c x q H' g'=>q H' (Same.from0 I g'))
theorem sok_ret0 {te:TE}{fe:FE}(he:EOk K C E Γ Δ m S te fe)(h0:autoParam (∀p∈S,p.1∈Γ) aT1._auto_1):SOk K C E 0 Γl Δl Γ Δ Γ' Δ' (tRet te) (Dl.sRet fe):=fun H0 Hb H σ ρ A D I p =>
  he H0 Hb H σ ρ A _ I (Post.imp (Post.bind p) (fun d q v H1 g1 r=>by
    obtain ⟨B,r1,r2,r3,r4⟩:=r
    refine q v H1 (Same.from0 I g1) ⟨B,r1,fun a ha=>.inl ((r2 a ha).elim (fun z=>I.s0.free (I.same.free z)) fun z=>?_),(fun z=>nomatch z),(fun z=>nomatch z)⟩
    obtain ⟨p,hp,z⟩:=z.mem
    exact I.loc p.1 (h0 p hp) a z) fun c x q H' g'=>q H' (Same.from0 I g'))
theorem sok_if {tc:TT}{t u:TS}{fc:FT}{f g:FS}(hc:TOk K C E Γ Δ tc fc)(h1:SOk K C E mr Γl Δl Γ Δ Γ' Δ' t f)(h2:SOk K C E mr Γl Δl Γ Δ Γ' Δ' u g):SOk K C E mr Γl Δl Γ Δ Γ' Δ' (tIfS tc t u) (Dl.sIf fc f g):=fun H0 Hb H σ ρ A D I p =>
  hc H0 Hb H σ ρ A _ I (Post.imp (Post.bind p) (fun b q H1 g1=>by
    cases b with
    | true=>exact h1 H0 Hb H1 σ ρ A D (I.mono g1) q
    | false=>exact h2 H0 Hb H1 σ ρ A D (I.mono g1) q) fun c x q H' g'=>q H' (Same.from0 I g'))
theorem slot_lst {H0 Hb H:Hp}{σ:St}{ρ:DEnv}{A:Nat→List Addr}{i:Nat}{ds:List D}(I:EnvOk K C H0 Hb H Γ Δ σ ρ A)(e:ρ[i]?=some (some (.lst ds))):∃a xs l,σ[i]?=some (some (.ref a))∧H a=some (.lst xs)∧RpA K C H ds xs l∧A i=a::l∧i<ρ.length:=by
 obtain ⟨v,q1,a,xs,l,rfl,q3,q4,q5⟩:=I.rep i _ e
 exact ⟨a,xs,l,q1,q3,q4,q5,(List.getElem?_eq_some_iff.mp e).1⟩
theorem sok_app2 {i:Nat}{te:TE}{fe:FE}(hi:autoParam (i∈Γ) aT1._auto_1)(he:EOk K C E Γ Δ 2 [] te fe):SOk K C E mr Γl Δl Γ Δ Γ Δ (tDrop (tBM K "list" rAppend (tVar i) (tCons te tNil))) (Dl.sApp i fe):=fun H0 Hb H σ ρ A D I p=>by
  unfold Dl.sApp at p
  split at p
  · rename_i ds e
    obtain ⟨a,xs,l,s1,h1,r1,hA,hl⟩:=slot_lst I e
    refine ⟨.ref a,s1,.inl ⟨rfl,xs,SqL.of h1⟩,he H0 Hb H σ ρ A _ I (Post.imp (Post.bind p) (fun d q v H1 g1 r=>?_) fun c x q H' g'=>q H' (Same.from0 I g'))⟩
    split at q
    · rename_i hz
      obtain ⟨B,r2,r3,_,r4⟩:=r
      have hn:∀a∈B,H a=none:=fun a ha=>(r3 a ha).elim id fun z=>z.none.elim
      have h1':=g1 _ _ h1
      show rAppend (.ref a) [v] H1 fun _ H3=>D.nx σ H3
      refine rd_app h1' (by rw [r1.len];exact limLine' hz) ?_
      obtain ⟨tb,ta,tt⟩:=I.top i hi a l hA
      have I1:=I.mono g1
      have haB:a∉B:=fun z=>by
        have:=hn a z
        rw [h1] at this
        cases this
      have w1:∀b∈l++B,H0 b=none:=fun b hb=>by
        rcases List.mem_append.mp hb with z | z
        · exact I.loc i hi b (by rw [hA];exact .tail _ z)
        · exact I.s0.free (I.same.free (hn b z))
      have w2:∀j∈Γ,j≠i→j∈Γ∧∀b l',A j=b::l'→b∉l++B:=fun j hj e=>⟨hj,fun b l' e' z=>by
        rcases List.mem_append.mp z with z | z
        · exact (I.top j hj b l' e').2.2 i (fun w=>e w.symm) (by rw [hA];exact .tail _ z)
        · exact I.ne (j:=j) (by rw [e'];exact .head _) (hn b z)⟩
      have w3:∀j∈Δ,j≠i→j∈Δ∧∀b∈A j,b∉l++B:=fun j hj e=>⟨hj,fun b hb z=>by
        rcases List.mem_append.mp z with z | z
        · exact (I.deep j hj).2.1 i (fun w=>e w.symm) b hb (by rw [hA];exact .tail _ z)
        · exact I.ne hb (hn b z)⟩
      have w4:i∈Δ→(l++B).Nodup∧(∀j,j≠i→∀b∈l++B,b∉A j)∧∀b∈l++B,Hb b=none:=fun hd=>by
        obtain ⟨d1,d2,d3⟩:=I.deep i hd
        rw [hA] at d1 d2 d3
        refine ⟨List.nodup_append.mpr ⟨(List.nodup_cons.mp d1).2,r4 rfl,fun x hx y hy e=>?_⟩,fun j hj b hb=>?_,fun b hb=>?_⟩
        · subst e
          exact I.ne (j:=i) (by rw [hA];exact .tail _ hx) (hn x hy)
        · rcases List.mem_append.mp hb with z | z
          · exact d2 j hj b (.tail _ z)
          · exact fun w=>I.ne w (hn b z)
        · rcases List.mem_append.mp hb with z | z
          · exact d3 b (.tail _ z)
          · exact I.same.free (hn b z)
      obtain ⟨A',I'⟩:=I1.write (Γ':=Γ) (Δ':=Δ) hi hA hl s1 ((r1.same g1).app (RpA.one r2)) w1 (fun z=>(List.mem_append.mp z).elim ta haB) w2 w3 w4
      exact q _ _ A' I'
    · exact q.elim
  · exact p.elim
end
end L2
namespace L2
open PySem PySem.Spec PyProof.Rows
open Dl (D R FE FT FA FO FS FI FB Fl)
section
variable {K:PySem.W.Frag}{C:String→Addr}{E:XK}{Γ Δ Γ' Δ' Γ1 Δ1 Γl Δl Γk Δk:List Nat}{m m1 m2 m3 mr:Nat}{S S1 S2 S3:List (Nat×Bool)}{H:Hp}{Q:VK}
noncomputable def BOk (K:PySem.W.Frag)(C:String→Addr)(Γ Δ:List Nat)(g:TG)(b:FB):Prop:=∀(H0 Hb H:Hp) (σ:St) (ρ:DEnv) (A:Nat→List Addr) (d:D) (v:V) (B:List Addr) (Rr:St→Hp→Prop),EnvOk K C H0 Hb H Γ Δ σ ρ A→Rp K C H d v B→(∀a∈B,Hb a≠none)→
 Post (b d ρ) (fun ρ'=>∀σ' A',EnvOk K C H0 Hb H Γ Δ σ' ρ' A'→Rr σ' H) (fun _ _=>False)→g v σ H Rr
noncomputable def BsOk (K:PySem.W.Frag)(C:String→Addr)(Γ Δ:List Nat)(g:TGs)(b:List D→DEnv→R DEnv):Prop:=∀(H0 Hb H:Hp) (σ:St) (ρ:DEnv) (A:Nat→List Addr) (d:List D) (v:List V) (B:List Addr) (Rr:St→Hp→Prop),EnvOk K C H0 Hb H Γ Δ σ ρ A→RpA K C H d v B→(∀a∈B,Hb a≠none)→
 Post (b d ρ) (fun ρ'=>∀σ' A',EnvOk K C H0 Hb H Γ Δ σ' ρ' A'→Rr σ' H) (fun _ _=>False)→g v σ H Rr
theorem bok_name {i:Nat}(h1:autoParam (i∉Γ) aT1._auto_1)(h2:autoParam (i∉Δ) aT1._auto_1):BOk K C Γ Δ (gName i) (Dl.bName i):=fun H0 Hb H σ ρ A d v B Rr I r hB p=>by
 obtain ⟨A',I',_⟩:=I.put (Γ':=Γ) (Δ':=Δ) (i:=i) r (fun j hj e=>⟨hj,fun a l e' ha=>hB a ha (I.top j hj a l e').1⟩) (fun hj=>absurd hj h1) (fun j hj e=>⟨hj,fun a ha hb=>hB a hb ((I.deep j hj).2.2 a ha)⟩) (fun hj=>absurd hj h2)
 exact p _ A' I'
theorem bok_nil:BsOk K C Γ Δ gNil Dl.bNil:=fun H0 Hb H σ ρ A d v B Rr I r hB p=>by
 cases d with
 | nil=>exact ⟨r.1,p _ A I⟩
 | cons _ _=>exact p.elim
theorem bok_cons {g:TG}{gs:TGs}{b:FB}{bs:List D→DEnv→R DEnv}(h1:BOk K C Γ Δ g b)(h2:BsOk K C Γ Δ gs bs):BsOk K C Γ Δ (gCons g gs) (Dl.bCons b bs):=fun H0 Hb H σ ρ A d v B Rr I r hB p=>by
 cases d with
 | nil=>exact p.elim
 | cons d ds =>
  obtain ⟨x,l,B1,B2,e1,e2,e3,e4⟩:=r
  subst e1 e4
  refine ⟨x,l,rfl,h1 H0 Hb H σ ρ A d x B1 _ I e2 (fun a ha=>hB a (List.mem_append_left _ ha)) (Post.imp (Post.bind p) (fun ρ1 q σ1 A1 I1=>?_) fun _ _ z=>z)⟩
  exact h2 H0 Hb H σ1 ρ1 A1 ds l B2 Rr I1 e3 (fun a ha=>hB a (List.mem_append_right _ ha)) q
theorem bok_tup {gs:TGs}{bs:List D→DEnv→R DEnv}{n:Nat}(hn:∀ds ρ ρ',bs ds ρ=.ok ρ'→ds.length=n)(h:BsOk K C Γ Δ gs bs):BOk K C Γ Δ (gTup K n gs) (Dl.bTup bs):=fun H0 Hb H σ ρ A d v B Rr I r hB p=>by
 cases d with
 | tup ds =>
  obtain ⟨a,xs,rfl,e2,e3⟩:=r
  have hl:xs.length=n:=by
   rw [e3.len]
   have p':Post (bs ds ρ) (fun ρ'=>∀σ' A',EnvOk K C H0 Hb H Γ Δ σ' ρ' A'→Rr σ' H) (fun _ _=>False):=p
   cases e:bs ds ρ with
   | ok ρ'=>exact hn ds ρ ρ' e
   | err _ _=>rw [e] at p';exact p'.elim
   | bad=>rw [e] at p';exact p'.elim
  exact ⟨a,xs,rfl,SqT.of e2,hl,h H0 Hb H σ ρ A ds xs B Rr I e3 hB p⟩
 | _=>exact p.elim
theorem bn_nil (ds:List D)(ρ ρ':DEnv)(h:Dl.bNil ds ρ=.ok ρ'):ds.length=0:=by
 cases ds with
 | nil=>rfl
 | cons _ _=>cases h
theorem bn_cons {n:Nat}{b:FB}{bs:List D→DEnv→R DEnv}(hb:∀ds ρ ρ',bs ds ρ=.ok ρ'→ds.length=n)(ds:List D)(ρ ρ':DEnv)(h:Dl.bCons b bs ds ρ=.ok ρ'):ds.length=n+1:=by
 cases ds with
 | nil=>cases h
 | cons d ds =>
  have h:((b d ρ).bind fun ρ'=>bs ds ρ')=.ok ρ':=h
  cases e:b d ρ with
  | ok ρ1 =>
   rw [e] at h
   rw [List.length_cons,hb ds ρ1 ρ' h]
  | err _ _=>rw [e] at h;cases h
  | bad=>rw [e] at h;cases h
noncomputable def ownAt (A:Nat→List Addr)(Γ Δ:List Nat):List Addr:=Γ.flatMap (fun i=>(A i).take 1)++Δ.flatMap A
theorem mem_own {A:Nat→List Addr}{a:Addr}(h:a∈ownAt A Γ Δ):(∃i∈Γ,∃l,A i=a::l)∨∃i∈Δ,a∈A i:=by
 rcases List.mem_append.mp h with h | h
 ·obtain ⟨i,hi,h⟩:=List.mem_flatMap.mp h
  left
  refine ⟨i,hi,?_⟩
  cases e:A i with
  | nil=>rw [e] at h;cases h
  | cons b l =>
   rw [e] at h
   simp only [List.take_succ_cons,List.take_zero,List.mem_singleton] at h
   rw [h]
   exact ⟨l,rfl⟩
 ·obtain ⟨i,hi,h⟩:=List.mem_flatMap.mp h
  exact .inr ⟨i,hi,h⟩
theorem own_top {A:Nat→List Addr}{i:Nat}(hi:i∈Γ){a:Addr}{l:List Addr}(e:A i=a::l):a∈ownAt A Γ Δ:=List.mem_append_left _ (List.mem_flatMap.mpr ⟨i,hi,by rw [e];simp⟩)
theorem own_deep {A:Nat→List Addr}{i:Nat}(hi:i∈Δ){a:Addr}(h:a∈A i):a∈ownAt A Γ Δ:=List.mem_append_right _ (List.mem_flatMap.mpr ⟨i,hi,h⟩)
theorem forD_split (b:FB)(s:FS)(xs:List D){i:Nat}{x:D}(h:xs[i]?=some x)(ρ:DEnv):Dl.forD b s (xs.drop i) ρ=(b x ρ).calm.bind fun ρ1=>(s ρ1).bind fun fl=>match fl with
  | .nx ρ2=>Dl.forD b s (xs.drop (i+1)) ρ2
  | .cnt ρ2=>Dl.forD b s (xs.drop (i+1)) ρ2
  | .brk ρ2=>.ok (.nx ρ2)
  | .ret d=>.ok (.ret d):=by
 obtain ⟨hi,rfl⟩:=List.getElem?_eq_some_iff.mp h
 rw [List.drop_eq_getElem_cons hi]
 rfl
theorem sok_for {wi:TI}{g:TG}{tb:TS}{fi:FI}{fb:FB}{fs:FS}(hi:IOk K C E Γ Δ S wi fi)(hb:BOk K C Γl Δl g fb)(hs:SOk K C E mr Γl Δl Γl Δl Γl Δl tb fs)
    (h1:autoParam (∀i∈Γl,i∈Γ) aT1._auto_1) (h2:autoParam (∀i∈Δl,i∈Δ) aT1._auto_1) (h3:autoParam (∀p∈S,p.1∉Γl∧p.1∉Δl) aT1._auto_1):SOk K C E mr Γk Δk Γ Δ Γl Δl (tFor wi g tb) (Dl.sFor fi fb fs):=fun H0 Hb H σ ρ A D I p=>by
  refine hi H0 Hb H σ ρ A _ I (Post.imp (Post.bind p) (fun ds q J H1 W g1 hW hlen hJ=>?_) fun c x q H' g'=>q H' (Same.from0 I g'))
  have I1:=(I.mono g1).weak h1 h2
  have hlst:∀a∈ownAt A Γl Δl,∃o,H1 a=some o∧IsM o:=fun a ha=>by
    rcases mem_own ha with ⟨i,_,l,e⟩ | ⟨i,_,e⟩
    · exact I1.is (j:=i) (by rw [e];exact .head _)
    · exact I1.is e
  have hbn:∀a∈ownAt A Γl Δl,Hb a=none:=fun a ha=>by
    rcases mem_own ha with ⟨i,hi,l,e⟩ | ⟨i,hi,e⟩
    · exact (I1.top i hi a l e).1
    · exact (I1.deep i hi).2.2 a e
  have hout:∀a∈W,a∉ownAt A Γl Δl:=fun a ha ho=>by
    rcases (hW a ha).2 with z | z
    · rcases mem_own ho with ⟨i,hi,l,e⟩ | ⟨i,hi,e⟩
      · exact I.ne (j:=i) (by rw [e];exact .head _) z
      · exact I.ne e z
    · rcases mem_own ho with ⟨i,hi,l,e⟩ | ⟨i,hi,e⟩
      · exact I1.top_out hi (fun h=>(h3 _ h).1 hi) e z
      · exact I1.deep_out hi (fun p hp e'=>(h3 p hp).2 (by rw [e'];exact hi)) e z
  let Hc:Hp:=fun b=>if b∈ownAt A Γl Δl then none else H1 b
  have c1:Same Hc H1:=fun b o h=>by
    show H1 b=some o
    have h:(if b∈ownAt A Γl Δl then none else H1 b)=some o:=h
    split at h
    · cases h
    · exact h
  have c2:Same Hb Hc:=fun b o h=>by
    show (if b∈ownAt A Γl Δl then none else H1 b)=some o
    rw [if_neg fun ho=>by rw [hbn b ho] at h;cases h]
    exact I1.same b o h
  have c3:∀a,a∉ownAt A Γl Δl→Hc a=H1 a:=fun a ha=>if_neg ha
  have c4:∀a∈ownAt A Γl Δl,Hc a=none:=fun a ha=>if_pos ha
  have I2:EnvOk K C H0 Hc H1 Γl Δl σ ρ A:=⟨I1.s0.trans c2,c1,I1.len,I1.rep,I1.nil,I1.loc,fun i hi a l e=>⟨c4 a (own_top hi e),(I1.top i hi a l e).2⟩,fun i hi=>⟨(I1.deep i hi).1,(I1.deep i hi).2.1,fun a ha=>c4 a (own_deep hi ha)⟩⟩
  have back:∀{σ':St} {ρ':DEnv} {H':Hp} {A':Nat→List Addr},EnvOk K C H0 Hc H' Γl Δl σ' ρ' A'→EnvOk K C H0 Hb H' Γl Δl σ' ρ' A':=fun I' =>
    ⟨I1.s0,c2.trans I'.same,I'.len,I'.rep,I'.nil,I'.loc,fun i hi a l e=>⟨c2.free (I'.top i hi a l e).1,(I'.top i hi a l e).2⟩,fun i hi=>⟨(I'.deep i hi).1,(I'.deep i hi).2.1,fun a ha=>c2.free ((I'.deep i hi).2.2 a ha)⟩⟩
  have go:Goes K C J ds Hc:=hJ Hc ⟨fun a ha=>c3 a (hout a ha),fun b o h hn=>(c3 b fun ho=>by
    obtain ⟨xs,e,hm⟩:=hlst b ho
    rw [e] at h
    cases h
    exact hn hm).trans h⟩
  refine for_gen go (fun k σ' H'=>∃ρ' A',EnvOk K C H0 Hc H' Γl Δl σ' ρ' A'∧PostS K C E mr Γk Δk Γl Δl H0 Hb D (Dl.forD fb fs (ds.drop k) ρ')) ⟨ρ,A,I2,q⟩ (fun _ _ _ ⟨_,_,I',_⟩=>I'.same) ?_ ?_
  · rintro k d x Bx σ' Ha H' hd ⟨ρ',A',Ia,pq⟩ ga rx hBx
    have I':=Ia.mono ga
    rw [forD_split _ _ _ hd] at pq
    have pq':=calm_of (Post.bind pq)
    refine hb H0 Hc H' σ' ρ' A' d x Bx _ I' rx hBx (Post.imp pq' (fun ρ1 pq σ1 A1 I1'=>?_) fun _ _ z=>z)
    refine hs H0 Hc H' σ1 ρ1 A1 _ I1' (Post.imp (Post.bind pq) (fun fl pq=>?_) fun _ _ z=>z)
    cases fl with
    | nx ρ2=>exact fun σ2 H2 A2 I2'=>⟨ρ2,A2,I2',pq⟩
    | cnt ρ2=>exact fun σ2 H2 A2 I2'=>⟨ρ2,A2,I2',pq⟩
    | brk ρ2=>exact fun σ2 H2 A2 I2'=>pq σ2 H2 A2 (back I2')
    | ret d=>exact pq
  · rintro σ' H' ⟨ρ',A',I',pq⟩
    rw [List.drop_length] at pq
    exact pq σ' H' A' (back I')
theorem sok_while {n:Nat}{tc:TT}{tb:TS}{fc:FT}{fs:FS}(hc:TOk K C E Γ Δ tc fc)(hs:SOk K C E mr Γ Δ Γ Δ Γ Δ tb fs):SOk K C E mr Γk Δk Γ Δ Γ Δ (tWhile tc tb) (Dl.sWhile n fc fs):=fun H0 Hb H σ ρ A D I p=>by
 refine ⟨fun k σ' H'=>∃ρ' A',EnvOk K C H0 Hb H' Γ Δ σ' ρ' A'∧PostS K C E mr Γk Δk Γ Δ H0 Hb D (Dl.whileD fc fs k ρ'),⟨n,ρ,A,I,p⟩,?_⟩
 rintro k σ' H' ⟨ρ',A',I',pq⟩
 cases k with
 | zero=>exact pq.elim
 | succ k =>
  refine hc H0 Hb H' σ' ρ' A' _ I' (Post.imp (Post.bind pq) (fun b pq H1 g1=>?_) fun c x q H' g'=>q H' (Same.from0 I' g'))
  cases b with
  | false =>
   simp only [Bool.false_eq_true,if_false] at pq ⊢
   exact pq σ' H1 A' (I'.mono g1)
  | true =>
   simp only [if_true] at pq ⊢
   refine ⟨fun σ2 H2=>∃ρ2 A2,EnvOk K C H0 Hb H2 Γ Δ σ2 ρ2 A2∧PostS K C E mr Γk Δk Γ Δ H0 Hb D (Dl.whileD fc fs k ρ2),fun σ2 H2 h=>⟨k,Nat.lt_succ_self k,h⟩,?_⟩
   refine hs H0 Hb H1 σ' ρ' A' _ (I'.mono g1) (Post.imp (Post.bind pq) (fun fl pq=>?_) fun _ _ z=>z)
   cases fl with
   | nx ρ2=>exact fun σ2 H2 A2 I2'=>⟨ρ2,A2,I2',pq⟩
   | cnt ρ2=>exact fun σ2 H2 A2 I2'=>⟨ρ2,A2,I2',pq⟩
   | brk ρ2=>exact fun σ2 H2 A2 I2'=>pq σ2 H2 A2 I2'
   | ret d=>exact pq
theorem start_env {N:Nat}{ds:List D}{vs:List V}{B:List Addr}{H:Hp}(r:RpA K C H ds vs B):∃A,EnvOk K C H H H [] [] (vs.map some++List.replicate (N - vs.length) none) (ds.map some++List.replicate (N - ds.length) none) A:=by
 have hl:=r.len
 have key:∀{ds:List D} {vs:List V} {B:List Addr},RpA K C H ds vs B→∃A:Nat→List Addr,(∀(i:Nat) d,ds[i]?=some d→∃v,vs[i]?=some v∧Rp K C H d v (A i))∧∀i,ds.length≤i→A i=[]:=by
  intro ds
  induction ds with
  | nil=>intro vs B r;exact ⟨fun _=>[],fun i d h=>by simp at h,fun _ _=>rfl⟩
  | cons d ds ih =>
   intro vs B r
   obtain ⟨x,l,B1,B2,e1,e2,e3,e4⟩:=r
   obtain ⟨A,h1,h2⟩:=ih e3
   subst e1
   refine ⟨fun i=>match i with | 0=>B1 | i+1=>A i,fun i d' h=>?_,fun i h=>?_⟩
   ·cases i with
    | zero=>simp at h;subst h;exact ⟨x,rfl,e2⟩
    | succ i=>simp at h;obtain ⟨v,q1,q2⟩:=h1 i d' h;exact ⟨v,by simpa using q1,q2⟩
   ·cases i with
    | zero=>simp at h
    | succ i=>exact h2 i (by simpa using h)
 obtain ⟨A,h1,h2⟩:=key r
 refine ⟨A,Same.refl _,Same.refl _,by simp [hl],fun i d h=>?_,fun i h=>?_,(fun _ h=>nomatch h),(fun _ h=>nomatch h),(fun _ h=>nomatch h)⟩
 ·by_cases hi:i<ds.length
  ·rw [List.getElem?_append_left (by simpa using hi),List.getElem?_map] at h
   obtain ⟨d',hd,e⟩:=Option.map_eq_some_iff.mp h
   cases e
   obtain ⟨v,q1,q2⟩:=h1 i d hd
   refine ⟨v,?_,q2⟩
   rw [List.getElem?_append_left (by simp [hl,hi]),List.getElem?_map,q1]
   rfl
  ·rw [List.getElem?_append_right (by simpa using hi)] at h
   have:=List.mem_of_getElem? h
   rw [List.mem_replicate] at this
   exact absurd this.2 (by intro z;cases z)
 ·by_cases hi:i<ds.length
  ·exact absurd (by rw [List.getElem?_append_left (by simpa using hi),List.getElem?_map,List.getElem?_eq_getElem hi];rfl) (h ds[i])
  ·exact h2 i (by omega)
theorem run_post {N:Nat}{t:TS}{f:FS}{E:XK}{ds:List D}{vs:List V}{B:List Addr}{H:Hp}{Q:VK}(h:SOk K C E mr [] [] [] [] Γ' Δ' t f)(r:RpA K C H ds vs B)
  (p:Post (Dl.run N f ds) (fun d=>∀v H',Same H H'→Res K C mr [] H (fun _=>[]) d v H'→Q v H') (fun c x=>∀H',Same H H'→EC C E c x H')) :
  t { nx:=fun _ H'=>Q .non H',rt:=Q } (vs.map some++List.replicate (N - vs.length) none) H:=by
 obtain ⟨A,I⟩:=start_env (N:=N) r
 refine h H H H _ _ A _ I (Post.imp (Post.bind p) (fun fl q=>?_) fun _ _ q=>q)
 cases fl with
 | nx ρ'=>exact fun σ' H' A' I'=>q _ H' I'.same (Res.flat ⟨rfl,rfl⟩)
 | ret d=>exact q
 | brk _=>exact q.elim
 | cnt _=>exact q.elim
end
end L2
namespace L2
open PySem PySem.Spec PyProof.Rows
open Dl (D R FE FT FA FO FS FI FB Fl)
structure JE (X:Cx)(C:String→Addr)(E:XK)(Γ Δ:List Nat)(m:Nat)(S:List (Nat×Bool))(e:Expr)(t:TE)(f:FE):Prop where
 q:QE X e t
 o:EOk X.K C E Γ Δ m S t f
structure JT (X:Cx)(C:String→Addr)(E:XK)(Γ Δ:List Nat)(e:Expr)(t:TT)(f:FT):Prop where
 q:QT X e t
 o:TOk X.K C E Γ Δ t f
structure JW (X:Cx)(C:String→Addr)(E:XK)(Γ Δ:List Nat)(e:Expr)(t:TT)(f:FT):Prop where
 q:QW X e t
 o:TOk X.K C E Γ Δ t f
structure JA (X:Cx)(C:String→Addr)(E:XK)(Γ Δ:List Nat)(m:Nat)(S:List (Nat×Bool))(e:List Expr)(n:Nat)(t:TA)(f:FA):Prop where
 q:QA X e t
 o:AOk X.K C E Γ Δ m S t f
 n:∀ρ ds,f ρ=.ok ds→ds.length=n
structure JO (X:Cx)(C:String→Addr)(E:XK)(Γ Δ:List Nat)(e:Option Expr)(t:TO)(f:FO):Prop where
 q:QO X e t
 o:OOk X.K C E Γ Δ t f
structure JI (X:Cx)(C:String→Addr)(E:XK)(Γ Δ:List Nat)(S:List (Nat×Bool))(tg e:Expr)(t:TI)(f:FI):Prop where
 q:QI X tg e t
 o:IOk X.K C E Γ Δ S t f
structure JG (X:Cx)(C:String→Addr)(Γ Δ:List Nat)(e:Expr)(t:TG)(f:FB):Prop where
 q:QG X e t
 o:BOk X.K C Γ Δ t f
structure JGs (X:Cx)(C:String→Addr)(Γ Δ:List Nat)(es:List Expr)(n:Nat)(t:TGs)(f:List D→DEnv→R DEnv):Prop where
 q:QGs X es t
 o:BsOk X.K C Γ Δ t f
 n:∀ds ρ ρ',f ds ρ=.ok ρ'→ds.length=n
structure JS (X:Cx)(C:String→Addr)(E:XK)(mr:Nat)(Γl Δl Γ Δ Γ' Δ':List Nat)(s:Stmt)(t:TS)(f:FS):Prop where
 q:QS X s t
 o:SOk X.K C E mr Γl Δl Γ Δ Γ' Δ' t f
structure JSs (X:Cx)(C:String→Addr)(E:XK)(mr:Nat)(Γl Δl Γ Δ Γ' Δ':List Nat)(s:List Stmt)(t:TS)(f:FS):Prop where
 q:QSs X s t
 o:SOk X.K C E mr Γl Δl Γ Δ Γ' Δ' t f
structure JIf (X:Cx)(C:String→Addr)(E:XK)(Γ Δ:List Nat)(e:List Expr)(t:TT)(f:FT):Prop where
 q:QIf X e t
 o:TOk X.K C E Γ Δ t f
section
variable {X:Cx}{C:String→Addr}{E:XK}{Γ Δ Γ' Δ' Γ1 Δ1 Γl Δl Γk Δk:List Nat}{m m1 m2 m3 mr:Nat}{S S1 S2 S3:List (Nat×Bool)}{a b c e st o tg iter:Expr}{es rest:List Expr}{ta tb tc te ts:TE}{fa fb fc fe fs:FE}{t:TA}{f:FA}{pos p p2 apos cpos:Pos}{n:Nat}
theorem Zae {i:Int}{j:Nat}:JE X C E Γ Δ 2 [] (.Constant (.int i) j pos) (tC (.int i)) (Dl.fC (.int i)):=⟨qe_int,eok_c fun _=>rpI⟩
theorem ce_bl {i:Bool}{j:Nat}:JE X C E Γ Δ 2 [] (.Constant (.bool i) j pos) (tC (.bl i)) (Dl.fC (.bl i)):=⟨qe_bl,eok_c fun _=>rpB⟩
theorem Zbv {x:Str}{j:Nat}(h:PyData.strOk x=true:=by decide +kernel):JE X C E Γ Δ 2 [] (.Constant (.str x) j pos) (tC (.str x)) (Dl.fC (.str x)):=⟨qe_str,eok_c fun _=>⟨rfl,h,rfl⟩⟩
theorem Zai (i:Nat){x:Str}(hN:autoParam (X.N[i]?=some x) aT2._auto_1)(hv:autoParam (Vis X.env.scope x) aT3._auto_1)(hd:autoParam ((x==("__debug__":Str))=false) aT1._auto_1)
  (hcd:autoParam ((x==("__classdict__":Str))=false) aT1._auto_1):JE X C E Γ Δ 0 [(i,false)] (.Name x pos) (tVar i) (Dl.fV i):=⟨qv i hN hv hd hcd,eok_v⟩
theorem Zgc (i:Nat){x:Str}(hi:autoParam (i∈Δ) aT1._auto_1)(hN:autoParam (X.N[i]?=some x) aT2._auto_1)(hv:autoParam (Vis X.env.scope x) aT3._auto_1)(hd:autoParam ((x==("__debug__":Str))=false) aT1._auto_1)
  (hcd:autoParam ((x==("__classdict__":Str))=false) aT1._auto_1):JE X C E Γ Δ 2 [(i,false)] (.Name x pos) (tVar i) (Dl.fV i):=⟨qv i hN hv hd hcd,eok_vd hi⟩
theorem Zbd (h:JE X C E Γ Δ m S e te fe):JE X C E Γ Δ 2 [] e te (Dl.f1 Dl.gFlat fe):=⟨h.q,eok_flat h.o⟩
theorem Zan {op:Operator}{r:R2}{g:D→D→Option D}(ho:OpR X (binaryOp op) r)(hg:GOk X.K C r g)(ha:JE X C E Γ Δ m1 S1 a ta fa)(hb:JE X C E Γ Δ m2 S2 b tb fb):JE X C E Γ Δ 2 [] (.BinOp a op b pos) (tOp r ta tb) (Dl.f2 g fa fb):=⟨qe_op ho ha.q hb.q,eok_op hg ha.o hb.o⟩
theorem Zer (ha:JE X C E Γ Δ m1 S1 a ta fa):JE X C E Γ Δ 2 [] (.UnaryOp .USub a pos) (tUn (rU fun i=>.int (-i)) ta) (Dl.f1 Dl.gNeg fa):=⟨qe_un un_neg ha.q,eok_un (fun H x d vx Bx Q r e q=>by
  unfold Dl.gNeg at e
  split at e
  · cases e
    obtain ⟨rfl,_⟩:=r
    exact rd_U (Out.flat q rpI)
  · cases e) ha.o⟩
theorem ce_cmp {op:CmpOp}{r:R2}{g:D→D→Option D}(ho:OpR X (compareOp op) r)(hg:GOk X.K C r g)(ha:JE X C E Γ Δ m1 S1 a ta fa)(hb:JE X C E Γ Δ m2 S2 b tb fb)(hm:behindInMarks op b=false):JE X C E Γ Δ 2 [] (.Compare a [op] [b] pos) (tOp r ta tb) (Dl.f2 g fa fb):=⟨qe_cmpR ho ha.q hb.q hm,eok_op hg ha.o hb.o⟩
theorem Zbr {op:CmpOp}{r:R2}{g:D→D→Option D}(ho:OpR X (compareOp op) r)(hg:GOk X.K C r g)(ha:JE X C E Γ Δ m1 S1 a ta fa)(hb:JE X C E Γ Δ m2 S2 b tb fb)(hm:behindInMarks op b=false):JT X C E Γ Δ (.Compare a [op] [b] pos) (tTest (tOp r ta tb)) (Dl.cE (Dl.f2 g fa fb)):=⟨qt_cmpR ho ha.q hb.q hm,tok_test (eok_op hg ha.o hb.o)⟩
theorem ce_one {op:BoolOp}(h:JE X C E Γ Δ m S a ta fa):JE X C E Γ Δ m S (.BoolOp op [a] pos) ta fa:=⟨qe_one h.q,h.o⟩
theorem ce_and (ha:JE X C E Γ Δ m1 S1 a ta fa)(hb:JE X C E Γ Δ m S (.BoolOp .And (b::rest) pos) tb fb):JE X C E Γ Δ m S (.BoolOp .And (a::b::rest) pos) (tAndV ta tb) (Dl.fAnd fa fb):=⟨qe_and ha.q hb.q,eok_and ha.o hb.o⟩
theorem ce_not (ha:JE X C E Γ Δ m1 S1 a ta fa):JE X C E Γ Δ 2 [] (.UnaryOp .Not a pos) (tNotV ta) (Dl.f1 Dl.gNot fa):=⟨qe_not ha.q,eok_not ha.o⟩
theorem Zes (h:JE X C E Γ Δ m S e te fe)(he:∀whole,isTrue e X.env whole=(do let v ← whole;standAt e.pos;holding [v] (truthy v)):=by intro _;rfl):JT X C E Γ Δ e (tB te) (Dl.cE fe):=⟨qt_val h.q he,tok_B h.o⟩
theorem ct_not {tA:TT}{fA:FT}(ha:JT X C E Γ Δ a tA fA):JT X C E Γ Δ (.UnaryOp .Not a pos) (tNot tA) (Dl.cNot fA):=⟨qt_not ha.q,tok_not ha.o⟩
theorem cw_and1 {tA:TT}{fA:FT}(ha:JT X C E Γ Δ a tA fA):JW X C E Γ Δ (.BoolOp .And [a] pos) tA fA:=⟨qw_and1 ha.q,ha.o⟩
theorem cw_or1 {tA:TT}{fA:FT}(ha:JT X C E Γ Δ a tA fA):JW X C E Γ Δ (.BoolOp .Or [a] pos) tA fA:=⟨qw_or1 ha.q,ha.o⟩
theorem cw_and {tA tB':TT}{fA fB:FT}(ha:JT X C E Γ Δ a tA fA)(hb:JW X C E Γ Δ (.BoolOp .And (b::rest) pos) tB' fB):JW X C E Γ Δ (.BoolOp .And (a::b::rest) pos) (tAnd tA tB') (Dl.cAnd fA fB):=⟨qw_and ha.q hb.q,tok_and ha.o hb.o⟩
theorem cw_or {tA tB':TT}{fA fB:FT}(ha:JT X C E Γ Δ a tA fA)(hb:JW X C E Γ Δ (.BoolOp .Or (b::rest) pos) tB' fB):JW X C E Γ Δ (.BoolOp .Or (a::b::rest) pos) (tOr tA tB') (Dl.cOr fA fB):=⟨qw_or ha.q hb.q,tok_or ha.o hb.o⟩
theorem ct_w {tA:TT}{fA:FT}(h:JW X C E Γ Δ a tA fA):JT X C E Γ Δ a tA fA:=⟨qt_w h.q,h.o⟩
theorem Zah:JA X C E Γ Δ 2 [] [] 0 tNil Dl.aNil:=⟨qa_nil,aok_nil,len_nil⟩
theorem Zac (ha:JE X C E Γ Δ m1 S1 e te fe)(hr:JA X C E Γ Δ m2 S2 es n t f)(hs:starEach (e::es) X.env=(false,eval e X.env)::starEach es X.env):JA X C E Γ Δ 0 (S1++S2) (e::es) (n+1) (tCons te t) (Dl.aCons fe f):=⟨qa_cons ha.q hr.q hs,aok_cons ha.o hr.o,len_cons hr.n⟩
theorem Zaf (ha:JE X C E Γ Δ 2 [] e te fe)(hr:JA X C E Γ Δ 2 [] es n t f)(hs:starEach (e::es) X.env=(false,eval e X.env)::starEach es X.env):JA X C E Γ Δ 2 [] (e::es) (n+1) (tCons te t) (Dl.aCons fe f) :=
 ⟨qa_cons ha.q hr.q hs,aok_consD (S1:=[]) (S2:=[]) ha.o hr.o (fun _ h=>nomatch h) (fun _ h=>nomatch h),len_cons hr.n⟩
theorem Zeg {x1:Nat}(h:JA X C E Γ Δ 2 S es n t f):JE X C E Γ Δ 2 S (.Tuple es x1 pos) (tTup t) (Dl.fA Dl.gTup f):=⟨qe_tup h.q,eok_tup (.inr rfl) h.o⟩
theorem ce_tup0 {x1:Nat}(h:JA X C E Γ Δ 0 S es n t f):JE X C E Γ Δ 0 S (.Tuple es x1 pos) (tTup t) (Dl.fA Dl.gTup f):=⟨qe_tup h.q,eok_tup (.inl rfl) h.o⟩
theorem Zbi (h:JA X C E Γ Δ 2 S es n t f):JE X C E Γ Δ 2 S (.List es pos) (tLst t) (Dl.fA Dl.gLst f):=⟨qe_lst h.q,eok_lst h.o⟩
theorem Zgy (h:JA X C E Γ Δ m S es n t f):JE X C E Γ Δ 1 S (.List es pos) (tLst t) (Dl.fA Dl.gLst f):=⟨qe_lst h.q,eok_lst1 h.o⟩
theorem Zat (K:PySem.W.Frag)(ha:JE X C E Γ Δ m1 S1 a ta fa)(hb:JE X C E Γ Δ m2 S2 b tb fb)(hs:PlainIx b)(hK:autoParam (X.K=K) aT2._auto_1):JE X C E Γ Δ 0 S1 (.Subscript a b pos) (tOp (rIx K) ta tb) (Dl.f2 Dl.gIx fa fb):=by
 subst hK
 exact ⟨qe_ix ix_seq ha.q hb.q hs,eok_ix ha.o hb.o⟩
theorem co_none:JO X C E Γ Δ none tNoPart Dl.oNone:=⟨qo_none,ook_none⟩
theorem co_some (h:JE X C E Γ Δ m S e te fe):JO X C E Γ Δ (some e) (tPart te) (Dl.oSome fe):=⟨qo_some h.q,ook_some h.o⟩
theorem ce_sl (K:PySem.W.Frag){lo hi:Option Expr}{tl th:TO}{fl fh:FO}(he:JE X C E Γ Δ m S e te fe)(hl:JO X C E Γ Δ lo tl fl)(hu:JO X C E Γ Δ hi th fh)(hK:autoParam (X.K=K) aT2._auto_1):JE X C E Γ Δ 2 [] (.Subscript e (.Slice lo hi none p2) pos) (tSl (rSlL K) te tl th) (Dl.fSl Dl.gSl fe fl fh):=by
 subst hK
 exact ⟨qe_slice sl_list he.q hl.q hu.q,eok_sl he.o hl.o hu.o⟩
theorem Zax {K:PySem.W.Frag}{CX:CXT}{k:Nat}{ps:List Str}{F:List D→R D}{x:Str}(Df:Def X.prog X.w X.K X.mg X.base CX k x ps (spD K C n mr F))(hr:Room k X.A)(hg:Gl X x)(hx:Passes CX X E)
  (ha:JA X C E Γ Δ m S (e::es) n t f) (hdb:autoParam ((x==("__debug__":Str))=false) aT1._auto_1) (he:autoParam (starEach (e::es) X.env=(false,eval e X.env)::starEach es X.env) aT2._auto_1) (hpl:autoParam ((backTo pos (starEach es X.env)).any (·.1)=false) aT2._auto_1) (hK:autoParam (X.K=K) aT2._auto_1) :
  JE X C E Γ Δ mr [] (.Call (.Name x p) (e::es) [] pos) (tCall (spD K C n mr F) [] E t) (Dl.fCall F f):=by
 subst hK
 exact ⟨qe_callD Df hr hg hx ha.q hdb he hpl,Zhd ha.o ha.n⟩
theorem Zbc {x:Str}{id:String}{r:List V→Hp→VK→Prop}{g:List D→Option D}(hc:CallR X (.builtin id) r)(hgk:GAk X.K C r g)(hg:Gl X x)(hm:X.mg x=none)(hv:bootBuiltins x=some (.builtin id))(ha:JA X C E Γ Δ m S (e::es) n t f)(hn:autoParam (x≠"__name__") aT1._auto_1)(hdb:autoParam ((x==("__debug__":Str))=false) aT1._auto_1)
  (he:autoParam (starEach (e::es) X.env=(false,eval e X.env)::starEach es X.env) aT2._auto_1) (hpl:autoParam ((backTo pos (starEach es X.env)).any (·.1)=false) aT2._auto_1):JE X C E Γ Δ 2 [] (.Call (.Name x p) (e::es) [] pos) (tCB r t) (Dl.fA g f):=⟨qe_callB hc hg hm hv ha.q hn hdb he hpl,eok_cb hgk ha.o⟩
theorem Zee {x:Str}{T:String}{r:List V→Hp→VK→Prop}{g:List D→Option D}(hc:CallR X (.type T) r)(hgk:GAk X.K C r g)(hg:Gl X x)(hm:X.mg x=none)(hv:bootBuiltins x=some (.type T))(ha:JA X C E Γ Δ m S (e::es) n t f)(hn:autoParam (x≠"__name__") aT1._auto_1)(hdb:autoParam ((x==("__debug__":Str))=false) aT1._auto_1)
  (he:autoParam (starEach (e::es) X.env=(false,eval e X.env)::starEach es X.env) aT2._auto_1) (hpl:autoParam ((backTo pos (starEach es X.env)).any (·.1)=false) aT2._auto_1):JE X C E Γ Δ 2 [] (.Call (.Name x p) (e::es) [] pos) (tCB r t) (Dl.fA g f):=⟨qe_callTy hc hg hm hv ha.q hn hdb he hpl,eok_cb hgk ha.o⟩
theorem ci_list (h:JE X C E Γ Δ m S e te fe):JI X C E Γ Δ S tg e (iList X.K te) (Dl.jList fe):=⟨qi_list h.q,iok_list h.o⟩
theorem ci_rng1 (hg:Gl X "range")(hm:X.mg "range"=none)(ha:JA X C E Γ Δ m S [a] n t f)(hs:autoParam (starEach [a] X.env=[(false,eval a X.env)]) aT2._auto_1):JI X C E Γ Δ [] tg (.Call (.Name "range" p) [a] [] pos) (iRng1 t) (Dl.jRng1 f):=⟨qi_range1 hg hm ha.q hs,iok_rng1 ha.o⟩
theorem ci_rng2 (hg:Gl X "range")(hm:X.mg "range"=none)(ha:JA X C E Γ Δ m S [a,b] n t f)(hs:autoParam (starEach [a,b] X.env=[(false,eval a X.env),(false,eval b X.env)]) aT2._auto_1)(hs2:autoParam (starEach [b] X.env=[(false,eval b X.env)]) aT2._auto_1):JI X C E Γ Δ [] tg (.Call (.Name "range" p) [a,b] [] pos) (iRng2 t) (Dl.jRng2 f):=⟨qi_range2 hg hm ha.q hs hs2,iok_rng2 ha.o⟩
theorem cg_name {i:Nat}{x:Str}(h1:autoParam (i∉Γ) aT1._auto_1)(h2:autoParam (i∉Δ) aT1._auto_1)(hN:X.N.Nodup)(hi:X.N[i]?=some x)(hx:Loc X.env.scope x)(hf:autoParam (X.fn x=true∨X.env.scope.names.lookup x=some .local) aT0._auto_1):JG X C Γ Δ (.Name x pos) (gName i) (Dl.bName i):=⟨qg_name hN hi hx hf,bok_name h1 h2⟩
theorem cgs_nil:JGs X C Γ Δ [] 0 gNil Dl.bNil:=⟨qgs_nil,bok_nil,bn_nil⟩
theorem cgs_cons {tt:TG}{u:TGs}{fb:FB}{fu:List D→DEnv→R DEnv}(h1:JG X C Γ Δ e tt fb)(h2:JGs X C Γ Δ es n u fu)(hs:autoParam ((assignEach (e::es) X.env).map (·.2)=assign e X.env::(assignEach es X.env).map (·.2)) aT2._auto_1):JGs X C Γ Δ (e::es) (n+1) (gCons tt u) (Dl.bCons fb fu):=⟨qgs_cons h1.q h2.q hs,bok_cons h1.o h2.o,bn_cons h2.n⟩
theorem cg_tup {k:Nat}{u:TGs}{fu:List D→DEnv→R DEnv}(hc:X.calm=true)(h:JGs X C Γ Δ es n u fu)(hn:autoParam ((assignEach es X.env).length=n) aT2._auto_1)(hst:autoParam ((assignEach es X.env).findIdx? (·.1)=none) aT2._auto_1):JG X C Γ Δ (.Tuple es k pos) (gTup X.K n u) (Dl.bTup fu):=⟨qg_tup hc h.q hn hst,bok_tup h.n h.o⟩
theorem cif_nil:JIf X C E Γ Δ [] tYes Dl.cYes:=⟨qif_nil,tok_yes⟩
theorem cif_one {tA:TT}{fA:FT}(h:JT X C E Γ Δ c tA fA):JIf X C E Γ Δ [c] tA fA:=⟨qif_one h.q,h.o⟩
structure JB (X:Cx)(C:String→Addr)(n k:Nat)(e:Expr)(t:TG)(f:FB):Prop where
 q:QG X e t
 o:NOk X.K C n k t f
structure JBs (X:Cx)(C:String→Addr)(n k:Nat)(es:List Expr)(l:Nat)(t:TGs)(f:List D→DEnv→R DEnv):Prop where
 q:QGs X es t
 o:NsOk X.K C n k t f
 n:∀ds ρ ρ',f ds ρ=.ok ρ'→ds.length=l
theorem cb_name {k:Nat}(i:Nat){x:Str}(hN:X.N.Nodup:=by decide +kernel)(hi:autoParam (X.N[i]?=some x) aT2._auto_1)(hx:Loc X.env.scope x:=by exact .inl rfl)(hf:X.fn x=true∨X.env.scope.names.lookup x=some .local:=by exact .inr rfl)(h1:autoParam (n≤i) aT1._auto_1)(h2:autoParam (i<n+k) aT1._auto_1):JB X C n k (.Name x pos) (gName i) (Dl.bName i):=⟨qg_name hN hi hx hf,nok_name i h1 h2⟩
theorem Zgz {elt:Expr}{ifs:List Expr}{sc:Scope}{wi:TI}{tc:TT}{gg:TG}{fi:FI}{fc:FT}{fg:FB}(esc:Scope)(N N2 xs:List Str)(B:BlkN sc esc xs N N2)(hi:JI X C E Γ Δ S tg iter wi fi)(hg:∀cl C' s0 H0 fp,JB (X.blkN N2 xs sc cl C' s0 H0 fp) C n xs.length tg gg fg)(ht:∀cl C' s0 H0 fp,JIf (X.blkN N2 xs sc cl C' s0 H0 fp) C E0 [] [] ifs tc fc)(he:∀cl C' s0 H0 fp,JE (X.blkN N2 xs sc cl C' s0 H0 fp) C E0 [] [] 2 [] elt te fe)
  (hesc:autoParam (X.env.scope=esc) aT2._auto_1) (hN:autoParam (X.N=N) aT2._auto_1) (hc:autoParam (X.calm=true) aT2._auto_1) (hs:∀v,foldedSetIterable iter X.env v=pure v:=by intro _;rfl):JE X C E Γ Δ 2 [] (.ListComp elt [⟨tg,iter,ifs,0⟩] sc pos) (tCompN xs.length gg wi tc te) (Dl.fComp n xs.length fi fg fc fe) :=
 ⟨qe_compN esc N N2 xs B hi.q (fun cl C' s0 H0 fp=>(hg cl C' s0 H0 fp).q) (fun cl C' s0 H0 fp=>(ht cl C' s0 H0 fp).q) (fun cl C' s0 H0 fp=>(he cl C' s0 H0 fp).q) hesc hN hc hs,Zhk hi.o (hg [] 0 X.s₀ X.H₀ []).o (ht [] 0 X.s₀ X.H₀ []).o (he [] 0 X.s₀ X.H₀ []).o⟩
variable {s1:Stmt}{ss body other:List Stmt}{u v:TS}{g h:FS}{pos':Pos}
theorem Zbo:JSs X C E mr Γl Δl Γ Δ Γ Δ [] tNext Dl.sNx:=⟨qss_nil,sok_nx⟩
theorem Zag (Γ1 Δ1:List Nat)(h1:JS X C E mr Γl Δl Γ Δ Γ1 Δ1 s1 u g)(h2:JSs X C E mr Γl Δl Γ1 Δ1 Γ' Δ' ss v h):JSs X C E mr Γl Δl Γ Δ Γ' Δ' (s1::ss) (tSeq u v) (Dl.sSeq g h):=⟨qss_cons h1.q h2.q,sok_seq h1.o h2.o⟩
theorem Zaj (h1:JS X C E mr Γl Δl Γ Δ Γ' Δ' s1 u g):JSs X C E mr Γl Δl Γ Δ Γ' Δ' [s1] u g:=⟨qss_one h1.q,h1.o⟩
theorem Zcr (Γ1 Δ1:List Nat)(h:JSs X C E mr Γl Δl Γ Δ Γ1 Δ1 ss u g)(h1:autoParam (∀i∈Γ',i∈Γ1) aT1._auto_1)(h2:autoParam (∀i∈Δ',i∈Δ1) aT1._auto_1):JSs X C E mr Γl Δl Γ Δ Γ' Δ' ss u g:=⟨h.q,sok_weak h.o h1 h2⟩
theorem cs_never:JS X C E mr Γl Δl Γ Δ Γ' Δ' s1 tNever Dl.sNever:=⟨qs_never,sok_never⟩
theorem Zbe (he:JE X C E Γ Δ 2 S e te fe)(h0:autoParam (∀p∈S,p.1∈Δ) aT1._auto_1):JS X C E 2 Γl Δl Γ Δ Γ' Δ' (.Return (some e) pos) (tRet te) (Dl.sRet fe):=⟨qs_ret he.q,sok_ret2 he.o h0⟩
theorem cs_ret0 (he:JE X C E Γ Δ m S e te fe)(h0:autoParam (∀p∈S,p.1∈Γ) aT1._auto_1):JS X C E 0 Γl Δl Γ Δ Γ' Δ' (.Return (some e) pos) (tRet te) (Dl.sRet fe):=⟨qs_ret he.q,sok_ret0 he.o h0⟩
theorem Zde {tA:TT}{fA:FT}(hc:JT X C E Γ Δ c tA fA)(ha:JSs X C E mr Γl Δl Γ Δ Γ' Δ' body u g)(hb:JSs X C E mr Γl Δl Γ Δ Γ' Δ' other v h):JS X C E mr Γl Δl Γ Δ Γ' Δ' (.If c body other pos) (tIfS tA u v) (Dl.sIf fA g h):=⟨qs_if hc.q ha.q hb.q,sok_if hc.o ha.o hb.o⟩
theorem Zao {i:Nat}{x:Str}(hN:X.N.Nodup)(hi:X.N[i]?=some x)(hx:Loc X.env.scope x)(he:JE X C E Γ Δ 2 [] e te fe)(hs:autoParam (swapsWith e (some (.Name x pos')) pos.line X.env=pure false) aT2._auto_1)(hf:autoParam (X.fn x=true∨X.env.scope.names.lookup x=some .local) aT0._auto_1)
  (h1:autoParam (∀j∈Γ',j=i∨j∈Γ) aT1._auto_1) (h2:autoParam (∀j∈Δ',j=i∨j∈Δ) aT1._auto_1):JS X C E mr Γl Δl Γ Δ Γ' Δ' (.Assign [.Name x pos'] e pos) (tAsg te (gName i)) (Dl.sSet i fe):=⟨qs_set hN hi hx he.q hs hf,Zhn he.o h1 h2⟩
theorem cs_setC {elt:Expr}{y:Str}{py spos:Pos}{ifs:List Expr}{sc:Scope}{wi:TI}{tc:TT}{gg:TG}{fi:FI}{fc:FT}{fg:FB}{i:Nat}(esc:Scope)(N N2 xs:List Str)(B:BlkN sc esc xs N N2)(hy:N[i]?=some y)(hl:esc.names.lookup y=some .local)(hi:JI X C E Γ Δ S tg iter wi fi)(hg:∀cl C' s0 H0 fp,JB (X.blkN N2 xs sc cl C' s0 H0 fp) C n xs.length tg gg fg)(ht:∀cl C' s0 H0 fp,JIf (X.blkN N2 xs sc cl C' s0 H0 fp) C E0 [] [] ifs tc fc)(he:∀cl C' s0 H0 fp,JE (X.blkN N2 xs sc cl C' s0 H0 fp) C E0 [] [] 2 [] elt te fe)
  (hesc:autoParam (X.env.scope=esc) aT2._auto_1) (hN:autoParam (X.N=N) aT2._auto_1) (hc:autoParam (X.calm=true) aT2._auto_1) (hsw:autoParam (swapsWith (.ListComp elt [⟨tg,iter,ifs,0⟩] sc pos) (some (.Name y py)) spos.line X.env=pure true) aT2._auto_1) (hs:∀v,foldedSetIterable iter X.env v=pure v:=by intro _;rfl)
  (h1:autoParam (∀j∈Γ',j=i∨j∈Γ) aT1._auto_1) (h2:autoParam (∀j∈Δ',j=i∨j∈Δ) aT1._auto_1):JS X C E mr Γl Δl Γ Δ Γ' Δ' (.Assign [.Name y py] (.ListComp elt [⟨tg,iter,ifs,0⟩] sc pos) spos) (tAsg (tCompN xs.length gg wi tc te) (gName i)) (Dl.sSet i (Dl.fComp n xs.length fi fg fc fe)) :=
 ⟨qs_compN esc N N2 xs B hy hl hi.q (fun cl C' s0 H0 fp=>(hg cl C' s0 H0 fp).q) (fun cl C' s0 H0 fp=>(ht cl C' s0 H0 fp).q) (fun cl C' s0 H0 fp=>(he cl C' s0 H0 fp).q) hesc hN hc hsw hs,Zhn (Zhk hi.o (hg [] 0 X.s₀ X.H₀ []).o (ht [] 0 X.s₀ X.H₀ []).o (he [] 0 X.s₀ X.H₀ []).o) h1 h2⟩
theorem Zdn {i:Nat}{x:Str}(hi:autoParam (i∈Γ) aT1._auto_1)(hN:autoParam (X.N[i]?=some x) aT2._auto_1)(hv:autoParam (Vis X.env.scope x) aT3._auto_1)(hd:autoParam ((x==("__debug__":Str))=false) aT1._auto_1)(hcd:autoParam ((x==("__classdict__":Str))=false) aT1._auto_1)
  (he:JE X C E Γ Δ 2 [] e te fe) (hse:starEach [e] X.env=(false,eval e X.env)::starEach [] X.env)
  (hbase:autoParam (attributeBase (.Name x p) "append" X.env (eval (.Name x p) X.env)=eval (.Name x p) X.env) aT2._auto_1)
  (hfew:autoParam (((backTo cpos (starEach [e] X.env)).all (fun x=>!x.1)&&(backToKw cpos (keywordEach [] X.env)).all (fun x=>x.1.isSome)&&decide (([e]:List Expr).length+([]:List Keyword).length+(if ([]:List Keyword).isEmpty then 0 else 1)<30))=true) aT2._auto_1)
  (hline:autoParam ((apos.endLine==cpos.line)=true) aT2._auto_1) (hplain:autoParam ((backTo cpos (starEach ([]:List Expr) X.env)).any (·.1)=false) aT2._auto_1) (hsw:autoParam (swapsWith (.Call (.Attribute (.Name x p) "append" apos) [e] [] cpos) none pos.line X.env=pure false) aT2._auto_1) :
  JS X C E mr Γl Δl Γ Δ Γ Δ (.Expr (.Call (.Attribute (.Name x p) "append" apos) [e] [] cpos) pos) (tDrop (tBM X.K "list" rAppend (tVar i) (tCons te tNil))) (Dl.sApp i fe) :=
 ⟨qs_expr (qe_bm PySem.F.plainAttrs_list PySem.F.slot_list_append PySem.F.type_list_append mt_append (qv i hN hv hd hcd) (qa_cons he.q qa_nil hse) hbase hfew hline hse hplain) hsw,sok_app2 hi he.o⟩
theorem Zdb {wi:TI}{tt:TG}{fi:FI}{fb:FB}(Γl Δl:List Nat)(hp:PassesOwn (model X.prog X.w) X.A X.env X.xe)(hc:X.calm=true)(hi:JI X C E Γ Δ S tg iter wi fi)(hg:JG X C Γl Δl tg tt fb)(hb:JSs X C E mr Γl Δl Γl Δl Γl Δl body u g)(hs:∀x,foldedSetIterable iter X.env x=pure x:=by intro _;rfl)
  (h1:autoParam (∀i∈Γl,i∈Γ) aT1._auto_1) (h2:autoParam (∀i∈Δl,i∈Δ) aT1._auto_1) (h3:autoParam (∀p∈S,p.1∉Γl∧p.1∉Δl) aT1._auto_1):JS X C E mr Γk Δk Γ Δ Γl Δl (.For tg iter body [] pos) (tFor wi tt u) (Dl.sFor fi fb g):=⟨qs_for hp hc hi.q hg.q hb.q hs,sok_for hi.o hg.o hb.o h1 h2 h3⟩
theorem cs_while {tA:TT}{fA:FT}(k:Nat)(hp:PassesOwn (model X.prog X.w) X.A X.env X.xe)(hc:JT X C E Γ Δ c tA fA)(hb:JSs X C E mr Γ Δ Γ Δ Γ Δ body u g):JS X C E mr Γk Δk Γ Δ Γ Δ (.While c body [] pos) (tWhile tA u) (Dl.sWhile k fA g):=⟨qs_while hp hc.q hb.q,sok_while hc.o hb.o⟩
end
theorem Fun.okC {P:Program}{w:World}{K:PySem.W.Frag}{C:String→Addr}{mg:Str→Option Value}{base:Heap}{x qual:Str}{st:Stmt}{f:Addr}{fd:FuncData}{N ps:List Str}{k n mr:Nat}{Γ' Δ':List Nat}{g:FS}(F:Fun K x qual st f fd)(S:FnScope N ps (defScope st))(hn:ps.length=n)
    (hbody:∀(cdv:Value) (A:Around) (outer:List Env) (s:Shared) (H:Hp) (E:XK),Room k (A.deeper (envOfC qual (defScope st) s.heap.objs.size f cdv))→
      ∃t,JSs (cxOf CX0 P w K mg base N qual (defScope st) f cdv A outer s H E).nox C E0 mr [] [] [] [] Γ' Δ' (defBody st) t g):FnOk P w K mg base CX0 (k+1) f fd ps (spD K C n mr fun ds=>(Dl.run N.length g ds).calm) :=
  F.okQ S (fun vs H Q E h=>by
    obtain ⟨ds,B,h1,h2,_⟩:=h
    rw [h2.len,h1,hn]) fun cdv A outer s H vs Q E hr h=>by
    obtain ⟨ds,B,h1,h2,h3⟩:=h
    obtain ⟨t,ht⟩:=hbody cdv A outer s H E hr
    exact ⟨t,ht.q,run_post (K:=K) ht.o h2 (Post.imp (calm_of h3) (fun _ q=>q) fun _ _ z=>z.elim)⟩
end L2
namespace L2
open PySem PySem.Spec PyProof.Rows
open Dl (D R FE FT FA FO FS FI FB Fl)
section
variable {K:PySem.W.Frag}{C:String→Addr}{E:XK}{Γ Δ Γ' Δ' Γ1 Δ1 Γl Δl Γk Δk:List Nat}{m m1 m2 m3 mr:Nat}{S S1 S2 S3:List (Nat×Bool)}{H:Hp}{Q:VK}
noncomputable def Kit (c:String):Prop:=∀(K:PySem.W.Frag) (d:D) (b:Bool),Dl.gIsI c d=some (.bl b)→PySem.W.kitOne K (.type (Dl.tyName d)) (.type c)=some b
theorem kit_int:Kit "int":=fun K d b h=>by cases d<;>cases h<;>rfl
theorem kit_bool:Kit "bool":=fun K d b h=>by cases d<;>cases h<;>rfl
theorem eok_isI {c:String}(hk:Kit c){ta:TE}{fa:FE}(ha:EOk K C E Γ Δ m S ta fa):EOk K C E Γ Δ 2 [] (tCB (rIsI K) (tCons ta (tCons (tC (.ty c)) tNil))) (Dl.f1 (Dl.gIsI c) fa):=fun H0 Hb H σ ρ A Q I p =>
  ha H0 Hb H σ ρ A _ I (p.bind.imp (fun x q v H1 g1 r=>by
    obtain ⟨d,e,q⟩:=oR_ok q
    obtain ⟨B,r,_⟩:=r
    have out:∀b t,d=.bl b→TyOf K H1 v t→t=.type (Dl.tyName x)→rIsI K [v,.ty c] H1 Q:=fun b t ed ty et=>by
      subst ed et
      exact rd_isI ty (hk K x b e) (q _ H1 g1 (Res.flat rpB))
    show rIsI K [v,.ty c] H1 Q
    cases x with
    | non=>cases e;exact out _ _ rfl (by rw [r.1];exact .non) rfl
    | bl b=>cases e;exact out _ _ rfl (by rw [r.1];exact .bl _) rfl
    | int i=>cases e;exact out _ _ rfl (by rw [r.1];exact .int _) rfl
    | str z=>cases e;exact out _ _ rfl (by rw [r.1];exact .str _) rfl
    | lst ds =>
      cases e
      obtain ⟨a,xs,B,rfl,e2,_⟩:=r
      exact out _ _ rfl (.lst e2) rfl
    | tup ds =>
      cases e
      obtain ⟨a,xs,rfl,e2,_⟩:=r
      exact out _ _ rfl (.tup e2) rfl
    | scr _=>cases e
    | rng _ _=>cases e
    | exc _ _=>cases e
    | obj _ _ _=>cases e
    | dct _ _=>cases e
    | dtt _ _=>cases e) fun c x q H' g'=>q H' g')
noncomputable def BsN (K:PySem.W.Frag)(C:String→Addr)(Γ Δ Γ' Δ':List Nat)(g:TGs)(b:List D→DEnv→R DEnv):Prop:=∀(H0 Hb H:Hp) (σ:St) (ρ:DEnv) (A:Nat→List Addr) (d:List D) (v:List V) (B:List Addr) (Rr:St→Hp→Prop),EnvOk K C H0 Hb H Γ Δ σ ρ A→RpA K C H d v B→B.Nodup→(∀a∈B,Hb a=none∧∀j,a∉A j)→
 Post (b d ρ) (fun ρ'=>∀σ' A',EnvOk K C H0 Hb H Γ' Δ' σ' ρ' A'→Rr σ' H) (fun _ _=>False)→g v σ H Rr
theorem bsn_nil (h1:∀i∈Γ',i∈Γ)(h2:∀i∈Δ',i∈Δ):BsN K C Γ Δ Γ' Δ' gNil Dl.bNil:=fun H0 Hb H σ ρ A d v B Rr I r _ _ p=>by
 cases d with
 | nil=>exact ⟨r.1,p _ A (I.weak h1 h2)⟩
 | cons _ _=>exact p.elim
theorem bsn_cons {i:Nat}{gs:TGs}{bs:List D→DEnv→R DEnv}(h2:BsN K C (i::Γ) (i::Δ) Γ' Δ' gs bs):BsN K C Γ Δ Γ' Δ' (gCons (gName i) gs) (Dl.bCons (Dl.bName i) bs):=fun H0 Hb H σ ρ A d v B Rr I r nd hB p=>by
  cases d with
  | nil=>exact p.elim
  | cons d ds =>
    obtain ⟨x,l,B1,B2,e1,e2,e3,e4⟩:=r
    subst e1 e4
    obtain ⟨n1,n2,n3⟩:=List.nodup_append.mp nd
    have hB1:∀a∈B1,Hb a=none∧∀j,a∉A j:=fun a ha=>hB a (List.mem_append_left _ ha)
    obtain ⟨A',I',hA'⟩:=I.put (Γ':=i::Γ) (Δ':=i::Δ) (i:=i) e2
      (fun j hj e=>⟨(List.mem_cons.mp hj).elim (fun z=>absurd z e) id,fun a l' e' ha=>(hB1 a ha).2 j (by rw [e'];exact .head _)⟩)
      (fun _=>⟨fun a ha=>I.s0.free (hB1 a ha).1,fun a l' e=>by
        subst e
        exact ⟨(hB1 a (.head _)).1,(List.nodup_cons.mp n1).1,fun j _=>(hB1 a (.head _)).2 j⟩⟩)
      (fun j hj e=>⟨(List.mem_cons.mp hj).elim (fun z=>absurd z e) id,fun a ha hb=>(hB1 a hb).2 j ha⟩)
      (fun _=>⟨n1,fun j _ a ha=>(hB1 a ha).2 j,fun a ha=>(hB1 a ha).1⟩)
    exact ⟨x,l,rfl,h2 H0 Hb H _ _ A' ds l B2 Rr I' e3 n2 (fun a ha=>⟨(hB a (List.mem_append_right _ ha)).1,fun j h=>(hA' j a h).elim (fun z=>n3 a z a ha rfl) fun z=>(hB a (List.mem_append_right _ ha)).2 j z⟩) p⟩
theorem Zhr {te:TE}{gs:TGs}{fe:FE}{bs:List D→DEnv→R DEnv}{n:Nat}(hn:∀ds ρ ρ',bs ds ρ=.ok ρ'→ds.length=n)(he:EOk K C E Γ Δ 2 [] te fe)(hb:BsN K C Γ Δ Γ' Δ' gs bs):SOk K C E mr Γl Δl Γ Δ Γ' Δ' (tAsg te (gTup K n gs)) (Dl.sAsg fe (Dl.bTup bs)):=fun H0 Hb H σ ρ A D I p=>by
 refine he H0 Hb H σ ρ A _ I (Post.imp (Post.bind p) (fun d q v H1 g1 r=>?_) fun c x q H' g'=>q H' (Same.from0 I g'))
 obtain ⟨B,r1,r2,_,r4⟩:=r
 have hn':∀a∈B,H a=none:=fun a ha=>(r2 a ha).elim id fun z=>z.none.elim
 have q':=calm_of (Post.bind q)
 cases d with
 | tup ds =>
  obtain ⟨a,xs,rfl,e2,e3⟩:=r1
  have q'':Post (bs ds ρ) (fun ρ'=>∀σ' H' A',EnvOk K C H0 Hb H' Γ' Δ' σ' ρ' A'→D.nx σ' H') (fun _ _=>False):=q'
  have hl:xs.length=n:=by
   rw [e3.len]
   cases e:bs ds ρ with
   | ok ρ'=>exact hn ds ρ ρ' e
   | err _ _=>rw [e] at q'';exact q''.elim
   | bad=>rw [e] at q'';exact q''.elim
  exact ⟨a,xs,rfl,SqT.of e2,hl,hb H0 Hb H1 σ ρ A ds xs B D.nx (I.mono g1) e3 (r4 rfl) (fun a ha=>⟨I.same.free (hn' a ha),fun j z=>I.ne z (hn' a ha)⟩) (Post.imp q'' (fun ρ' q σ' A' I'=>q σ' H1 A' I') fun _ _ z=>z)⟩
 | _=>exact q'.elim
end
section
variable {X:Cx}{C:String→Addr}{E:XK}{Γ Δ Γ' Δ' Γ1 Δ1 Γl Δl Γk Δk:List Nat}{m m1 m2 m3 mr:Nat}{S S1 S2 S3:List (Nat×Bool)}{a b c e st o tg iter:Expr}{es rest:List Expr}{ta tb tc te ts:TE}{fa fb fc fe fs:FE}{t:TA}{f:FA}{pos p p2 apos cpos pos':Pos}{n:Nat}
theorem Zhj (K:PySem.W.Frag){T:String}{ty:Str}(hk:Kit T)(hg:Gl X "isinstance")(hm:X.mg "isinstance"=none)(hgt:Gl X ty)(hmt:X.mg ty=none)(hvt:bootBuiltins ty=some (.type T))(ha:JE X C E Γ Δ m S e te fe)(hse:starEach (e::[.Name ty p2]) X.env=(false,eval e X.env)::starEach [.Name ty p2] X.env)
  (hn:autoParam (ty≠"__name__") aT1._auto_1) (hd:autoParam ((ty==("__debug__":Str))=false) aT1._auto_1) (hpl:autoParam ((backTo pos (starEach [.Name ty p2] X.env)).any (·.1)=false) aT2._auto_1) (hK:autoParam (X.K=K) aT2._auto_1) :
  JE X C E Γ Δ 2 [] (.Call (.Name "isinstance" p) [e,.Name ty p2] [] pos) (tCB (rIsI K) (tCons te (tCons (tC (.ty T)) tNil))) (Dl.f1 (Dl.gIsI T) fe):=by
 subst hK
 exact ⟨qe_callB Zgr hg hm PyProof.Rows.boot_isinstance (qa_cons ha.q (qa_cons (qe_bltn (v:=.ty T) hgt hmt hvt rfl hn hd) qa_nil Zaa) hse) (by decide) (by decide) hse hpl,eok_isI hk ha.o⟩
structure JN (X:Cx)(C:String→Addr)(Γ Δ Γ' Δ':List Nat)(es:List Expr)(n:Nat)(t:TGs)(f:List D→DEnv→R DEnv):Prop where
 q:QGs X es t
 o:BsN X.K C Γ Δ Γ' Δ' t f
 n:∀ds ρ ρ',f ds ρ=.ok ρ'→ds.length=n
theorem cn_nil (h1:autoParam (∀i∈Γ',i∈Γ) aT1._auto_1)(h2:autoParam (∀i∈Δ',i∈Δ) aT1._auto_1):JN X C Γ Δ Γ' Δ' [] 0 gNil Dl.bNil:=⟨qgs_nil,bsn_nil h1 h2,bn_nil⟩
theorem cn_cons {i:Nat}{x:Str}{u:TGs}{fu:List D→DEnv→R DEnv}(hN:X.N.Nodup)(hi:X.N[i]?=some x)(hx:Loc X.env.scope x)(h2:JN X C (i::Γ) (i::Δ) Γ' Δ' es n u fu)(hf:autoParam (X.fn x=true∨X.env.scope.names.lookup x=some .local) aT0._auto_1)
  (hs:autoParam ((assignEach (.Name x p::es) X.env).map (·.2)=assign (.Name x p) X.env::(assignEach es X.env).map (·.2)) aT2._auto_1):JN X C Γ Δ Γ' Δ' (.Name x p::es) (n+1) (gCons (gName i) u) (Dl.bCons (Dl.bName i) fu):=⟨qgs_cons (qg_name hN hi hx hf) h2.q hs,bsn_cons h2.o,bn_cons h2.n⟩
theorem cs_unpack {k:Nat}{u:TGs}{fu:List D→DEnv→R DEnv}(hc:X.calm=true)(he:JE X C E Γ Δ 2 [] e te fe)(hb:JN X C Γ Δ Γ' Δ' es n u fu)(hn:autoParam ((assignEach es X.env).length=n) aT2._auto_1)(hst:autoParam ((assignEach es X.env).findIdx? (·.1)=none) aT2._auto_1)
  (hs:autoParam (swapsWithSole [.Tuple es k p] e pos.line X.env=pure false) aT2._auto_1) (hw:autoParam (swappedStores [.Tuple es k p] e X.env=pure none) aT2._auto_1) (h1:autoParam ((assignEach [.Tuple es k p] X.env).map (·.2)=[assign (.Tuple es k p) X.env]) aT2._auto_1) :
  JS X C E mr Γl Δl Γ Δ Γ' Δ' (.Assign [.Tuple es k p] e pos) (tAsg te (gTup X.K n u)) (Dl.sAsg fe (Dl.bTup fu)):=⟨qs_asg he.q (qg_tup hc hb.q hn hst) hs hw h1,Zhr hb.n he.o hb.o⟩
end
end L2
namespace L2
open PySem PySem.Spec PyProof.Rows
open Dl (D R FE FT FA FO FS FI FB Fl)
section
variable {K:PySem.W.Frag}{C:String→Addr}{E:XK}{Γ Δ Γ' Δ' Γ1 Δ1 Γl Δl Γk Δk:List Nat}{m m1 m2 m3 mr:Nat}{S S1 S2 S3:List (Nat×Bool)}{H:Hp}{Q:VK}
end
section
variable {X:Cx}{C:String→Addr}{E:XK}{Γ Δ Γ' Δ' Γ1 Δ1 Γl Δl Γk Δk:List Nat}{m m1 m2 m3 mr:Nat}{S S1 S2 S3:List (Nat×Bool)}{a b c e st o tg iter:Expr}{es rest:List Expr}{ta tb tc te ts:TE}{fa fb fc fe fs:FE}{t:TA}{f:FA}{pos p p2 apos cpos pos':Pos}{n:Nat}
end
end L2
namespace L2
open PySem PySem.Spec PyProof.Rows
open Dl (D R FE FT FA FO FS FI FB Fl)
section
variable {K:PySem.W.Frag}{C:String→Addr}{E:XK}{Γ Δ Γ' Δ' Γ1 Δ1 Γl Δl Γk Δk:List Nat}{m m1 m2 m3 mr:Nat}{S S1 S2 S3:List (Nat×Bool)}{H:Hp}{Q:VK}
theorem EnvOk.base {H0 Hb H:Hp}{σ:St}{ρ:DEnv}{A:Nat→List Addr}(h:EnvOk K C Hb Hb H Γ Δ σ ρ A)(s:Same H0 Hb):EnvOk K C H0 Hb H Γ Δ σ ρ A :=
 ⟨s,h.same,h.len,h.rep,h.nil,fun i hi a ha=>s.free (h.loc i hi a ha),h.top,h.deep⟩
theorem EnvOk.fresh {H0 Hb H:Hp}{σ:St}{ρ:DEnv}{A:Nat→List Addr}(h:EnvOk K C H0 Hb H Γ Δ σ ρ A):EnvOk K C Hb Hb H [] [] σ ρ A :=
 ⟨Same.refl _,h.same,h.len,h.rep,h.nil,fun _ hi=>(nomatch hi),fun _ hi=>(nomatch hi),fun _ hi=>(nomatch hi)⟩
theorem EnvOk.none {H0 Hb H:Hp}(s:Same H0 Hb)(g:Same Hb H)(N:Nat):EnvOk K C H0 Hb H Γ Δ (List.replicate N Option.none) (List.replicate N Option.none) (fun _=>[]) :=
  ⟨s,g,by simp,(fun i d e=>by
      rw [List.getElem?_replicate] at e
      split at e<;>cases e),fun _ _=>rfl,fun _ _ a ha=>(nomatch ha),fun _ _ a r e=>(nomatch e),fun _ _=>⟨List.nodup_nil,fun _ _ a ha=>(nomatch ha),fun a ha=>(nomatch ha)⟩⟩
theorem Same.upd {H:Hp}{e:Addr}{o:HO}(h:H e=Option.none):Same H (L2.upd H e o):=fun b o' hb=>by
 have:b≠e:=fun q=>by rw [q,h] at hb;cases hb
 rw [Zap this]
 exact hb
theorem FOk.same {H H':Hp}{c:String}{x:Option Int}{dx:Option Addr}(h:FOk H c x dx)(g:Same H H'):FOk H' c x dx:=by
 cases x with
 | none=>trivial
 | some i=>obtain ⟨d,e1,e2⟩:=h;exact ⟨d,e1,g _ _ e2⟩
theorem EnvOk.caught {H0 Hb H:Hp}{σ:St}{e:Addr}{dx:Option Addr}{c:String}{x:Option Int}{i N:Nat}(s:Same H0 Hb)(g:Same Hb H)(hl:σ.length=N)(he:H e=some (exO e (.ref (C c)) dx))(hf:FOk H c x dx)(hi:i<N) :
    EnvOk K C H0 Hb H [] [] (σ.set i (some (.ref e))) ((List.replicate N Option.none).set i (some (.exc c x))) (fun _=>[]) :=
  ⟨s,g,by simp [hl],(fun j d q=>by
      rw [List.getElem?_set] at q
      split at q
      · rename_i hj
        subst hj
        rw [if_pos (by simpa using hi)] at q
        cases q
        exact ⟨.ref e,by rw [List.getElem?_set,if_pos rfl,if_pos (by omega)],e,dx,rfl,he,hf,rfl⟩
      · rw [List.getElem?_replicate] at q
        split at q<;>cases q),fun _ _=>rfl,fun _ hi=>(nomatch hi),fun _ hi=>(nomatch hi),fun _ hi=>(nomatch hi)⟩
theorem Res.base {H0 Hb H':Hp}{d:D}{v:V}(s:Same H0 Hb)(r:Res K C m [] Hb (fun _=>[]) d v H'):Res K C m [] H0 (fun _=>[]) d v H':=by
 obtain ⟨B,r1,r2,r3,r4⟩:=r
 exact ⟨B,r1,fun a ha=>(r2 a ha).imp s.free id,fun q a l e=>⟨s.free (r3 q a l e).1,(r3 q a l e).2⟩,r4⟩
theorem sok_try {cs:List String}{N i:Nat}{tb:XK→TS}{th:TS}{fb fh:FS}{c0:Addr}{Eh:XK}{Γ2 Δ2:List Nat}(hb:∀E',SOk K C E' mr Γl Δl [] [] Γ1 Δ1 (tb E') fb)(hh:SOk K C Eh mr [] [] [] [] Γ2 Δ2 th fh)
  (hc:∀c∈cs,PySem.W.exmOne K (.ref (C c)) (.ref c0)=some true) (hi:i<N):SOk K C E mr Γl Δl Γ Δ Γ1 Δ1 (tTry K (.ref c0) i N tb th) (Dl.sTry cs N i fb fh):=fun H0 Hb H σ ρ A D I p=>by
 refine ⟨fun cls dx H'=>Same Hb H'∧∃c x,cls=.ref (C c)∧FOk H' c x dx∧fb ρ=.err c x,?_,?_⟩
 ·refine hb _ Hb Hb H σ ρ A D I.fresh ?_
  unfold Dl.sTry at p
  cases e:fb ρ with
  | bad=>rw [e] at p;exact p
  | err c x =>
   exact fun H' g dx hf=>⟨g,c,x,rfl,hf,rfl⟩
  | ok fl =>
   rw [e] at p
   cases fl with
   | nx ρ'=>exact fun σ' H' A' I'=>p σ' H' A' (I'.base I.s0)
   | brk ρ'=>exact fun σ' H' A' I'=>p σ' H' A' (I'.base I.s0)
   | cnt ρ'=>exact fun σ' H' A' I'=>p σ' H' A' (I'.base I.s0)
   | ret d=>exact fun v H' g r=>p v H' (I.s0.trans g) (r.base I.s0)
 ·rintro cls dx H' e ⟨g,c,x,rfl,hf,ef⟩ he
  unfold Dl.sTry at p
  rw [ef] at p
  simp only [] at p
  by_cases hcs:cs.contains c=true
  ·rw [if_pos hcs] at p
   refine ⟨hc c (by simpa using hcs),fun σ' hl=>?_⟩
   have g':=Same.upd (o:=exO e (.ref (C c)) dx) he
   refine hh H0 Hb _ _ _ (fun _=>[]) _ (EnvOk.caught I.s0 (g.trans g') hl Zay (hf.same g') hi) ?_
   have q:=calm_of (Post.bind p)
   refine Post.imp q (fun fl q=>?_) fun _ _ z=>z.elim
   cases fl with
   | nx ρ'=>exact fun σ2 H2 A2 I2=>q _ H2 _ (EnvOk.none I.s0 I2.same N)
   | brk ρ'=>exact fun σ2 H2 A2 I2=>q _ H2 _ (EnvOk.none I.s0 I2.same N)
   | cnt ρ'=>exact fun σ2 H2 A2 I2=>q _ H2 _ (EnvOk.none I.s0 I2.same N)
   | ret d=>exact fun v H2 g2 r=>q v H2 g2 r
  ·rw [if_neg hcs] at p
   exact p.elim
noncomputable def JOk (K:PySem.W.Frag)(C:String→Addr)(E:XK)(Γ Δ:List Nat)(t:TJ)(f:FA):Prop:=∀(H0 Hb H:Hp) (σ:St) (ρ:DEnv) (A:Nat→List Addr) (Q:Hp→Prop),EnvOk K C H0 Hb H Γ Δ σ ρ A→
 Post (f ρ) (fun _=>∀H',Same H H'→Q H') (fun c x=>∀H',Same H H'→EC C E c x H')→t σ H Q
theorem log2_lt200 {n:Nat}(h:n<2 ^ 200):n.log2<1920:=by
 by_cases h0:n=0
 ·subst h0;decide
 ·exact (Nat.log2_lt h0).mpr (Nat.lt_of_lt_of_le h (Nat.pow_le_pow_right (by omega) (by omega)))
end
section
variable {X:Cx}{C:String→Addr}{E:XK}{Γ Δ Γ' Δ' Γ1 Δ1 Γl Δl Γk Δk:List Nat}{m n mr:Nat}{S:List (Nat×Bool)}{e:Expr}{es:List Expr}{t:TA}{f:FA}{np cpos pos hpos:Pos}
theorem cs_try {body:List Stmt}{c nm:Str}{c0:Addr}{b₀:Stmt}{suite:List Stmt}{i:Nat}{tb:XK→TS}{th:TS}{fb fh:FS}{Γ2 Δ2:List Nat}(cs:List String)(hm:X.mg c=some (.ref c0))
  (hb:∀(E:XK) (pn:List (Addr×Obj)),JSs (({ X with pn:=pn }:Cx).wish (ER { X with pn:=pn } E)) C E mr Γl Δl [] [] Γ1 Δ1 body (tb E) fb) (hh:∀a:Addr,JSs (X.hand a) C E0 mr [] [] [] [] Γ2 Δ2 (b₀::suite) th fh)
  (hc:∀c∈cs,PySem.W.exmOne X.K (.ref (C c)) (.ref c0)=some true)
  (hN:X.N.Nodup) (hi:X.N[i]?=some nm) (hl:X.env.scope.names.lookup nm=some .local)
  (hg:autoParam (Gl X c) aT2._auto_1) (hx:autoParam (X.ex=[]) aT2._auto_1) (hst:autoParam (X.stack=X.env::X.outer) aT2._auto_1) (hf:autoParam (X.env.frame=some X.env.locals) aT2._auto_1) (hdb:autoParam ((c==("__debug__":Str))=false) aT1._auto_1) :
  JS X C E mr Γl Δl Γ Δ Γ1 Δ1 (.Try body [.ExceptHandler (some (.Name c np)) (some nm) (b₀::suite) hpos] [] [] pos) (tTry X.K (.ref c0) i X.N.length tb th) (Dl.sTry cs X.N.length i fb fh) :=
 ⟨qs_try hm hN hi hl (fun E pn=>(hb E pn).q) (fun a=>(hh a).q) hg hx hst hf hdb,sok_try (fun E'=>(hb E' []).o) (hh 0).o hc (List.getElem?_eq_some_iff.mp hi).1⟩
end
theorem Fun.okCE {P:Program}{w:World}{K:PySem.W.Frag}{C:String→Addr}{mg:Str→Option Value}{base:Heap}{x qual:Str}{st:Stmt}{f:Addr}{fd:FuncData}{N ps:List Str}{k n mr:Nat}{Γ' Δ':List Nat}{g:FS}(F:Fun K x qual st f fd)(S:FnScope N ps (defScope st))(hn:ps.length=n)
    (hbody:∀(cdv:Value) (A:Around) (outer:List Env) (s:Shared) (H:Hp) (E:XK),Room k (A.deeper (envOfC qual (defScope st) s.heap.objs.size f cdv))→
      ∃t,JSs ((cxOf (CXE P w) P w K mg base N qual (defScope st) f cdv A outer s H E).wish (ER (cxOf (CXE P w) P w K mg base N qual (defScope st) f cdv A outer s H E) E)) C E mr [] [] [] [] Γ' Δ' (defBody st) t g):FnOk P w K mg base (CXE P w) (k+1) f fd ps (spD K C n mr fun ds=>Dl.run N.length g ds) :=
  F.okEQ S (fun vs H Q E h=>by
    obtain ⟨ds,B,h1,h2,_⟩:=h
    rw [h2.len,h1,hn]) fun cdv A outer s H vs Q E hr h=>by
    obtain ⟨ds,B,h1,h2,h3⟩:=h
    obtain ⟨t,ht⟩:=hbody cdv A outer s H E hr
    exact ⟨t,ht.q,run_post (K:=K) ht.o h2 h3⟩
end L2
namespace L2
open PySem PySem.Spec PyProof.Rows
open Dl (D R FE FT FA FO FS FI FB Fl)
section
variable {K:PySem.W.Frag}{C:String→Addr}{E:XK}{Γ Δ Γ' Δ' Γ1 Δ1 Γl Δl Γk Δk:List Nat}{m m1 m2 m3 mr:Nat}{S S1 S2 S3:List (Nat×Bool)}{H:Hp}{Q:VK}
end
section
variable {X:Cx}{C:String→Addr}{E:XK}{Γ Δ Γ' Δ' Γ1 Δ1 Γl Δl Γk Δk:List Nat}{m m1 m2 m3 mr:Nat}{S S1 S2 S3:List (Nat×Bool)}{a b c e st o tg iter:Expr}{es rest:List Expr}{ta tb tc te ts:TE}{fa fb fc fe fs:FE}{t:TA}{f:FA}{pos p p2 apos cpos pos':Pos}{n:Nat}{body:List Stmt}{u:TS}{g:FS}
end
end L2
namespace L2
open PySem PySem.Spec PyProof.Rows
open Dl (D R FE FT FA FO FS FI FB Fl)
structure ClsIn (K:PySem.W.Frag)(C:Addr):Prop where
 ty:PySem.W.typeIn K (.ref C)=some (.type "type")
 cl:∃c,PySem.W.clsIn K C=some c
 se:PySem.W.subIn K (.ref C) (.ref C)=some true
theorem ErrIn.cls {K:PySem.W.Frag}{C:Addr}(h:ErrIn K C):ClsIn K C:=⟨h.ty,h.cl,h.se⟩
theorem ClsIn.kitO {K:PySem.W.Frag}{C D:Addr}{b:Bool}(E:ClsIn K C)(h:PySem.W.subIn K (.ref D) (.ref C)=some b):PySem.W.kitOne K (.ref D) (.ref C)=some b:=by
 have k:PySem.W.kitCls K (.ref D) (.ref C)=some b:=by
  obtain ⟨c,hc⟩:=E.cl
  show (if ((PySem.W.clsIn K C).isSome&&PySem.W.typeIn K (.ref C)==some (.type "type"))=true then PySem.W.subIn K (.ref D) (.ref C) else none)=some b
  rw [hc,E.ty,if_pos (by simp)]
  exact h
 unfold PySem.W.kitOne
 by_cases q:((Value.ref D)==(Value.ref C))=true
 ·rw [if_pos q]
  have e:D=C:=by
   have:=beq_iff_eq.mp q
   cases this
   rfl
  subst e
  rw [E.se] at h
  exact h
 ·rw [if_neg q]
  exact k
theorem all_nil {α:Type}{P:α→Prop}:∀c∈([]:List α),P c:=fun _ h=>nomatch h
theorem all_cons {α:Type}{P:α→Prop}{a:α}{l:List α}(h:P a)(hl:∀c∈l,P c):∀c∈a::l,P c:=fun c hc=>(List.mem_cons.mp hc).elim (fun e=>by rw [e];exact h) fun hc=>hl c hc
section
variable {K:PySem.W.Frag}{C:String→Addr}{E:XK}{Γ Δ Γ' Δ' Γ1 Δ1 Γl Δl Γk Δk:List Nat}{m m1 m2 m3 mr:Nat}{S S1 S2 S3:List (Nat×Bool)}{H:Hp}{Q:VK}
theorem lookup_memB {k:String}{b:Bool}:∀{tb:List (String×Bool)},tb.lookup k=some b→(k,b)∈tb
 | [],h=>by cases h
 | (x,y)::r,h=>by
  rw [List.lookup_cons] at h
  split at h
  ·rename_i e
   have e:k=x:=by simpa using e
   cases h
   rw [e]
   exact .head _
  ·exact .tail _ (lookup_memB h)
theorem eok_isX {te:TE}{fe:FE}{c:Addr}{tb:List (String×Bool)}(htb:∀p∈tb,ErrK K (C p.1)∧PySem.W.kitOne K (.ref (C p.1)) (.ref c)=some p.2)(he:EOk K C E Γ Δ m S te fe):EOk K C E Γ Δ 2 [] (tCB (rIsX K) (tCons te (tCons (tC (.ref c)) tNil))) (Dl.f1 (Dl.gIsT tb) fe) :=
  fun H0 Hb H σ ρ A Q I p=>he H0 Hb H σ ρ A _ I (p.bind.imp (fun d q v H1 g1 r=>by
    obtain ⟨z,e,q⟩:=oR_ok q
    obtain ⟨B,r,_⟩:=r
    show rIsX K [v,.ref c] H1 Q
    cases d with
    | exc k f =>
      have e:(tb.lookup k).map D.bl=some z:=e
      obtain ⟨b,e1,e2⟩:=Option.map_eq_some_iff.mp e
      subst e2
      obtain ⟨a,dx,rfl,h1,_⟩:=r
      obtain ⟨t1,t2⟩:=htb _ (lookup_memB e1)
      exact ⟨a,C k,c,b,rfl,⟨dx,h1⟩,t1,t2,q _ _ g1 (Res.flat rpB)⟩
    | _=>cases e) fun c x q H' g'=>q H' g')
end
structure JJ (X:Cx)(C:String→Addr)(E:XK)(Γ Δ:List Nat)(es:List Expr)(t:TJ)(f:FA):Prop where
 q:QJ X es t
 o:JOk X.K C E Γ Δ t f
section
variable {X:Cx}{C:String→Addr}{E:XK}{Γ Δ Γ' Δ' Γ1 Δ1 Γl Δl Γk Δk:List Nat}{m m1 m2 m3 mr:Nat}{S S1 S2 S3:List (Nat×Bool)}{a b c e st o tg iter:Expr}{es rest:List Expr}{ta tb tc te ts:TE}{fa fb fc fe fs:FE}{t:TA}{f:FA}{pos p p2 apos cpos pos' np jp:Pos}{n:Nat}{body:List Stmt}{s:Stmt}{u:TS}{g:FS}{tj:TJ}
theorem cs_nox (h:JS X.nox C E mr Γl Δl Γ Δ Γ' Δ' s u g):JS X C E mr Γl Δl Γ Δ Γ' Δ' s u g:=⟨qs_nox h.q,h.o⟩
theorem ce_isX (K:PySem.W.Frag){x:Str}{c:Addr}{tb:List (String×Bool)}(hg:Gl X "isinstance")(hm:X.mg "isinstance"=none)(hgx:Gl X x)(hmx:X.mg x=some (.ref c))(htb:∀p∈tb,ErrK K (C p.1)∧PySem.W.kitOne K (.ref (C p.1)) (.ref c)=some p.2)(ha:JE X C E Γ Δ m S e te fe)
  (hse:starEach (e::[.Name x p2]) X.env=(false,eval e X.env)::starEach [.Name x p2] X.env) (hd:autoParam ((x==("__debug__":Str))=false) aT1._auto_1) (hpl:autoParam ((backTo pos (starEach [.Name x p2] X.env)).any (·.1)=false) aT2._auto_1) (hK:autoParam (X.K=K) aT2._auto_1) :
  JE X C E Γ Δ 2 [] (.Call (.Name "isinstance" p) [e,.Name x p2] [] pos) (tCB (rIsX K) (tCons te (tCons (tC (.ref c)) tNil))) (Dl.f1 (Dl.gIsT tb) fe):=by
 subst hK
 exact ⟨qe_callB call_isX hg hm PyProof.Rows.boot_isinstance (qa_cons ha.q (qa_cons (qe_glob (v:=.ref c) hgx hmx rfl hd) qa_nil Zaa) hse) (by decide) (by decide) hse hpl,eok_isX htb ha.o⟩
end
end L2
namespace L2
open PySem PySem.Spec PyProof.Rows
open Dl (D R FE FT FA FO FS FI FB Fl)
noncomputable def rIsV (K:PySem.W.Frag):List V→Hp→VK→Prop:=fun xs H Q=>∃(e D:Addr) (T:String) (b:Bool),xs=[.ref e,.ty T]∧(∃dx,H e=some (exO e (.ref D) dx))∧ErrK K D∧PySem.W.kitOne K (.ref D) (.type T)=some b∧Q (.bl b) H
theorem boot_ValErr:bootBuiltins "ValueError"=some (.type "ValueError"):=by decide +kernel
section
variable {X:Cx}
theorem call_isV:CallR X (.builtin "isinstance") (rIsV X.K):=by
 intro pins s σ H xs us Q I r h
 obtain ⟨e,D,T,b,rfl,⟨dx,he⟩,hE,hk,q⟩:=h
 obtain ⟨ho,hvs,q1,q2,q3,_⟩:=(I.hok e _ he).1
 obtain ⟨u,w',rfl,rx,ry⟩:=vals2 r
 cases rx
 cases ry
 exact PySem.W.kia_one hE.kit I.kIn ⟨ho,hvs,q1,q2,q3⟩ hk (by intro z;cases z) fun tk=>⟨.bl b,H,I.tok _,rfl,q⟩
end
theorem kit_val {K:PySem.W.Frag}{D:Addr}{b:Bool}(h:PySem.W.subIn K (.ref D) (.type "ValueError")=some b):PySem.W.kitOne K (.ref D) (.type "ValueError")=some b:=by
 have hm:PySem.W.kitMeta "ValueError"=true:=by decide +kernel
 unfold PySem.W.kitOne
 rw [if_neg (by intro z;cases z)]
 show (if PySem.W.kitMeta "ValueError"=true then PySem.W.subIn K (.ref D) (.type "ValueError") else none)=some b
 rw [if_pos hm]
 exact h
section
variable {K:PySem.W.Frag}{C:String→Addr}{E:XK}{Γ Δ Γ' Δ' Γ1 Δ1 Γl Δl Γk Δk:List Nat}{m m1 m2 m3 mr:Nat}{S S1 S2 S3:List (Nat×Bool)}{H:Hp}{Q:VK}
theorem eok_isV {te:TE}{fe:FE}{T:String}{tb:List (String×Bool)}(htb:∀p∈tb,ErrK K (C p.1)∧PySem.W.kitOne K (.ref (C p.1)) (.type T)=some p.2)(he:EOk K C E Γ Δ m S te fe):EOk K C E Γ Δ 2 [] (tCB (rIsV K) (tCons te (tCons (tC (.ty T)) tNil))) (Dl.f1 (Dl.gIsT tb) fe) :=
  fun H0 Hb H σ ρ A Q I p=>he H0 Hb H σ ρ A _ I (p.bind.imp (fun d q v H1 g1 r=>by
    obtain ⟨z,e,q⟩:=oR_ok q
    obtain ⟨B,r,_⟩:=r
    show rIsV K [v,.ty T] H1 Q
    cases d with
    | exc k f =>
      have e:(tb.lookup k).map D.bl=some z:=e
      obtain ⟨b,e1,e2⟩:=Option.map_eq_some_iff.mp e
      subst e2
      obtain ⟨a,dx,rfl,h1,_⟩:=r
      obtain ⟨t1,t2⟩:=htb _ (lookup_memB e1)
      exact ⟨a,C k,T,b,rfl,⟨dx,h1⟩,t1,t2,q _ _ g1 (Res.flat rpB)⟩
    | _=>cases e) fun c x q H' g'=>q H' g')
end
section
variable {X:Cx}{C:String→Addr}{E:XK}{Γ Δ Γ' Δ' Γ1 Δ1 Γl Δl Γk Δk:List Nat}{m m1 m2 m3 mr:Nat}{S S1 S2 S3:List (Nat×Bool)}{a b c e st o tg iter:Expr}{es rest:List Expr}{ta tb tc te ts:TE}{fa fb fc fe fs:FE}{t:TA}{f:FA}{pos p p2 apos cpos pos' np jp:Pos}{n:Nat}{tj:TJ}
theorem ce_isV (K:PySem.W.Frag){ty:Str}{T:String}{tb:List (String×Bool)}(hg:Gl X "isinstance")(hm:X.mg "isinstance"=none)(hgx:Gl X ty)(hmx:X.mg ty=none)(hvt:bootBuiltins ty=some (.type T))(htb:∀p∈tb,ErrK K (C p.1)∧PySem.W.kitOne K (.ref (C p.1)) (.type T)=some p.2)(ha:JE X C E Γ Δ m S e te fe)
  (hse:starEach (e::[.Name ty p2]) X.env=(false,eval e X.env)::starEach [.Name ty p2] X.env) (hn:autoParam (ty≠"__name__") aT1._auto_1) (hd:autoParam ((ty==("__debug__":Str))=false) aT1._auto_1) (hpl:autoParam ((backTo pos (starEach [.Name ty p2] X.env)).any (·.1)=false) aT2._auto_1) (hK:autoParam (X.K=K) aT2._auto_1) :
  JE X C E Γ Δ 2 [] (.Call (.Name "isinstance" p) [e,.Name ty p2] [] pos) (tCB (rIsV K) (tCons te (tCons (tC (.ty T)) tNil))) (Dl.f1 (Dl.gIsT tb) fe):=by
 subst hK
 exact ⟨qe_callB call_isV hg hm PyProof.Rows.boot_isinstance (qa_cons ha.q (qa_cons (qe_bltn (v:=.ty T) hgx hmx hvt rfl hn hd) qa_nil Zaa) hse) (by decide) (by decide) hse hpl,eok_isV htb ha.o⟩
end
end L2
namespace L2
open PySem PySem.Spec PyProof.Rows
open Dl (D R FE FT FA FO FS FI FB Fl)
section
variable {X:Cx}{e:Expr}{te:TE}{pos:Pos}
end
section
variable {K:PySem.W.Frag}{C:String→Addr}{E:XK}{Γ Δ Γ' Δ' Γ1 Δ1 Γl Δl Γk Δk:List Nat}{m m1 m2 m3 mr:Nat}{S S1 S2 S3:List (Nat×Bool)}{H:Hp}{Q:VK}
end
section
variable {X:Cx}{C:String→Addr}{E:XK}{Γ Δ:List Nat}{m:Nat}{S:List (Nat×Bool)}{e:Expr}{es:List Expr}{te:TE}{fe:FE}{f:FA}{pos:Pos}{tj:TJ}
end
end L2
namespace L2
open PySem PySem.Spec PyProof.Rows
open Dl (D R FE FT FA FO FS FI FB Fl)
section
variable {K:PySem.W.Frag}{C:String→Addr}{E:XK}{Γ Δ Γ' Δ' Γ1 Δ1 Γl Δl Γk Δk:List Nat}{m m1 m2 m3 mr:Nat}{S S1 S2 S3:List (Nat×Bool)}{H:Hp}{Q:VK}
end
section
variable {X:Cx}{C:String→Addr}{E:XK}{Γ Δ Γ' Δ' Γ1 Δ1 Γl Δl Γk Δk:List Nat}{mr:Nat}{np pos hpos:Pos}
end
end L2
namespace L2
open PySem PySem.Spec PyProof.Rows
open Dl (D R FE FT FA FO FS FI FB Fl)
section
variable {K:PySem.W.Frag}{C:String→Addr}{E:XK}{Γ Δ Γ' Δ' Γ1 Δ1 Γl Δl Γk Δk:List Nat}{m m1 m2 m3 mr:Nat}{S S1 S2 S3:List (Nat×Bool)}{H:Hp}{Q:VK}
end
section
variable {X:Cx}{C:String→Addr}{E:XK}{Γ Δ Γ' Δ' Γ1 Δ1 Γl Δl Γk Δk:List Nat}{m m1 m2 m3 mr:Nat}{S S1 S2 S3:List (Nat×Bool)}{a b c e st o tg iter:Expr}{es rest:List Expr}{ta tb tc te ts:TE}{fa fb fc fe fs:FE}{pos p p2 apos cpos pos':Pos}
end
end L2
namespace L2
open PySem PySem.Spec PyProof.Rows
open Dl (D R FE FT FA FO FS FI FB Fl)
section
variable {X:Cx}{pins:List (Addr×Obj)}{σ:St}{H:Hp}{s:Shared}{h':Heap}
end
section
variable {X:Cx}{a b e:Expr}{ta tb te:TE}{elts:List Expr}{x1:Nat}{tpos p pos:Pos}{tg:Expr}
end
section
variable {K:PySem.W.Frag}{C:String→Addr}{E:XK}{Γ Δ Γ' Δ':List Nat}{m m1 m2:Nat}{S S1 S2:List (Nat×Bool)}{H:Hp}
end
section
variable {X:Cx}{C:String→Addr}{E:XK}{Γ Δ Γ' Δ':List Nat}{m m1 m2:Nat}{S S1 S2:List (Nat×Bool)}{a b e:Expr}{ta tb te:TE}{fa fb fe:FE}{elts:List Expr}{x1:Nat}{tpos p pos:Pos}{tg:Expr}
end
end L2
namespace L2
open PySem PySem.Spec PyProof.Rows
open Dl (D R FE FT FA FO FS FI FB Fl)
section
variable {X:Cx}
end
section
variable {K:PySem.W.Frag}{C:String→Addr}{E:XK}{Γ Δ Γ' Δ' Γ1 Δ1 Γl Δl Γk Δk:List Nat}{m m1 m2 m3 mr:Nat}{S S1 S2 S3:List (Nat×Bool)}{H:Hp}{Q:VK}
end
section
variable {X:Cx}{kx e:Expr}{tk te:TE}{p p2 pos:Pos}{x:Str}{i:Nat}
end
section
variable {K:PySem.W.Frag}{C:String→Addr}{E:XK}{Γ Δ Γ' Δ' Γ1 Δ1 Γl Δl Γk Δk:List Nat}{m m1 m2 m3 mr:Nat}{S S1 S2 S3:List (Nat×Bool)}{H:Hp}{Q:VK}
end
section
variable {X:Cx}{C:String→Addr}{E:XK}{Γ Δ Γ' Δ' Γ1 Δ1 Γl Δl Γk Δk:List Nat}{m m1 m2 m3 mr:Nat}{S S1 S2 S3:List (Nat×Bool)}{a b c e st o tg iter:Expr}{es rest:List Expr}{ta tb tc te ts tk:TE}{fa fb fc fe fs fk:FE}{t:TA}{f:FA}{pos p p2 apos cpos pos' bpos:Pos}{n:Nat}
end
end L2
namespace L2
open PySem PySem.Spec PyProof.Rows
open Dl (D R FE FT FA FO FS FI FB Fl)
section
variable {X:Cx}{e:Expr}{te:TE}{p pos cp kp:Pos}{k:Nat}
end
section
variable {K:PySem.W.Frag}{C:String→Addr}{E:XK}{Γ Δ Γ' Δ' Γ1 Δ1 Γl Δl Γk Δk:List Nat}{m m1 m2 m3 mr:Nat}{S S1 S2 S3:List (Nat×Bool)}{H:Hp}{Q:VK}
end
section
variable {X:Cx}{C:String→Addr}{E:XK}{Γ Δ Γ' Δ' Γ1 Δ1 Γl Δl Γk Δk:List Nat}{m m1 m2 m3 mr:Nat}{S S1 S2 S3:List (Nat×Bool)}{a b c e st o tg iter:Expr}{es rest:List Expr}{ta tb tc te ts:TE}{fa fb fc fe fs:FE}{pos p p2 apos cpos pos' cp kp:Pos}{k:Nat}
end
end L2
namespace L2
open PySem PySem.Spec PyProof.Rows
open Dl (D R FE FT FA FO FS FI FB Fl)
section
variable {X:Cx}{pins:List (Addr×Obj)}{σ:St}{H:Hp}{s:Shared}
end
section
variable {X:Cx}{C:String→Addr}{E:XK}{Γ Δ Γ' Δ' Γk Δk:List Nat}{m mr:Nat}{S:List (Nat×Bool)}{c tg iter:Expr}{body:List Stmt}{u:TS}{g:FS}{pos:Pos}
end
end L2
namespace L2
open PySem PySem.Spec PyProof.Rows
open Dl (D R FE FT FA FO FS FI FB Fl)
section
variable {K:PySem.W.Frag}{C:String→Addr}{E:XK}{Γ Δ Γ' Δ' Γ1 Δ1 Γl Δl:List Nat}{m m1 m2 mr:Nat}{S S1 S2:List (Nat×Bool)}{H:Hp}
end
section
variable {X:Cx}{C:String→Addr}{E:XK}{Γ Δ Γ' Δ' Γl Δl:List Nat}{m mr:Nat}{a b:Expr}{t:TA}{f:FA}{p p1 p2 pos pt2:Pos}{x y:Str}{i j k k2:Nat}
end
end L2
namespace L2
open PySem PySem.Spec PyProof.Rows
open Dl (D R FE FT FA FO FS FI FB Fl)
section
variable {K:PySem.W.Frag}{C:String→Addr}{E:XK}{Γ Δ Γ' Δ' Γ1 Δ1 Γl Δl Γk Δk:List Nat}{m m1 m2 m3 mr:Nat}{S S1 S2 S3:List (Nat×Bool)}{H:Hp}{Q:VK}
theorem RpA.one_of:∀{ds:List D} {vs:List V} {B:List Addr} {j:Nat} {d:D},RpA K C H ds vs B→ds[j]?=some d→∃B1 Bj B2 v,B=B1++(Bj++B2)∧vs[j]?=some v∧Rp K C H d v Bj∧
    ∀(W:Addr→Prop) H2 d' Bj',Ext W H H2→(∀a∈B1++B2,¬W a)→Rp K C H2 d' v Bj'→RpA K C H2 (ds.set j d') vs (B1++(Bj'++B2))
  | [],_,_,_,_,_,h=>by simp at h
  | d0::ds,_,_,0,d,r,h=>by
    obtain ⟨x,l,B,B',e1,e2,e3,e4⟩:=r
    simp only [List.getElem?_cons_zero,Option.some.injEq] at h
    subst h e1 e4
    exact ⟨[],B,B',x,rfl,rfl,e2,fun W H2 d' Bj' he hn r'=>⟨x,l,Bj',B',rfl,r',e3.ext he fun a ha=>hn a ha,rfl⟩⟩
  | d0::ds,_,_,j+1,d,r,h=>by
    obtain ⟨x,l,B,B',e1,e2,e3,e4⟩:=r
    simp only [List.getElem?_cons_succ] at h
    obtain ⟨B1,Bj,B2,v,q1,q2,q3,q4⟩:=RpA.one_of e3 h
    subst e1 e4 q1
    refine ⟨B++B1,Bj,B2,v,by rw [List.append_assoc],by simpa using q2,q3,fun W H2 d' Bj' he hn r'=>?_⟩
    exact ⟨x,l,B,B1++(Bj'++B2),rfl,e2.ext he fun a ha=>hn a (by simp [ha]),q4 W H2 d' Bj' he (fun a ha=>hn a (by
      rcases List.mem_append.mp ha with z | z
      · simp [z]
      · simp [z])) r',by rw [List.append_assoc]⟩
noncomputable def AtP (K:PySem.W.Frag)(H:Hp):V→List Int→Addr→Prop
 | v,[],b=>v=.ref b
 | v,n::r,b=>∃p xs u,v=.ref p∧(H p=some (.lst xs)∨H p=some (.tup xs))∧atI xs n=some u∧AtP K H u r b
theorem atI_of {α:Type}{xs:List α}{n:Int}{j:Nat}{u:α}(hj:Dl.ixD xs.length n=some j)(hu:xs[j]?=some u):atI xs n=some u:=by
 show Dl.atD xs n=some u
 unfold Dl.atD
 rw [hj]
 exact hu
theorem Rp.path {f:List D→Option (List D)}:∀{path:List Int} {d d':D} {v:V} {A:List Addr},Rp K C H d v A→A.Nodup→Dl.updP f path d=some d'→
    ∃b ys ds es l A1 A2,AtP K H v path b∧H b=some (.lst ys)∧RpA K C H ds ys l∧f ds=some es∧A=A1++(b::l++A2)∧
      ∀H2 zs l',(∀a o,a≠b→H a=some o→H2 a=some o)→H2 b=some (.lst zs)→RpA K C H2 es zs l'→Rp K C H2 d' v (A1++(b::l'++A2))
  | [],d,d',v,A,r,nd,h=>by
    cases d with
    | lst ds =>
      obtain ⟨es,h1,h2⟩:=Option.map_eq_some_iff.mp (show (f ds).map D.lst=some d' from h)
      subst h2
      obtain ⟨a,xs,B,rfl,e2,e3,rfl⟩:=r
      exact ⟨a,xs,ds,es,B,[],[],rfl,e2,e3,h1,by simp,fun H2 zs l' hk hb r'=>⟨a,zs,l',rfl,hb,r',by simp⟩⟩
    | _=>cases h
  | n::path,d,d',v,A,r,nd,h=>by
    cases d with
    | lst xs =>
      obtain ⟨j,hj,h⟩:=Option.bind_eq_some_iff.mp (show (Dl.ixD xs.length n).bind (fun j=>xs[j]?.bind fun d=>(Dl.updP f path d).map fun d'=>D.lst (xs.set j d'))=some d' from h)
      obtain ⟨d0,hd,h⟩:=Option.bind_eq_some_iff.mp h
      obtain ⟨d1,hu,h2⟩:=Option.map_eq_some_iff.mp h
      subst h2
      obtain ⟨a,vs,B,rfl,e2,e3,rfl⟩:=r
      have hl:=e3.len
      obtain ⟨nda,ndB⟩:=List.nodup_cons.mp nd
      obtain ⟨B1,Bj,B2,w,rfl,hw,rw,up⟩:=e3.one_of hd
      have ndj:Bj.Nodup:=(List.nodup_append.mp (List.nodup_append.mp ndB).2.1).1
      obtain ⟨b,ys,ds,es,l,A1,A2,p1,p2,p3,p4,rfl,p6⟩:=Rp.path rw ndj hu
      refine ⟨b,ys,ds,es,l,a::(B1++A1),A2++B2,⟨a,vs,w,rfl,.inl e2,atI_of (by rw [hl];exact hj) hw,p1⟩,p2,p3,p4,by simp,fun H2 zs l' hk hb r'=>?_⟩
      have hba:a≠b:=by rintro rfl;exact nda (by simp)
      have r2:=up (fun c=>c=b) H2 d1 _ (fun c o ho=>by
        by_cases e:c=b
        · subst e
          rw [p2] at ho
          cases ho
          exact .inr ⟨rfl,.lst⟩
        · exact .inl (hk c o e ho)) (fun c hc e=>by
          subst e
          have q1:=(List.nodup_append.mp ndB)
          have q2:=(List.nodup_append.mp q1.2.1)
          rcases List.mem_append.mp hc with z | z
          · exact q1.2.2 c z c (by simp) rfl
          · exact q2.2.2 c (by simp) c z rfl) (p6 H2 zs l' hk hb r')
      exact ⟨a,vs,_,rfl,hk a _ hba e2,r2,by simp⟩
    | tup xs =>
      obtain ⟨j,hj,h⟩:=Option.bind_eq_some_iff.mp (show (Dl.ixD xs.length n).bind (fun j=>xs[j]?.bind fun d=>(Dl.updP f path d).map fun d'=>D.tup (xs.set j d'))=some d' from h)
      obtain ⟨d0,hd,h⟩:=Option.bind_eq_some_iff.mp h
      obtain ⟨d1,hu,h2⟩:=Option.map_eq_some_iff.mp h
      subst h2
      obtain ⟨a,vs,rfl,e2,e3⟩:=r
      have hl:=e3.len
      obtain ⟨B1,Bj,B2,w,rfl,hw,rw,up⟩:=e3.one_of hd
      have ndj:Bj.Nodup:=(List.nodup_append.mp (List.nodup_append.mp nd).2.1).1
      obtain ⟨b,ys,ds,es,l,A1,A2,p1,p2,p3,p4,rfl,p6⟩:=Rp.path rw ndj hu
      refine ⟨b,ys,ds,es,l,B1++A1,A2++B2,⟨a,vs,w,rfl,.inr e2,atI_of (by rw [hl];exact hj) hw,p1⟩,p2,p3,p4,by simp,fun H2 zs l' hk hb r'=>?_⟩
      have hba:a≠b:=by rintro rfl;rw [e2] at p2;cases p2
      have r2:=up (fun c=>c=b) H2 d1 _ (fun c o ho=>by
        by_cases e:c=b
        · subst e
          rw [p2] at ho
          cases ho
          exact .inr ⟨rfl,.lst⟩
        · exact .inl (hk c o e ho)) (fun c hc e=>by
          subst e
          have q1:=(List.nodup_append.mp nd)
          have q2:=(List.nodup_append.mp q1.2.1)
          rcases List.mem_append.mp hc with z | z
          · exact q1.2.2 c z c (by simp) rfl
          · exact q2.2.2 c (by simp) c z rfl) (p6 H2 zs l' hk hb r')
      exact ⟨a,vs,rfl,hk a _ hba e2,by simpa using r2⟩
    | _=>cases h
theorem AtP.same {H H':Hp}(g:Same H H'):∀{path:List Int} {v:V} {b:Addr},AtP K H v path b→AtP K H' v path b
 | [],_,_,h=>h
 | n::r,v,b,h=>by
  obtain ⟨p,xs,u,e,hq,ha,h⟩:=h
  exact ⟨p,xs,u,e,hq.imp (fun q=>g _ _ q) (fun q=>g _ _ q),ha,AtP.same g h⟩
theorem EnvOk.deepWrite {H0 Hb H:Hp}{σ:St}{ρ:DEnv}{A:Nat→List Addr}{i:Nat}{d':D}{v:V}{b:Addr}{zs:List V}{A':List Addr}(I:EnvOk K C H0 Hb H Γ Δ σ ρ A)(hi:i∈Δ)(hl:i<ρ.length)(hs:σ[i]?=some (some v))(hb:b∈A i)
  (r:Rp K C (upd H b (.lst zs)) d' v A') (nd:A'.Nodup) (hA:∀a∈A',a∈A i∨(Hb a=Option.none∧∀j,a∉A j)) :
  EnvOk K C H0 Hb (upd H b (.lst zs)) Γ Δ σ (ρ.set i (some d')) (fun j=>if j=i then A' else A j):=by
 obtain ⟨d1,d2,d3⟩:=I.deep i hi
 obtain ⟨xs,hxs,hm⟩:=I.is hb
 have hA2:∀a∈A',Hb a=Option.none∧∀j,j≠i→a∉A j:=fun a ha=>(hA a ha).elim (fun z=>⟨d3 a z,fun j hj=>d2 j hj a z⟩) fun z=>⟨z.1,fun j _=>z.2 j⟩
 have ext:Ext (fun c=>c=b) H (upd H b (.lst zs)):=fun c o h=>by
  by_cases e:c=b
  ·subst e
   rw [hxs] at h
   cases h
   exact .inr ⟨rfl,hm⟩
  ·rw [Zap e]
   exact .inl h
 refine ⟨I.s0,fun c o h=>?_,by rw [List.length_set,I.len],fun j e h=>?_,fun j h=>?_,fun j hj c hc=>?_,fun j hj c l' e=>?_,fun j hj=>?_⟩
 ·rw [Zap (Zbu h (d3 b hb))]
  exact I.same c o h
 ·rcases get_set h with ⟨e1,_,e2⟩ | ⟨e1,e2⟩
  ·subst e1
   cases e2
   exact ⟨v,hs,by rw [if_pos rfl];exact r⟩
  ·obtain ⟨w,q1,q2⟩:=I.rep j e e2
   refine ⟨w,q1,?_⟩
   rw [if_neg e1]
   exact q2.ext ext fun c hc z=>by subst z;exact d2 j e1 c hb hc
 ·by_cases e:j=i
  ·subst e
   exact absurd (List.getElem?_set_self hl) (h d')
  ·rw [if_neg e]
   exact I.nil j fun x hx=>h x (by rw [List.getElem?_set_ne (fun z=>e z.symm)];exact hx)
 ·by_cases e:j=i
  ·subst e
   rw [if_pos rfl] at hc
   exact I.s0.free (hA2 c hc).1
  ·rw [if_neg e] at hc
   exact I.loc j hj c hc
 ·by_cases e':j=i
  ·subst e'
   rw [if_pos rfl] at e
   subst e
   refine ⟨(hA2 c (.head _)).1,(List.nodup_cons.mp nd).1,fun k hk=>?_⟩
   rw [if_neg hk]
   exact (hA2 c (.head _)).2 k hk
  ·rw [if_neg e'] at e
   obtain ⟨t1,t2,t3⟩:=I.top j hj c l' e
   refine ⟨t1,t2,fun k hk=>?_⟩
   by_cases ek:k=i
   ·subst ek
    rw [if_pos rfl]
    exact fun z=>(hA2 c z).2 j (fun w=>hk w.symm) (by rw [e];exact .head _)
   ·rw [if_neg ek]
    exact t3 k hk
 ·by_cases e':j=i
  ·subst e'
   simp only [if_true]
   refine ⟨nd,fun k hk a ha=>?_,fun a ha=>(hA2 a ha).1⟩
   rw [if_neg hk]
   exact (hA2 a ha).2 k hk
  ·simp only [if_neg e']
   obtain ⟨t1,t2,t3⟩:=I.deep j hj
   refine ⟨t1,fun k hk a ha=>?_,t3⟩
   by_cases ek:k=i
   ·subst ek
    rw [if_pos rfl]
    exact fun z=>(hA2 a z).2 j (fun w=>hk w.symm) ha
   ·rw [if_neg ek]
    exact t2 k hk a ha
theorem EnvOk.pathApp {H0 Hb H:Hp}{σ:St}{ρ:DEnv}{A:Nat→List Addr}{i:Nat}{d d' e:D}{path:List Int}(I:EnvOk K C H0 Hb H Γ Δ σ ρ A)(hi:i∈Δ)(hd:ρ[i]?=some (some d))(hu:Dl.updP (Dl.addL e) path d=some d') :
  ∃v b ys,σ[i]?=some (some v)∧AtP K H v path b∧H b=some (.lst ys)∧ys.length<sizeLine∧∀H2 w B,Same H H2→Rp K C H2 e w B→B.Nodup→(∀a∈B,Hb a=Option.none∧∀j,a∉A j)→
   ∃A',EnvOk K C H0 Hb (upd H2 b (.lst (ys++[w]))) Γ Δ σ (ρ.set i (some d')) A'∧∀j,j≠i→A' j=A j:=by
 obtain ⟨v,hs,r⟩:=I.rep i d hd
 obtain ⟨d1,d2,d3⟩:=I.deep i hi
 obtain ⟨b,ys,ds,es,l,A1,A2,p1,p2,p3,p4,p5,p6⟩:=r.path d1 hu
 unfold Dl.addL at p4
 split at p4
 ·rename_i hz
  cases p4
  have hbA:b∈A i:=by rw [p5];simp
  refine ⟨v,b,ys,hs,p1,p2,by rw [p3.len];exact limLine' hz,fun H2 w B g re nB hB=>?_⟩
  have hbB:b∉B:=fun z=>(hB b z).2 i hbA
  have I2:=I.mono g
  have p2':=g _ _ p2
  have r3:RpA K C (upd H2 b (.lst (ys++[w]))) (ds++[e]) (ys++[w]) (l++B):=by
   have ext:Ext (fun c=>c=b) H2 (upd H2 b (.lst (ys++[w]))):=fun c o h=>by
    by_cases e:c=b
    ·subst e
     rw [p2'] at h
     cases h
     exact .inr ⟨rfl,.lst⟩
    ·rw [Zap e]
     exact .inl h
   have hbl:b∉l:=by
    rw [p5] at d1
    have:=(List.nodup_append.mp d1).2.1
    rw [List.cons_append] at this
    exact fun z=>(List.nodup_cons.mp this).1 (List.mem_append_left _ z)
   exact ((p3.same g).ext ext fun a ha z=>hbl (by rw [← z];exact ha)).app (RpA.one (re.ext ext fun a ha z=>hbB (by rw [← z];exact ha)))
  have r4:=p6 (upd H2 b (.lst (ys++[w]))) (ys++[w]) (l++B) (fun a o ha h=>by rw [Zap ha];exact g _ _ h) Zay r3
  have hsub:∀a∈A1++(b::(l++B)++A2),a∈A i∨(Hb a=Option.none∧∀j,a∉A j):=fun a ha=>by
   rw [p5]
   simp only [List.mem_append,List.mem_cons] at ha ⊢
   rcases ha with z | (z | z | z) | z
   ·exact .inl (.inl z)
   ·exact .inl (.inr (.inl (.inl z)))
   ·exact .inl (.inr (.inl (.inr z)))
   ·exact .inr (hB a z)
   ·exact .inl (.inr (.inr z))
  have nd:(A1++(b::(l++B)++A2)).Nodup:=by
   have pm:(A1++(b::(l++B)++A2)).Perm (A i++B):=by
    rw [p5]
    simp only [List.cons_append,List.append_assoc]
    refine List.Perm.append_left _ (List.Perm.cons _ (List.Perm.append_left _ ?_))
    exact List.perm_append_comm
   refine pm.nodup_iff.mpr (List.nodup_append.mpr ⟨d1,nB,fun x hx y hy e=>?_⟩)
   subst e
   exact (hB x hy).2 i hx
  exact ⟨_,I2.deepWrite hi (List.getElem?_eq_some_iff.mp hd).1 hs hbA r4 nd hsub,fun j hj=>if_neg hj⟩
 ·cases p4
theorem rIx_at {H:Hp}{v:V}{n:Int}{path:List Int}{b:Addr}{Q:VK}(h:AtP K H v (n::path) b)(q:∀u,AtP K H u path b→Q u H):rIx K v (.int n) H Q:=by
 obtain ⟨p,xs,u,rfl,hq,ha,h⟩:=h
 rcases hq with hq | hq
 ·exact .inl ⟨p,xs,n,u,rfl,rfl,SqL.of hq,ha,q u h⟩
 ·exact .inr (.inl ⟨p,xs,n,u,rfl,rfl,SqT.of hq,ha,q u h⟩)
theorem Res.new' {H1 H2:Hp}{H0 Hb H:Hp}{σ:St}{ρ:DEnv}{A A2:Nat→List Addr}{e:D}{w:V}(I:EnvOk K C H0 Hb H Γ Δ σ ρ A)(g:Same H H1)(r:Res K C 2 [] H1 A2 e w H2):∃B,Rp K C H2 e w B∧B.Nodup∧∀a∈B,Hb a=Option.none∧∀j,a∉A j:=by
 obtain ⟨B,r1,r2,_,r4⟩:=r
 have hn:∀a∈B,H a=Option.none:=fun a ha=>g.free ((r2 a ha).elim id fun z=>z.none.elim)
 exact ⟨B,r1,r4 rfl,fun a ha=>⟨I.same.free (hn a ha),fun j z=>I.ne z (hn a ha)⟩⟩
theorem sPath_ok {i:Nat}{ks:FA}{fe:FE}{ρ:DEnv}{ok:Fl→Prop}{er:String→Option Int→Prop}(p:Post (Dl.sPath i ks fe ρ) ok er):∃d zs path e d',ρ[i]?=some (some d)∧ks ρ=.ok zs∧Dl.intsOf zs=some path∧fe ρ=.ok e∧Dl.updP (Dl.addL e) path d=some d'∧ok (.nx (ρ.set i (some d'))):=by
  unfold Dl.sPath at p
  split at p
  · rename_i d ed
    cases ek:ks ρ with
    | bad=>rw [ek] at p;exact p.elim
    | err c x=>rw [ek] at p;exact p.elim
    | ok zs =>
      rw [ek] at p
      have p:Post (match Dl.intsOf zs with
        | some path=>(fe ρ).calm.bind fun v=>match Dl.updP (Dl.addL v) path d with
          | some d'=>.ok (Fl.nx (ρ.set i (some d')))
          | none=>.bad
        | none=>.bad) _ _:=p
      split at p
      · rename_i path ep
        cases ef:fe ρ with
        | bad=>rw [ef] at p;exact p.elim
        | err c x=>rw [ef] at p;exact p.elim
        | ok e =>
          rw [ef] at p
          have p:Post (match Dl.updP (Dl.addL e) path d with
            | some d'=>.ok (Fl.nx (ρ.set i (some d')))
            | none=>.bad) _ _:=p
          split at p
          · rename_i d' eu
            exact ⟨d,zs,path,e,d',ed,rfl,ep,rfl,eu,p⟩
          · exact p.elim
      · exact p.elim
  · exact p.elim
theorem aCons_ok {a:FE}{r:FA}{ρ:DEnv}{zs:List D}(h:Dl.aCons a r ρ=.ok zs):∃x xs,zs=x::xs∧a ρ=.ok x∧r ρ=.ok xs:=by
 unfold Dl.aCons at h
 cases e:a ρ with
 | bad=>rw [e] at h;cases h
 | err c x=>rw [e] at h;cases h
 | ok x =>
  rw [e] at h
  cases e2:r ρ with
  | bad=>rw [e2] at h;cases h
  | err c x=>rw [e2] at h;cases h
  | ok xs =>
   rw [e2] at h
   cases h
   exact ⟨x,xs,rfl,rfl,rfl⟩
theorem sok_path1 {i:Nat}{tk te:TE}{fk fe:FE}(hi:autoParam (i∈Δ) aT1._auto_1)(hk:EOk K C E Γ Δ m1 S1 tk fk)(he:EOk K C E Γ Δ 2 [] te fe) :
  SOk K C E mr Γl Δl Γ Δ Γ Δ (tDrop (tBM K "list" rAppend (tOp (rIx K) (tVar i) tk) (tCons te tNil))) (Dl.sPath i (Dl.aCons fk Dl.aNil) fe):=fun H0 Hb H σ ρ A D I p=>by
 obtain ⟨d,zs,path,e,d',ed,ek0,ep,ef,eu,q⟩:=sPath_ok p
 obtain ⟨y,r,rfl,ek,er⟩:=aCons_ok ek0
 cases er
 have en:∃n,y=.int n∧path=[n]:=by
  cases y<;>simp only [Dl.intsOf] at ep<;>try cases ep
  exact ⟨_,rfl,rfl⟩
 obtain ⟨n,rfl,rfl⟩:=en
 obtain ⟨v,b,ys,hs,hat,hb,hz,up⟩:=I.pathApp hi ed eu
 refine ⟨v,hs,hk H0 Hb H σ ρ A _ I ?_⟩
 rw [ek]
 intro w H1 g1 ry
 obtain ⟨By,ry,_⟩:=ry
 obtain ⟨rfl,_⟩:=ry
 refine rIx_at (hat.same g1) fun u hu=>?_
 have hu:u=.ref b:=hu
 subst hu
 refine ⟨.inl ⟨rfl,ys,SqL.of (g1 _ _ hb)⟩,he H0 Hb H1 σ ρ A _ (I.mono g1) ?_⟩
 rw [ef]
 intro w2 H2 g2 re
 obtain ⟨B,re,nB,hB⟩:=Res.new' I g1 re
 obtain ⟨A',I',_⟩:=up H2 w2 B (g1.trans g2) re nB hB
 exact ⟨b,ys,w2,rfl,rfl,g2 _ _ (g1 _ _ hb),hz,q σ _ A' I'⟩
end
section
variable {X:Cx}{C:String→Addr}{E:XK}{Γ Δ Γ' Δ' Γ1 Δ1 Γl Δl Γk Δk:List Nat}{m m1 m2 m3 mr:Nat}{S S1 S2 S3:List (Nat×Bool)}{a b c e st o tg iter kx lx:Expr}{es rest:List Expr}{ta tb tc te ts tk tl:TE}{fa fb fc fe fs fk fl:FE}{pos p p1 p2 apos cpos pos':Pos}{n:Nat}
theorem cs_path1 {i:Nat}{x:Str}(hk:JE X C E Γ Δ m1 S1 kx tk fk)(hs:PlainIx kx)(he:JE X C E Γ Δ 2 [] e te fe)(hse:starEach [e] X.env=(false,eval e X.env)::starEach [] X.env)(hi:autoParam (i∈Δ) aT1._auto_1)(hN:autoParam (X.N[i]?=some x) aT2._auto_1)(hv:autoParam (Vis X.env.scope x) aT3._auto_1)(hd:autoParam ((x==("__debug__":Str))=false) aT1._auto_1)(hcd:autoParam ((x==("__classdict__":Str))=false) aT1._auto_1)
  (hbase:autoParam (attributeBase (.Subscript (.Name x p) kx p1) "append" X.env (eval (.Subscript (.Name x p) kx p1) X.env)=eval (.Subscript (.Name x p) kx p1) X.env) aT2._auto_1)
  (hfew:autoParam (((backTo cpos (starEach [e] X.env)).all (fun x=>!x.1)&&(backToKw cpos (keywordEach [] X.env)).all (fun x=>x.1.isSome)&&decide (([e]:List Expr).length+([]:List Keyword).length+(if ([]:List Keyword).isEmpty then 0 else 1)<30))=true) aT2._auto_1)
  (hline:autoParam ((apos.endLine==cpos.line)=true) aT2._auto_1) (hplain:autoParam ((backTo cpos (starEach ([]:List Expr) X.env)).any (·.1)=false) aT2._auto_1) (hsw:autoParam (swapsWith (.Call (.Attribute (.Subscript (.Name x p) kx p1) "append" apos) [e] [] cpos) none pos.line X.env=pure false) aT2._auto_1) :
  JS X C E mr Γl Δl Γ Δ Γ Δ (.Expr (.Call (.Attribute (.Subscript (.Name x p) kx p1) "append" apos) [e] [] cpos) pos) (tDrop (tBM X.K "list" rAppend (tOp (rIx X.K) (tVar i) tk) (tCons te tNil))) (Dl.sPath i (Dl.aCons fk Dl.aNil) fe) :=
 ⟨qs_expr (qe_bm PySem.F.plainAttrs_list PySem.F.slot_list_append PySem.F.type_list_append mt_append (qe_ix ix_seq (qv i hN hv hd hcd) hk.q hs) (qa_cons he.q qa_nil hse) hbase hfew hline hse hplain) hsw,sok_path1 hi hk.o he.o⟩
end
end L2
namespace L2
open PySem PySem.Spec PyProof.Rows
open Dl (D R FE FT FA FO FS FI FB Fl)
section
variable {K:PySem.W.Frag}{C:String→Addr}{E:XK}{Γ Δ Γ' Δ' Γ1 Δ1 Γl Δl Γk Δk:List Nat}{m m1 m2 m3 mr:Nat}{H:Hp}{Q:VK}
end
section
variable {X:Cx}{C:String→Addr}{E:XK}{Γ Δ Γ' Δ' Γl Δl:List Nat}{mr:Nat}{pos p p2 apos cpos:Pos}
end
end L2
namespace L2
open PySem PySem.Spec PyProof.Rows
open Dl (D R FE FT FA FO FS FI FB Fl)
section
variable {prog:Program}{w:World}{A:Around}{E:Value→Shared→Prop}{s:Shared}{a₀:Array Keyed}
end
section
variable {X:Cx}
end
section
variable {K:PySem.W.Frag}{C:String→Addr}
end
end L2
namespace L2
open PySem PySem.Spec PyProof.Rows
open Dl (D R FE FT FA FO FS FI FB Fl)
section
variable {K:PySem.W.Frag}{C:String→Addr}{E:XK}{Γ Δ Γ' Δ' Γl Δl:List Nat}{m mr:Nat}{S:List (Nat×Bool)}
end
section
variable {X:Cx}{C:String→Addr}{E:XK}{Γ Δ Γ' Δ' Γl Δl:List Nat}{m mr:Nat}{S:List (Nat×Bool)}{e:Expr}{te:TE}{fe:FE}{p p1 p2 pos:Pos}{x y:Str}{i j k:Nat}
end
end L2
namespace L2
open PySem PySem.Spec PyProof.Rows
open Dl (D R FE FT FA FO FS FI FB Fl)
noncomputable def Itd (lo:Int)(n:Nat):It:=⟨fun i _=>i<n,fun i H x H'=>H'=H∧x=.int (lo - i),fun i _=>n≤i⟩
theorem turn_down {P:Program}{w:World}{K:PySem.W.Frag}{tg:Expr}(it:Addr)(lo:Int)(n:Nat):Turn P w K tg (Itd lo n) [it] it (fun i h=>IsRangeIter h it (lo+(i:Nat)*(-1)) ((n:Int) - (i:Nat)) (-1)) where
 mem:=List.mem_singleton.mpr rfl
 obj:=fun i h st b hb=>by
  rw [List.mem_singleton.mp hb]
  refine ⟨_,st,fun v z=>?_⟩
  have q:Data.fields _=Data.cell v:=z
  cases q
 keep:=fun i h h' st k=>k it (List.mem_singleton.mpr rfl) _ st
 item:=by
  rintro X rfl rfl rfl hc i pins s σ H E I hf st hg
  obtain ⟨f0,f1,f2,f3,f4,f5⟩:=hf it (List.mem_singleton.mpr rfl)
  refine (Walks.range (prog:=X.prog) (w:=X.w) (I.ok.hd hc) it lo (-1) n).item i s _ _ hg st fun v h' tk hv st' kk=>?_
  obtain ⟨t,rfl⟩:=hv
  have J:Inv X pins σ H { s with heap:=h',toks:=tk }:=I.turned (fun b o hb e=>kk b o (fun z=>hb (List.mem_singleton.mp z)) e) f0 f1 f3 f4 f5
  refine ⟨_,rfl,go_of (s:={ s with heap:=h',toks:=tk }) (n:="range_iterator") st' rfl rfl (by decide) ⟨.int (lo - i),H,J,⟨t,?_⟩,⟨rfl,rfl⟩,st',fun b hb=>(hf b hb).1⟩⟩
  rw [show lo - (i:Int)=lo+(i:Int)*(-1) by omega]
 done:=by
  rintro X rfl rfl rfl hc i pins s σ H E I hf st hg
  obtain ⟨f0,f1,f2,f3,f4,f5⟩:=hf it (List.mem_singleton.mpr rfl)
  have hle:(n:Int) - (i:Nat)≤0:=by
   have q:n≤i:=hg
   omega
  exact wpAny_pyNext_range_end (I.ok.hd hc) st hle fun h' eb=>⟨rfl,I.turned (t':=s.toks) (fun b o hb e=>eb b o hb e) f0 f1 f3 f4 f5⟩
 self:=fun _ _ _ _ _ st h=>wpAny_pyIter_rangeiter st h
theorem rangeSize_down (a b:Int):Builtin.Range.rangeSize a b (-1)=(((a - b).toNat:Nat):Int):=by
 unfold Builtin.Range.rangeSize
 rw [if_neg (by decide)]
 split
 ·rw [show (-(-1):Int)=1 from rfl,Int.ediv_one]
  omega
 ·omega
theorem fitsLong {a:Int}(h1:-(2 ^ 62)≤a)(h2:a<2 ^ 62):Builtin.Range.rangeFitsLong a=true:=by
 unfold Builtin.Range.rangeFitsLong
 rw [Bool.and_eq_true,decide_eq_true_eq,decide_eq_true_eq]
 omega
theorem small_down {a b:Int}(h1:-(2 ^ 60)≤a)(h2:a<2 ^ 60)(h3:-(2 ^ 60)≤b)(h4:b<2 ^ 60):Builtin.Range.small a b (-1)=true:=by
 unfold Builtin.Range.small
 rw [rangeSize_down,fitsLong (by omega) (by omega),fitsLong (by omega) (by omega),fitsLong (a:=-1) (by omega) (by omega),fitsLong (by omega) (by omega),if_neg (by decide),fitsLong (by omega) (by omega)]
 simp
section
variable {X:Cx}{tg:Expr}
theorem down_it {pins:List (Addr×Obj)}{σ:St}{H:Hp}{s:Shared}{R:It→Hp→Prop}{E:Value→Shared→Prop}{hi lo:Int}{t u v:Tok}{tk:Nat}(I:Inv X pins σ H s)(h1:-(2 ^ 60)≤hi)(h2:hi<2 ^ 60)(h3:-(2 ^ 60)≤lo)(h4:lo<2 ^ 60)
  (q:R (Itd hi (hi - lo).toNat) H):wpAny (model X.prog X.w) X.A (pyIter (.ref s.heap.objs.size)) (PIE X pins σ tg R) E { s with heap:=s.heap.push { cls:=.type "range",data:=.fields #[.int hi t,.int lo u,.int (-1) v] },toks:=tk }:=by
 refine wpAny_pyIter_range (IsRange.new ..) (small_down h1 h2 h3 h4) ?_
 have J:Inv X pins σ H { s with heap:=s.heap.push { cls:=.type "range",data:=.fields #[.int hi t,.int lo u,.int (-1) v] },toks:=tk }:=I.kept fun b o e=>Heap.get?_push_of_some _ e
 refine ⟨_,[(s.heap.push { cls:=.type "range",data:=.fields #[.int hi t,.int lo u,.int (-1) v] }).objs.size],_,_,H,rfl,J.kept (t':=tk) fun b o e=>Heap.get?_push_of_some _ e,turn_down _ hi (hi - lo).toNat,?_,fun b hb=>?_,q⟩
 ·show IsRangeIter _ _ (hi+((0:Nat):Int)*(-1)) ((((hi - lo).toNat:Nat):Int) - ((0:Nat):Int)) (-1)
  rw [show hi+((0:Nat):Int)*(-1)=hi by simp,show ((((hi - lo).toNat:Nat):Int) - ((0:Nat):Int))=Builtin.Range.rangeSize hi lo (-1) by rw [rangeSize_down];simp]
  exact Heap.get?_push_size _ rfl
 ·rw [List.mem_singleton.mp hb]
  exact J.fpOk (Nat.le_refl _) (J.hok.fresh (Nat.le_refl _))
noncomputable def iRng3 (ta:TA):TI:=fun σ H R=>ta σ H fun vs H1=>∃i j:Int,vs=[.int i,.int j,.int (-1)]∧(-(2 ^ 60)≤i∧i<2 ^ 60∧-(2 ^ 60)≤j∧j<2 ^ 60)∧R (Itd i (i - j).toNat) H1
theorem pi_range3 {a b c:Expr}{ta:TA}{p pos:Pos}(hg:Gl X "range")(hm:X.mg "range"=none)(ha:PA X [a,b,c] ta)(hs:autoParam (starEach [a,b,c] X.env=[(false,eval a X.env),(false,eval b X.env),(false,eval c X.env)]) aT2._auto_1)(hs2:autoParam (starEach [b,c] X.env=[(false,eval b X.env),(false,eval c X.env)]) aT2._auto_1) :
  PI X tg (.Call (.Name "range" p) [a,b,c] [] pos) (iRng3 ta):=by
 intro pins s σ H R I h
 refine Call_ (ld_blt I hg hm boot_range (PyProof.Rows.callWith_type1 (thn (ha pos pins s σ H _ I h) fun us s1 ⟨vs,H1,I1,r1,q1⟩=>?_) (by rw [hs,hs2]) (by rw [hs2];rfl)))
 obtain ⟨i,j,e,⟨q1,q2,q3,q4⟩,q⟩:=q1
 subst e
 cases r1 with
 | cons r rr =>
  cases rr with
  | cons r' rr =>
   cases rr with
   | cons r'' rr =>
    cases rr
    obtain ⟨t,rfl⟩:=r
    obtain ⟨t',rfl⟩:=r'
    obtain ⟨t'',rfl⟩:=r''
    exact call_range_3 (by decide) (down_it I1 q1 q2 q3 q4 q) (.inl (PyProof.noPylong_small (by decide)))
end
section
variable {K:PySem.W.Frag}{C:String→Addr}{E:XK}{Γ Δ:List Nat}{m:Nat}{S:List (Nat×Bool)}{H:Hp}
theorem goes_down {lo:Int}{n:Nat}{Hc:Hp}:Goes K C (Itd lo n) ((Dl.downL lo n).map D.int) Hc:=goes_of (vs:=(Dl.downL lo n).map V.int) RpA.ints fun H2 _=>by
 have hl:((Dl.downL lo n).map V.int).length=n:=by simp [Dl.downL]
 refine ⟨fun i hi=>by rw [hl] at hi;exact hi,fun i hi=>by rw [hl] at hi;exact hi,fun i x H3 y=>⟨y.1,fun hi=>?_⟩⟩
 rw [hl] at hi
 rw [y.2]
 simp [Dl.downL,hi]
theorem RpA.three' {d e f:D}{vs:List V}{A:List Addr}(r:RpA K C H [d,e,f] vs A):∃v w x B B' B'',vs=[v,w,x]∧Rp K C H d v B∧Rp K C H e w B'∧Rp K C H f x B'':=by
 obtain ⟨v,l,B,B',rfl,r1,r2,_⟩:=r
 obtain ⟨w,x,B1,B2,rfl,r3,r4⟩:=RpA.two' r2
 exact ⟨v,w,x,B,B1,B2,rfl,r1,r3,r4⟩
theorem iok_rng3 {t:TA}{f:FA}(h:AOk K C E Γ Δ m S t f):IOk K C E Γ Δ [] (iRng3 t) (Dl.jRng3 f):=fun H0 Hb H σ ρ A Rr I p=>h H0 Hb H σ ρ A _ I (p.bind.imp (fun ds q vs H' g r=>by
  obtain ⟨B,r,_⟩:=r
  split at q
  · split at q
    · rename_i hl
      obtain ⟨v,w,x,B,B',B'',rfl,r1,r2,r3⟩:=RpA.three' r
      obtain ⟨rfl,_⟩:=r1
      obtain ⟨rfl,_⟩:=r2
      obtain ⟨rfl,_⟩:=r3
      obtain ⟨rfl,h1,h2,h3,h4,h5⟩:=hl
      exact ⟨_,_,rfl,⟨by omega,by omega,by omega,by omega⟩,q _ H' [] g (fun b hb=>nomatch hb) (by rw [List.length_map,Dl.downL,List.length_map,List.length_range];exact h5) fun Hc _=>goes_down⟩
    · exact q.elim
  · exact q.elim) fun c x q H' g'=>q H' g')
end
section
variable {X:Cx}{C:String→Addr}{E:XK}{Γ Δ:List Nat}{m n:Nat}{S:List (Nat×Bool)}{tg a b c:Expr}{t:TA}{f:FA}{p pos:Pos}
theorem ci_rng3 (hg:Gl X "range")(hm:X.mg "range"=none)(ha:JA X C E Γ Δ m S [a,b,c] n t f)(hs:autoParam (starEach [a,b,c] X.env=[(false,eval a X.env),(false,eval b X.env),(false,eval c X.env)]) aT2._auto_1)(hs2:autoParam (starEach [b,c] X.env=[(false,eval b X.env),(false,eval c X.env)]) aT2._auto_1):JI X C E Γ Δ [] tg (.Call (.Name "range" p) [a,b,c] [] pos) (iRng3 t) (Dl.jRng3 f):=⟨⟨pi_range3 hg hm ha.q.out hs hs2⟩,iok_rng3 ha.o⟩
end
section
variable {X:Cx}
end
section
variable {K:PySem.W.Frag}{C:String→Addr}
end
end L2
namespace L2
open PySem PySem.Spec PyProof.Rows
open Dl (D R FE FT FA FO FS FI FB Fl FM FMT)
section
variable {K:PySem.W.Frag}{C:String→Addr}{E:XK}{Γ Δ Γ' Δ' Γ1 Δ1 Γl Δl:List Nat}{m m1 m2 mr n:Nat}{S S1 S2:List (Nat×Bool)}{H:Hp}
noncomputable def MOk (K:PySem.W.Frag)(C:String→Addr)(E:XK)(Γ Δ:List Nat)(t:TE)(f:FM):Prop:=∀(H0 Hb H:Hp) (σ:St) (ρ:DEnv) (A:Nat→List Addr) (Q:VK),EnvOk K C H0 Hb H Γ Δ σ ρ A→
 Post (f ρ) (fun p=>∀v H' A' B,EnvOk K C H0 Hb H' Γ Δ σ p.2 A'→Rp K C H' p.1 v B→B.Nodup→(∀a∈B,Hb a=none∧∀j,a∉A' j)→Q v H') (fun c x=>∀H',Same H0 H'→EC C E c x H')→t σ H Q
noncomputable def MTOk (K:PySem.W.Frag)(C:String→Addr)(E:XK)(Γ Δ:List Nat)(t:TT)(f:FMT):Prop:=∀(H0 Hb H:Hp) (σ:St) (ρ:DEnv) (A:Nat→List Addr) (Q:Bool→Hp→Prop),EnvOk K C H0 Hb H Γ Δ σ ρ A→
 Post (f ρ) (fun p=>∀H' A',EnvOk K C H0 Hb H' Γ Δ σ p.2 A'→Q p.1 H') (fun c x=>∀H',Same H0 H'→EC C E c x H')→t σ H Q
noncomputable def SOkP (K:PySem.W.Frag)(C:String→Addr)(E:XK)(Γ Δ Γ' Δ':List Nat)(t:TS)(f:FS):Prop:=∀(H0 Hb H:Hp) (σ:St) (ρ:DEnv) (A:Nat→List Addr) (D:Ends),EnvOk K C H0 Hb H Γ Δ σ ρ A→
  Post (f ρ) (fun fl=>match fl with
    | .nx ρ'=>∀σ' H' A',σ'[0]?=σ[0]?→EnvOk K C H0 Hb H' Γ' Δ' σ' ρ' A'→D.nx σ' H'
    | _=>False) (fun c x=>∀H',Same H0 H'→EC C E c x H')→t D σ H
end
end L2
namespace L2
open PySem PySem.Spec PyProof.Rows
open Dl (D R FE FT FA FO FS FI FB Fl FM FMT)
section
variable {K:PySem.W.Frag}{C:String→Addr}{E:XK}{Γ Δ Γ' Δ' Γ1 Δ1 Γl Δl:List Nat}{m m1 m2 mr n:Nat}{S S1 S2:List (Nat×Bool)}{H:Hp}
noncomputable def MBOk (K:PySem.W.Frag)(C:String→Addr)(E:XK)(Γ Δ:List Nat)(t:TS)(G:FM):Prop:=∀(H0 Hb H:Hp) (σ:St) (ρ:DEnv) (A:Nat→List Addr) (D:Ends) (Q:VK),EnvOk K C H0 Hb H Γ Δ σ ρ A→D.rt=Q→(D.nx=fun _ H'=>Q .non H')→
 Post (G ρ) (fun p=>∀v H' σ' A' B,σ'[0]?=σ[0]?→EnvOk K C H0 Hb H' [0] [0] σ' p.2 A'→Rp K C H' p.1 v B→B.Nodup→(∀a∈B,Hb a=none∧∀j,a∉A' j)→Q v H') (fun c x=>∀H',Same H0 H'→EC C E c x H')→t D σ H
end
structure JM (X:Cx)(C:String→Addr)(E:XK)(Γ Δ:List Nat)(e:Expr)(t:TE)(f:FM):Prop where
 q:QE X e t
 o:MOk X.K C E Γ Δ t f
structure JMT (X:Cx)(C:String→Addr)(E:XK)(Γ Δ:List Nat)(e:Expr)(t:TT)(f:FMT):Prop where
 q:QT X e t
 o:MTOk X.K C E Γ Δ t f
structure JMW (X:Cx)(C:String→Addr)(E:XK)(Γ Δ:List Nat)(e:Expr)(t:TT)(f:FMT):Prop where
 q:QW X e t
 o:MTOk X.K C E Γ Δ t f
structure JP (X:Cx)(C:String→Addr)(E:XK)(Γ Δ Γ' Δ':List Nat)(s:Stmt)(t:TS)(f:FS):Prop where
 q:QS X s t
 o:SOkP X.K C E Γ Δ Γ' Δ' t f
structure JMB (X:Cx)(C:String→Addr)(E:XK)(Γ Δ:List Nat)(s:List Stmt)(t:TS)(f:FM):Prop where
 q:QSs X s t
 o:MBOk X.K C E Γ Δ t f
structure MDef (P:Program)(w:World)(K:PySem.W.Frag)(mg:Str→Option Value)(base:Heap)(CX:CXT)(k:Nat)(C:Addr)(x:Str)(ps:List Str)(sp:Sp):Prop where
 ex:∃f fd,Meth K C x f∧Binds K fd ps []∧FnOk P w K mg base CX k f fd ps sp
structure MkDef (P:Program)(w:World)(K:PySem.W.Frag)(mg:Str→Option Value)(base:Heap)(CX:CXT)(k:Nat)(C:Addr)(ps:List Str)(sp:Sp):Prop where
 ex:∃f fd,Mk K C f∧Binds K fd ps []∧FnOk P w K mg base CX k f fd ps sp
section
variable {X:Cx}{C:String→Addr}{E:XK}{Γ Δ Γ' Δ' Γ1 Δ1 Γl Δl:List Nat}{m m1 m2 mr n:Nat}{S S1 S2:List (Nat×Bool)}{a b e o:Expr}{es rest:List Expr}{te:TE}{fe:FE}{t:TA}{fa:FA}{pos p p2 apos cpos:Pos}{c:String}{f md x:Str}{CX:CXT}{k:Nat}{ps:List Str}{s:Stmt}{ss:List Stmt}{tm:TE}{fm:FM}{u:TS}{g:FS}
end
end L2
namespace L2
open PySem PySem.Spec PyProof.Rows
open Dl (D R FE FT FA FO FS FI FB Fl FM FMT)
section
variable {K:PySem.W.Frag}{C:String→Addr}{E:XK}{Γ Δ Γ' Δ' Γ1 Δ1 Γl Δl:List Nat}{m m1 m2 mr n:Nat}{S S1 S2:List (Nat×Bool)}{H:Hp}
end
section
variable {X:Cx}{C:String→Addr}{E:XK}{Γ Δ Γ' Δ' Γl Δl:List Nat}{m1 m2 n:Nat}{S2:List (Nat×Bool)}{a b e:Expr}{es:List Expr}{ta tb:TE}{fa fb:FE}{t:TA}{ff:FA}{pos p p2 cpos:Pos}{x y:Str}{CX:CXT}{k:Nat}{ps:List Str}
end
theorem allN0 {P:List Value→Prop}(h:P []):∀us:List Value,us.length=0→P us
 | [],_=>h
theorem allN1 {P:List Value→Prop}(h:∀a0,P [a0])(us:List Value)(hl:us.length=1):P us:=by
 cases us with
 | nil=>exact absurd hl (by decide)
 | cons a us=>exact allN0 (P:=fun z=>P (a::z)) (h a) us (Nat.succ.inj hl)
theorem allN2 {P:List Value→Prop}(h:∀a0 a1,P [a0,a1])(us:List Value)(hl:us.length=2):P us:=by
 cases us with
 | nil=>exact absurd hl (by decide)
 | cons a us=>exact allN1 (P:=fun z=>P (a::z)) (h a) us (Nat.succ.inj hl)
theorem allN3 {P:List Value→Prop}(h:∀a0 a1 a2,P [a0,a1,a2])(us:List Value)(hl:us.length=3):P us:=by
 cases us with
 | nil=>exact absurd hl (by decide)
 | cons a us=>exact allN2 (P:=fun z=>P (a::z)) (h a) us (Nat.succ.inj hl)
theorem allN4 {P:List Value→Prop}(h:∀a0 a1 a2 a3,P [a0,a1,a2,a3])(us:List Value)(hl:us.length=4):P us:=by
 cases us with
 | nil=>exact absurd hl (by decide)
 | cons a us=>exact allN3 (P:=fun z=>P (a::z)) (h a) us (Nat.succ.inj hl)
theorem walkX_of {q:Program}{loose:List Str}{XP:(Str→Option Value)→Heap→Prop}{K:Params→PySem.W.Frag}{as:List Addr}{n t:Nat}{r:PySem.W.RowW}{d:DefRec}{kwd:List (Str×Expr)}{run:Value→List Value→Sem Value}
  (e:∀P,as=(K P).map (·.1)) (W:PySem.W.WalkO q loose XP (PySem.W.InK K) r d kwd run):PySem.W.WalkX q loose XP (PySem.W.X.obsZ as) (PySem.W.X.valZ K n t) r d kwd run :=
 fun w s₀ s₁ mg mb G y a o pm cd doc dV kV ho hd hcd hD hmg hg args vals as' L hpre hlay hrd hwl hlo =>
  W w s₀ s₁ mg mb G (PySem.W.InK.keeps w _ _ (PySem.W.X.z_facts e y).2.1 (PySem.W.Laid.keeps L)) a o pm cd doc dV kV ho hd hcd hD hmg hg args vals as' hpre hlay hrd hwl hlo
end L2
namespace L2
open PySem PySem.Spec PyProof.Rows
open Dl (D R FE FT FA FO FS FI FB Fl)
section
variable {K:PySem.W.Frag}{C:String→Addr}{E:XK}{Γ Δ Γ' Δ' Γl Δl:List Nat}{mr:Nat}
end
section
variable {X:Cx}{C:String→Addr}{E:XK}{Γ Δ Γl Δl:List Nat}{m2 mr n k:Nat}{S2:List (Nat×Bool)}{es:List Expr}{t:TA}{ff:FA}{pos p p2 p3 cpos:Pos}{x y:Str}{CX:CXT}{ps:List Str}
end
end L2
namespace L2
open PySem PySem.Spec PyProof.Rows
noncomputable def excInI (K:PySem.W.Frag)(C:Addr)(bmB:List Value)(newId:String)(fI:Addr):Bool:=match K.lookup C with
  | some ⟨.type "type",_,.cls cd,sl⟩=>(match cd.mro,sl.toList with
    | .ref C'::bm,[_,_,_,_,some (.builtin n),_]=>C'==C&&n==newId&&!cd.hasDel&&cd.hasDict&&PySem.W.tailIn K bmB bm&&PySem.W.nsOkIn K cd.ns&&PySem.W.nsIn K cd.ns "__init__"==some (some (.ref fI))
    | _,_=>false)
  | _=>false
noncomputable def XfAt (h:Heap)(e C:Addr):Prop:=∃t dx sl,h.get? e=some { cls:=.ref C,dict:=dx,data:=.fields #[.ref t,.none,.none,.none,.bool false,.none],slots:=sl }
theorem ns_of_in {K:PySem.W.Frag}{h:Heap}{N:Addr}{mg:Str→Option Value}{n:Str}{v:Value}(X:K.In h)(G:h.Ns N mg)(e:PySem.W.nsIn K N n=some (some v)):mg n=some v:=by
 unfold PySem.W.nsIn at e
 split at e
 ·rename_i c d es ep sl ho
  obtain ⟨o,es',ep',hg,hd,hs,hf⟩:=G
  rw [X _ _ ho] at hg
  cases hg
  cases hd
  split at e
  ·rename_i en he
   cases e
   rw [← hf]
   unfold nsFind findBy
   rw [← Array.find?_toList,he]
   rfl
  ·split at e<;>cases e
 ·cases e
theorem excObjI {K:PySem.W.Frag}{h:Heap}{C fI:Addr}{bmB:List Value}{newId:String}(X:K.In h)(q:excInI K C bmB newId fI=true) :
  ∃bm N nm q bs sn sub ab col dd k0 k1 k2 k3 k5 mN,h.get? C=some (excClassObj nm q C N bs bm true sn sub ab col dd k0 k1 k2 k3 k5 newId)∧h.Ns N mN∧mN "__init__"=some (.ref fI)∧OwnTail h bmB bm:=by
 unfold excInI at q
 split at q
 next dct cls slots look =>
  split at q
  next _ above z0 z1 z2 z3 maker z5 isMro isSlots =>
   rw [Bool.and_eq_true,Bool.and_eq_true,Bool.and_eq_true,Bool.and_eq_true,Bool.and_eq_true,Bool.and_eq_true] at q
   obtain ⟨⟨⟨⟨⟨⟨q1,q2⟩,q3⟩,q0⟩,q4⟩,q5⟩,q6⟩:=q
   have same:=beq_iff_eq.mp q1
   have mk:=beq_iff_eq.mp q2
   have nodel:=(Bool.not_eq_true' _).mp q3
   subst same mk
   have all6:slots=#[z0,z1,z2,z3,some (.builtin maker),z5]:=Array.ext' isSlots
   rcases cls with ⟨c1,c2,c3,c4,c5,c6,c7,c8,c9,c10,c11⟩
   cases (show c11=false from nodel)
   cases (show c6=true from q0)
   cases (show c3=_ from isMro)
   cases all6
   have hn:h.Ns c4 (h.nsMap c4):=.of_isNs (PySem.W.isNs_of_in X q5)
   exact ⟨_,c4,c1,c5,c2,c7,c8,c9,c10,dct,z0,z1,z2,z3,z5,_,X _ _ look,hn,ns_of_in X hn (beq_iff_eq.mp q6),PySem.W.tail_of_in X q4⟩
  next=>cases q
 next=>cases q
section
variable {prog:Program}{w:World}{A:Around}{E:Value→Shared→Prop}{h:Heap}{g:Array GenState}{d:Drawn}{t:Nat}{os:OsState}
variable {nm q:Str}{C N:Addr}{bs bm bmB:List Value}{hdct:Bool}{sn:List Str}{sub:List Value}{ab:Bool}{col:Option Bool}{dd:Option Addr}{k0 k1 k2 k3 k5:Option Value}{B newId initId:String}
theorem xf_typeCall (F:ExcBaseFacts B newId initId bmB)(T:OwnTail h bmB bm){mN:Str→Option Value}{rest:List Value}{fI:Addr}{oI:Obj}{Q:Fin→Shared→Prop}
    (hC:h.get? C=some (excClassObj nm q C N bs bm hdct sn sub ab col dd k0 k1 k2 k3 k5 newId)) (hn:h.Ns N mN) (hi:mN "__init__"=some (.ref fI))
    (hfI:h.get? fI=some oI) (hfc:oI.cls=.type "function")
    (hq:∀h' e,Heap.MadeExcOf h h' e (.ref C) rest→
      wpAny (model prog w) A (call (.ref fI) (.ref e::rest)) (fun r s'=>r=.none∧Q (.done (.ret (.ref e))) s') E ⟨h',g,d,t,os⟩) (hrest:rest.length≤sizeLine) :
    wpAny (model prog w) A (Builtin.«type.__call__» ⟨.ref C::rest,[]⟩) Q E ⟨h,g,d,t,os⟩:=by
  repeat (first | with_reducible refine wpAny_loadPart_at hC ?_ | with_reducible refine wpAny_madeBy_exc hC ?_ | wp_step)
  refine codeAny_call_builtin_code (Code.quiet_builtin _ F.quiet) (wpAny_check_new_subT F T hC ?_)
  refine codeAny_exc_new_subT F T hC ?_ hrest
  show wpAny _ _ _ _ _ _
  obtain ⟨h1,e1⟩:∃h1,h1=(h.push { cls:=.type "tuple",data:=.seq rest.toArray }).push { cls:=.ref C,data:=.fields #[.ref h.objs.size,.none,.none,.none,.bool false,.none] }:=⟨_,rfl⟩
  have kp:∀b o,h.get? b=some o→h1.get? b=some o:=fun b o e=>by rw [e1];exact Heap.get?_push_of_some _ (Heap.get?_push_of_some _ e)
  have hget:h1.get? (h.objs.size+1)=some { cls:=.ref C,data:=.fields #[.ref h.objs.size,.none,.none,.none,.bool false,.none] }:=by rw [e1];heap_get
  have htup:h1.get? h.objs.size=some { cls:=.type "tuple",data:=.seq rest.toArray }:=by rw [e1];exact Heap.get?_push_of_some _ (Heap.get?_push_at rfl rfl)
  rw [← e1]
  have hC1:=kp _ _ hC
  have hcC:(Value.ref C::bm).contains (.ref C)=true:=by simp
  unfold isInstance
  repeat (first | with_reducible refine wpAny_loadPart_at hget ?_ | (with_reducible refine wpAny_isSubtype_exc hC1 ?_;rw [hcC]) | wp_step)
  show wpAny _ _ (typeLookup (.ref C) _) _ _ _
  refine wpAny_typeLookup_tail hC1 (hn.keeps kp) (T.keeps kp) F.mroIs F.init.lookup ?_
  rw [hi]
  refine wpAny_holding (wpAny_bind ?_)
  unfold bindSpecial
  refine wpAny_bind (wpAny_typeOf (T:="function") ⟨_,kp _ _ hfI,hfc⟩ ?_)
  rw [if_pos (by decide)]
  refine wpAny_pure (wpAny_bind (wpAny_mono (hq _ (h.objs.size+1) ⟨kp,Heap.get?_none_of_le (Nat.le_succ _),h.objs.size,hget,Heap.get?_none_of_le (Nat.le_refl _),htup⟩) (fun r s' hr=>?_) fun _ _ x=>x))
  obtain ⟨rfl,hQ⟩:=hr
  wp_walk
  exact hQ
theorem xf_call (F:ExcBaseFacts B newId initId bmB)(T:OwnTail h bmB bm){mN:Str→Option Value}{rest:List Value}{fI:Addr}{oI:Obj}{Q:Value→Shared→Prop}
    (hC:h.get? C=some (excClassObj nm q C N bs bm hdct sn sub ab col dd k0 k1 k2 k3 k5 newId)) (hn:h.Ns N mN) (hi:mN "__init__"=some (.ref fI))
    (hfI:h.get? fI=some oI) (hfc:oI.cls=.type "function")
    (hq:∀h' e,Heap.MadeExcOf h h' e (.ref C) rest→
      wpAny (model prog w) (A.under (.builtin "type.__call__" ⟨.ref C::rest,[]⟩)) (call (.ref fI) (.ref e::rest)) (fun r s'=>r=.none∧Q (.ref e) s') E ⟨h',g,d,t,os⟩) (hrest:rest.length≤sizeLine) :
    wpAny (model prog w) A (call (.ref C) rest) Q E ⟨h,g,d,t,os⟩:=by
  have f1:=tc_lookup
  have f2:=tc_bind (.ref C)
  have hT:(⟨h,g,d,t,os⟩:Shared).TypeIs (.ref C) "type":=⟨_,hC,rfl⟩
  refine wpAny_call (codeAny_of_tree ?_)
  show wpAny _ _ (callAny (.ref C) _) _ _ _
  repeat (any_goals (first | assumption | with_reducible refine wpAny_loadPart_at hC ?_ | wp_step))
  refine ⟨rfl,?_⟩
  exact codeAny_call_builtin_at (Code.quiet_builtin _ (by decide +kernel)) entry_typeCall (wpAny_check_type_call_sub hC (xf_typeCall F T hC hn hi hfI hfc (fun h' e hm=>hq h' e hm) hrest))
end
section
variable {prog:Program}{w:World}{A:Around}{E:Value→Shared→Prop}{s:Shared}{env:Env}
variable {nm q:Str}{C N:Addr}{bs bm bmB:List Value}{hdct:Bool}{sn:List Str}{sub:List Value}{ab:Bool}{col:Option Bool}{dd:Option Addr}{k0 k1 k2 k3 k5:Option Value}{B newId initId:String}
theorem xf_raiseStmt {M:Model}{x:Sem Value}{Q:Flow→Shared→Prop}(hbase:bm.contains (.type "BaseException")=true)(hh:A.handled=none)
  (h:wpAny M A x (fun v s₁=>∃e,v=.ref e∧s₁.heap.get? C=some (excClassObj nm q C N bs bm hdct sn sub ab col dd k0 k1 k2 k3 k5 newId)∧XfAt s₁.heap e C∧E (.ref e) s₁) E s) :
  wpAny M A (raiseStmt env (some x) none) Q E s:=by
 have hcB:(Value.ref C::bm).contains (.type "BaseException")=true:=by rw [List.contains_cons,hbase,Bool.or_true]
 unfold raiseStmt
 refine wpAny_bind (wpAny_mono h (fun v s₁ h₁=>?_) fun _ _ x=>x)
 obtain ⟨e,rfl,hC,⟨t,dx,sl,he⟩,hE⟩:=h₁
 obtain ⟨hp,g,d,tk,os⟩:=s₁
 repeat (first | with_reducible refine wpAny_loadPart_at he ?_ | with_reducible refine wpAny_loadPart_at hC ?_ | (with_reducible refine wpAny_isSubtype_exc hC ?_;rw [hcB]) | wp_step)
 exact wpAny_raiseNew_none hh hE
theorem xf_raise (F:ExcBaseFacts B newId initId bmB){mN:Str→Option Value}{x:Str}{np cpos pos:Pos}{args:List Expr}{Q:Flow→Shared→Prop}{fI:Addr}{oI:Obj}
    (hbase:bm.contains (.type "BaseException")=true) (hh:A.handled=none) (hplain:(backTo cpos (starEach args env)).any (·.1)=false) (hi:mN "__init__"=some (.ref fI)) (hfc:oI.cls=.type "function")
    (h:wpAny (model prog w) A (eval (.Name x np) env) (fun f s₁=>f=.ref C∧wpAny (model prog w) A (evalArgs (.ref C) true (backTo cpos (starEach args env)) [])
      (fun a s₂=>a.kw=[]∧a.pos.length≤sizeLine∧s₂.heap.get? C=some (excClassObj nm q C N bs bm hdct sn sub ab col dd k0 k1 k2 k3 k5 newId)∧s₂.heap.Ns N mN∧OwnTail s₂.heap bmB bm∧s₂.heap.get? fI=some oI∧
        ∀h' e,Heap.MadeExcOf s₂.heap h' e (.ref C) a.pos→wpAny (model prog w) (A.under (.builtin "type.__call__" ⟨.ref C::a.pos,[]⟩)) (call (.ref fI) (.ref e::a.pos))
          (fun r s'=>r=.none∧s'.heap.get? C=some (excClassObj nm q C N bs bm hdct sn sub ab col dd k0 k1 k2 k3 k5 newId)∧XfAt s'.heap e C∧E (.ref e) s') E { s₂ with heap:=h' }) E s₁) E s) :
    wpAny (model prog w) A (exec (.Raise (some (.Call (.Name x np) args [] cpos)) none pos) env) Q E s:=by
  rw [arm_exec_Raise]
  refine wpAny_bind (wpAny_standAt (xf_raiseStmt (C:=C) (nm:=nm) (q:=q) (N:=N) (bs:=bs) (bm:=bm) (hdct:=hdct) (sn:=sn) (sub:=sub) (ab:=ab) (col:=col) (dd:=dd) (k0:=k0) (k1:=k1) (k2:=k2) (k3:=k3) (k5:=k5) (newId:=newId) hbase hh (wpAny_bind (wpAny_mono (wpAny_Call_ofName (wpAny_mono h (fun f s₁ h₁=>?_) fun _ _ x=>x)) (fun v s₃ h₃=>wpAny_bind (wpAny_standAt (wpAny_pure h₃))) fun _ _ x=>x))))
  obtain ⟨rfl,h₁⟩:=h₁
  unfold callWith
  refine wpAny_bind (wpAny_holding (wpAny_mono h₁ (fun a s₂ h₂=>wpAny_bind (wpAny_standAt ?_)) fun _ _ x=>x))
  obtain ⟨apos,akw⟩:=a
  obtain ⟨hkw,hlen,hC,hn,T,hfI,h₂⟩:=h₂
  obtain rfl:akw=[]:=hkw
  obtain ⟨hp,g,d,tk,os⟩:=s₂
  simp only [hplain]
  refine wpAny_bind (wpAny_keeperOf_exc hC ?_)
  refine wpAny_bind (xf_call F T hC hn hi hfI hfc (fun h' e hm=>wpAny_mono (h₂ h' e hm) (fun r s' hr=>⟨hr.1,wpAny_bind (wpAny_holding (wpAny_point (wpAny_pure ?_)))⟩) fun _ _ x=>x) hlen)
  exact ⟨e,rfl,hr.2⟩
end
end L2
namespace L2
open PySem PySem.Spec PyProof.Rows
open PySem.W (Looks)
open Builtin Builtin.ObjectAttr
theorem refuse_tail {h:Heap}{bmB bm:List Value}{self:Value}{what:Str}(T:OwnTail h bmB bm)(hp:refuseLoop self what bmB=pure ()):refuseLoop self what bm=pure ():=by
 induction T with
 | base=>exact hp
 | own _ _ _ _ ih=>rw [refuseLoop_ref];exact ih
section
variable {prog:Program}{w:World}{A:Around}{E:Value→Shared→Prop}{h:Heap}{g:Array GenState}{d:Drawn}{t:Nat}{os:OsState}
variable {nm q:Str}{C N x:Addr}{bs bm bmB:List Value}{sn:List Str}{sub:List Value}{ab:Bool}{col:Option Bool}{dd:Option Addr}{k0 k1 k2 k3 k5:Option Value}{B newId sa owner:String}
 {name:Str} {v:Value} {fs:Array Value} {sl:Array (Option Value)}
noncomputable def XfSet (h h':Heap)(x C:Addr)(fs:Array Value)(sl:Array (Option Value))(name:Str)(v:Value):Prop :=
 h'.get? x=some { cls:=.ref C,dict:=some h.objs.size,data:=.fields fs,slots:=sl }∧h'.Ns1 h.objs.size (fun y=>if y=name then some v else none)∧∀b o,b≠x→h.get? b=some o→h'.get? b=some o
theorem xf_check {M:Model}{o:Obj}{nameV:Value}{Q:Unit→Shared→Prop}(SF:StoreFacts B bmB sa owner)(T:OwnTail h bmB bm)
  (hC:h.get? C=some (excClassObj nm q C N bs bm true sn sub ab col dd k0 k1 k2 k3 k5 newId)) (hx:h.get? x=some o) (hc:o.cls=.ref C) (hq:Q () ⟨h,g,d,t,os⟩) :
  wpAny M A (checkBuiltinCall sa ⟨[.ref x,nameV,v],[]⟩) Q E ⟨h,g,d,t,os⟩:=by
 have hcB:(Value.ref C::bm).contains (.type owner)=true:=by rw [List.contains_cons,T.hasType SF.hasOwner,Bool.or_true]
 have ha:=SF.args (.ref x) nameV v
 simp only [checkBuiltinCall,SF.kind,SF.split]
 refine wpAny_bind ?_
 ·unfold isInstance
  repeat (first | (with_reducible refine wpAny_loadPart_at hx ?_;rw [hc]) | (with_reducible refine wpAny_isSubtype_exc hC ?_;rw [hcB]) | wp_step)
  cases hsig:Manifest.signature? sa with
  | none=>exact wpAny_pure hq
  | some sig =>
   simp only [argsOk,hsig] at ha
   have h2:Bind.checkArgs sa sig ⟨[.ref x,nameV,v],[]⟩=pure ():=ha
   show wpAny M A (Bind.checkArgs sa sig ⟨[.ref x,nameV,v],[]⟩) Q E _
   rw [h2];exact wpAny_pure hq
theorem xf_entry {tk:Tok}{Q:Fin→Shared→Prop}(SF:StoreFacts B bmB sa owner)(T:OwnTail h bmB bm)
  (hC:h.get? C=some (excClassObj nm q C N bs bm true sn sub ab col dd k0 k1 k2 k3 k5 newId)) (hna:Looks (model prog w) h (typeLookup (.ref C) name) none)
  (hx:h.get? x=some { cls:=.ref C,dict:=none,data:=.fields fs,slots:=sl })
  (hq:∀h' tk',XfSet h h' x C fs sl name v→Q (.done (.ret .none)) ⟨h',g,d,tk',os⟩) :
  wpAny (model prog w) A (Builtin.«object.__setattr__» ⟨[.ref x,.str name tk,v],[]⟩) Q E ⟨h,g,d,t,os⟩:=by
 have hpass:=refuse_tail T (SF.passes (.ref x))
 obtain ⟨o,eo⟩:∃o:Obj,o={ cls:=.ref C,dict:=none,data:=.fields fs,slots:=sl }:=⟨_,rfl⟩
 have hc:o.cls=.ref C:=by rw [eo]
 have hdn:o.dict=none:=by rw [eo]
 have hda:o.data=.fields fs:=by rw [eo]
 have hsl:o.slots=sl:=by rw [eo]
 rw [← eo] at hx
 clear eo
 have hxs:x≠h.objs.size:=Nat.ne_of_lt (Heap.lt_size hx)
 unfold Builtin.«object.__setattr__»
 repeat (first | rw [refuse_eq] | (rw [refuseLoop_ref,hpass]) | (with_reducible refine wpAny_loadPart_at hx ?_;rw [hc]) | with_reducible refine wpAny_mroOf_exc hC ?_ | with_reducible refine hna.here ?_ | wp_step)
 rw [hdn,if_neg (by simp [typeHasDict])]
 split
 ·rename_i hcd
  cases hcd
 split
 ·rename_i c hcd
  rw [hda] at hcd
  cases hcd
 have hx₁:(h.push { cls:=.type "dict",data:=.dict #[] }).get? x=some o:=Heap.get?_push_of_some _ hx
 refine wpAny_bind (wpAny_alloc' ?_)
 refine wpAny_bind (wpAny_update' hx₁ ?_)
 refine wpAny_pure ?_
 have hgd:((h.push { cls:=.type "dict",data:=.dict #[] }).update x fun o=>{ cls:=o.cls,dict:=some h.objs.size,data:=o.data,slots:=o.slots }).get? h.objs.size
   = some { cls:=.type "dict",data:=.dict #[] } :=
  (Heap.get?_update_ne _ _ _ _ hxs.symm).trans (Heap.get?_push_at rfl rfl)
 have hnd:((h.push { cls:=.type "dict",data:=.dict #[] }).update x fun o=>{ cls:=o.cls,dict:=some h.objs.size,data:=o.data,slots:=o.slots }).Ns h.objs.size (fun _=>none) :=
  ⟨_,#[],_,hgd,rfl,fun e he=>absurd he (by simp),fun _=>rfl⟩
 show wpAny _ _ (storeInDict h.objs.size (.str name tk) name v) _ _ _
 unfold storeInDict newKeyGuard
 refine wpAny_bind (wpAny_pure (wpAny_bind (wpAny_nsSet1 (Heap.Ns1.of_empty hnd) fun h' hn' hs=>?_)))
 obtain ⟨oD,esD,epD,hoD,hdD,hcD⟩:=hn'.count (Within.cons name v Within.nil)
 refine wpAny_bind (wpAny_lookBehind hoD (by rw [hdD];exact pastItsLine_dict (Nat.le_trans hcD (by rw [List.length_cons,List.length_nil,sizeLine_eq];omega))) ?_)
 wp_walk
 have hsame:(({ cls:=o.cls,dict:=some h.objs.size,data:=o.data,slots:=o.slots }:Obj))={ cls:=.ref C,dict:=some h.objs.size,data:=.fields fs,slots:=sl }:=by rw [hc,hda,hsl]
 refine hq h' _ ⟨(hs.2 x hxs).trans ?_,hn',fun b ob hbx hb=>?_⟩
 ·rw [← hsame]
  refine Heap.get?_update_self _ hx₁ ?_
  have hfr:=(Heap.get?_some_iff.mp hx).2
  obtain ⟨oc,od,odt,osl⟩:=o
  cases odt<;>first | rfl | exact hfr
 ·exact (hs.2 b (Nat.ne_of_lt (Heap.lt_size hb))).trans ((Heap.get?_update_ne _ _ _ _ hbx).trans (Heap.get?_push_of_some _ hb))
theorem xf_set {Q:Unit→Shared→Prop}(SF:StoreFacts B bmB sa owner)(T:OwnTail h bmB bm)
  (hC:h.get? C=some (excClassObj nm q C N bs bm true sn sub ab col dd k0 k1 k2 k3 k5 newId)) (hsa:Looks (model prog w) h (typeLookup (.ref C) "__setattr__") (some (.builtin sa))) (hna:Looks (model prog w) h (typeLookup (.ref C) name) none)
  (hx:h.get? x=some { cls:=.ref C,dict:=none,data:=.fields fs,slots:=sl })
  (hq:∀h' tk',XfSet h h' x C fs sl name v→Q () ⟨h',g,d,tk',os⟩) :
  wpAny (model prog w) A (setAttr (.ref x) name v) Q E ⟨h,g,d,t,os⟩:=by
 have f3:=SF.slot.bind (.ref x)
 unfold setAttr callSpecial? specialOf
 repeat (any_goals (first | assumption | with_reducible refine wpAny_loadPart_at hx ?_ | with_reducible refine hsa.here ?_ | wp_step))
 refine codeAny_call_builtin SF.slot.plain SF.entry (xf_check SF T hC hx rfl (xf_entry SF T hC hna hx fun h' tk' hs=>?_))
 repeat (any_goals (first | assumption | wp_step))
 exact hq h' tk' hs
end
end L2
namespace L2
open PySem PySem.Spec PyProof.Rows
open PySem.W (Looks)
section
variable {prog:Program}{w:World}{A:Around}{E:Value→Shared→Prop}{h:Heap}{g:Array GenState}{d:Drawn}{t:Nat}{os:OsState}
variable {nm q:Str}{C N x:Addr}{bs bm bmB:List Value}{hdct:Bool}{sn:List Str}{sub:List Value}{ab:Bool}{col:Option Bool}{dd:Option Addr}{k0 k1 k2 k3 k5:Option Value}{B newId initId:String}
theorem xf_init (F:ExcBaseFacts B newId initId bmB)(T:OwnTail h bmB bm){rest:List Value}{Q:Value→Shared→Prop}{dx:Option Addr}{t0:Addr}{sl:Array (Option Value)}
  (hC:h.get? C=some (excClassObj nm q C N bs bm hdct sn sub ab col dd k0 k1 k2 k3 k5 newId)) (hx:h.get? x=some { cls:=.ref C,dict:=dx,data:=.fields #[.ref t0,.none,.none,.none,.bool false,.none],slots:=sl })
  (hq:∀h' tk',h'.get? x=some { cls:=.ref C,dict:=dx,data:=.fields #[.ref h.objs.size,.none,.none,.none,.bool false,.none],slots:=sl }→(∀b o,b≠x→h.get? b=some o→h'.get? b=some o)→Q .none ⟨h',g,d,tk',os⟩) (hrest:rest.length≤sizeLine) :
  wpAny (model prog w) A (call (.builtin initId) (.ref x::rest)) Q E ⟨h,g,d,t,os⟩:=by
 refine wpAny_call (codeAny_call_builtin F.init.plain F.initEntry (wpAny_check_init_subT F T hC hx rfl ?_))
 wp_walk
 have hxs:x≠h.objs.size:=Nat.ne_of_lt (Heap.lt_size hx)
 refine hq _ _ ?_ fun b o hb e=>?_
 ·rw [Heap.get?_update_self _ (Heap.get?_push_of_some _ hx) rfl]
  rfl
 ·rw [Heap.get?_update_other _ _ (Ne.symm hb)]
  exact Heap.get?_push_of_some _ e
end
section
variable {prog:Program}{w:World}{A:Around}{E:Value→Shared→Prop}{h:Heap}{g:Array GenState}{d:Drawn}{t:Nat}{os:OsState}{a C dx:Addr}{o:Obj}{vs:Array Value}{mA:Str→Option Value}{v:Value}{name:Str}
theorem xf_getEntry {ct:Tok}{cd:ClassData}{Q:Fin→Shared→Prop}(hx:h.get? a=some o)(hc:o.cls=.ref C)(hdx:o.dict=some dx)(hd:o.data=.fields vs)(hcd:Looks (model prog w) h (classData C) cd)(hhd:cd.hasDict=true)(hn:h.Ns1 dx mA)(hv:mA name=some v)
  (hlk:Looks (model prog w) h (typeLookup (.ref C) name) none) (hq:Q (.done (.ret v)) ⟨h,g,d,t,os⟩) :
  wpAny (model prog w) A (Builtin.«object.__getattribute__» ⟨[.ref a,.str name ct],[]⟩) Q E ⟨h,g,d,t,os⟩:=by
 repeat (any_goals (first | assumption | (with_reducible refine wpAny_loadPart_at hx ?_;rw [hc]) | with_reducible refine hlk.here ?_ | wp_step))
 rw [hd]
 show wpAny _ _ (instanceDict a false) _ _ _
 unfold instanceDict
 repeat (any_goals (first | assumption | (with_reducible refine wpAny_loadPart_at hx ?_;rw [hdx]) | wp_step))
 rw [hc]
 refine wpAny_bind (hcd.here ?_)
 rw [hhd]
 refine wpAny_pure ?_
 refine wpAny_nsGet hn.ns ?_
 rw [hv]
 repeat (any_goals (first | assumption | wp_step))
theorem xf_getCall {ct:Tok}{cd:ClassData}{R:Result→Shared→Prop}(hx:h.get? a=some o)(hc:o.cls=.ref C)(hdx:o.dict=some dx)(hd:o.data=.fields vs)(hcd:Looks (model prog w) h (classData C) cd)(hhd:cd.hasDict=true)(hn:h.Ns1 dx mA)(hv:mA name=some v)
  (hlk:Looks (model prog w) h (typeLookup (.ref C) name) none) (hsb:Looks (model prog w) h (isSubtype (.ref C) (.type "BaseException")) true) (hq:R (.ok (.ret v)) ⟨h,g,d,t,os⟩) :
  codeAny (model prog w) A (.call (.builtin "BaseException.__getattribute__") ⟨[.ref a,.str name ct],[]⟩) R ⟨h,g,d,t,os⟩ :=
 codeAny_call_builtin PySem.F.attr_ValueError.ga.plain F.entry_bexc_ga (xcls_check hx hc hsb (xf_getEntry hx hc hdx hd hcd hhd hn hv hlk hq))
theorem xf_get {cd:ClassData}{expr:Bool}{Q:Value→Shared→Prop}(hx:h.get? a=some o)(hc:o.cls=.ref C)(hdx:o.dict=some dx)(hd:o.data=.fields vs)(hcd:Looks (model prog w) h (classData C) cd)(hhd:cd.hasDict=true)(hn:h.Ns1 dx mA)(hv:mA name=some v)
  (hga:Looks (model prog w) h (typeLookup (.ref C) "__getattribute__") (some (.builtin "BaseException.__getattribute__"))) (hge:Looks (model prog w) h (typeLookup (.ref C) "__getattr__") none)
  (hlk:Looks (model prog w) h (typeLookup (.ref C) name) none) (hsb:Looks (model prog w) h (isSubtype (.ref C) (.type "BaseException")) true) (hh:PySem.W.handedIn v=true) (hq:Q v ⟨h,g,d,t+1,os⟩) :
  wpAny (model prog w) A (getAttr (.ref a) name expr) Q E ⟨h,g,d,t,os⟩:=by
 have f3:=PySem.F.attr_ValueError.ga.bind (.ref a)
 have hz2:(Value.builtin "BaseException.__getattribute__"==Value.builtin "object.__getattribute__")=false:=by decide +kernel
 have hz1:(onTheHeap (Value.ref C)&&Value.builtin "BaseException.__getattribute__"==Value.builtin "object.__getattribute__")=false:=by rw [hz2];rfl
 have hx0:(expr&&onTheHeap (Value.builtin "BaseException.__getattribute__"))=false:=by cases expr<;>rfl
 unfold getAttr
 repeat (any_goals (first | assumption | (with_reducible refine wpAny_loadPart_at hx ?_;rw [hc]) | with_reducible refine hga.here ?_ | with_reducible refine hge.here ?_ | wp_step))
 refine xf_getCall hx hc hdx hd hcd hhd hn hv hlk hsb ?_
 repeat (any_goals first | assumption | wp_step)
 show wpAny _ _ (handedOut v) _ _ _
 rw [PySem.W.handedOut_of hh]
 exact wpAny_pure hq
end
end L2
namespace L2
open PySem PySem.Spec PyProof.Rows
open Dl (D R FE FT FA FO FS FI FB Fl)
structure ErrF (K:PySem.W.Frag)(C:Addr)(nm:Str)(fI:Addr):Prop where
 exc:excInI K C bmV "ValueError.__new__" fI=true
 sa:PySem.W.findIn K (.ref C) "__setattr__"=some (some (.builtin "object.__setattr__"))
 nf:PySem.W.findIn K (.ref C) nm=some none
 hd:PySem.W.hasDictIn K C=true
theorem excInI_ob {K:PySem.W.Frag}{C fI:Addr}{bmB:List Value}{newId:String}(q:excInI K C bmB newId fI=true):∃dd cd sl,K.lookup C=some ⟨.type "type",dd,.cls cd,sl⟩:=by
 unfold excInI at q
 split at q
 next dct cls slots look=>exact ⟨_,_,_,look⟩
 next=>cases q
noncomputable def exA (e C:Addr)(dx:Option Addr):HO:=.ext fun h=>∃t sl,h.get? e=some { cls:=.ref C,dict:=dx,data:=.fields #[.ref t,.none,.none,.none,.bool false,.none],slots:=sl }
theorem exA_ok {P:Program}{w:World}{H:Hp}{h:Heap}{e C t:Addr}{dx:Option Addr}{sl:Array (Option Value)}(he:h.get? e=some { cls:=.ref C,dict:=dx,data:=.fields #[.ref t,.none,.none,.none,.bool false,.none],slots:=sl }):ObjOk P w H h e (exA e C dx) :=
 ⟨⟨t,sl,he⟩,⟨_,he⟩,fun _ _ ⟨t,sl,q⟩ k=>⟨t,sl,k _ q⟩⟩
theorem upd_id {H:Hp}{a:Addr}{o:HO}(h:H a=some o):upd H a o=H:=by
 funext b
 by_cases q:b=a
 ·rw [q,Zay,h]
 ·rw [Zap q]
section
variable {X:Cx}{pins:List (Addr×Obj)}{σ:St}{H:Hp}{s:Shared}
theorem Inv.trackA {e C t:Addr}{dx:Option Addr}{sl:Array (Option Value)}(I:Inv X pins σ H s)(he:s.heap.get? e=some { cls:=.ref C,dict:=dx,data:=.fields #[.ref t,.none,.none,.none,.bool false,.none],slots:=sl })
  (oo:H e=none∧X.s₀.heap.get? e=none∧e≠X.env.locals∧(∀x c,X.env.cells.lookup x=some c→c≠e)∧∀p∈X.pn++pins,p.1≠e):Inv X pins σ (upd H e (exA e C dx)) s:=by
 have hn:=oo.1
 have ne:∀b u,H b=some u→b≠e:=fun b u q z=>by rw [z,hn] at q;cases q
 rcases s with ⟨hp,g,d,tk,os⟩
 refine I.step' (h':=hp) (g':=g) (t':=tk) (d':=d) (ch:=[e]) (fun b hb=>by rw [List.mem_singleton.mp hb];exact oo.2) (fun b o _ _ _ q _=>q) (fun b o _ _ _ q _=>⟨o.slots,q⟩) (fun b o hb q n=>?_) (fun b o _ q=>⟨o,q⟩)
  (fun b xs q=>by rw [Zap (ne _ _ q)];exact q) (fun b o u q=>by rw [Zap (ne _ _ q)];exact q) (fun b ps q=>⟨#[],by rw [Zap (ne _ _ q),q];simp⟩) (fun m hm=>hm) (fun a o q=>?_) I.bare
 ·rw [Zap (fun z=>hb (by simp [z]))]
  exact n
 ·by_cases ea:a=e
  ·subst ea
   rw [Zay] at q
   cases q
   exact exA_ok he
  ·rw [Zap ea] at q
   exact (I.hok a o q).stay (fun b u _ q=>q) (fun b q=>by rw [Zap (ne _ _ q)];exact q) (fun b xs q=>by rw [Zap (ne _ _ q)];exact q)
theorem Inv.drop {e C:Addr}{dx:Option Addr}{H':Hp}(I:Inv X pins σ H s)(he:H e=some (exA e C dx))(h1:H' e=none)(h2:∀b,b≠e→H' b=H b)(hn:X.s₀.heap.get? e=none)(hx:X.ex=[]):Inv X pins σ H' s:=by
 have sub:∀b,H b=none→H' b=none:=fun b q=>by
  by_cases z:b=e
  ·rw [z];exact h1
  ·rw [h2 b z];exact q
 have tr:∀b u,H b=some u→u≠exA e C dx→H' b=some u:=fun b u q n=>by
  rw [h2 b fun z=>n ?_]
  ·exact q
  ·rw [z,he] at q
   exact (Option.some.inj q).symm
 refine ⟨I.ok,I.os,I.bare,⟨I.base.keep,I.base.slot,fun b o q n hb=>sub b (I.base.free b o q n hb),I.base.there,fun b xs q=>tr b _ (I.base.tups b xs q) (by intro z;cases z),fun b o u q=>tr b _ (I.base.frzs b o u q) (by intro z;cases z),fun b ps q=>?_⟩,I.loc,I.cell,sub _ I.free,fun x c q=>sub c (I.freeC x c q),fun p hp=>?_,fun a o q=>?_,I.len⟩
 ·obtain ⟨more,z⟩:=I.base.tbls b ps q
  exact ⟨more,tr b _ z (by intro z;cases z)⟩
 ·obtain ⟨a1,a2,a3⟩:=I.pin p hp
  exact ⟨a1,sub _ a2,a3⟩
 ·have ne:a≠e:=fun z=>by rw [z,h1] at q;cases q
  rw [h2 a ne] at q
  exact (I.hok a o q).stay (fun b u _ q=>q) (fun b q=>tr b _ q (by intro z;cases z)) fun b xs q=>tr b _ q (by intro z;cases z)
theorem Inv.setX {e C:Addr}{y:V}{u:Value}{nm:Str}{t:Addr}{sl:Array (Option Value)}{h':Heap}{tk:Nat}(I:Inv X pins σ H s)(he:H e=some (exA e C none))(hx:X.ex=[])
  (hs:XfSet s.heap h' e C #[.ref t,.none,.none,.none,.bool false,.none] sl nm u) (ry:RelV y u):Inv X pins σ (upd (upd H s.heap.objs.size (.xd [(nm,y)])) e (exA e C (some s.heap.objs.size))) { s with heap:=h',toks:=tk }:=by
 obtain ⟨hs1,hs2,hs3⟩:=hs
 obtain ⟨d,hd⟩:∃d,d=s.heap.objs.size:=⟨_,rfl⟩
 rw [← hd] at hs1 hs2 ⊢
 have dn:s.heap.get? d=none:=by rw [hd];exact Heap.get?_none_of_le (Nat.le_refl _)
 have od:=I.ownNew hx dn
 have ne:d≠e:=fun z=>by rw [← z,od.1] at he;cases he
 have hH:∀b u,H b=some u→b≠d:=fun b u q z=>by rw [z,od.1] at q;cases q
 have tr:∀b u,H b=some u→u≠exA e C none→upd (upd H d (.xd [(nm,y)])) e (exA e C (some d)) b=some u:=fun b u q n=>by
  rw [Zap (fun z=>n ?_),Zap (hH b u q)]
  ·exact q
  ·rw [z,he] at q
   exact (Option.some.inj q).symm
 refine I.step' (h':=h') (g':=s.gens) (t':=tk) (d':=s.drawn) (ch:=[d]) (fun b hb=>by rw [List.mem_singleton.mp hb];exact od.2) (fun b o _ _ _ q n=>hs3 b o (fun z=>by rw [z,he] at n;cases n) q) (fun b o _ _ _ q n=>⟨o.slots,hs3 b o (fun z=>by rw [z,he] at n;cases n) q⟩)
  (fun b o hb q n=>?_) (fun b o _ q=>?_) (fun b xs q=>tr b _ q (by intro z;cases z)) (fun b o u q=>tr b _ q (by intro z;cases z)) (fun b ps q=>⟨#[],by rw [tr b _ q (by intro z;cases z)];simp⟩) (fun m hm=>?_) (fun a o q=>?_) I.bare
 ·rw [Zap (fun z=>by rw [z,he] at n;cases n),Zap (fun z=>hb (by simp [z]))]
  exact n
 ·by_cases z:b=e
  ·exact ⟨_,by rw [z];exact hs1⟩
  ·exact ⟨o,hs3 b o z q⟩
 ·have nl:X.env.locals≠e:=fun z=>by rw [← z,I.free] at he;cases he
  exact hm.at fun o q=>hs3 _ o nl q
 ·by_cases ea:a=e
  ·subst ea
   rw [Zay] at q
   cases q
   exact exA_ok hs1
  ·rw [Zap ea] at q
   by_cases ed:a=d
   ·subst ed
    rw [Zay] at q
    cases q
    refine ⟨_,hs2,fun f=>?_⟩
    by_cases z:f=nm
    ·subst z
     simp only [List.lookup_cons,beq_self_eq_true,if_pos]
     exact ry
    ·have:(f==nm)=false:=by simpa using z
     simp only [List.lookup_cons,this,List.lookup_nil,if_neg z]
     trivial
   ·rw [Zap ed] at q
    refine (I.hok a o q).stay (fun b u hb q2=>hs3 b u (fun z=>?_) q2) (fun b q=>tr b _ q (by intro z;cases z)) fun b xs q=>tr b _ q (by intro z;cases z)
    rcases hb with w | w
    ·exact ea (w.symm.trans z)
    ·rw [z,he] at w;cases w
end
structure BaseI (K:PySem.W.Frag)(B:Addr):Prop where
 sp:PySem.W.specialIn K (.ref B) "__getattribute__"=some (some (.builtin "type.__getattribute__"))
 rd:PySem.W.readsIn K B (.type "type")=true
 fc:PySem.W.findCls K (.ref B) (.type "type") "__init__"=some (.val (.builtin "ValueError.__init__"))
noncomputable def tInitX (K:PySem.W.Frag)(t:TA):TE:=fun σ H Q=>t σ H fun vs H1=>∃e C x fI,vs=[.ref e,x]∧H1 e=some (exA e C none)∧excInI K C bmV "ValueError.__new__" fI=true∧Q .non H1
section
variable {X:Cx}{e o value:Expr}{es:List Expr}{t:TA}{ta tv:TE}{pos pos' apos np:Pos}{b f:Str}{B:Addr}
theorem pe_initX {pl:Sem Bool}(hB:BaseI X.K B)(hm:X.mg b=some (.ref B))(ha:PA X (e::es) t)(hg:autoParam (Gl X b) aT2._auto_1)(hdb:autoParam ((b==("__debug__":Str))=false) aT1._auto_1)
    (he:autoParam (starEach (e::es) X.env=(false,eval e X.env)::starEach es X.env) aT2._auto_1) (hpl:autoParam ((backTo pos (starEach es X.env)).any (·.1)=false) aT2._auto_1)
    (ht:eval (.Call (.Attribute (.Name b np) "__init__" apos) (e::es) [] pos) X.env=(do
      let ov ← eval (.Name b np) X.env
      standAt apos.atName
      let (f,first) ← holding [ov] (getMethod ov "__init__" pl)
      callWith pos f first (backTo pos (starEach (e::es) X.env)) (backToKw pos (keywordEach [] X.env))):=by rfl) :
    PE X (.Call (.Attribute (.Name b np) "__init__" apos) (e::es) [] pos) (tInitX X.K t):=by
  intro pins s σ H Q I h
  refine PySem.W.methodCall_KW (pl:=pl) (ld_glob I hg hm ?_ hdb) ht
  refine PySem.W.method_cls I.kIn hB.sp (PySem.W.cls_value I.kIn hB.rd hB.fc rfl ?_)
  refine PyProof.Rows.callWith_builtin1 (thn (ha pos pins _ σ H _ (I.tok _) h) fun us s1 ⟨vs,H1,I1,r1,q1⟩=>?_) he hpl
  obtain ⟨ea,C,x,fI,rfl,hH,hx,q⟩:=q1
  obtain ⟨u,w',rfl,rx,ry⟩:=vals2 r1
  cases rx
  obtain ⟨bm,N,nm,q2,bs,sn,sub,ab,col,dd,k0,k1,k2,k3,k5,mN,hC,hN,hi,T⟩:=excObjI (h:=s1.heap) I1.kIn hx
  obtain ⟨⟨t0,sl,hea⟩,_⟩:=I1.hok ea _ hH
  rcases s1 with ⟨hp,g,d,tk,os⟩
  refine xf_init PySem.F.excBase_ValueError T hC hea (fun h' tk' h1 h2=>⟨.non,H1,?_,rfl,q⟩) (by show 1≤sizeLine;decide)
  have J:=I1.write (x:=ea) (e:=ea) (o:=exA ea C none) (h':=h') (t':=tk') (by rw [hH];trivial) (.inl rfl) (fun b u n z=>h2 b u n z) ⟨_,h1⟩ (exA_ok h1)
  rw [upd_id hH] at J
  exact J
noncomputable def sSetX (K:PySem.W.Frag)(f:Str)(ta tv:TE):TS:=fun D σ H=>tv σ H fun y H1=>ta σ H1 fun x H2=>∃e C fI,x=.ref e∧H2 e=some (exA e C none)∧ErrF K C f fI∧
 ∀d,H2 d=none→D.nx σ (upd (upd H2 d (.xd [(f,y)])) e (exA e C (some d)))
theorem ps_setX (ha:PE X o ta)(hv:PE X value tv)(hs:swapsWith value (some (.Attribute o f pos')) pos.line X.env=pure false)(hx:X.ex=[]):PS X (.Assign [.Attribute o f pos'] value pos) (sSetX X.K f ta tv):=by
 intro pins s σ H D I h
 refine plainObj_wpAny_Assign_Attribute (thn (hv pins s σ H _ I h) fun u s1 ⟨y,H1,I1,ry,q⟩=>thn (ha pins s1 σ H1 _ I1 q) fun ov s2 ⟨x,H2,I2,rx,e,C,fI,ex,ea,c,q2⟩=>?_) hs
 subst ex
 obtain rfl:ov=Value.ref e:=rx
 obtain ⟨bm,N,nm,q3,bs,sn,sub,ab,col,dd,k0,k1,k2,k3,k5,mN,hC,hN,hi,T⟩:=excObjI (h:=s2.heap) I2.kIn c.exc
 obtain ⟨⟨t0,sl,hea⟩,_⟩:=I2.hok e _ ea
 rcases s2 with ⟨hp,g,d,tk,os⟩
 exact xf_set PySem.F.store_ValueError T hC (PySem.W.looks_findIn I2.kIn c.sa) (PySem.W.looks_findIn I2.kIn c.nf) hea fun h' tk' hs=>⟨σ,_,I2.setX (tk:=tk') ea hx hs ry,q2 _ I2.fresh⟩
noncomputable def tExF (K:PySem.W.Frag)(f:Str)(te:TE):TE:=fun σ H Q=>te σ H fun x H1=>∃e C d i,x=.ref e∧H1 e=some (exO e (.ref C) (some d))∧H1 d=some (.xd [(f,.int i)])∧ErrK K C∧PySem.W.findIn K (.ref C) f=some none∧PySem.W.hasDictIn K C=true∧Q (.int i) H1
theorem pe_exF (he:PE X e ta)(hb:attributeBase e f X.env (eval e X.env)=eval e X.env):PE X (.Attribute e f pos) (tExF X.K f ta):=by
 intro pins s σ H Q I h
 refine attr_of hb (thn (he pins s σ H _ I h) fun u s1 hz9=>?_)
 obtain ⟨x,H1,I1,rx,a,C,d,i,ex,ea,ed,c,n,l,q⟩:=hz9
 subst ex
 obtain rfl:u=Value.ref a:=rx
 obtain ⟨⟨o,vs,h1,h2,h3,h4⟩,_⟩:=I1.hok a _ ea
 obtain ⟨mA,hn,hr⟩:=(show ObjOk X.prog X.w H1 s1.heap d (.xd [(f,.int i)]) from I1.hok d _ ed)
 have hf:=hr f
 simp only [List.lookup_cons,beq_self_eq_true] at hf
 obtain ⟨v,hv,rv⟩:=RelO.some_of hf
 obtain ⟨cd,hc,hd'⟩:=PySem.W.any_some l
 rcases s1 with ⟨hp,g,dr,tk,os⟩
 exact xf_get h1 h2 h4 h3 (PySem.W.looks_clsIn I1.kIn hc) hd' hn hv (PySem.W.looks_findIn I1.kIn c.ga) (PySem.W.looks_findIn I1.kIn c.ge) (PySem.W.looks_findIn I1.kIn n) (PySem.W.looks_subIn I1.kIn c.sb) (handed_of rv) ⟨.int i,H1,I1.tok _,rv,q⟩
end
noncomputable def spInit (K:PySem.W.Frag)(nm:Str):Sp:=fun vs H Q _=>∃e C i fI,vs=[.ref e,.int i]∧H e=some (exA e C none)∧ErrF K C nm fI∧i.natAbs.log2<1920∧∀d,H d=none→Q .non (upd (upd H d (.xd [(nm,.int i)])) e (exA e C (some d)))
noncomputable def tRaiseX (C:Value)(nm:Str)(E:XK)(te:TE):TS:=fun _ σ H=>te σ H fun v H1=>∃i,v=.int i∧i.natAbs.log2<1920∧∀d,H1 d=none→E C (some d) (upd H1 d (.xd [(nm,.int i)]))
theorem ps_raiseX {X:Cx}{x nm:Str}{C fI:Addr}{fd:FuncData}{k:Nat}{ps:List Str}{e:Expr}{te:TE}{E:XK}{CX:CXT}{np cpos pos:Pos}(hF:ErrF X.K C nm fI)(hfn:PySem.W.typeIn X.K (.ref fI)=some (.type "function"))(hm:X.mg x=some (.ref C))
    (F:FnOk X.prog X.w X.K X.mg X.base CX k fI fd ps (spInit X.K nm)) (hcx:∀o H s v s',¬CX o H s (fun _ _ _=>False) v s') (hps:ps.length=2) (hb:Binds X.K fd ps []) (hr:Room (k+1) X.A) (ha:PE (X.wish (ER X E)) e te) (hg:autoParam (Gl X x) aT2._auto_1) (hc:autoParam (X.calm=true) aT2._auto_1) (hx:autoParam (X.ex=[]) aT2._auto_1)
    (hdb:autoParam ((x==("__debug__":Str))=false) aT1._auto_1) (he:autoParam (starEach [e] X.env=(false,eval e X.env)::starEach [] X.env) aT2._auto_1) (hpl:autoParam ((backTo cpos (starEach ([]:List Expr) X.env)).any (·.1)=false) aT2._auto_1) :
    PS (X.wish (ER X E)) (.Raise (some (.Call (.Name x np) [e] [] cpos)) none pos) (tRaiseX (.ref C) nm E te):=by
  intro pins s σ H D I h
  obtain ⟨bm,N,nm2,q,bs,sn,sub,ab,col,dd,k0,k1,k2,k3,k5,mN,hC,hN,hi,T⟩:=excObjI (h:=X.base) I.ok.mod.kin hF.exc
  obtain ⟨oI,hoI,hfc⟩:∃oI,X.base.get? fI=some oI∧oI.cls=.type "function":=by
    have hfn:(X.K.lookup fI).map (·.cls)=some (.type "function"):=hfn
    cases q:X.K.lookup fI with
    | none=>rw [q] at hfn;cases hfn
    | some o =>
      rw [q] at hfn
      refine ⟨o,I.ok.mod.kin _ _ q,?_⟩
      simpa using hfn
  refine xf_raise (C:=C) (nm:=nm2) (q:=q) (N:=N) (bs:=bs) (bm:=bm) (hdct:=true) (sn:=sn) (sub:=sub) (ab:=ab) (col:=col) (dd:=dd) (k0:=k0) (k1:=k1) (k2:=k2) (k3:=k3) (k5:=k5)
    PySem.F.excBase_ValueError (mN:=mN) (T.hasType PySem.F.excBase_ValueError.hasBase) (I.ok.hd hc) (by rw [show starEach [e] (X.wish (ER X E)).env=(false,eval e X.env)::starEach [] X.env from he];show (false||(backTo cpos (starEach ([]:List Expr) X.env)).any (·.1))=false;rw [hpl];rfl) hi hfc (ld_glob I hg hm ⟨rfl,?_⟩ hdb)
  rw [show starEach [e] (X.wish (ER X E)).env=(false,eval e X.env)::starEach [] X.env from he]
  refine Calls.evalArgs_plain (Calls.spliced_cons (thn (ha pins s σ H _ I h) fun u s2 ⟨v,H2,I2,r2,i,ev,hl,q2⟩=>Calls.spliced_nil ⟨rfl,by show 1≤sizeLine;decide,I2.bk _ _ hC,hN.keeps I2.bk,T.keeps I2.bk,I2.bk _ _ hoI,fun h' ea hmk=>?_⟩))
  subst ev
  obtain ⟨t,he',htn,ht⟩:=hmk.there
  have J2:Inv X pins σ H2 s2:=I2.unwish
  have J3:Inv X pins σ H2 { s2 with heap:=h' }:=J2.kept (t':=s2.toks) hmk.keeps
  have oo:=J2.ownNew hx hmk.new
  have J4:=J3.trackA he' oo
  have run:=F.run (X.A.under (.builtin "type.__call__" ⟨.ref C::[u],[]⟩)) X.stack { s2 with heap:=h' } (upd H2 ea (exA ea C none)) ⟨[.ref ea,u],[]⟩ [.ref ea,u] [.ref ea,.int i]
    (fun v H'=>v=.non∧∃d,(upd H2 ea (exA ea C none)) d=none∧H'=upd (upd (upd H2 ea (exA ea C none)) d (.xd [(nm,.int i)])) ea (exA ea C (some d))) (fun _ _ _=>False) (hr.make C [u] []) (J4.env0.make C [u] [])
    (by have z:=hb { s2 with heap:=h' } [.ref ea,u] J4.kIn (by rw [hps];rfl);rw [List.append_nil] at z;exact z) (.cons rfl (.cons r2 .nil)) ⟨ea,C,i,fI,rfl,Zay,hF,hl,fun d hd=>⟨rfl,d,hd,rfl⟩⟩
  refine wpAny_call (codeAny_mono run fun r s' hq=>?_)
  rcases r with ev | fl
  · exact (hcx _ _ _ _ _ hq).elim
  cases fl with
  | ret u' =>
    obtain ⟨v',H',os,bare,un,hok,rv,rfl,d,hd,rfl⟩:=hq
    obtain rfl:u'=Value.none:=rv
    have J5:Inv X pins σ _ s':=J4.call' (ch:=[]) os un hok bare (by simp)
    have ne:d≠ea:=fun z=>by rw [z,Zay] at hd;cases hd
    have hd2:H2 d=none:=by rw [Zap ne] at hd;exact hd
    obtain ⟨⟨t1,sl1,hea⟩,_⟩:=J5.hok ea _ Zay
    have J6:Inv X pins σ (upd H2 d (.xd [(nm,.int i)])) s':=J5.drop (e:=ea) (C:=C) (dx:=some d) Zay (by rw [Zap (Ne.symm ne)];exact oo.1) (fun b hb=>by
      rw [Zap hb]
      by_cases z:b=d
      · rw [z,Zay,Zay]
      · rw [Zap z,Zap z,Zap hb]) oo.2.1 hx
    refine ⟨rfl,J5.bk _ _ hC,⟨t1,some d,sl1,hea⟩,ea,some d,rfl,⟨_,hea,rfl⟩,pins,ea,[ea],.ref C,none,σ,_,rfl,J6,⟨_,_,_,hea,rfl,rfl,rfl,.inl ⟨rfl,rfl,rfl⟩⟩,.inl rfl,fun b hb=>?_,q2 d hd2⟩
    rw [List.mem_singleton.mp hb]
    exact ⟨by rw [Zap (Ne.symm ne)];exact oo.1,oo.2⟩
  | next=>exact hq.elim
  | brk=>exact hq.elim
  | cont=>exact hq.elim
section
variable {P:Program}{w:World}{K:PySem.W.Frag}{mg:Str→Option Value}{base:Heap}
structure IDef (P:Program)(w:World)(K:PySem.W.Frag)(mg:Str→Option Value)(base:Heap)(C:Addr)(nm:Str):Prop where
 ex:∃fI fd ps,ErrF K C nm fI∧PySem.W.typeIn K (.ref fI)=some (.type "function")∧ps.length=2∧Binds K fd ps []∧FnOk P w K mg base CX0 1 fI fd ps (spInit K nm)
theorem Fun.initX {qual nm x0 x1:Str}{st:Stmt}{f:Addr}{fd:FuncData}(F:Fun K "__init__" qual st f fd)(S:FnScope [x0,x1] [x0,x1] (defScope st))
    (hbody:∀(cdv:Value) (A:Around) (outer:List Env) (s:Shared) (H:Hp) (E:XK),∃tj:TJ,PSs (cxOf CX0 P w K mg base [x0,x1] qual (defScope st) f cdv A outer s H E).nox (defBody st) (tSeq (tDrop (tInitX K (tCons (tVar 0) (tCons (tJs tj) tNil)))) (sSetX K nm (tVar 0) (tVar 1)))∧
      ∀(v:V) (i:Int) (H:Hp) (R:Hp→Prop),i.natAbs.log2<1920→R H→tj [some v,some (.int i)] H R):FnOk P w K mg base CX0 1 f fd [x0,x1] (spInit K nm) :=
  F.ok (k:=0) S (fun vs H Q E h=>by obtain ⟨e,C,i,fI,rfl,_⟩:=h;rfl) fun cdv A outer s H vs Q E _ h=>by
    obtain ⟨e,C,i,fI,rfl,he,hF,hl,q⟩:=h
    obtain ⟨tj,h1,h2⟩:=hbody cdv A outer s H E
    refine ⟨_,h1,?_⟩
    refine ⟨.ref e,rfl,h2 (.ref e) i H _ hl fun z=>⟨e,C,.str z,fI,rfl,he,hF.exc,?_⟩⟩
    exact ⟨.int i,rfl,.ref e,rfl,e,C,fI,rfl,he,hF,q⟩
end
section
variable {K:PySem.W.Frag}{C:String→Addr}{E:XK}{Γ Δ Γ' Δ' Γl Δl:List Nat}{m mr:Nat}{S:List (Nat×Bool)}
theorem Zhu {c:String}{te:TE}{fe:FE}(he:EOk K C E Γ Δ m S te fe):SOk K C E mr Γl Δl Γ Δ Γ' Δ' (tRaiseX (.ref (C c)) (fnm c) E te) (Dl.sRaiseI c fe):=fun H0 Hb H σ ρ A D I p=>by
 refine he H0 Hb H σ ρ A _ I (Post.imp (Post.bind p) (fun d q v H1 g r=>?_) fun _ _ q H1 g=>q H1 (Same.from0 I g))
 obtain ⟨B,r1,_⟩:=r
 cases d with
 | int i =>
  simp only at q
  by_cases hi:i.natAbs<2 ^ 200
  ·rw [if_pos hi] at q
   have e:v=.int i:=r1.1
   exact ⟨i,e,log2_lt200 hi,fun d hd=>q _ ((Same.from0 I g).trans (Same.upd hd)) (some d) ⟨d,rfl,Zay⟩⟩
  ·rw [if_neg hi] at q
   exact q.elim
 | _=>exact q.elim
theorem eok_exF {te:TE}{fe:FE}{nm:Str}{cs:List String}(hcs:∀c∈cs,ErrK K (C c)∧PySem.W.findIn K (.ref (C c)) nm=some none∧PySem.W.hasDictIn K (C c)=true∧fnm c=nm)(he:EOk K C E Γ Δ m S te fe):EOk K C E Γ Δ 2 [] (tExF K nm te) (Dl.f1 (Dl.gExF cs) fe) :=
  fun H0 Hb H σ ρ A Q I p=>he H0 Hb H σ ρ A _ I (p.bind.imp (fun d q v H1 g1 r=>by
    obtain ⟨z,e,q⟩:=oR_ok q
    obtain ⟨B,r,_⟩:=r
    cases d with
    | exc k f =>
      cases f with
      | none=>cases e
      | some i =>
        unfold Dl.gExF at e
        simp only at e
        split at e
        · rename_i hk
          cases e
          obtain ⟨h1,h2,h3,h4⟩:=hcs k (by simpa using hk)
          obtain ⟨a,dx,rfl,ha,⟨d,rfl,hd⟩,_⟩:=r
          rw [h4] at hd
          exact ⟨a,C k,d,i,rfl,ha,hd,h1,h2,h3,q _ _ g1 (Res.flat rpI)⟩
        · cases e
    | _=>cases e) fun c x q H' g'=>q H' g')
end
section
variable {X:Cx}{C:String→Addr}{E:XK}{Γ Δ Γ' Δ' Γl Δl:List Nat}{m mr:Nat}{S:List (Nat×Bool)}{e:Expr}{te:TE}{fe:FE}{np cpos pos:Pos}
theorem cs_raiseX {x nm:Str}{cn:String}(D:IDef X.prog X.w X.K X.mg X.base (C cn) nm)(hr:Room 2 X.A)(hm:X.mg x=some (.ref (C cn)))(ha:JE (X.wish (ER X E)) C E Γ Δ m S e te fe)
  (he:starEach [e] X.env=(false,eval e X.env)::starEach [] X.env) (hg:autoParam (Gl X x) aT2._auto_1) (hc:autoParam (X.calm=true) aT2._auto_1) (hx:autoParam (X.ex=[]) aT2._auto_1)
  (hdb:autoParam ((x==("__debug__":Str))=false) aT1._auto_1) (hpl:autoParam ((backTo cpos (starEach ([]:List Expr) X.env)).any (·.1)=false) aT2._auto_1) (hnm:autoParam (fnm cn=nm) aT1._auto_1) :
  JS (X.wish (ER X E)) C E mr Γl Δl Γ Δ Γ' Δ' (.Raise (some (.Call (.Name x np) [e] [] cpos)) none pos) (tRaiseX (.ref (C cn)) (fnm cn) E te) (Dl.sRaiseI cn fe):=by
 subst hnm
 obtain ⟨fI,fd,ps,h1,h2,h3,h4,h5⟩:=D.ex
 exact ⟨⟨ps_raiseX h1 h2 hm h5 (fun _ _ _ _ _ z=>z) h3 h4 hr ha.q.out hg hc hx hdb he hpl⟩,Zhu ha.o⟩
theorem ce_exF (K:PySem.W.Frag){nm:Str}{cs:List String}(hcs:∀c∈cs,ErrK K (C c)∧PySem.W.findIn K (.ref (C c)) nm=some none∧PySem.W.hasDictIn K (C c)=true∧fnm c=nm)(he:JE X C E Γ Δ m S e te fe)
  (hb:autoParam (attributeBase e nm X.env (eval e X.env)=eval e X.env) aT2._auto_1) (hK:autoParam (X.K=K) aT2._auto_1):JE X C E Γ Δ 2 [] (.Attribute e nm pos) (tExF K nm te) (Dl.f1 (Dl.gExF cs) fe):=by
 subst hK
 exact ⟨⟨pe_exF he.q.out hb⟩,eok_exF hcs he.o⟩
end
end L2
namespace L2
open PySem PySem.Spec PyProof.Rows
open Dl (D R FE FT FA FO FS FI FB Fl)
section
variable {X:Cx}
end
section
variable {K:PySem.W.Frag}{C:String→Addr}{E:XK}{Γ Δ Γ' Δ' Γl Δl:List Nat}{m mr:Nat}{S:List (Nat×Bool)}
end
section
variable {X:Cx}{C:String→Addr}{E:XK}{Γ Δ Γ' Δ' Γl Δl:List Nat}{m m1 m2 mr:Nat}{S S1 S2:List (Nat×Bool)}{a b e:Expr}{ta tb te:TE}{fa fb fe:FE}{pos pos':Pos}
end
section
variable {K:PySem.W.Frag}{C:String→Addr}{E:XK}{Γ Δ Γ' Δ' Γk Δk:List Nat}{mr:Nat}{S:List (Nat×Bool)}
end
section
variable {X:Cx}{C:String→Addr}{E:XK}{Γ Δ Γk Δk:List Nat}{mr:Nat}{S:List (Nat×Bool)}{c iter:Expr}{ret:List Stmt}{u:TS}{g:FS}{pos p ip:Pos}{x:Str}{k:Nat}
end
end L2
namespace L2
open PySem PySem.Spec PyProof.Rows
open Dl (D R FE FT FA FO FS FI FB Fl)
structure Clz where
 c:Value
 i:Option Nat
 th:TS
noncomputable def tClz (K:PySem.W.Frag)(N:Nat)(D:Ends)(e:Addr)(cls:Value)(dx:Option Addr)(H':Hp):List Clz→Prop
  | []=>False
  | z::r=>∃b,PySem.W.exmOne K cls z.c=some b∧if b=true then (match z.i with
      | some i=>∀σ':St,σ'.length=N→z.th { nx:=fun _ H2=>D.nx (List.replicate N none) H2,rt:=D.rt,bk:=fun _ H2=>D.bk (List.replicate N none) H2,ct:=fun _ H2=>D.ct (List.replicate N none) H2 } (σ'.set i (some (.ref e))) (upd H' e (exO e cls dx))
      | none=>∀σ':St,σ'.length=N→z.th D σ' H')
    else tClz K N D e cls dx H' r
inductive PClz (X:Cx):List ExceptHandler→List Clz→Prop
 | nil:PClz X [] []
 | named {c n:Str} {np hpos:Pos} {C:Addr} {b₀:Stmt} {suite:List Stmt} {i:Nat} {th:TS} {hs:List ExceptHandler} {zs:List Clz} (hm:X.mg c=some (.ref C)) (hg:Gl X c) (hdb:(c==("__debug__":Str))=false) (hi:X.N[i]?=some n) (hl:X.env.scope.names.lookup n=some .local)
   (hh:∀e:Addr,PSs (X.hand e) (b₀::suite) th) (hr:PClz X hs zs):PClz X (.ExceptHandler (some (.Name c np)) (some n) (b₀::suite) hpos::hs) (⟨.ref C,some i,th⟩::zs)
 | plain {c:Str} {np hpos:Pos} {C:Addr} {b₀:Stmt} {suite:List Stmt} {th:TS} {hs:List ExceptHandler} {zs:List Clz} (hm:X.mg c=some (.ref C)) (hg:Gl X c) (hdb:(c==("__debug__":Str))=false)
   (hh:∀e:Addr,PSs (X.hand e) (b₀::suite) th) (hr:PClz X hs zs):PClz X (.ExceptHandler (some (.Name c np)) none (b₀::suite) hpos::hs) (⟨.ref C,none,th⟩::zs)
section
variable {K:PySem.W.Frag}{C:String→Addr}{E:XK}{Γ Δ Γ1 Δ1 Γl Δl:List Nat}{mr:Nat}
inductive OClz (K:PySem.W.Frag)(C:String→Addr)(N mr:Nat)(Γl Δl Γ1 Δ1:List Nat):List Clz→List (List (String×Bool)×Option Nat×FS)→Prop
 | nil:OClz K C N mr Γl Δl Γ1 Δ1 [] []
 | named {c:Addr} {i:Nat} {th:TS} {fh:FS} {tb:List (String×Bool)} {Γ2 Δ2:List Nat} {Eh:XK} {zs:List Clz} {ds:List (List (String×Bool)×Option Nat×FS)} (ht:∀p∈tb,PySem.W.exmOne K (.ref (C p.1)) (.ref c)=some p.2) (hi:i<N) (hh:SOk K C Eh mr [] [] [] [] Γ2 Δ2 th fh)
   (hr:OClz K C N mr Γl Δl Γ1 Δ1 zs ds):OClz K C N mr Γl Δl Γ1 Δ1 (⟨.ref c,some i,th⟩::zs) ((tb,some i,fh)::ds)
 | plain {c:Addr} {th:TS} {fh:FS} {tb:List (String×Bool)} {Eh:XK} {zs:List Clz} {ds:List (List (String×Bool)×Option Nat×FS)} (ht:∀p∈tb,PySem.W.exmOne K (.ref (C p.1)) (.ref c)=some p.2) (hh:SOk K C Eh mr Γl Δl [] [] Γ1 Δ1 th fh)
   (hr:OClz K C N mr Γl Δl Γ1 Δ1 zs ds):OClz K C N mr Γl Δl Γ1 Δ1 (⟨.ref c,none,th⟩::zs) ((tb,none,fh)::ds)
end
inductive JClz (X:Cx)(C:String→Addr)(mr:Nat)(Γl Δl Γ1 Δ1:List Nat):List ExceptHandler→List Clz→List (List (String×Bool)×Option Nat×FS)→Prop
 | mk {hs:List ExceptHandler} {zs:List Clz} {ds:List (List (String×Bool)×Option Nat×FS)} (p:PClz X hs zs) (o:OClz X.K C X.N.length mr Γl Δl Γ1 Δ1 zs ds):JClz X C mr Γl Δl Γ1 Δ1 hs zs ds
section
variable {X:Cx}{C:String→Addr}{E:XK}{Γ Δ Γ1 Δ1 Γl Δl:List Nat}{mr:Nat}{np hpos pos:Pos}{hs:List ExceptHandler}{zs:List Clz}{ds:List (List (String×Bool)×Option Nat×FS)}{b₀:Stmt}{suite:List Stmt}{th:TS}{fh:FS}
end
section
variable {X:Cx}{C:String→Addr}{E:XK}{Γ Δ Γl Δl:List Nat}{mr:Nat}{e:Expr}{te:TE}{fe:FE}{pos p apos cpos:Pos}
end
end L2
namespace L2
open PySem PySem.Spec PyProof.Rows
open Dl (D R FE FT FA FO FS FI FB Fl)
section
variable {X:Cx}
end
section
variable {K:PySem.W.Frag}{C:String→Addr}{E:XK}{Γ Δ Γl Δl:List Nat}{m m1 m2 mr:Nat}{S S1 S2:List (Nat×Bool)}{H:Hp}
end
section
variable {X:Cx}{C:String→Addr}{E:XK}{Γ Δ Γ' Δ' Γl Δl:List Nat}{m m1 m2 mr:Nat}{S S1 S2:List (Nat×Bool)}{a b e tg:Expr}{ta tb te:TE}{fa fb fe:FE}{p p2 pos:Pos}
end
end L2
namespace L2
open PySem PySem.Spec PyProof.Rows
open Dl (D R FE FT FA FO FS FI FB Fl)
section
variable {X:Cx}
noncomputable abbrev TX:=Str→St→Hp→VK→Prop
noncomputable def PX (X:Cx)(es:List Expr)(t:TX):Prop :=
 ∀(out:Str) (pins:List (Addr×Obj)) (s:Shared) (σ:St) (H:Hp) (Q:VK),Inv X pins σ H s→out.length+2000*es.length≤sizeLine→t out σ H Q→
  wpAny (model X.prog X.w) X.A (joinParts out (evalEach es X.env)) (EP X pins σ Q) X.xe s
end
theorem str_ext {a b:Str}(h:a.cps.toList=b.cps.toList):a=b:=by
 cases a
 cases b
 congr 1
 exact Array.toList_inj.mp h
section
variable {K:PySem.W.Frag}{C:String→Addr}{E:XK}{Γ Δ:List Nat}{m m1 m2:Nat}{S S1 S2:List (Nat×Bool)}{H:Hp}
theorem one_of {y:Str}{c:Nat}(h:y.cps.toList=[c]):y=⟨#[c]⟩:=str_ext (by rw [h])
noncomputable def joinL (c:Nat):List (List Nat)→List Nat
 | []=>[]
 | [w]=>w
 | w::v::r=>w++32::c::32::joinL c (v::r)
end
section
variable {K:PySem.W.Frag}{C:String→Addr}{E:XK}{Γ Δ:List Nat}{m m1 m2:Nat}{S S1 S2:List (Nat×Bool)}{H:Hp}
noncomputable def XOk (K:PySem.W.Frag)(C:String→Addr)(E:XK)(Γ Δ:List Nat)(t:TX)(f:FA):Prop:=∀(H0 Hb H:Hp) (σ:St) (ρ:Dl.Env) (A:Nat→List Addr) (Q:VK) (out:Str),PyData.strOk out=true→EnvOk K C H0 Hb H Γ Δ σ ρ A→
 Post ((f ρ).bind fun xs=>Dl.oR (Dl.catO out xs)) (fun d=>∀v H',Same H H'→Res K C 2 [] H A d v H'→Q v H') (fun c x=>∀H',Same H H'→EC C E c x H')→t out σ H Q
end
structure JX (X:Cx)(C:String→Addr)(E:XK)(Γ Δ:List Nat)(es:List Expr)(t:TX)(f:FA):Prop where
 q:PX X es t
 o:XOk X.K C E Γ Δ t f
section
variable {X:Cx}{C:String→Addr}{E:XK}{Γ Δ:List Nat}{m m1 m2:Nat}{S S1 S2:List (Nat×Bool)}{a b e o:Expr}{es:List Expr}{ta tb te:TE}{tx:TX}{fa fb fe:FE}{f:FA}{pos p apos cpos:Pos}
end
end L2
namespace L2
open PySem PySem.Spec PyProof.Rows
open Dl (D R FE FT FA FO FS FI FB Fl)
section
variable {K:PySem.W.Frag}{C:String→Addr}{E:XK}{Γ Δ Γl Δl:List Nat}{m m1 m2 m3 mr:Nat}{S S1 S2 S3:List (Nat×Bool)}{H:Hp}
end
section
variable {X:Cx}{C:String→Addr}{E:XK}{Γ Δ Γ' Δ' Γl Δl:List Nat}{m m1 m2 m3 mr:Nat}{S S1 S2 S3:List (Nat×Bool)}{a b c e o:Expr}{ta tb tc te:TE}{fa fb fc fe:FE}{p p2 pos apos cpos:Pos}
end
end L2
namespace L2
open PySem PySem.Spec PyProof.Rows
open Dl (D R FE FT FA FO FS FI FB Fl)
section
variable {K:PySem.W.Frag}{C:String→Addr}{E:XK}{Γ Δ:List Nat}
end
section
variable {X:Cx}{C:String→Addr}{E:XK}{mr:Nat}{Γ Δ Γ' Δ' Γl Δl:List Nat}{n:Nat}{pos:Pos}
end
end L2
namespace L2
open PySem PyProof.Rows
noncomputable def gallopP:Bool→Keyed→Array Keyed→Nat→Nat→Nat→StateT SortSt Sem (Option Nat):=sortPriv% PySem.Builtin.gallop
noncomputable def mergeLoP:Array Keyed→Array Keyed→StateT SortSt Sem (Array Keyed):=sortPriv% PySem.Builtin.mergeLo
noncomputable def mergeHiP:Array Keyed→Array Keyed→StateT SortSt Sem (Array Keyed):=sortPriv% PySem.Builtin.mergeHi
noncomputable def setMinP:Nat→StateT SortSt Sem Unit:=sortPriv% PySem.Builtin.setMinGallop
structure Ask (prog:Program)(w:World)(A:Around)(s:Shared)(κ:SortKind)(P:Keyed→Prop)(r:Keyed→Keyed→Bool):Prop where
 run:∀{x y:Keyed} {Q:Bool→Shared→Prop} {E:Value→Shared→Prop},P x→P y→Q (r x y) s→wpAny (model prog w) A (keyLt' κ x.1 y.1) Q E s
 tr:∀{x y z:Keyed},P x→P y→P z→r y x=false→r z y=false→r z x=false
 as:∀{x y:Keyed},P x→P y→r x y=true→r y x=false
noncomputable def bey (r:Keyed→Keyed→Bool)(left:Bool)(key x:Keyed):Bool:=if left=true then r x key else !r key x
section
variable {prog:Program}{w:World}{A:Around}{E:Value→Shared→Prop}{s:Shared}{κ:SortKind}{P:Keyed→Prop}{r:Keyed→Keyed→Bool}{st:SortSt}
theorem Zgi {x y:Keyed}{Q:Option Bool→SortSt→Prop}(K:Ask prog w A s κ P r)(hk:kindOf st=κ)(hx:P x)(hy:P y)(h:Q (some (r x y)) st):wpS (model prog w) A E s (lt' x y) Q st:=by
 rw [lt'_eq]
 refine wpS_bind (wpS_get ?_)
 rw [hk]
 exact wpS_bind (wpS_lift (wpAny_attempt (K.run hx hy ⟨rfl,wpS_pure h⟩)))
theorem Zaz {arr:Array Keyed}{i:Nat}{x:Keyed}{Q:Keyed→SortSt→Prop}(e:arr[i]?=some x)(h:Q x st):wpS (model prog w) A E s (elem' arr i) Q st:=by
 rw [elem'_eq,e]
 exact wpS_pure h
theorem Zfe {arr:Array Keyed}{i:Nat}{x key:Keyed}{left:Bool}{Q:Option Bool→SortSt→Prop}(K:Ask prog w A s κ P r)(hk:kindOf st=κ)(e:arr[i]?=some x)(hx:P x)(hy:P key)(h:Q (some (bey r left key x)) st) :
    wpS (model prog w) A E s (do
      let z ← elem' arr i
      if left=true then lt' z key else do
        let b ← lt' key z
        pure (Option.map (fun b=>!b) b)) Q st:=by
  refine wpS_bind (Zaz e ?_)
  unfold bey at h
  cases left with
  | true=>exact Zgi K hk hx hy h
  | false=>exact wpS_bind (Zgi K hk hy hx (wpS_pure h))
theorem bey_mono {left:Bool}{key x y:Keyed}(K:Ask prog w A s κ P r)(hk:P key)(hx:P x)(hy:P y)(hxy:r y x=false)(h:bey r left key y=true):bey r left key x=true:=by
 unfold bey at *
 cases left with
 | true =>
  simp only [if_true] at *
  cases e:r x key with
  | true=>rfl
  | false=>rw [K.tr hk hx hy e hxy] at h;cases h
 | false =>
  simp only [Bool.false_eq_true,if_false,Bool.not_eq_true'] at *
  exact K.tr hx hy hk hxy h
theorem Zhp {left:Bool}{key:Keyed}{arr:Array Keyed}{base n hint:Nat}{at_:Nat→Keyed}{Q:Option Nat→SortSt→Prop}(K:Ask prog w A s κ P r)(hk:kindOf st=κ)(hkey:P key)(ha:∀i,i<n→arr[base+i]?=some (at_ i)∧P (at_ i))
    (hs:∀i j,i≤j→j<n→r (at_ j) (at_ i)=false) (hh:hint<n) (h:∀k,k≤n→(∀i,i<k→bey r left key (at_ i)=true)→(∀i,k≤i→i<n→bey r left key (at_ i)=false)→Q (some k) st) :
    wpS (model prog w) A E s (gallopP left key arr base n hint) Q st:=by
  have up:∀{i j},i≤j→j<n→bey r left key (at_ j)=true→bey r left key (at_ i)=true:=fun {i j} hij hj hb=>bey_mono K hkey (ha i (by omega)).2 (ha j hj).2 (hs i j hij hj) hb
  have dn:∀{i j},i≤j→j<n→bey r left key (at_ i)=false→bey r left key (at_ j)=false:=fun {i j} hij hj hb=>by
    cases e:bey r left key (at_ j) with
    | false=>rfl
    | true=>rw [up hij hj e] at hb;cases hb
  have fin:∀{f:Nat→Option (Option Nat)×Nat×Nat→StateT SortSt Sem (ForInStep (Option (Option Nat)×Nat×Nat))} {g:Option (Option Nat)×Nat×Nat→StateT SortSt Sem (Option Nat)},
      (∀(x lo hi:Nat) (Q':ForInStep (Option (Option Nat)×Nat×Nat)→SortSt→Prop),hi≤n→(lo≥hi→Q' (.done (none,lo,hi)) st)→(lo<hi→bey r left key (at_ (lo+(hi - lo) / 2))=true→Q' (.yield (none,lo+(hi - lo) / 2+1,hi)) st)→
        (lo<hi→bey r left key (at_ (lo+(hi - lo) / 2))=false→Q' (.yield (none,lo,lo+(hi - lo) / 2)) st)→wpS (model prog w) A E s (f x (none,lo,hi)) Q' st)→
      (∀lo hi,Q (some hi) st→wpS (model prog w) A E s (g (none,lo,hi)) Q st)→
      ∀lo hi,lo≤hi→hi≤n→(∀i,i<lo→bey r left key (at_ i)=true)→(∀i,hi≤i→i<n→bey r left key (at_ i)=false)→
      wpS (model prog w) A E s (forIn [:n] ((none,lo,hi):Option (Option Nat)×Nat×Nat) f >>= g) Q st:=fun {f g} hf hg lo hi hlh hhn hlo hhi=>by
    refine wpS_bind (wpS_mono (wpS_forRange
      (I:=fun x c st'=>st'=st∧∃lo hi,c=(none,lo,hi)∧lo≤hi∧hi≤n∧hi - lo≤n - x∧(∀i,i<lo→bey r left key (at_ i)=true)∧(∀i,hi≤i→i<n→bey r left key (at_ i)=false))
      (Q:=fun c st'=>st'=st∧∃lo hi,c=(none,lo,hi)∧hi≤lo∧hi≤n∧(∀i,i<lo→bey r left key (at_ i)=true)∧(∀i,hi≤i→i<n→bey r left key (at_ i)=false)) ?step ?fin ⟨rfl,lo,hi,rfl,hlh,hhn,by omega,hlo,hhi⟩) ?post)
    case post =>
      rintro c st' ⟨rfl,lo,hi,rfl,h1,h2,h3,h4⟩
      exact hg _ _ (h hi h2 (fun i hi'=>h3 i (by omega)) h4)
    case fin =>
      rintro c st' ⟨rfl,lo,hi,rfl,h1,h2,h3,h4,h5⟩
      exact ⟨rfl,lo,hi,rfl,by omega,h2,h4,h5⟩
    case step =>
      rintro x c st' _ hx ⟨rfl,lo,hi,rfl,h1,h2,h3,h4,h5⟩
      exact hf x lo hi _ h2 (fun hge=>⟨rfl,lo,hi,rfl,hge,h2,h4,h5⟩) (fun hl e=>⟨rfl,_,_,rfl,by omega,h2,by omega,fun i hi'=>up (j:=lo+(hi - lo) / 2) (by omega) (by omega) e,h5⟩)
        (fun hl e=>⟨rfl,_,_,rfl,by omega,by omega,by omega,h4,fun i h6 h7=>dn (i:=lo+(hi - lo) / 2) h6 h7 e⟩)
  obtain ⟨e1,e2⟩:=ha hint hh
  refine wpS_bind (Zfe (left:=left) K hk e1 e2 hkey ?_)
  dsimp only
  cases e:bey r left key (at_ hint) with
  | true =>
    rw [if_pos rfl]
    refine wpS_bind (wpS_mono (wpS_forRange
      (I:=fun x c st'=>st'=st∧∃la o,c=(none,la,o)∧x+1≤o∧la<o∧hint+la<n∧bey r left key (at_ (hint+la))=true)
      (Q:=fun c st'=>st'=st∧∃la o,c=(none,la,o)∧la<o∧hint+la<n∧bey r left key (at_ (hint+la))=true∧(n - hint≤o∨(hint+o<n∧bey r left key (at_ (hint+o))=false))) ?step ?fin ⟨rfl,0,1,rfl,by omega,by omega,by omega,e⟩) ?post)
    case post =>
      rintro c st' ⟨rfl,la,o,rfl,h1,h2,h3,h4⟩
      refine fin (fun x lo hi Q' hn q1 q2 q3=>by
        dsimp only
        by_cases hge:lo≥hi
        · rw [if_pos hge]
          exact wpS_pure (q1 hge)
        · rw [if_neg hge]
          obtain ⟨e3,e4⟩:=ha (lo+(hi - lo) / 2) (by omega)
          refine wpS_bind (Zfe K hk e3 e4 hkey ?_)
          dsimp only
          cases e5:bey r left key (at_ (lo+(hi - lo) / 2)) with
          | true =>
            rw [if_pos rfl]
            exact wpS_pure (q2 (by omega) e5)
          | false =>
            rw [if_neg Bool.false_ne_true]
            exact wpS_pure (q3 (by omega) e5)) (fun lo hi q=>wpS_pure q) (hint+la+1) (hint+min o (n - hint)) (by omega) (by omega) (fun i hi'=>up (j:=hint+la) (by omega) h2 h3) (fun i h6 h7=>?_)
      rcases h4 with h4 | ⟨h4,h5⟩
      · omega
      · exact dn (i:=hint+o) (by omega) h7 h5
    case fin =>
      rintro c st' ⟨rfl,la,o,rfl,h1,h2,h3,h4⟩
      exact ⟨rfl,la,o,rfl,h2,h3,h4,.inl (by omega)⟩
    case step =>
      rintro x c st' _ hx ⟨rfl,la,o,rfl,h1,h2,h3,h4⟩
      dsimp only
      by_cases hge:o≥n - hint
      · rw [if_pos hge]
        exact wpS_pure ⟨rfl,la,o,rfl,h2,h3,h4,.inl hge⟩
      · rw [if_neg hge]
        obtain ⟨e3,e4⟩:=ha (hint+o) (by omega)
        refine wpS_bind (Zfe K hk e3 e4 hkey ?_)
        dsimp only
        cases e5:bey r left key (at_ (hint+o)) with
        | true =>
          rw [if_neg (by decide)]
          exact wpS_pure ⟨rfl,_,_,rfl,by omega,by omega,by omega,e5⟩
        | false =>
          rw [if_pos (by decide)]
          exact wpS_pure ⟨rfl,la,o,rfl,h2,h3,h4,.inr ⟨by omega,e5⟩⟩
  | false =>
    rw [if_neg Bool.false_ne_true]
    refine wpS_bind (wpS_mono (wpS_forRange
      (I:=fun x c st'=>st'=st∧∃la o,c=(none,la,o)∧x+1≤o∧la<o∧la≤hint∧bey r left key (at_ (hint - la))=false)
      (Q:=fun c st'=>st'=st∧∃la o,c=(none,la,o)∧la<o∧la≤hint∧bey r left key (at_ (hint - la))=false∧(hint+1≤o∨(o≤hint∧bey r left key (at_ (hint - o))=true))) ?step ?fin ⟨rfl,0,1,rfl,by omega,by omega,by omega,e⟩) ?post)
    case post =>
      rintro c st' ⟨rfl,la,o,rfl,h1,h2,h3,h4⟩
      refine fin (fun x lo hi Q' hn q1 q2 q3=>by
        dsimp only
        by_cases hge:lo≥hi
        · rw [if_pos hge]
          exact wpS_pure (q1 hge)
        · rw [if_neg hge]
          obtain ⟨e3,e4⟩:=ha (lo+(hi - lo) / 2) (by omega)
          refine wpS_bind (Zfe K hk e3 e4 hkey ?_)
          dsimp only
          cases e5:bey r left key (at_ (lo+(hi - lo) / 2)) with
          | true =>
            rw [if_pos rfl]
            exact wpS_pure (q2 (by omega) e5)
          | false =>
            rw [if_neg Bool.false_ne_true]
            exact wpS_pure (q3 (by omega) e5)) (fun lo hi q=>wpS_pure q) (hint+1 - min o (hint+1)) (hint - la) (by omega) (by omega) (fun i hi'=>?_) (fun i h6 h7=>dn (i:=hint - la) (by omega) h7 h3)
      rcases h4 with h4 | ⟨h4,h5⟩
      · omega
      · exact up (j:=hint - o) (by omega) (by omega) h5
    case fin =>
      rintro c st' ⟨rfl,la,o,rfl,h1,h2,h3,h4⟩
      exact ⟨rfl,la,o,rfl,h2,h3,h4,.inl (by omega)⟩
    case step =>
      rintro x c st' _ hx ⟨rfl,la,o,rfl,h1,h2,h3,h4⟩
      dsimp only
      by_cases hge:o≥hint+1
      · rw [if_pos hge]
        exact wpS_pure ⟨rfl,la,o,rfl,h2,h3,h4,.inl hge⟩
      · rw [if_neg hge]
        obtain ⟨e3,e4⟩:=ha (hint - o) (by omega)
        refine wpS_bind (Zfe K hk e3 e4 hkey ?_)
        dsimp only
        cases e5:bey r left key (at_ (hint - o)) with
        | true =>
          rw [if_pos rfl]
          exact wpS_pure ⟨rfl,la,o,rfl,h2,h3,h4,.inr ⟨by omega,e5⟩⟩
        | false =>
          rw [if_neg Bool.false_ne_true]
          exact wpS_pure ⟨rfl,_,_,rfl,by omega,by omega,by omega,e5⟩
end
end L2
namespace L2
open PySem PyProof.Rows
section
variable {r:Keyed→Keyed→Bool}
noncomputable def Up (r:Keyed→Keyed→Bool)(l:List Keyed):Prop:=l.Pairwise fun x y=>r y x=false
structure MI (r:Keyed→Keyed→Bool)(a b out:List Keyed)(ia ib:Nat):Prop where
 pm:out.Perm (a.take ia++b.take ib)
 so:Up r out
 le:∀x∈out,∀y,(y∈a.drop ia∨y∈b.drop ib)→r y x=false
variable {a b out:List Keyed}{ia ib:Nat}{x:Keyed}
theorem take_snoc {l:List Keyed}{i:Nat}{x:Keyed}(e:l[i]?=some x):l.take (i+1)=l.take i++[x]:=by
 rw [List.take_add_one,e]
 rfl
theorem drop_cons {l:List Keyed}{i:Nat}{x:Keyed}(e:l[i]?=some x):l.drop i=x::l.drop (i+1):=by
 obtain ⟨h,rfl⟩:=List.getElem?_eq_some_iff.mp e
 exact List.drop_eq_getElem_cons h
theorem Up.drop {l:List Keyed}(h:Up r l)(i:Nat):Up r (l.drop i):=h.sublist (List.drop_sublist i l)
theorem MI.a1 (m:MI r a b out ia ib)(sa:Up r a)(e:a[ia]?=some x)(h:∀y∈b.drop ib,r y x=false):MI r a b (out++[x]) (ia+1) ib:=by
 have ed:=drop_cons e
 have sd:=sa.drop ia
 rw [ed] at sd
 refine ⟨?_,List.pairwise_append.mpr ⟨m.so,List.pairwise_singleton _ _,fun z hz y hy=>?_⟩,fun z hz y hy=>?_⟩
 ·rw [take_snoc e]
  refine (m.pm.append_right [x]).trans ?_
  rw [List.append_assoc,List.append_assoc]
  exact List.Perm.append_left _ List.perm_append_comm
 ·rw [List.mem_singleton.mp hy]
  exact m.le z hz x (.inl (by rw [ed];exact .head _))
 ·rcases List.mem_append.mp hz with hz | hz
  ·exact m.le z hz y (hy.imp (fun q=>by rw [ed];exact .tail _ q) id)
  ·rw [List.mem_singleton.mp hz]
   rcases hy with hy | hy
   ·exact (List.pairwise_cons.mp sd).1 y hy
   ·exact h y hy
theorem MI.swap (m:MI r a b out ia ib):MI r b a out ib ia:=⟨m.pm.trans List.perm_append_comm,m.so,fun x hx y hy=>m.le x hx y hy.symm⟩
theorem MI.b1 (m:MI r a b out ia ib)(sb:Up r b)(e:b[ib]?=some x)(h:∀y∈a.drop ia,r y x=false):MI r a b (out++[x]) ia (ib+1):=(m.swap.a1 sb e h).swap
theorem MI.ak (m:MI r a b out ia ib)(sa:Up r a):∀(k:Nat),ia+k≤a.length→(∀i,i<k→∀z,a[ia+i]?=some z→∀y∈b.drop ib,r y z=false)→MI r a b (out++(a.drop ia).take k) (ia+k) ib
 | 0,_,_=>by rw [List.take_zero,List.append_nil];exact m
 | k+1,hl,h=>by
  have ih:=m.ak sa k (by omega) fun i hi=>h i (by omega)
  have e:a[ia+k]?=some a[ia+k]:=List.getElem?_eq_getElem (by omega)
  have e2:(a.drop ia)[k]?=some a[ia+k]:=by rw [List.getElem?_drop];exact e
  rw [take_snoc e2,← List.append_assoc]
  exact ih.a1 sa e (h k (by omega) _ e)
theorem MI.bk (m:MI r a b out ia ib)(sb:Up r b)(k:Nat)(hl:ib+k≤b.length)(h:∀i,i<k→∀z,b[ib+i]?=some z→∀y∈a.drop ia,r y z=false):MI r a b (out++(b.drop ib).take k) ia (ib+k):=(m.swap.ak sb k hl h).swap
theorem MI.endA (m:MI r a b out ia ib)(sa:Up r a)(sb:Up r b)(h:∀x∈b.drop ib,∀y∈a.drop ia,r y x=false):(out++b.drop ib++a.drop ia).Perm (a++b)∧Up r (out++b.drop ib++a.drop ia):=by
 constructor
 ·have h1:(out++b.drop ib++a.drop ia).Perm (a.take ia++b.take ib++b.drop ib++a.drop ia):=(m.pm.append_right _).append_right _
  refine h1.trans ?_
  rw [List.append_assoc (a.take ia),List.take_append_drop,List.append_assoc]
  refine (List.Perm.append_left _ List.perm_append_comm).trans ?_
  rw [← List.append_assoc,List.take_append_drop]
 ·refine List.pairwise_append.mpr ⟨List.pairwise_append.mpr ⟨m.so,sb.drop ib,fun x hx y hy=>m.le x hx y (.inr hy)⟩,sa.drop ia,fun x hx y hy=>?_⟩
  rcases List.mem_append.mp hx with hx | hx
  ·exact m.le x hx y (.inl hy)
  ·exact h x hx y hy
theorem MI.endB (m:MI r a b out ia ib)(sa:Up r a)(sb:Up r b)(h:∀x∈a.drop ia,∀y∈b.drop ib,r y x=false):(out++a.drop ia++b.drop ib).Perm (a++b)∧Up r (out++a.drop ia++b.drop ib) :=
 (m.swap.endA sb sa h).imp (fun q=>q.trans List.perm_append_comm) id
structure MJ (r:Keyed→Keyed→Bool)(a b out:List Keyed)(na nb:Nat):Prop where
 pm:out.Perm (a.drop na++b.drop nb)
 so:Up r out
 le:∀x∈out,∀y,(y∈a.take na∨y∈b.take nb)→r x y=false
theorem Up.take {l:List Keyed}(h:Up r l)(i:Nat):Up r (l.take i):=h.sublist (List.take_sublist i l)
theorem MJ.swap {na nb:Nat}(m:MJ r a b out na nb):MJ r b a out nb na:=⟨m.pm.trans List.perm_append_comm,m.so,fun x hx y hy=>m.le x hx y hy.symm⟩
theorem MJ.a1 {na nb:Nat}(m:MJ r a b out (na+1) nb)(sa:Up r a)(e:a[na]?=some x)(h:∀y∈b.take nb,r x y=false):MJ r a b (x::out) na nb:=by
 have et:=take_snoc e
 have st:=sa.take (na+1)
 rw [et] at st
 refine ⟨?_,List.pairwise_cons.mpr ⟨fun y hy=>m.le y hy x (.inl (by rw [et];exact List.mem_append_right _ (.head _))),m.so⟩,fun z hz y hy=>?_⟩
 ·rw [drop_cons e]
  exact m.pm.cons x
 ·rcases List.mem_cons.mp hz with rfl | hz
  ·rcases hy with hy | hy
   ·exact (List.pairwise_append.mp st).2.2 y hy z (.head _)
   ·exact h y hy
  ·exact m.le z hz y (hy.imp (fun q=>by rw [et];exact List.mem_append_left _ q) id)
theorem MJ.b1 {na nb:Nat}(m:MJ r a b out na (nb+1))(sb:Up r b)(e:b[nb]?=some x)(h:∀y∈a.take na,r x y=false):MJ r a b (x::out) na nb:=(m.swap.a1 sb e h).swap
theorem MJ.ak {na nb:Nat}(m:MJ r a b out na nb)(sa:Up r a)(hna:na≤a.length):∀(k:Nat),k≤na→(∀i,na - k≤i→i<na→∀z,a[i]?=some z→∀y∈b.take nb,r z y=false)→MJ r a b ((a.drop (na - k)).take k++out) (na - k) nb
 | 0,_,_=>by rw [List.take_zero];exact m
 | k+1,hl,h=>by
  have ih:=m.ak sa hna k (by omega) fun i hi=>h i (by omega)
  have e:a[na - (k+1)]?=some a[na - (k+1)]:=List.getElem?_eq_getElem (by omega)
  rw [drop_cons e,List.take_succ_cons,List.cons_append,show na - (k+1)+1=na - k by omega]
  rw [show na - k=na - (k+1)+1 by omega] at ih
  have:=ih.a1 sa e (h _ (Nat.le_refl _) (by omega) _ e)
  rw [show na - (k+1)+1=na - k by omega] at this
  exact this
theorem MJ.bk {na nb:Nat}(m:MJ r a b out na nb)(sb:Up r b)(hnb:nb≤b.length)(k:Nat)(hl:k≤nb)(h:∀i,nb - k≤i→i<nb→∀z,b[i]?=some z→∀y∈a.take na,r z y=false):MJ r a b ((b.drop (nb - k)).take k++out) na (nb - k):=(m.swap.ak sb hnb k hl h).swap
theorem MJ.endA {na nb:Nat}(m:MJ r a b out na nb)(sa:Up r a)(sb:Up r b)(h:∀x∈a.take na,∀y∈b.take nb,r y x=false):(a.take na++b.take nb++out).Perm (a++b)∧Up r (a.take na++b.take nb++out):=by
 constructor
 ·refine (m.pm.append_left _).trans ?_
  rw [List.append_assoc]
  refine (List.Perm.append_left _ (List.perm_append_comm_assoc _ _ _)).trans ?_
  rw [List.take_append_drop,← List.append_assoc,List.take_append_drop]
 ·refine List.pairwise_append.mpr ⟨List.pairwise_append.mpr ⟨sa.take na,sb.take nb,h⟩,m.so,fun x hx y hy=>?_⟩
  rcases List.mem_append.mp hx with hx | hx
  ·exact m.le y hy x (.inl hx)
  ·exact m.le y hy x (.inr hx)
theorem MJ.endB {na nb:Nat}(m:MJ r a b out na nb)(sa:Up r a)(sb:Up r b)(h:∀x∈b.take nb,∀y∈a.take na,r y x=false):(b.take nb++a.take na++out).Perm (a++b)∧Up r (b.take nb++a.take na++out) :=
 (m.swap.endA sb sa h).imp (fun q=>q.trans List.perm_append_comm) id
end
end L2
namespace L2
open PySem PyProof.Rows
structure SG (st st':SortSt):Prop where
 k:kindOf st'=kindOf st
 a:arrOf st'=arrOf st
 p:pendingOf st'=pendingOf st
 f:failedOf st'=failedOf st
theorem SG.refl (st:SortSt):SG st st:=⟨rfl,rfl,rfl,rfl⟩
theorem SG.trans {st st1 st2:SortSt}(g:SG st st1)(h:SG st1 st2):SG st st2:=⟨h.k.trans g.k,h.a.trans g.a,h.p.trans g.p,h.f.trans g.f⟩
theorem ext_drop (a:Array Keyed)(i:Nat):(a.extract i a.size).toList=a.toList.drop i:=by
 rw [Array.toList_extract,List.extract_eq_take_drop]
 exact List.take_of_length_le (by simp)
theorem ext_mid (a:Array Keyed)(i k:Nat):(a.extract i (i+k)).toList=(a.toList.drop i).take k:=by simp [List.extract_eq_take_drop]
section
variable {prog:Program}{w:World}{A:Around}{E:Value→Shared→Prop}{s:Shared}{κ:SortKind}{P:Keyed→Prop}{r:Keyed→Keyed→Bool}{st:SortSt}
theorem Ask.ir {x:Keyed}(K:Ask prog w A s κ P r)(hx:P x):r x x=false:=by
 cases e:r x x with
 | false=>rfl
 | true=>rw [K.as hx hx e] at e;cases e
theorem Zdx {g:Nat}{Q:Unit→SortSt→Prop}(h:∀st',SG st st'→Q () st'):wpS (model prog w) A E s (setMinP g) Q st:=wpS_modify (h _ ⟨rfl,rfl,rfl,rfl⟩)
theorem up_at (K:Ask prog w A s κ P r){l:List Keyed}(hl:∀x∈l,P x)(h:Up r l){i j:Nat}{x y:Keyed}(hij:i≤j)(e1:l[i]?=some x)(e2:l[j]?=some y):r y x=false:=by
 obtain ⟨h1,rfl⟩:=List.getElem?_eq_some_iff.mp e1
 obtain ⟨h2,rfl⟩:=List.getElem?_eq_some_iff.mp e2
 rcases Nat.eq_or_lt_of_le hij with e | hlt
 ·subst e
  exact K.ir (hl _ (List.getElem_mem h1))
 ·exact List.pairwise_iff_getElem.mp h i j h1 h2 hlt
theorem Zem {left:Bool}{key:Keyed}{a:Array Keyed}{base n hint:Nat}{Q:Option Nat→SortSt→Prop}(K:Ask prog w A s κ P r)(hk:kindOf st=κ)(hP:∀x∈a.toList,P x)(hkey:P key)(hb:base+n≤a.size)
  (hs:∀i j x y,i≤j→j<n→a.toList[base+i]?=some x→a.toList[base+j]?=some y→r y x=false) (hh:hint<n)
  (h:∀k,k≤n→(∀i x,i<k→a.toList[base+i]?=some x→bey r left key x=true)→(∀i x,k≤i→i<n→a.toList[base+i]?=some x→bey r left key x=false)→Q (some k) st):wpS (model prog w) A E s (gallopP left key a base n hint) Q st:=by
 have at_:∀i,i<n→a.toList[base+i]?=some (a.toList.getD (base+i) key):=fun i hi=>by
  have hl:base+i<a.toList.length:=by rw [Array.length_toList];omega
  rw [List.getD_eq_getElem?_getD,List.getElem?_eq_getElem hl]
  rfl
 refine Zhp (at_:=fun i=>a.toList.getD (base+i) key) K hk hkey (fun i hi=>⟨by rw [← Array.getElem?_toList];exact at_ i hi,hP _ (List.mem_of_getElem? (at_ i hi))⟩) (fun i j hij hj=>hs i j _ _ hij hj (at_ i (by omega)) (at_ j hj)) hh fun k h1 h2 h3=>?_
 refine h k h1 (fun i x hi e=>?_) (fun i x h4 h5 e=>?_)
 ·have:=h2 i hi
  rw [at_ i (by omega)] at e
  cases e
  exact this
 ·have:=h3 i h4 h5
  rw [at_ i h5] at e
  cases e
  exact this
theorem ge_of (K:Ask prog w A s κ P r){l:List Keyed}(hl:∀x∈l,P x)(h:Up r l){i:Nat}{x y:Keyed}(e:l[i]?=some x)(hy:y∈l.drop i):r y x=false:=by
 obtain ⟨j,hj⟩:=List.mem_iff_getElem?.mp hy
 rw [List.getElem?_drop] at hj
 exact up_at K hl h (Nat.le_add_right _ _) e hj
theorem Zau {α:Type}{c:Prop}[Decidable c]{x y:StateT SortSt Sem α}{Q:α→SortSt→Prop}(h1:c→wpS (model prog w) A E s x Q st)(h2:¬c→wpS (model prog w) A E s y Q st):wpS (model prog w) A E s (if c then x else y) Q st:=by
 by_cases h:c
 ·rw [if_pos h]
  exact h1 h
 ·rw [if_neg h]
  exact h2 h
theorem nbeq {m n:Nat}(h:¬(m==n)=true):m≠n:=fun z=>h (by rw [z];exact beq_self_eq_true _)
noncomputable def StQ {β:Type}(good:Array Keyed→Prop)(inv:Array Keyed→Nat→Nat→Prop):ForInStep (Option (Array Keyed)×Array Keyed×Nat×Nat×β)→Prop
 | .done (some res,_)=>good res
 | .done (none,out,ia,ib,_)=>inv out ia ib
 | .yield (some _,_)=>False
 | .yield (none,out,ia,ib,_)=>inv out ia ib
noncomputable def EndQ {β:Type}(good:Array Keyed→Prop)(inv:Array Keyed→Nat→Nat→Prop):Option (Array Keyed)×Array Keyed×Nat×Nat×β→Prop
 | (some res,_)=>good res
 | (none,out,ia,ib,_)=>inv out ia ib
theorem Zgw {a b:Array Keyed}{b0:Keyed}{Q:Array Keyed→SortSt→Prop}(K:Ask prog w A s κ P r)(hk:kindOf st=κ)(pa:∀x∈a.toList,P x)(pb:∀x∈b.toList,P x)(sa:Up r a.toList)(sb:Up r b.toList)(na:1≤a.size)(eb0:b[0]?=some b0)
  (h0:∀x∈a.toList,r x b0=false) (hl:∀x,a.toList[a.size - 1]?=some x→∀y∈b.toList,r x y=false)
  (h:∀out st',out.toList.Perm (a.toList++b.toList)→Up r out.toList→SG st st'→Q out st'):wpS (model prog w) A E s (mergeLoP a b) Q st:=by
 have la:=a.length_toList
 have lb:=b.length_toList
 have eb0':b.toList[0]?=some b0:=by rw [Array.getElem?_toList];exact eb0
 have nb:1≤b.size:=(Array.getElem?_eq_some_iff.mp eb0).1
 let good:Array Keyed→Prop:=fun out=>out.toList.Perm (a.toList++b.toList)∧Up r out.toList
 let mi:Array Keyed→Nat→Nat→Prop:=fun out ia ib=>MI r a.toList b.toList out.toList ia ib
 have gB:∀{out ia ib},mi out ia ib→(a.size≤ia∨b.size≤ib)→good (out++a.extract ia a.size++b.extract ib b.size):=fun {out ia ib} m q=>by
  show (out++a.extract ia a.size++b.extract ib b.size).toList.Perm _∧Up r (out++a.extract ia a.size++b.extract ib b.size).toList
  rw [Array.toList_append,Array.toList_append,ext_drop,ext_drop]
  refine MI.endB m sa sb fun x hx y hy=>?_
  rcases q with q | q
  ·rw [List.drop_eq_nil_of_le (by omega)] at hx
   cases hx
  ·rw [List.drop_eq_nil_of_le (by omega)] at hy
   cases hy
 have gA:∀{out ia ib},mi out ia ib→ia+1=a.size→good (out++b.extract ib b.size++a.extract ia a.size):=fun {out ia ib} m q=>by
  show (out++b.extract ib b.size++a.extract ia a.size).toList.Perm _∧Up r (out++b.extract ib b.size++a.extract ia a.size).toList
  rw [Array.toList_append,Array.toList_append,ext_drop,ext_drop]
  have e:a.toList[ia]?=some a.toList[ia]:=List.getElem?_eq_getElem (by omega)
  refine MI.endA m sa sb fun x hx y hy=>?_
  rw [drop_cons e,List.drop_eq_nil_of_le (by omega)] at hy
  rw [List.mem_singleton.mp hy]
  exact hl _ (by rw [show a.size - 1=ia by omega];exact e) x (List.mem_of_mem_drop hx)
 have m0:mi #[b0] 0 1:=by
  refine ⟨?_,List.pairwise_singleton _ _,fun x hx y hy=>?_⟩
  ·rw [List.take_zero,List.nil_append,take_snoc eb0',List.take_zero]
   exact List.Perm.refl _
  ·have e:x=b0:=List.mem_singleton.mp hx
   subst e
   rcases hy with hy | hy
   ·exact h0 y hy
   ·obtain ⟨i,hi⟩:=List.mem_iff_getElem?.mp hy
    rw [List.getElem?_drop] at hi
    exact up_at K pb sb (Nat.zero_le _) eb0' hi
 have pushA:∀{out ia ib x},mi out ia ib→a.toList[ia]?=some x→(∀y∈b.toList.drop ib,r y x=false)→mi (out.push x) (ia+1) ib:=fun {out ia ib x} m e q=>by
  show MI r a.toList b.toList (out.push x).toList (ia+1) ib
  rw [Array.toList_push]
  exact MI.a1 m sa e q
 have pushB:∀{out ia ib x},mi out ia ib→b.toList[ib]?=some x→(∀y∈a.toList.drop ia,r y x=false)→mi (out.push x) ia (ib+1):=fun {out ia ib x} m e q=>by
  show MI r a.toList b.toList (out.push x).toList ia (ib+1)
  rw [Array.toList_push]
  exact MI.b1 m sb e q
 have atA:∀i,i<a.size→∃x,a.toList[i]?=some x∧a[i]?=some x∧P x:=fun i hi=>⟨a[i],by rw [Array.getElem?_toList];exact Array.getElem?_eq_getElem hi,Array.getElem?_eq_getElem hi,pa _ (by simp)⟩
 have atB:∀i,i<b.size→∃x,b.toList[i]?=some x∧b[i]?=some x∧P x:=fun i hi=>⟨b[i],by rw [Array.getElem?_toList];exact Array.getElem?_eq_getElem hi,Array.getElem?_eq_getElem hi,pb _ (by simp)⟩
 refine wpS_bind (wpS_lift (wpAny_rule ⟨rfl,?_⟩))
 refine wpS_bind (Zaz eb0 ?_)
 extract_lets o0 i0 j0
 by_cases c1:(j0==b.size)=true
 ·rw [if_pos c1]
  have q:=gB m0 (.inr (by have:1=b.size:=eq_of_beq c1;omega))
  exact wpS_pure (h _ _ q.1 q.2 (SG.refl _))
 rw [if_neg c1]
 by_cases c2:(i0+1==a.size)=true
 ·rw [if_pos c2]
  have q:=gA m0 (show 0+1=a.size from eq_of_beq c2)
  exact wpS_pure (h _ _ q.1 q.2 (SG.refl _))
 rw [if_neg c2]
 have c1':¬1=b.size:=fun z=>c1 (by show (1==b.size)=true;rw [← z];rfl)
 have c2':¬1=a.size:=fun z=>c2 (by show (0+1==a.size)=true;rw [← z];rfl)
 refine wpS_bind (wpS_get ?_)
 let inv:Nat→Array Keyed→Nat→Nat→Prop:=fun n out ia ib=>mi out ia ib∧ia+1<a.size∧ib<b.size∧n≤ia+ib
 refine wpS_bind (wpS_mono (wpS_forRange (I:=fun x c st'=>SG st st'∧c.1=none∧inv (x+1) c.2.1 c.2.2.1 c.2.2.2.1) (Q:=fun c st'=>SG st st'∧EndQ good (fun _ _ _=>False) c) ?step ?fin ⟨SG.refl _,rfl,m0,by show 0+1<_;omega,by show 1<_;omega,by show 0+1≤0+1;omega⟩) ?post)
 case post =>
  rintro ⟨rr,out,ia,ib,g⟩ st' ⟨sg,q⟩
  cases rr with
  | none=>exact q.elim
  | some res=>exact wpS_pure (h _ _ q.1 q.2 sg)
 case fin =>
  rintro ⟨rr,out,ia,ib,g⟩ st' ⟨sg,e,m,q1,q2,q3⟩
  have e:rr=none:=e
  subst e
  exfalso
  have q1:ia+1<a.size:=q1
  have q2:ib<b.size:=q2
  have q3:max 0 (a.size+b.size)+1≤ia+ib:=q3
  omega
 case step =>
  rintro x ⟨rr,out,ia,ib,g⟩ st' _ hx ⟨sg,e,m,q1,q2,q3⟩
  have e:rr=none:=e
  subst e
  have m:mi out ia ib:=m
  have q1:ia+1<a.size:=q1
  have q2:ib<b.size:=q2
  have q3:x+1≤ia+ib:=q3
  refine wpS_bind (wpS_mono (wpS_forRange (I:=fun y c st''=>st''=st'∧c.1=none∧inv (x+1+y) c.2.1 c.2.2.1 c.2.2.2.1) (Q:=fun c st''=>st''=st'∧EndQ good (inv (x+2)) c) ?s1 ?f1 ⟨rfl,rfl,m,q1,q2,q3⟩) ?p1)
  case f1 =>
   rintro ⟨rr,out,ia,ib,g⟩ st'' ⟨e1,e,m,q1,q2,q3⟩
   have e:rr=none:=e
   subst e
   exact ⟨e1,m,q1,q2,Nat.le_trans (by omega) q3⟩
  case s1 =>
   rintro y ⟨rr,out,ia,ib,ac,bc⟩ st'' _ hy ⟨e1,e,m,q1,q2,q3⟩
   have e:rr=none:=e
   subst e e1
   have m:mi out ia ib:=m
   have q1:ia+1<a.size:=q1
   have q2:ib<b.size:=q2
   have q3:x+1+y≤ia+ib:=q3
   obtain ⟨xa,ea',ea,ha⟩:=atA ia (by omega)
   obtain ⟨xb,eb',eb,hb⟩:=atB ib q2
   refine wpS_bind (Zaz eb ?_)
   refine wpS_bind (Zaz ea ?_)
   refine wpS_bind (Zgi K (sg.k.trans hk) hb ha ?_)
   dsimp only
   cases er:r xb xa with
   | true =>
    have m':=pushB m eb' (fun z hz=>K.tr hb ha (pa z (List.mem_of_mem_drop hz)) (K.as hb ha er) (ge_of K pa sa ea' hz))
    rw [if_pos rfl]
    refine wpS_bind (Zaz eb ?_)
    by_cases c3:(ib+1==b.size)=true
    ·rw [if_pos c3]
     exact wpS_pure ⟨rfl,gB m' (.inr (Nat.le_of_eq (eq_of_beq c3).symm))⟩
    ·rw [if_neg c3]
     have c3':ib+1<b.size:=by
      have:¬ib+1=b.size:=fun z=>c3 (by rw [z];exact beq_self_eq_true _)
      omega
     by_cases c4:bc+1≥g
     ·rw [if_pos c4]
      exact wpS_pure ⟨rfl,m',q1,c3',by show x+2≤ia+(ib+1);omega⟩
     ·rw [if_neg c4]
      exact wpS_pure ⟨rfl,rfl,m',q1,c3',by show x+1+(y+1)≤ia+(ib+1);omega⟩
   | false =>
    have m':=pushA m ea' (fun z hz=>K.tr ha hb (pb z (List.mem_of_mem_drop hz)) er (ge_of K pb sb eb' hz))
    rw [if_neg Bool.false_ne_true]
    refine wpS_bind (Zaz ea ?_)
    by_cases c3:(ia+1+1==a.size)=true
    ·rw [if_pos c3]
     exact wpS_pure ⟨rfl,gA m' (eq_of_beq c3)⟩
    ·rw [if_neg c3]
     have c3':ia+1+1<a.size:=by
      have:¬ia+1+1=a.size:=fun z=>c3 (by rw [z];exact beq_self_eq_true _)
      omega
     by_cases c4:ac+1≥g
     ·rw [if_pos c4]
      exact wpS_pure ⟨rfl,m',c3',q2,by show x+2≤ia+1+ib;omega⟩
     ·rw [if_neg c4]
      exact wpS_pure ⟨rfl,rfl,m',c3',q2,by show x+1+(y+1)≤ia+1+ib;omega⟩
  case p1 =>
   rintro ⟨rr,out,ia,ib,ac,bc⟩ st'' ⟨e1,q⟩
   subst e1
   cases rr with
   | some res=>exact wpS_pure ⟨sg,q⟩
   | none =>
    obtain ⟨m,q1,q2,q3⟩:=(show inv (x+2) out ia ib from q)
    refine wpS_bind (wpS_lift (wpAny_rule ⟨rfl,?_⟩))
    refine wpS_bind (wpS_mono (wpS_forRange (I:=fun y c st3=>SG st st3∧c.1=none∧inv (x+2) c.2.1 c.2.2.1 c.2.2.2.1) (Q:=fun c st3=>SG st st3∧EndQ good (inv (x+2)) c) ?s2 ?f2 ⟨sg,rfl,m,q1,q2,q3⟩) ?p2)
    case f2 =>
     rintro ⟨rr,out,ia,ib,g⟩ st3 ⟨sg3,e,q⟩
     have e:rr=none:=e
     subst e
     exact ⟨sg3,q⟩
    case p2 =>
     rintro ⟨rr,out,ia,ib,g,ac,bc⟩ st3 ⟨sg3,q⟩
     cases rr with
     | some res=>exact wpS_pure ⟨sg3,q⟩
     | none=>exact wpS_bind (Zdx fun st4 sg4=>wpS_pure ⟨sg3.trans sg4,rfl,q⟩)
    case s2 =>
     rintro y ⟨rr,out,ia,ib,g,ac,bc⟩ st3 _ hy ⟨sg3,e,m,q1,q2,q3⟩
     have e:rr=none:=e
     subst e
     have m:mi out ia ib:=m
     have q1:ia+1<a.size:=q1
     have q2:ib<b.size:=q2
     have q3:x+2≤ia+ib:=q3
     obtain ⟨xb,eb',eb,hb⟩:=atB ib q2
     refine wpS_mono (Q:=fun rr st4=>SG st st4∧StQ good (inv (x+2)) rr) ?_ (fun rr st4 q=>?_)
     rotate_left
     ·cases rr with
      | done c =>
       obtain ⟨r0,c⟩:=c
       cases r0<;>exact q
      | yield c =>
       obtain ⟨r0,c⟩:=c
       cases r0 with
       | some _=>exact q.2.elim
       | none=>exact ⟨q.1,rfl,q.2⟩
     extract_lets v1 v2 v3 v4 v5 v6 v7 v8 v9 v10 v11 jb jp
     have hj:∀g',wpS (model prog w) A E s (jp () g') (fun rr st4=>SG st st4∧StQ good (inv (x+2)) rr) st3:=fun g'=>by
      refine wpS_bind (Zdx fun st4 sg4=>?_)
      refine wpS_bind (Zaz eb ?_)
      refine wpS_bind (Zem K ((sg3.trans sg4).k.trans hk) pa hb (base:=ia) (n:=a.size - ia) (by omega) (fun i j x y hij _ e1 e2=>up_at K pa sa (by omega) e1 e2) (by omega) fun k k1 k2 k3=>?_)
      dsimp -zeta -zetaHave only
      extract_lets ac2 jp2 o2 i2
      have hj2:∀out' ia',mi out' ia' ib→ia'+1<a.size→ia≤ia'→(∀y∈a.toList.drop ia',r y xb=false)→wpS (model prog w) A E s (jp2 () out' ia') (fun rr st4=>SG st st4∧StQ good (inv (x+2)) rr) st4:=fun out' ia' m' g1 g2 g3=>by
       have m2:=pushB m' eb' g3
       refine wpS_bind (Zaz eb ?_)
       refine Zau (fun c5=>?_) (fun c5=>?_)
       ·exact wpS_pure ⟨sg3.trans sg4,gB m2 (.inr (Nat.le_of_eq (eq_of_beq c5).symm))⟩
       ·have c5':ib+1≠b.size:=nbeq c5
        obtain ⟨xa,ea',ea,ha⟩:=atA ia' (by omega)
        refine wpS_bind (Zaz ea ?_)
        refine wpS_bind (Zem K ((sg3.trans sg4).k.trans hk) pb ha (base:=ib+1) (n:=b.size - (ib+1)) (by omega) (fun i j x y hij _ e1 e2=>up_at K pb sb (by omega) e1 e2) (by omega) fun k' k1' k2' k3'=>?_)
        dsimp -zeta -zetaHave only
        extract_lets bc2 i4 jp3 o3 i3
        have hj3:∀out'' ib'',mi out'' ia' ib''→ib''<b.size→ib+1≤ib''→(∀y∈b.toList.drop ib'',r y xa=false)→wpS (model prog w) A E s (jp3 () out'' ib'') (fun rr st4=>SG st st4∧StQ good (inv (x+2)) rr) st4:=fun out'' ib'' m'' f1 f2 f3=>by
         have m3:=pushA m'' ea' f3
         refine wpS_bind (Zaz ea ?_)
         refine Zau (fun c6=>?_) (fun c6=>?_)
         ·exact wpS_pure ⟨sg3.trans sg4,gA m3 (eq_of_beq c6)⟩
         ·have c6':ia'+1+1≠a.size:=nbeq c6
          have iv:inv (x+2) (out''.push xa) (ia'+1) ib'':=⟨m3,by omega,f1,by omega⟩
          exact Zau (fun _=>wpS_pure ⟨sg3.trans sg4,iv⟩) (fun _=>wpS_pure ⟨sg3.trans sg4,iv⟩)
        have rest:∀k0,k'≤k0→∀y∈b.toList.drop (ib+1+k0),r y xa=false:=fun k0 hk0 y hy=>by
         obtain ⟨j,hj⟩:=List.mem_iff_getElem?.mp hy
         rw [List.getElem?_drop] at hj
         have hjl:=(List.getElem?_eq_some_iff.mp hj).1
         have:=k3' (k0+j) y (by omega) (by omega) (by rw [← Nat.add_assoc];exact hj)
         exact this
        refine Zau (fun c6=>?_) (fun c6=>?_)
        ·have m3:mi (out'.push xb++b.extract (ib+1) (ib+1+k')) ia' (ib+1+k'):=by
          show MI r _ _ (out'.push xb++b.extract (ib+1) (ib+1+k')).toList ia' (ib+1+k')
          rw [Array.toList_append,ext_mid]
          refine MI.bk m2 sb k' (by omega) fun i hi z hz y hy=>?_
          have hb1:r z xa=true:=k2' i z hi hz
          have pz:=pb z (List.mem_of_getElem? hz)
          exact K.tr pz ha (pa y (List.mem_of_mem_drop hy)) (K.as pz ha hb1) (ge_of K pa sa ea' hy)
         refine Zau (fun c7=>?_) (fun c7=>?_)
         ·exact wpS_pure ⟨sg3.trans sg4,gB m3 (.inr (Nat.le_of_eq (eq_of_beq c7).symm))⟩
         ·have c7':ib+1+k'≠b.size:=nbeq c7
          exact hj3 (out'.push xb++b.extract (ib+1) (ib+1+k')) (ib+1+k') m3 (by omega) (by omega) (rest k' (Nat.le_refl _))
        ·have:k'=0:=by omega
         exact hj3 (out'.push xb) (ib+1) m2 (by omega) (Nat.le_refl _) (fun y hy=>rest 0 (by omega) y hy)
      have rest:∀k0,k≤k0→∀y∈a.toList.drop (ia+k0),r y xb=false:=fun k0 hk0 y hy=>by
       obtain ⟨j,hj⟩:=List.mem_iff_getElem?.mp hy
       rw [List.getElem?_drop] at hj
       have hjl:=(List.getElem?_eq_some_iff.mp hj).1
       have q:bey r false xb y=false:=k3 (k0+j) y (by omega) (by omega) (by rw [← Nat.add_assoc];exact hj)
       have q:r xb y=true:=by simpa [bey] using q
       exact K.as hb (pa y (List.mem_of_getElem? hj)) q
      refine Zau (fun c6=>?_) (fun c6=>?_)
      ·have m3:mi (out++a.extract ia (ia+k)) (ia+k) ib:=by
        show MI r _ _ (out++a.extract ia (ia+k)).toList (ia+k) ib
        rw [Array.toList_append,ext_mid]
        refine MI.ak m sa k (by omega) fun i hi z hz y hy=>?_
        have q:bey r false xb z=true:=k2 i z hi hz
        have q:r xb z=false:=by simpa [bey] using q
        exact K.tr (pa z (List.mem_of_getElem? hz)) hb (pb y (List.mem_of_mem_drop hy)) q (ge_of K pb sb eb' hy)
       refine Zau (fun c7=>?_) (fun c7=>?_)
       ·exact wpS_pure ⟨sg3.trans sg4,gA m3 (eq_of_beq c7)⟩
       ·refine Zau (fun c8=>?_) (fun c8=>?_)
        ·exact wpS_pure ⟨sg3.trans sg4,gB m3 (.inl (Nat.le_of_eq (eq_of_beq c8).symm))⟩
        ·have c7':ia+k+1≠a.size:=nbeq c7
         have c8':ia+k≠a.size:=nbeq c8
         exact hj2 (out++a.extract ia (ia+k)) (ia+k) m3 (by omega) (by omega) (rest k (Nat.le_refl _))
      ·exact hj2 out ia m q1 (Nat.le_refl _) (fun y hy=>rest 0 (by omega) y hy)
     exact Zau (fun _=>hj _) (fun _=>hj _)
end
end L2
namespace L2
open PySem PyProof.Rows
theorem ext_take (a:Array Keyed)(i:Nat):(a.extract 0 i).toList=a.toList.take i:=by simp [List.extract_eq_take_drop]
theorem ext_to (a:Array Keyed)(i j:Nat):(a.extract i j).toList=(a.toList.drop i).take (j - i):=by simp [List.extract_eq_take_drop]
section
variable {prog:Program}{w:World}{A:Around}{E:Value→Shared→Prop}{s:Shared}{κ:SortKind}{P:Keyed→Prop}{r:Keyed→Keyed→Bool}{st:SortSt}
theorem le_of (K:Ask prog w A s κ P r){l:List Keyed}(hl:∀x∈l,P x)(h:Up r l){i:Nat}{x y:Keyed}(e:l[i]?=some x)(hy:y∈l.take (i+1)):r x y=false:=by
 obtain ⟨j,hj⟩:=List.mem_iff_getElem?.mp hy
 have hlt:=(List.getElem?_eq_some_iff.mp hj).1
 rw [List.length_take] at hlt
 rw [List.getElem?_take,if_pos (by omega)] at hj
 exact up_at K hl h (show j≤i by omega) hj e
theorem mem_take_at {l:List Keyed}{k:Nat}{y:Keyed}(hy:y∈l.take k):∃j,j<k∧l[j]?=some y:=by
 obtain ⟨j,hj⟩:=List.mem_iff_getElem?.mp hy
 have hlt:=(List.getElem?_eq_some_iff.mp hj).1
 rw [List.length_take] at hlt
 rw [List.getElem?_take,if_pos (by omega)] at hj
 exact ⟨j,by omega,hj⟩
noncomputable def StR {β:Type}(good:Array Keyed→Prop)(inv:Array Keyed→Nat→Nat→Prop):ForInStep (Option (Array Keyed)×Nat×Nat×Array Keyed×β)→Prop
 | .done (some res,_)=>good res
 | .done (none,na,nb,out,_)=>inv out na nb
 | .yield (some _,_)=>False
 | .yield (none,na,nb,out,_)=>inv out na nb
noncomputable def EndR {β:Type}(good:Array Keyed→Prop)(inv:Array Keyed→Nat→Nat→Prop):Option (Array Keyed)×Nat×Nat×Array Keyed×β→Prop
 | (some res,_)=>good res
 | (none,na,nb,out,_)=>inv out na nb
theorem Zgv {a b:Array Keyed}{b0 al:Keyed}{Q:Array Keyed→SortSt→Prop}(K:Ask prog w A s κ P r)(hk:kindOf st=κ)(pa:∀x∈a.toList,P x)(pb:∀x∈b.toList,P x)(sa:Up r a.toList)(sb:Up r b.toList)(na0:1≤a.size)(eb0:b[0]?=some b0)
  (h0:∀x∈a.toList,r x b0=false) (el:a[a.size - 1]?=some al) (hl:∀y∈b.toList,r al y=false)
  (h:∀out st',out.toList.Perm (a.toList++b.toList)→Up r out.toList→SG st st'→Q out st'):wpS (model prog w) A E s (mergeHiP a b) Q st:=by
 have la:=a.length_toList
 have lb:=b.length_toList
 have eb0':b.toList[0]?=some b0:=by rw [Array.getElem?_toList];exact eb0
 have el':a.toList[a.size - 1]?=some al:=by rw [Array.getElem?_toList];exact el
 have nb0:1≤b.size:=(Array.getElem?_eq_some_iff.mp eb0).1
 let good:Array Keyed→Prop:=fun out=>out.toList.Perm (a.toList++b.toList)∧Up r out.toList
 let mj:Array Keyed→Nat→Nat→Prop:=fun out na nb=>MJ r a.toList b.toList out.toList.reverse na nb
 have gA:∀{out na nb},mj out na nb→(na=0∨nb=0)→good (a.extract 0 na++b.extract 0 nb++out.reverse):=fun {out na nb} m q=>by
  show (a.extract 0 na++b.extract 0 nb++out.reverse).toList.Perm _∧Up r (a.extract 0 na++b.extract 0 nb++out.reverse).toList
  rw [Array.toList_append,Array.toList_append,ext_take,ext_take,Array.toList_reverse]
  refine MJ.endA m sa sb fun x hx y hy=>?_
  rcases q with q | q
  ·rw [q] at hx
   cases hx
  ·rw [q] at hy
   cases hy
 have gB:∀{out na nb},mj out na nb→nb=1→good (b.extract 0 nb++a.extract 0 na++out.reverse):=fun {out na nb} m q=>by
  show (b.extract 0 nb++a.extract 0 na++out.reverse).toList.Perm _∧Up r (b.extract 0 nb++a.extract 0 na++out.reverse).toList
  rw [Array.toList_append,Array.toList_append,ext_take,ext_take,Array.toList_reverse]
  refine MJ.endB m sa sb fun x hx y hy=>?_
  rw [q,take_snoc eb0',List.take_zero] at hx
  rw [List.mem_singleton.mp hx]
  exact h0 y (List.mem_of_mem_take hy)
 have pushA:∀{out na nb x},mj out (na+1) nb→a.toList[na]?=some x→(∀y∈b.toList.take nb,r x y=false)→mj (out.push x) na nb:=fun {out na nb x} m e q=>by
  show MJ r a.toList b.toList (out.push x).toList.reverse na nb
  rw [Array.toList_push,List.reverse_append]
  exact MJ.a1 m sa e q
 have pushB:∀{out na nb x},mj out na (nb+1)→b.toList[nb]?=some x→(∀y∈a.toList.take na,r x y=false)→mj (out.push x) na nb:=fun {out na nb x} m e q=>by
  show MJ r a.toList b.toList (out.push x).toList.reverse na nb
  rw [Array.toList_push,List.reverse_append]
  exact MJ.b1 m sb e q
 have atA:∀i,i<a.size→∃x,a.toList[i]?=some x∧a[i]?=some x∧P x:=fun i hi=>⟨a[i],by rw [Array.getElem?_toList];exact Array.getElem?_eq_getElem hi,Array.getElem?_eq_getElem hi,pa _ (by simp)⟩
 have atB:∀i,i<b.size→∃x,b.toList[i]?=some x∧b[i]?=some x∧P x:=fun i hi=>⟨b[i],by rw [Array.getElem?_toList];exact Array.getElem?_eq_getElem hi,Array.getElem?_eq_getElem hi,pb _ (by simp)⟩
 have m0:mj #[al] (a.size - 1) b.size:=by
  have m:MJ r a.toList b.toList [] (a.size - 1+1) b.size:=⟨by rw [List.drop_eq_nil_of_le (by omega),List.drop_eq_nil_of_le (by omega)];exact List.Perm.refl _,List.Pairwise.nil,fun _ hx=>nomatch hx⟩
  exact pushA (out:=#[]) m el' fun y hy=>hl y (List.mem_of_mem_take hy)
 refine wpS_bind (wpS_lift (wpAny_rule ⟨rfl,?_⟩))
 refine wpS_bind (Zaz el ?_)
 extract_lets o0
 refine Zau (fun c1=>?_) (fun c1=>?_)
 ·have q:=gA m0 (.inl (eq_of_beq c1))
  exact wpS_pure (h _ _ q.1 q.2 (SG.refl _))
 have c1':a.size - 1≠0:=nbeq c1
 refine Zau (fun c2=>?_) (fun c2=>?_)
 ·have q:=gB m0 (eq_of_beq c2)
  exact wpS_pure (h _ _ q.1 q.2 (SG.refl _))
 have c2':b.size≠1:=nbeq c2
 refine wpS_bind (wpS_get ?_)
 let inv:Nat→Array Keyed→Nat→Nat→Prop:=fun n out na nb=>mj out na nb∧1≤na∧2≤nb∧na+nb+n≤a.size+b.size∧na≤a.size∧nb≤b.size
 refine wpS_bind (wpS_mono (wpS_forRange (I:=fun x c st'=>SG st st'∧c.1=none∧inv (x+1) c.2.2.2.1 c.2.1 c.2.2.1) (Q:=fun c st'=>SG st st'∧EndR good (fun _ _ _=>False) c) ?step ?fin ⟨SG.refl _,rfl,m0,by show 1≤a.size - 1;omega,by show 2≤b.size;omega,by show a.size - 1+b.size+(0+1)≤a.size+b.size;omega,Nat.sub_le _ _,Nat.le_refl _⟩) ?post)
 case post =>
  rintro ⟨rr,na,nb,out,g⟩ st' ⟨sg,q⟩
  cases rr with
  | none=>exact q.elim
  | some res=>exact wpS_pure (h _ _ q.1 q.2 sg)
 case fin =>
  rintro ⟨rr,na,nb,out,g⟩ st' ⟨sg,e,m,q1,q2,q3,_⟩
  exfalso
  have q1:1≤na:=q1
  have q2:2≤nb:=q2
  have q3:na+nb+(max 0 (a.size+b.size)+1)≤a.size+b.size:=q3
  omega
 case step =>
  rintro x ⟨rr,na,nb,out,g⟩ st' _ hx ⟨sg,e,iv⟩
  have e:rr=none:=e
  subst e
  have iv:inv (x+1) out na nb:=iv
  refine wpS_bind (wpS_mono (wpS_forRange (I:=fun y c st''=>st''=st'∧c.1=none∧inv (x+1+y) c.2.2.2.1 c.2.1 c.2.2.1) (Q:=fun c st''=>st''=st'∧EndR good (inv (x+2)) c) ?s1 ?f1 ⟨rfl,rfl,iv⟩) ?p1)
  case f1 =>
   rintro ⟨rr,na,nb,out,g⟩ st'' ⟨e1,e,m,q1,q2,q3,q4,q5⟩
   have e:rr=none:=e
   subst e
   exact ⟨e1,m,q1,q2,Nat.le_trans (by have hx':x<a.size+b.size:=hx;show na+nb+(x+2)≤na+nb+(x+1+max 0 (a.size+b.size));omega) q3,q4,q5⟩
  case s1 =>
   rintro y ⟨rr,na,nb,out,ac,bc⟩ st'' _ hy ⟨e1,e,m,q1,q2,q3,q4,q5⟩
   have e:rr=none:=e
   subst e e1
   have m:mj out na nb:=m
   have q1:1≤na:=q1
   have q2:2≤nb:=q2
   have q3:na+nb+(x+1+y)≤a.size+b.size:=q3
   have q4:na≤a.size:=q4
   have q5:nb≤b.size:=q5
   obtain ⟨n1,rfl⟩:∃n1,na=n1+1:=⟨na - 1,by omega⟩
   obtain ⟨n2,rfl⟩:∃n2,nb=n2+1:=⟨nb - 1,by omega⟩
   obtain ⟨xa,ea',ea,ha⟩:=atA n1 (by omega)
   obtain ⟨xb,eb',eb,hb⟩:=atB n2 (by omega)
   refine wpS_bind (Zaz eb ?_)
   refine wpS_bind (Zaz ea ?_)
   refine wpS_bind (Zgi K (sg.k.trans hk) hb ha ?_)
   dsimp only
   cases er:r xb xa with
   | true =>
    have m':=pushA m ea' (fun z hz=>K.tr (pb z (List.mem_of_mem_take hz)) hb ha (le_of K pb sb eb' hz) (K.as hb ha er))
    rw [if_pos rfl]
    refine wpS_bind (Zaz ea ?_)
    refine Zau (fun c3=>?_) (fun c3=>?_)
    ·exact wpS_pure ⟨rfl,gA m' (.inl (eq_of_beq c3))⟩
    ·have c3':n1≠0:=nbeq c3
     refine Zau (fun c4=>?_) (fun c4=>?_)
     ·exact wpS_pure ⟨rfl,m',by show 1≤n1;omega,q2,by show n1+(n2+1)+(x+2)≤_;omega,by show n1≤_;omega,q5⟩
     ·exact wpS_pure ⟨rfl,rfl,m',by show 1≤n1;omega,q2,by show n1+(n2+1)+(x+1+(y+1))≤_;omega,by show n1≤_;omega,q5⟩
   | false =>
    have m':=pushB m eb' (fun z hz=>K.tr (pa z (List.mem_of_mem_take hz)) ha hb (le_of K pa sa ea' hz) er)
    rw [if_neg Bool.false_ne_true]
    refine wpS_bind (Zaz eb ?_)
    refine Zau (fun c3=>?_) (fun c3=>?_)
    ·exact wpS_pure ⟨rfl,gB m' (eq_of_beq c3)⟩
    ·have c3':n2≠1:=nbeq c3
     refine Zau (fun c4=>?_) (fun c4=>?_)
     ·exact wpS_pure ⟨rfl,m',q1,by show 2≤n2;omega,by show n1+1+n2+(x+2)≤_;omega,q4,by show n2≤_;omega⟩
     ·exact wpS_pure ⟨rfl,rfl,m',q1,by show 2≤n2;omega,by show n1+1+n2+(x+1+(y+1))≤_;omega,q4,by show n2≤_;omega⟩
  case p1 =>
   rintro ⟨rr,na,nb,out,ac,bc⟩ st'' ⟨e1,q⟩
   subst e1
   cases rr with
   | some res=>exact wpS_pure ⟨sg,q⟩
   | none =>
    have iv:=(show inv (x+2) out na nb from q)
    refine wpS_bind (wpS_lift (wpAny_rule ⟨rfl,?_⟩))
    refine wpS_bind (wpS_mono (wpS_forRange (I:=fun y c st3=>SG st st3∧c.1=none∧inv (x+2) c.2.2.2.1 c.2.1 c.2.2.1) (Q:=fun c st3=>SG st st3∧EndR good (inv (x+2)) c) ?s2 ?f2 ⟨sg,rfl,iv⟩) ?p2)
    case f2 =>
     rintro ⟨rr,na,nb,out,g⟩ st3 ⟨sg3,e,q⟩
     have e:rr=none:=e
     subst e
     exact ⟨sg3,q⟩
    case p2 =>
     rintro ⟨rr,na,nb,out,g,ac,bc⟩ st3 ⟨sg3,q⟩
     cases rr with
     | some res=>exact wpS_pure ⟨sg3,q⟩
     | none=>exact wpS_bind (Zdx fun st4 sg4=>wpS_pure ⟨sg3.trans sg4,rfl,q⟩)
    case s2 =>
     rintro y ⟨rr,na,nb,out,g,ac,bc⟩ st3 _ hy ⟨sg3,e,m,q1,q2,q3,q4,q5⟩
     have e:rr=none:=e
     subst e
     have m:mj out na nb:=m
     have q1:1≤na:=q1
     have q2:2≤nb:=q2
     have q3:na+nb+(x+2)≤a.size+b.size:=q3
     have q4:na≤a.size:=q4
     have q5:nb≤b.size:=q5
     obtain ⟨n2,rfl⟩:∃n2,nb=n2+1:=⟨nb - 1,by omega⟩
     obtain ⟨xb,eb',eb,hb⟩:=atB n2 (by omega)
     refine wpS_mono (Q:=fun rr st4=>SG st st4∧StR good (inv (x+2)) rr) ?_ (fun rr st4 q=>?_)
     rotate_left
     ·cases rr with
      | done c =>
       obtain ⟨r0,c⟩:=c
       cases r0<;>exact q
      | yield c =>
       obtain ⟨r0,c⟩:=c
       cases r0 with
       | some _=>exact q.2.elim
       | none=>exact ⟨q.1,rfl,q.2⟩
     extract_lets v1 v2 v3 v4 v5 v6 v7 v8 v9 v10 v11 jb jp
     have hj:∀g',wpS (model prog w) A E s (jp () g') (fun rr st4=>SG st st4∧StR good (inv (x+2)) rr) st3:=fun g'=>by
      refine wpS_bind (Zdx fun st4 sg4=>?_)
      have sg5:=sg3.trans sg4
      refine wpS_bind (Zaz eb ?_)
      refine wpS_bind (Zem K (sg5.k.trans hk) pa hb (base:=0) (n:=na) (by omega) (fun i j x y hij _ e1 e2=>up_at K pa sa (by omega) e1 e2) (by show na - 1<na;omega) fun k k1 k2 k3=>?_)
      dsimp -zeta -zetaHave only
      extract_lets kk ac2 jp2 o2 i2
      have lo:∀y∈a.toList.take k,r xb y=false:=fun y hy=>by
       obtain ⟨j,hj,e⟩:=mem_take_at hy
       have q:bey r false xb y=true:=k2 j y hj (by rw [Nat.zero_add];exact e)
       simpa [bey] using q
      have hj2:∀na' out',mj out' na' (n2+1)→1≤na'→na'≤na→(∀y∈a.toList.take na',r xb y=false)→wpS (model prog w) A E s (jp2 () na' out') (fun rr st4=>SG st st4∧StR good (inv (x+2)) rr) st4:=fun na' out' m' g1 g2 g3=>by
       have m2:=pushB m' eb' g3
       refine wpS_bind (Zaz eb ?_)
       refine Zau (fun c5=>?_) (fun c5=>?_)
       ·exact wpS_pure ⟨sg5,gB m2 (eq_of_beq c5)⟩
       ·have c5':n2≠1:=nbeq c5
        obtain ⟨n1,rfl⟩:∃n1,na'=n1+1:=⟨na' - 1,by omega⟩
        obtain ⟨xa,ea',ea,ha⟩:=atA n1 (by omega)
        refine wpS_bind (Zaz ea ?_)
        refine wpS_bind (Zem K (sg5.k.trans hk) pb ha (base:=0) (n:=n2) (by omega) (fun i j x y hij _ e1 e2=>up_at K pb sb (by omega) e1 e2) (by show n2 - 1<n2;omega) fun k' k1' k2' k3'=>?_)
        dsimp -zeta -zetaHave only
        extract_lets kk2 bc2 n4 jp3 o3 i3
        have lo':∀y∈b.toList.take k',r xa y=false:=fun y hy=>by
         obtain ⟨j,hj,e⟩:=mem_take_at hy
         have q:r y xa=true:=k2' j y hj (by rw [Nat.zero_add];exact e)
         exact K.as (pb y (List.mem_of_getElem? e)) ha q
        have hj3:∀nb'' out'',mj out'' (n1+1) nb''→2≤nb''→nb''≤n2→(∀y∈b.toList.take nb'',r xa y=false)→wpS (model prog w) A E s (jp3 () nb'' out'') (fun rr st4=>SG st st4∧StR good (inv (x+2)) rr) st4:=fun nb'' out'' m'' f1 f2 f3=>by
         have m3:=pushA m'' ea' f3
         refine wpS_bind (Zaz ea ?_)
         refine Zau (fun c6=>?_) (fun c6=>?_)
         ·exact wpS_pure ⟨sg5,gA m3 (.inl (eq_of_beq c6))⟩
         ·have c6':n1≠0:=nbeq c6
          have iv:inv (x+2) (out''.push xa) n1 nb'':=⟨m3,by omega,f1,by omega,by omega,by omega⟩
          exact Zau (fun _=>wpS_pure ⟨sg5,iv⟩) (fun _=>wpS_pure ⟨sg5,iv⟩)
        refine Zau (fun c6=>?_) (fun c6=>?_)
        ·have m3:mj (out'.push xb++(b.extract k' n2).reverse) (n1+1) k':=by
          show MJ r _ _ (out'.push xb++(b.extract k' n2).reverse).toList.reverse (n1+1) k'
          rw [Array.toList_append,List.reverse_append,Array.toList_reverse,List.reverse_reverse,ext_to]
          have:=MJ.bk m2 sb (by omega) (n2 - k') (by omega) fun i hi1 hi2 z hz y hy=>by
           have q:r z xa=false:=k3' i z (by omega) hi2 (by rw [Nat.zero_add];exact hz)
           exact K.tr (pa y (List.mem_of_mem_take hy)) ha (pb z (List.mem_of_getElem? hz)) (le_of K pa sa ea' hy) q
          rw [show n2 - (n2 - k')=k' by omega] at this
          exact this
         refine Zau (fun c7=>?_) (fun c7=>?_)
         ·exact wpS_pure ⟨sg5,gB m3 (eq_of_beq c7)⟩
         ·refine Zau (fun c8=>?_) (fun c8=>?_)
          ·exact wpS_pure ⟨sg5,gA m3 (.inr (eq_of_beq c8))⟩
          ·have c7':k'≠1:=nbeq c7
           have c8':k'≠0:=nbeq c8
           exact hj3 k' (out'.push xb++(b.extract k' n2).reverse) m3 (by omega) k1' lo'
        ·have c6':¬n2 - k' > 0:=c6
         have e:k'=n2:=by omega
         subst e
         exact hj3 k' (out'.push xb) m2 (by omega) (Nat.le_refl _) lo'
      refine Zau (fun c6=>?_) (fun c6=>?_)
      ·have m3:mj (out++(a.extract k na).reverse) k (n2+1):=by
        show MJ r _ _ (out++(a.extract k na).reverse).toList.reverse k (n2+1)
        rw [Array.toList_append,List.reverse_append,Array.toList_reverse,List.reverse_reverse,ext_to]
        have:=MJ.ak m sa (by omega) (na - k) (by omega) fun i hi1 hi2 z hz y hy=>by
         have q:bey r false xb z=false:=k3 i z (by omega) hi2 (by rw [Nat.zero_add];exact hz)
         have q:r xb z=true:=by simpa [bey] using q
         have pz:=pa z (List.mem_of_getElem? hz)
         exact K.tr (pb y (List.mem_of_mem_take hy)) hb pz (le_of K pb sb eb' hy) (K.as hb pz q)
        rw [show na - (na - k)=k by omega] at this
        exact this
       refine Zau (fun c7=>?_) (fun c7=>?_)
       ·exact wpS_pure ⟨sg5,gA m3 (.inl (eq_of_beq c7))⟩
       ·have c7':k≠0:=nbeq c7
        exact hj2 k (out++(a.extract k na).reverse) m3 (by omega) k1 lo
      ·have c6':¬na - k > 0:=c6
       have e:k=na:=by omega
       subst e
       exact hj2 k out m q1 (Nat.le_refl _) lo
     exact Zau (fun _=>hj _) (fun _=>hj _)
end
end L2
namespace L2
open PySem PyProof.Rows
section
variable {α:Type}
theorem seg_at {A X B:List α}{i:Nat}(hi:i<X.length):(A++X++B)[A.length+i]?=X[i]?:=by
 rw [List.append_assoc,List.getElem?_append_right (Nat.le_add_right _ _),Nat.add_sub_cancel_left,List.getElem?_append_left hi]
theorem lay_list:∀(M:List α) (a:Array α) (base k:Nat),base+k+M.length≤a.size→((M.zipIdx k).foldl (fun a p=>a.setIfInBounds (base+p.2) p.1) a).toList=a.toList.take (base+k)++M++a.toList.drop (base+k+M.length)
 | [],a,base,k,h=>by simp
 | x::M,a,base,k,h=>by
  rw [List.length_cons] at h
  have ih:=lay_list M (a.setIfInBounds (base+k) x) base (k+1) (by rw [Array.size_setIfInBounds];omega)
  have hl:base+k<a.toList.length:=by rw [Array.length_toList];omega
  rw [List.zipIdx_cons,List.foldl_cons,ih,Array.toList_setIfInBounds,List.length_cons]
  rw [List.take_set,List.drop_set_of_lt (by omega),show base+(k+1)=base+k+1 by omega,List.take_add_one,List.getElem?_eq_getElem hl,show base+k+1+M.length=base+k+(M.length+1) by omega]
  have ht:(a.toList.take (base+k)).length=base+k:=List.length_take_of_le (Nat.le_of_lt hl)
  rw [List.set_append_right _ _ (Nat.le_of_eq ht),ht,Nat.sub_self]
  simp
end
section
variable {prog:Program}{w:World}{A:Around}{E:Value→Shared→Prop}{s:Shared}{κ:SortKind}{P:Keyed→Prop}{r:Keyed→Keyed→Bool}{st:SortSt}
theorem ask_set {x:SortSt}{Q:PUnit→SortSt→Prop}(h:Q ⟨⟩ x):wpS (model prog w) A E s (set x:StateT SortSt Sem PUnit) Q st:=by
 unfold wpS
 rw [StateT.run_set]
 exact wpAny_pure ⟨rfl,h⟩
theorem Zhb {i sa na pw nb q:Nat}{L X Y B:List Keyed}{Q:Bool→SortSt→Prop}(K:Ask prog w A s κ P r)(hk:kindOf st=κ)(hf:failedOf st=none)(hp1:(pendingOf st)[i]?=some (sa,na,pw))(hp2:(pendingOf st)[i+1]?=some (sa+na,nb,q))
    (hl:(arrOf st).toList=L++X++Y++B) (lA:L.length=sa) (lX:X.length=na) (lY:Y.length=nb) (nX:1≤na) (nY:1≤nb) (hP:∀x∈(arrOf st).toList,P x) (uX:Up r X) (uY:Up r Y)
    (h:∀M st',M.Perm (X++Y)→Up r M→(arrOf st').toList=L++M++B→kindOf st'=κ→failedOf st'=none→pendingOf st'=((pendingOf st).setIfInBounds i (sa,na+nb,pw)).eraseIdxIfInBounds (i+1)→Q true st') :
    wpS (model prog w) A E s (mergeAt' i) Q st:=by
  have hsz:(arrOf st).size=sa+na+nb+B.length:=by
    rw [← Array.length_toList,hl]
    simp only [List.length_append]
    omega
  have pX:∀x∈X,P x:=fun x hx=>hP x (by rw [hl];simp [hx])
  have pY:∀x∈Y,P x:=fun x hx=>hP x (by rw [hl];simp [hx])
  have eX:∀j,j<na→(arrOf st).toList[sa+j]?=X[j]?:=fun j hj=>by
    rw [hl,← lA,List.append_assoc]
    exact seg_at (by omega)
  have eY:∀j,j<nb→(arrOf st).toList[sa+na+j]?=Y[j]?:=fun j hj=>by
    have:=seg_at (A:=L++X) (X:=Y) (B:=B) (i:=j) (by omega)
    rw [List.length_append,lA,lX] at this
    rw [hl]
    exact this
  obtain ⟨y0,ey0⟩:∃y,Y[0]?=some y:=⟨Y[0],List.getElem?_eq_getElem (by omega)⟩
  obtain ⟨xl,exl⟩:∃x,X[na - 1]?=some x:=⟨X[na - 1],List.getElem?_eq_getElem (by omega)⟩
  have hy0:=pY _ (List.mem_of_getElem? ey0)
  have hxl:=pX _ (List.mem_of_getElem? exl)
  have ey0':(arrOf st)[sa+na]?=some y0:=by rw [← Array.getElem?_toList];exact (eY 0 (by omega)).trans ey0
  refine wpS_bind (wpS_get ?_)
  simp only [hp1,hp2]
  refine wpS_bind (ask_set ?_)
  refine wpS_bind (Zaz ey0' ?_)
  have hb1:sa+na≤(arrOf st).size:=by omega
  have hb2:sa+na+nb≤(arrOf st).size:=by omega
  refine wpS_bind (Zem K hk hP hy0 (base:=sa) (n:=na) hb1 (fun i j x y hij hj e1 e2=>?_) (by omega) fun k k1 k2 k3=>?_)
  · rw [eX i (by omega)] at e1
    rw [eX j hj] at e2
    exact up_at K pX uX hij e1 e2
  have lo1:∀x∈X.take k,r y0 x=false:=fun x hx=>by
    obtain ⟨j,hj,e⟩:=mem_take_at hx
    have q:bey r false y0 x=true:=k2 j x hj (by rw [eX j (by omega)];exact e)
    simpa [bey] using q
  have hi1:∀x∈X.drop k,r x y0=false:=fun x hx=>by
    obtain ⟨j,hj⟩:=List.mem_iff_getElem?.mp hx
    rw [List.getElem?_drop] at hj
    have hjl:=(List.getElem?_eq_some_iff.mp hj).1
    have q:bey r false y0 x=false:=k3 (k+j) x (by omega) (by omega) (by rw [eX (k+j) (by omega)];exact hj)
    have q:r y0 x=true:=by simpa [bey] using q
    exact K.as hy0 (pX x (List.mem_of_getElem? hj)) q
  have geY:∀y∈Y,r y y0=false:=fun y hy=>ge_of K pY uY ey0 (by rw [List.drop_zero];exact hy)
  have leX:∀x∈X,r xl x=false:=fun x hx=>le_of K pX uX exl (by rw [show na - 1+1=X.length by omega,List.take_length];exact hx)
  dsimp only
  refine Zau (fun c1=>?_) (fun c1=>?_)
  ·
    have c1':na - k=0:=eq_of_beq c1
    refine wpS_pure (h (X++Y) _ (List.Perm.refl _) (List.pairwise_append.mpr ⟨uX,uY,fun x hx y hy=>?_⟩) (by rw [← List.append_assoc];exact hl) hk hf rfl)
    exact K.tr (pX x hx) hy0 (pY y hy) (lo1 x (by rw [List.take_of_length_le (by omega)];exact hx)) (geY y hy)
  have c1':na - k≠0:=nbeq c1
  have exl':(arrOf st)[sa+k+(na - k) - 1]?=some xl:=by
    rw [← Array.getElem?_toList,show sa+k+(na - k) - 1=sa+(na - 1) by omega,eX (na - 1) (by omega)]
    exact exl
  refine wpS_bind (Zaz exl' ?_)
  refine wpS_bind (Zem K hk hP hxl (base:=sa+na) (n:=nb) hb2 (fun i j x y hij hj e1 e2=>?_) (by omega) fun m m1 m2 m3=>?_)
  · rw [eY i (by omega)] at e1
    rw [eY j hj] at e2
    exact up_at K pY uY hij e1 e2
  have lo2:∀y∈Y.take m,r xl y=false:=fun y hy=>by
    obtain ⟨j,hj,e⟩:=mem_take_at hy
    have q:r y xl=true:=m2 j y hj (by rw [eY j (by omega)];exact e)
    exact K.as (pY y (List.mem_of_getElem? e)) hxl q
  have hi2:∀y∈Y.drop m,r y xl=false:=fun y hy=>by
    obtain ⟨j,hj⟩:=List.mem_iff_getElem?.mp hy
    rw [List.getElem?_drop] at hj
    have hjl:=(List.getElem?_eq_some_iff.mp hj).1
    exact m3 (m+j) y (by omega) (by omega) (by rw [eY (m+j) (by omega)];exact hj)
  dsimp only
  refine Zau (fun c2=>?_) (fun c2=>?_)
  · have c2':m=0:=eq_of_beq c2
    refine wpS_pure (h (X++Y) _ (List.Perm.refl _) (List.pairwise_append.mpr ⟨uX,uY,fun x hx y hy=>?_⟩) (by rw [← List.append_assoc];exact hl) hk hf rfl)
    exact K.tr (pX x hx) hxl (pY y hy) (leX x hx) (hi2 y (by rw [c2',List.drop_zero];exact hy))
  have c2':m≠0:=nbeq c2
  have tX:((arrOf st).extract (sa+k) (sa+na)).toList=X.drop k:=by
    rw [ext_to,hl,List.append_assoc,List.append_assoc,← lA,← List.drop_drop,List.drop_left,List.drop_append_of_le_length (by omega),List.take_append_of_le_length (by rw [List.length_drop];omega),List.take_of_length_le (by rw [List.length_drop];omega)]
  have tY:((arrOf st).extract (sa+na) (sa+na+m)).toList=Y.take m:=by
    rw [ext_mid,hl,List.append_assoc (L++X),show sa+na=(L++X).length by rw [List.length_append];omega,List.drop_left,List.take_append_of_le_length (by omega)]
  have fin:∀(out:Array Keyed) (st':SortSt),out.toList.Perm (X.drop k++Y.take m)→Up r out.toList→kindOf st'=κ→failedOf st'=none→arrOf st'=arrOf st→pendingOf st'=((pendingOf st).setIfInBounds i (sa,na+nb,pw)).eraseIdxIfInBounds (i+1)→
      wpS (model prog w) A E s (do
        modify fun s=>setArr s (out.toList.zipIdx.foldl (fun a p=>a.setIfInBounds (sa+k+p.2) p.1) (arrOf s))
        pure (failedOf (← get)).isNone) Q st':=fun out st' hpm hup hk' hf' ha' hp'=>by
    have hol:out.toList.length=na - k+m:=by rw [hpm.length_eq,List.length_append,List.length_drop,List.length_take];omega
    refine wpS_bind (wpS_modify (wpS_bind (wpS_get (wpS_pure ?_))))
    show Q (failedOf st').isNone _
    rw [hf']
    refine h (X.take k++out.toList++Y.drop m) _ ?_ ?_ ?_ hk' hf' hp'
    · have h1:(X.take k++out.toList++Y.drop m).Perm (X.take k++(X.drop k++Y.take m)++Y.drop m):=(hpm.append_left _).append_right _
      refine h1.trans ?_
      rw [← List.append_assoc,List.take_append_drop,List.append_assoc,List.take_append_drop]
    · have mem:∀z∈out.toList,z∈X.drop k∨z∈Y.take m:=fun z hz=>List.mem_append.mp (hpm.mem_iff.mp hz)
      refine List.pairwise_append.mpr ⟨List.pairwise_append.mpr ⟨uX.take k,hup,fun x hx z hz=>?_⟩,uY.drop m,fun x hx y hy=>?_⟩
      · rcases mem z hz with q | q
        · exact (List.pairwise_append.mp (by rw [List.take_append_drop];exact uX:Up r (X.take k++X.drop k))).2.2 x hx z q
        · exact K.tr (pX x (List.mem_of_mem_take hx)) hy0 (pY z (List.mem_of_mem_take q)) (lo1 x hx) (geY z (List.mem_of_mem_take q))
      · rcases List.mem_append.mp hx with hx | hx
        · exact K.tr (pX x (List.mem_of_mem_take hx)) hxl (pY y (List.mem_of_mem_drop hy)) (leX x (List.mem_of_mem_take hx)) (hi2 y hy)
        · rcases mem x hx with q | q
          · exact K.tr (pX x (List.mem_of_mem_drop q)) hxl (pY y (List.mem_of_mem_drop hy)) (leX x (List.mem_of_mem_drop q)) (hi2 y hy)
          · exact (List.pairwise_append.mp (by rw [List.take_append_drop];exact uY:Up r (Y.take m++Y.drop m))).2.2 x q y hy
    · show ((out.toList.zipIdx 0).foldl (fun a p=>a.setIfInBounds (sa+k+p.2) p.1) (arrOf st')).toList=_
      rw [ha',lay_list _ _ _ _ (by rw [hol];omega),hol,Nat.add_zero,hl]
      have e1:(L++X++Y++B).take (sa+k)=L++X.take k:=by
        rw [List.append_assoc,List.append_assoc,← lA,List.take_append,List.take_of_length_le (Nat.le_add_right _ _),Nat.add_sub_cancel_left,List.take_append_of_le_length (by omega)]
      have e2:(L++X++Y++B).drop (sa+k+(na - k+m))=Y.drop m++B:=by
        rw [List.append_assoc (L++X),show sa+k+(na - k+m)=(L++X).length+m by rw [List.length_append];omega,← List.drop_drop,List.drop_left,List.drop_append_of_le_length (by omega)]
      rw [e1,e2]
      simp only [List.append_assoc]
  have p2:∀x∈((arrOf st).extract (sa+k) (sa+na)).toList,P x:=fun x hx=>pX x (List.mem_of_mem_drop (tX▸hx))
  have p3:∀x∈((arrOf st).extract (sa+na) (sa+na+m)).toList,P x:=fun x hx=>pY x (List.mem_of_mem_take (tY▸hx))
  have sz2:((arrOf st).extract (sa+k) (sa+na)).size=na - k:=by rw [← Array.length_toList,tX,List.length_drop];omega
  have u2:Up r ((arrOf st).extract (sa+k) (sa+na)).toList:=by rw [tX];exact uX.drop k
  have u3:Up r ((arrOf st).extract (sa+na) (sa+na+m)).toList:=by rw [tY];exact uY.take m
  have g0:((arrOf st).extract (sa+na) (sa+na+m))[0]?=some y0:=by rw [← Array.getElem?_toList,tY,List.getElem?_take,if_pos (by omega)];exact ey0
  have g1:∀x∈((arrOf st).extract (sa+k) (sa+na)).toList,r x y0=false:=fun x hx=>hi1 x (tX▸hx)
  have g2:((arrOf st).extract (sa+k) (sa+na)).toList[((arrOf st).extract (sa+k) (sa+na)).size - 1]?=some xl:=by rw [sz2,tX,List.getElem?_drop,show k+(na - k - 1)=na - 1 by omega];exact exl
  have g3:∀y∈((arrOf st).extract (sa+na) (sa+na+m)).toList,r xl y=false:=fun y hy=>lo2 y (tY▸hy)
  have fin':∀(out:Array Keyed) (st':SortSt),out.toList.Perm (((arrOf st).extract (sa+k) (sa+na)).toList++((arrOf st).extract (sa+na) (sa+na+m)).toList)→Up r out.toList→kindOf st'=κ→failedOf st'=none→arrOf st'=arrOf st→pendingOf st'=((pendingOf st).setIfInBounds i (sa,na+nb,pw)).eraseIdxIfInBounds (i+1)→_:=fun out st' q=>fin out st' (by rw [tX,tY] at q;exact q)
  refine Zau (fun c3=>?_) (fun c3=>?_)
  · exact wpS_bind (Zgw K hk p2 p3 u2 u3 (by rw [sz2];omega) g0 g1 (fun x hx=>by rw [g2] at hx;cases hx;exact g3) fun out st' h1 h2 sg=>fin' out st' h1 h2 (sg.k.trans hk) (sg.f.trans hf) sg.a sg.p)
  · exact wpS_bind (Zgv K hk p2 p3 u2 u3 (by rw [sz2];omega) g0 g1 (by rw [← Array.getElem?_toList];exact g2) g3 fun out st' h1 h2 sg=>fin' out st' h1 h2 (sg.k.trans hk) (sg.f.trans hf) sg.a sg.p)
end
end L2
namespace L2
open PySem PyProof.Rows
section
variable {prog:Program}{w:World}{A:Around}{E:Value→Shared→Prop}{s:Shared}{κ:SortKind}{P:Keyed→Prop}{r:Keyed→Keyed→Bool}{st:SortSt}
theorem ask_ltAt {i j:Nat}{x y:Keyed}{Q:Option Bool→SortSt→Prop}(K:Ask prog w A s κ P r)(hk:kindOf st=κ)(hi:(arrOf st)[i]?=some x)(hj:(arrOf st)[j]?=some y)(hx:P x)(hy:P y)(h:Q (some (r x y)) st):wpS (model prog w) A E s (ltAt' i j) Q st:=by
 rw [ltAt'_eq]
 exact wpS_bind (wpS_get (wpS_bind (Zaz hi (wpS_bind (Zaz hj (Zgi K hk hx hy h))))))
structure SC (κ:SortKind)(lo:Nat)(st st':SortSt):Prop where
 k:kindOf st'=κ
 f:failedOf st'=none
 p:pendingOf st'=pendingOf st
 m:(arrOf st').Perm (arrOf st)
 o:∀i,i<lo→(arrOf st')[i]?=(arrOf st)[i]?
theorem SC.size {lo:Nat}{st st':SortSt}(c:SC κ lo st st'):(arrOf st').size=(arrOf st).size:=c.m.size_eq
theorem SC.put {lo:Nat}{st st':SortSt}(c:SC κ lo st st'){a:Array Keyed}(hm:a.Perm (arrOf st'))(ho:∀i,i<lo→a[i]?=(arrOf st')[i]?):SC κ lo st (setArr st' a):=⟨c.k,c.f,c.p,hm.trans c.m,fun i hi=>(ho i hi).trans (c.o i hi)⟩
noncomputable def gx (d0:Keyed)(lo:Nat)(a:Array Keyed)(i:Nat):Keyed:=(a[lo+i]?).getD d0
theorem gx_at {d0:Keyed}{lo i:Nat}{a:Array Keyed}(h:lo+i<a.size):a[lo+i]?=some (gx d0 lo a i):=by
 unfold gx
 rw [Array.getElem?_eq_getElem h]
 rfl
theorem gx_congr {d0:Keyed}{lo i j:Nat}{a b:Array Keyed}(h:a[lo+i]?=b[lo+j]?):gx d0 lo a i=gx d0 lo b j:=by unfold gx;rw [h]
variable {d0:Keyed}{lo nrem:Nat}
theorem gx_P (hP:∀x∈(arrOf st).toList,P x){st':SortSt}(c:SC κ lo st st')(hn:lo+nrem≤(arrOf st).size){i:Nat}(hi:i<nrem):P (gx d0 lo (arrOf st') i):=by
 have e:=gx_at (d0:=d0) (a:=arrOf st') (lo:=lo) (i:=i) (by rw [c.size];omega)
 have hm:gx d0 lo (arrOf st') i∈(arrOf st').toList:=List.mem_of_getElem? (by rw [Array.getElem?_toList];exact e)
 exact hP _ (c.m.toList.mem_iff.mp hm)
theorem Zgo (K:Ask prog w A s κ P r)(hP:∀x∈(arrOf st).toList,P x)(hn:lo+nrem≤(arrOf st).size){st':SortSt}(c:SC κ lo st st'){i j i' j':Nat}(hi:i<nrem)(hj:j<nrem)(ei:i'=lo+i)(ej:j'=lo+j){Q:Option Bool→SortSt→Prop}(h:Q (some (r (gx d0 lo (arrOf st') i) (gx d0 lo (arrOf st') j))) st'):wpS (model prog w) A E s (ltAt' i' j') Q st':=by
 subst ei ej
 exact ask_ltAt K c.k (gx_at (by rw [c.size];omega)) (gx_at (by rw [c.size];omega)) (gx_P hP c hn hi) (gx_P hP c hn hj) h
theorem mir_gx {a:Array Keyed}{i j:Nat}(hj:lo+j≤a.size)(k:Nat):gx d0 lo (mirror a (lo+i) (lo+j) ((lo+j - (lo+i)) / 2)) k=if i≤k∧k<j then gx d0 lo a (i+j - 1 - k) else gx d0 lo a k:=by
 have e:=getElem?_mirror_all (i:=lo+i) hj (lo+k)
 by_cases c:i≤k∧k<j
 ·rw [if_pos c]
  rw [if_pos (by omega)] at e
  exact gx_congr (e.trans (by congr 1;omega))
 ·rw [if_neg c]
  rw [if_neg (by omega)] at e
  exact gx_congr e
theorem mir_old {a:Array Keyed}{i j:Nat}(hj:lo+j≤a.size)(k:Nat)(hk:k<lo):(mirror a (lo+i) (lo+j) ((lo+j - (lo+i)) / 2))[k]?=a[k]?:=by
 rw [getElem?_mirror_all (i:=lo+i) hj k,if_neg (by omega)]
noncomputable def UpTo (r:Keyed→Keyed→Bool)(g:Nat→Keyed)(n:Nat):Prop:=∀i j,i≤j→j<n→r (g j) (g i)=false
noncomputable def DnTo (r:Keyed→Keyed→Bool)(g:Nat→Keyed)(n:Nat):Prop:=∀i j,i≤j→j<n→r (g i) (g j)=false
noncomputable def Eqv (r:Keyed→Keyed→Bool)(x y:Keyed):Prop:=r x y=false∧r y x=false
theorem UpTo.snoc (K:Ask prog w A s κ P r){g:Nat→Keyed}{n:Nat}(hp:∀i,i<n+1→P (g i))(h1:1≤n)(h:UpTo r g n)(q:r (g n) (g (n - 1))=false):UpTo r g (n+1):=fun i j hij hj=>by
 by_cases e:j<n
 ·exact h i j hij e
 ·have ej:j=n:=by omega
  subst ej
  by_cases ei:i=j
  ·subst ei
   exact K.ir (hp i hj)
  ·exact K.tr (hp i (by omega)) (hp (j - 1) (by omega)) (hp j hj) (h i (j - 1) (by omega) (by omega)) q
theorem DnTo.snoc (K:Ask prog w A s κ P r){g:Nat→Keyed}{n:Nat}(hp:∀i,i<n+1→P (g i))(h1:1≤n)(h:DnTo r g n)(q:r (g (n - 1)) (g n)=false):DnTo r g (n+1):=fun i j hij hj=>by
 by_cases e:j<n
 ·exact h i j hij e
 ·have ej:j=n:=by omega
  subst ej
  by_cases ei:i=j
  ·subst ei
   exact K.ir (hp i hj)
  ·exact K.tr (hp j hj) (hp (j - 1) (by omega)) (hp i (by omega)) q (h i (j - 1) (by omega) (by omega))
theorem DnTo.eqv (K:Ask prog w A s κ P r){g g':Nat→Keyed}{n:Nat}(hp:∀i,i<n→P (g i))(hp':∀i,i<n→P (g' i))(h:DnTo r g n)(q:∀i,i<n→Eqv r (g' i) (g i)):DnTo r g' n:=fun i j hij hj =>
 K.tr (hp' j hj) (hp j hj) (hp' i (by omega)) (q j hj).2 (K.tr (hp j hj) (hp i (by omega)) (hp' i (by omega)) (h i j hij hj) (q i (by omega)).1)
theorem ask_asc (K:Ask prog w A s κ P r)(hP:∀x∈(arrOf st).toList,P x)(hn:lo+nrem≤(arrOf st).size){st':SortSt}(c:SC κ lo st st'){a:Nat}(ha:1≤a)(han:a≤nrem)(hs:UpTo r (gx d0 lo (arrOf st')) a)
  {f:Nat→Option (Option Nat)×Nat→StateT SortSt Sem (ForInStep (Option (Option Nat)×Nat))} {Q:Option (Option Nat)×Nat→SortSt→Prop}
  (hf:∀x n (Q':ForInStep (Option (Option Nat)×Nat)→SortSt→Prop),wpS (model prog w) A E s (ltAt' (lo+n) (lo+n - 1)) (fun b st''=>st''=st'∧∃b',b=some b'∧(b'=true→Q' (.done (none,n)) st')∧(b'=false→Q' (.yield (none,n+1)) st')) st'→wpS (model prog w) A E s (f x (none,n)) Q' st')
  (h:∀n,a≤n→n≤nrem→UpTo r (gx d0 lo (arrOf st')) n→(n=nrem∨r (gx d0 lo (arrOf st') n) (gx d0 lo (arrOf st') (n - 1))=true)→Q (none,n) st') :
  wpS (model prog w) A E s (forIn [a:nrem] ((none,a):Option (Option Nat)×Nat) f) Q st':=by
 refine wpS_forRange (I:=fun x c st''=>st''=st'∧c=(none,x)∧UpTo r (gx d0 lo (arrOf st')) x) ?step ?fin ⟨rfl,rfl,hs⟩
 case fin =>
  rintro c st'' ⟨rfl,rfl,hs'⟩
  rw [show max a nrem=nrem by omega] at hs' ⊢
  exact h nrem han (Nat.le_refl _) hs' (.inl rfl)
 case step =>
  rintro x c st'' hax hxn ⟨rfl,rfl,hs'⟩
  have hp:∀i,i<x+1→P (gx d0 lo (arrOf st'') i):=fun i hi=>gx_P hP c hn (by omega)
  refine hf x x _ (Zgo (d0:=d0) K hP hn c (i:=x) (j:=x - 1) (by omega) (by omega) rfl (by omega) ⟨rfl,_,rfl,fun e=>?_,fun e=>?_⟩)
  ·exact h x hax (by omega) hs' (.inr e)
  ·exact ⟨rfl,rfl,UpTo.snoc K hp (by omega) hs' e⟩
theorem Eqv.same (K:Ask prog w A s κ P r){x:Keyed}(hx:P x):Eqv r x x:=⟨K.ir hx,K.ir hx⟩
theorem Eqv.via (K:Ask prog w A s κ P r){x y z:Keyed}(hx:P x)(hy:P y)(hz:P z)(h1:Eqv r x y)(h2:Eqv r z y):Eqv r x z:=⟨K.tr hz hy hx h2.2 h1.1,K.tr hx hy hz h1.2 h2.1⟩
theorem DnTo.mir (K:Ask prog w A s κ P r)(hP:∀x∈(arrOf st).toList,P x)(hn:lo+nrem≤(arrOf st).size){st':SortSt}(c:SC κ lo st st'){i j n:Nat}(hj:j≤n)(hnn:n≤nrem)(h:DnTo r (gx d0 lo (arrOf st')) n)(he:∀k,i≤k→k<j→Eqv r (gx d0 lo (arrOf st') k) (gx d0 lo (arrOf st') (j - 1))){a':Array Keyed}
  (ea:a'=mirror (arrOf st') (lo+i) (lo+j) ((lo+j - (lo+i)) / 2)):SC κ lo st (setArr st' a')∧DnTo r (gx d0 lo a') n:=by
 subst ea
 have hsz:lo+j≤(arrOf st').size:=by rw [c.size];omega
 have c':SC κ lo st (setArr st' (mirror (arrOf st') (lo+i) (lo+j) ((lo+j - (lo+i)) / 2))):=c.put (mirror_perm _ _ _ _) (fun k hk=>mir_old hsz k hk)
 have hp:∀k,k<n→P (gx d0 lo (arrOf st') k):=fun k hk=>gx_P hP c hn (by omega)
 refine ⟨c',DnTo.eqv K hp (fun k hk=>gx_P (d0:=d0) hP c' hn (by omega)) h fun k hk=>?_⟩
 rw [mir_gx hsz]
 split
 ·rename_i q
  exact Eqv.via K (hp _ (by omega)) (hp (j - 1) (by omega)) (hp k hk) (he _ (by omega) (by omega)) (he k q.1 q.2)
 ·exact Eqv.same K (hp k hk)
theorem Zfz {st':SortSt}{i j i' j':Nat}{Q:Unit→SortSt→Prop}(ei:i'=lo+i)(ej:j'=lo+j)(h:Q () (setArr st' (mirror (arrOf st') (lo+i) (lo+j) ((lo+j - (lo+i)) / 2)))):wpS (model prog w) A E s (reverseSlice' i' j') Q st':=by
 subst ei ej
 exact wpS_reverse h
theorem ask_count {Q:Option Nat→SortSt→Prop}(d0:Keyed)(K:Ask prog w A s κ P r)(hP:∀x∈(arrOf st).toList,P x)(hk:kindOf st=κ)(hf:failedOf st=none)(hn:lo+nrem≤(arrOf st).size)(h1:1≤nrem)
    (h:∀m st',SC κ lo st st'→1≤m→m≤nrem→UpTo r (gx d0 lo (arrOf st')) m→Q (some m) st'):wpS (model prog w) A E s (countRun' lo nrem) Q st:=by
  have c0:SC κ lo st st:=⟨hk,hf,rfl,Array.Perm.refl _,fun _ _=>rfl⟩
  refine wpS_bind (ask_asc (d0:=d0) K hP hn c0 (Nat.le_refl 1) h1 (fun i j hij hj=>by rw [show i=0 by omega,show j=0 by omega];exact K.ir (gx_P hP c0 hn (by omega))) (fun x n Q' q=>?_) fun n n1 n2 n3 n4=>?_)
  · refine wpS_bind (wpS_mono q ?_)
    rintro b st'' ⟨rfl,b',rfl,q1,q2⟩
    dsimp only
    cases b' with
    | true =>
      rw [if_pos rfl]
      exact wpS_pure (q1 rfl)
    | false =>
      rw [if_neg Bool.false_ne_true]
      exact wpS_pure (q2 rfl)
  refine Zau (fun c1=>?_) (fun c1=>?_)
  · exact wpS_pure (h n st c0 n1 n2 n3)
  have c1':n≠nrem:=nbeq c1
  have n4':r (gx d0 lo (arrOf st) n) (gx d0 lo (arrOf st) (n - 1))=true:=n4.resolve_left c1'
  have hp0:∀i,i<nrem→P (gx d0 lo (arrOf st) i):=fun i hi=>gx_P hP c0 hn hi
  have n5:r (gx d0 lo (arrOf st) (n - 1)) (gx d0 lo (arrOf st) n)=false:=K.as (hp0 _ (by omega)) (hp0 _ (by omega)) n4'
  extract_lets -underBinder jp
  have hd:∀st1,SC κ lo st st1→DnTo r (gx d0 lo (arrOf st1)) (n+1)→wpS (model prog w) A E s (jp ()) Q st1:=fun st1 sc1 dn1=>by
    refine wpS_bind (wpS_lift (wpAny_rule ⟨rfl,?_⟩))
    refine wpS_bind (wpS_mono (wpS_forRange (I:=fun x c st2=>∃q,c=(none,x,q)∧SC κ lo st st2∧DnTo r (gx d0 lo (arrOf st2)) x∧q+1≤x∧∀i,x - (q+1)≤i→i<x→Eqv r (gx d0 lo (arrOf st2) i) (gx d0 lo (arrOf st2) (x - 1)))
      (Q:=fun c st2=>∃m q,c=(none,m,q)∧n+1≤m∧m≤nrem∧SC κ lo st st2∧DnTo r (gx d0 lo (arrOf st2)) m∧q+1≤m∧∀i,m - (q+1)≤i→i<m→Eqv r (gx d0 lo (arrOf st2) i) (gx d0 lo (arrOf st2) (m - 1))) ?step ?fin
      ⟨0,rfl,sc1,dn1,by omega,fun i i1 i2=>by rw [show i=n+1 - 1 by omega];exact Eqv.same K (gx_P hP sc1 hn (by omega))⟩) ?post)
    case fin =>
      rintro c st2 ⟨q,rfl,sc,dn,hq,he⟩
      rw [show max (n+1) nrem=nrem by omega] at dn hq he ⊢
      exact ⟨nrem,q,rfl,by omega,Nat.le_refl _,sc,dn,hq,he⟩
    case step =>
      rintro x c st2 hx1 hx2 ⟨q,rfl,sc,dn,hq,he⟩
      have hp:∀i,i<nrem→P (gx d0 lo (arrOf st2) i):=fun i hi=>gx_P hP sc hn hi
      refine wpS_bind (Zgo (d0:=d0) K hP hn sc (i:=x) (j:=x - 1) hx2 (by omega) rfl (by show lo+x - 1=_;omega) ?_)
      cases e:r (gx d0 lo (arrOf st2) x) (gx d0 lo (arrOf st2) (x - 1)) with
      | true =>
        have dn':=DnTo.snoc K (fun i hi=>hp i (by omega)) (by omega) dn (K.as (hp x hx2) (hp (x - 1) (by omega)) e)
        refine Zau (fun _=>?_) (fun z=>absurd rfl z)
        refine Zau (fun q0=>?_) (fun q0=>?_)
        · obtain ⟨c2,d2⟩:=DnTo.mir K hP hn sc (i:=x - (q+1)) (j:=x) (n:=x+1) (by omega) hx2 dn' he rfl
          refine wpS_bind (Zfz (i:=x - (q+1)) (j:=x) (by show lo+x - (q+1)=_;omega) rfl ?_)
          exact wpS_pure ⟨0,rfl,c2,d2,by omega,fun i i1 i2=>by rw [show i=x+1 - 1 by omega];exact Eqv.same K (gx_P hP c2 hn hx2)⟩
        · exact wpS_pure ⟨0,rfl,sc,dn',by omega,fun i i1 i2=>by rw [show i=x+1 - 1 by omega];exact Eqv.same K (hp x hx2)⟩
      | false =>
        refine Zau (fun z=>absurd z Bool.false_ne_true) (fun _=>?_)
        refine wpS_bind (Zgo (d0:=d0) K hP hn sc (i:=x - 1) (j:=x) (by omega) hx2 (by show lo+x - 1=_;omega) rfl ?_)
        cases e2:r (gx d0 lo (arrOf st2) (x - 1)) (gx d0 lo (arrOf st2) x) with
        | true =>
          refine Zau (fun _=>?_) (fun z=>absurd rfl z)
          exact wpS_pure ⟨x,q,rfl,hx1,by omega,sc,dn,hq,he⟩
        | false =>
          refine Zau (fun z=>absurd z Bool.false_ne_true) (fun _=>?_)
          refine wpS_pure ⟨q+1,rfl,sc,DnTo.snoc K (fun i hi=>hp i (by omega)) (by omega) dn e2,by omega,fun i i1 i2=>?_⟩
          rw [show x+1 - 1=x by omega]
          by_cases ix:i=x
          · rw [ix]
            exact Eqv.same K (hp x hx2)
          · exact Eqv.via K (hp i (by omega)) (hp (x - 1) (by omega)) (hp x hx2) (he i (by omega) (by omega)) ⟨e,e2⟩
    case post =>
      rintro c st2 ⟨m,q,rfl,m1,m2,sc,dn,hq,he⟩
      dsimp -zeta -zetaHave only
      extract_lets -underBinder u1 u2 u3 u4
      dsimp -zeta -zetaHave only [u1]
      extract_lets -underBinder jp4
      have hd3:∀st3,SC κ lo st st3→DnTo r (gx d0 lo (arrOf st3)) m→wpS (model prog w) A E s (jp4 ()) Q st3:=fun st3 sc3 dn3=>by
        refine wpS_bind (Zfz (lo:=lo) (i:=0) (j:=m) rfl rfl ?_)
        have hsz:lo+m≤(arrOf st3).size:=by rw [sc3.size];omega
        have c4:SC κ lo st (setArr st3 (mirror (arrOf st3) (lo+0) (lo+m) ((lo+m - (lo+0)) / 2))):=sc3.put (mirror_perm _ _ _ _) (fun k hk=>mir_old hsz k hk)
        refine wpS_bind (ask_asc (d0:=d0) K hP hn c4 (by omega) m2 (fun i j hij hj=>?_) (fun x n Q' q=>?_) fun n g1 g2 g3 _=>wpS_pure (h n _ c4 (by omega) g2 g3))
        · show r (gx d0 lo (mirror (arrOf st3) (lo+0) (lo+m) ((lo+m - (lo+0)) / 2)) j) (gx d0 lo (mirror (arrOf st3) (lo+0) (lo+m) ((lo+m - (lo+0)) / 2)) i)=false
          rw [mir_gx hsz,mir_gx hsz,if_pos (by omega),if_pos (by omega)]
          exact dn3 _ _ (by omega) (by omega)
        · refine wpS_bind (wpS_mono q ?_)
          rintro b st'' ⟨rfl,b',rfl,q1,q2⟩
          dsimp only
          cases b' with
          | true =>
            rw [if_pos rfl]
            exact wpS_pure (q1 rfl)
          | false =>
            rw [if_neg Bool.false_ne_true]
            exact wpS_pure (q2 rfl)
      refine Zau (fun q0=>?_) (fun q0=>?_)
      · obtain ⟨c2,d2⟩:=DnTo.mir K hP hn sc (i:=m - (q+1)) (j:=m) (n:=m) (Nat.le_refl _) m2 dn he rfl
        refine wpS_bind (Zfz (i:=m - (q+1)) (j:=m) (by show lo+m - (q+1)=_;omega) rfl ?_)
        exact hd3 _ c2 d2
      · exact hd3 _ sc dn
  refine Zau (fun c2=>?_) (fun c2=>?_)
  · refine wpS_bind (Zgo (d0:=d0) K hP hn c0 (i:=0) (j:=n - 1) (by omega) (by omega) rfl (by show lo+n - 1=_;omega) ?_)
    cases e:r (gx d0 lo (arrOf st) 0) (gx d0 lo (arrOf st) (n - 1)) with
    | true =>
      refine Zau (fun _=>?_) (fun z=>absurd rfl z)
      exact wpS_pure (h n st c0 n1 n2 n3)
    | false =>
      refine Zau (fun z=>absurd z Bool.false_ne_true) (fun _=>?_)
      have all:∀k,k<n→Eqv r (gx d0 lo (arrOf st) k) (gx d0 lo (arrOf st) (n - 1)):=fun k hk =>
        ⟨K.tr (hp0 (n - 1) (by omega)) (hp0 0 (by omega)) (hp0 k (by omega)) e (n3 0 k (Nat.zero_le _) hk),n3 k (n - 1) (by omega) (by omega)⟩
      have dn:DnTo r (gx d0 lo (arrOf st)) n:=fun i j hij hj=>(Eqv.via K (hp0 i (by omega)) (hp0 (n - 1) (by omega)) (hp0 j (by omega)) (all i (by omega)) (all j hj)).1
      obtain ⟨c3,d3⟩:=DnTo.mir K hP hn c0 (i:=0) (j:=n) (n:=n+1) (by omega) (by omega) (DnTo.snoc K (fun i hi=>hp0 i (by omega)) n1 dn n5) (fun k _ hk=>all k hk) rfl
      refine wpS_bind (Zfz (lo:=lo) (i:=0) (j:=n) rfl rfl ?_)
      exact hd _ c3 d3
  · have e1:n=1:=by omega
    subst e1
    refine hd _ c0 (DnTo.snoc K (fun i hi=>hp0 i (by omega)) (Nat.le_refl 1) (fun i j hij hj=>?_) n5)
    rw [show i=0 by omega,show j=0 by omega]
    exact K.ir (hp0 0 (by omega))
end
end L2
namespace L2
open PySem PyProof.Rows
section
variable {prog:Program}{w:World}{A:Around}{E:Value→Shared→Prop}{s:Shared}{κ:SortKind}{P:Keyed→Prop}{r:Keyed→Keyed→Bool}{st:SortSt}{d0:Keyed}{lo nrem:Nat}
theorem bub_gx {a:Array Keyed}{k l:Nat}(hk:lo+k<a.size)(hl:l≤k)(i:Nat):gx d0 lo (bubble a (lo+k) (lo+k - (lo+l))) i=if i=l then gx d0 lo a k else if l<i∧i≤k then gx d0 lo a (i - 1) else gx d0 lo a i:=by
 have e:=getElem?_bubble hk (lo+k - (lo+l)) (by omega) (lo+i)
 rw [show lo+k - (lo+k - (lo+l))=lo+l by omega] at e
 by_cases c:i=l
 ·rw [if_pos c]
  rw [if_pos (by omega)] at e
  exact gx_congr e
 ·rw [if_neg c]
  rw [if_neg (by omega)] at e
  by_cases c2:l<i∧i≤k
  ·rw [if_pos c2]
   rw [if_pos (by omega)] at e
   exact gx_congr (e.trans (by congr 1;omega))
  ·rw [if_neg c2]
   rw [if_neg (by omega)] at e
   exact gx_congr e
theorem bub_old {a:Array Keyed}{k l:Nat}(hk:lo+k<a.size)(hl:l≤k)(i:Nat)(hi:i<lo):(bubble a (lo+k) (lo+k - (lo+l)))[i]?=a[i]?:=by
 rw [getElem?_bubble hk (lo+k - (lo+l)) (by omega) i,if_neg (by omega),if_neg (by omega)]
theorem ask_bin {Q:Bool→SortSt→Prop}(d0:Keyed)(K:Ask prog w A s κ P r)(hP:∀x∈(arrOf st).toList,P x)(hn:lo+nrem≤(arrOf st).size){st1:SortSt}(c1:SC κ lo st st1){n ok:Nat}(hnn:n≤nrem)(hok:ok≤n)(h1:1≤n)(hs:UpTo r (gx d0 lo (arrOf st1)) ok)
    (h:∀st',SC κ lo st st'→UpTo r (gx d0 lo (arrOf st')) n→Q true st'):wpS (model prog w) A E s (binarySort' lo n ok) Q st1:=by
  refine wpS_bind (wpS_mono (wpS_forRange (I:=fun k c st'=>c.1=none∧SC κ lo st st'∧UpTo r (gx d0 lo (arrOf st')) (min k n)) (Q:=fun c st'=>c.1=none∧SC κ lo st st'∧UpTo r (gx d0 lo (arrOf st')) n) ?step ?fin ?init) ?post)
  case post =>
    rintro ⟨c,_⟩ st' ⟨e,sc,u⟩
    have e:c=none:=e
    subst e
    exact wpS_pure (h st' sc u)
  case init =>
    refine ⟨rfl,c1,fun i j hij hj=>?_⟩
    by_cases z:ok=0
    · rw [show i=0 by omega,show j=0 by omega]
      exact K.ir (gx_P hP c1 hn (by omega))
    · exact hs i j hij (by omega)
  case fin =>
    rintro c st' ⟨e,sc,u⟩
    rw [show min (max (max ok 1) n) n=n by omega] at u
    exact ⟨e,sc,u⟩
  case step =>
    rintro k ⟨c,_⟩ st' hk1 hk2 ⟨e,sc,u⟩
    have e:c=none:=e
    subst e
    rw [show min k n=k by omega] at u
    have hp:∀i,i<nrem→P (gx d0 lo (arrOf st') i):=fun i hi=>gx_P hP sc hn hi
    refine wpS_bind (wpS_mono (wpS_forRange (I:=fun x c st2=>st2=st'∧∃l m,c=(none,l,m)∧l≤m∧m≤k∧m - l≤k - x∧(∀i,i<l→r (gx d0 lo (arrOf st') k) (gx d0 lo (arrOf st') i)=false)∧(∀i,m≤i→i<k→r (gx d0 lo (arrOf st') k) (gx d0 lo (arrOf st') i)=true))
      (Q:=fun c st2=>st2=st'∧∃l m,c=(none,l,m)∧l≤k∧(∀i,i<l→r (gx d0 lo (arrOf st') k) (gx d0 lo (arrOf st') i)=false)∧(∀i,l≤i→i<k→r (gx d0 lo (arrOf st') k) (gx d0 lo (arrOf st') i)=true)) ?istep ?ifin ⟨rfl,0,k,rfl,Nat.zero_le _,Nat.le_refl _,by omega,fun i hi=>by omega,fun i q1 q2=>by omega⟩) ?ipost)
    case ifin =>
      rintro c st2 ⟨rfl,l,m,rfl,q1,q2,q3,q4,q5⟩
      have:l=m:=by omega
      subst this
      exact ⟨rfl,l,l,rfl,q2,q4,q5⟩
    case istep =>
      rintro x c st2 _ hx ⟨rfl,l,m,rfl,q1,q2,q3,q4,q5⟩
      refine Zau (fun z=>?_) (fun z=>?_)
      · have z:l≥m:=z
        have:l=m:=by omega
        subst this
        exact wpS_pure ⟨rfl,l,l,rfl,q2,q4,q5⟩
      · have z:¬l≥m:=z
        refine wpS_bind (Zgo (d0:=d0) K hP hn sc (i:=k) (j:=(l+m) / 2) (by omega) (by omega) rfl rfl ?_)
        cases e:r (gx d0 lo (arrOf st2) k) (gx d0 lo (arrOf st2) ((l+m) / 2)) with
        | true =>
          refine Zau (fun _=>?_) (fun z=>absurd rfl z)
          refine wpS_pure ⟨rfl,l,(l+m) / 2,rfl,by omega,by omega,by omega,q4,fun i i1 i2=>?_⟩
          cases e2:r (gx d0 lo (arrOf st2) k) (gx d0 lo (arrOf st2) i) with
          | true=>rfl
          | false=>rw [K.tr (hp _ (by omega)) (hp i (by omega)) (hp k (by omega)) (u ((l+m) / 2) i i1 i2) e2] at e;cases e
        | false =>
          refine Zau (fun z=>absurd z Bool.false_ne_true) (fun _=>?_)
          exact wpS_pure ⟨rfl,(l+m) / 2+1,m,rfl,by omega,q2,by omega,fun i i1=>K.tr (hp i (by omega)) (hp _ (by omega)) (hp k (by omega)) (u i ((l+m) / 2) (by omega) (by omega)) e,q5⟩
    case ipost =>
      rintro c st2 ⟨rfl,l,m,rfl,q1,q2,q3⟩
      refine wpS_bind (wpS_modify (wpS_pure ⟨rfl,sc.put (bubble_perm _ _ _) (fun i hi=>bub_old (by rw [sc.size];omega) q1 i hi),?_⟩))
      rw [show min (k+1) n=k+1 by omega]
      have hks:lo+k<(arrOf st2).size:=by rw [sc.size];omega
      intro i j hij hj
      show r (gx d0 lo (bubble (arrOf st2) (lo+k) (lo+k - (lo+l))) j) (gx d0 lo (bubble (arrOf st2) (lo+k) (lo+k - (lo+l))) i)=false
      rw [bub_gx hks q1,bub_gx hks q1]
      by_cases ij:i=j
      · subst ij
        refine K.ir ?_
        repeat' split
        all_goals exact hp _ (by omega)
      · repeat' split
        all_goals first
          | (exfalso;omega)
          | exact q2 _ (by omega)
          | exact K.as (hp _ (by omega)) (hp _ (by omega)) (q3 _ (by omega) (by omega))
          | exact u _ _ (by omega) (by omega)
end
end L2
namespace L2
open PySem PyProof.Rows
noncomputable abbrev Pn:=Nat×Nat×Nat
noncomputable def Pend:Nat→List (List Keyed)→List Pn→Prop
 | _,[],[]=>True
 | off,R::Rs,p::ps=>p.1=off∧p.2.1=R.length∧Pend (off+R.length) Rs ps
 | _,_,_=>False
theorem Pend.len:∀{Rs:List (List Keyed)} {off:Nat} {ps:List Pn},Pend off Rs ps→ps.length=Rs.length
 | [],_,[],_=>rfl
 | [],_,_::_,h=>h.elim
 | _::_,_,[],h=>h.elim
 | R::Rs,off,p::ps,h=>by rw [List.length_cons,List.length_cons,Pend.len h.2.2]
theorem Pend.split:∀{R1 R2:List (List Keyed)} {off:Nat} {ps:List Pn},Pend off (R1++R2) ps→∃p1 p2,ps=p1++p2∧Pend off R1 p1∧Pend (off+R1.flatten.length) R2 p2
 | [],R2,off,ps,h=>⟨[],ps,rfl,trivial,h⟩
 | R::R1,R2,off,[],h=>h.elim
 | R::R1,R2,off,p::ps,h=>by
  obtain ⟨p1,p2,e,h1,h2⟩:=Pend.split (R1:=R1) (R2:=R2) h.2.2
  refine ⟨p::p1,p2,by rw [e];rfl,⟨h.1,h.2.1,h1⟩,?_⟩
  rw [List.flatten_cons,List.length_append,← Nat.add_assoc]
  exact h2
theorem Pend.join:∀{R1 R2:List (List Keyed)} {off:Nat} {p1 p2:List Pn},Pend off R1 p1→Pend (off+R1.flatten.length) R2 p2→Pend off (R1++R2) (p1++p2)
 | [],R2,off,[],p2,_,h=>h
 | [],_,_,_::_,_,h,_=>h.elim
 | _::_,_,_,[],_,h,_=>h.elim
 | R::R1,R2,off,p::p1,p2,h1,h2=>by
  refine ⟨h1.1,h1.2.1,Pend.join h1.2.2 ?_⟩
  rw [List.flatten_cons,List.length_append,← Nat.add_assoc] at h2
  exact h2
structure RI (κ:SortKind)(r:Keyed→Keyed→Bool)(a0:List Keyed)(st:SortSt)(Rs:List (List Keyed))(Z:List Keyed):Prop where
 k:kindOf st=κ
 f:failedOf st=none
 m:(arrOf st).toList.Perm a0
 l:(arrOf st).toList=Rs.flatten++Z
 p:Pend 0 Rs (pendingOf st).toList
 u:∀R∈Rs,Up r R∧1≤R.length
section
variable {prog:Program}{w:World}{A:Around}{E:Value→Shared→Prop}{s:Shared}{κ:SortKind}{P:Keyed→Prop}{r:Keyed→Keyed→Bool}{st:SortSt}{d0:Keyed}{a0 Z:List Keyed}{Rs:List (List Keyed)}
theorem set_erase {α:Type}{l p1 p2:List α}{i:Nat}{x y v:α}(e:l=p1++x::y::p2)(hi:p1.length=i):(l.set i v).eraseIdx (i+1)=p1++v::p2:=by
 subst e hi
 rw [List.set_append_right _ _ (Nat.le_refl _),Nat.sub_self,List.set_cons_zero,List.eraseIdx_append_of_length_le (Nat.le_succ _),Nat.succ_sub (Nat.le_refl _),Nat.sub_self]
 rfl
theorem Zft {R1 R2:List (List Keyed)}{X Y:List Keyed}{i:Nat}{Q:Bool→SortSt→Prop}(K:Ask prog w A s κ P r)(hP:∀x∈a0,P x)(ri:RI κ r a0 st (R1++X::Y::R2) Z)(hi:R1.length=i)(h:∀M st',RI κ r a0 st' (R1++M::R2) Z→Q true st'):wpS (model prog w) A E s (mergeAt' i) Q st:=by
 obtain ⟨p1,p2,e,h1,h2⟩:=Pend.split ri.p
 match p2,h2 with
 | (x1,x2,x3)::(y1,y2,y3)::p2,h2 =>
  obtain ⟨e1,e2,e3,e4,h3⟩:=h2
  have l1:=h1.len
  have e1:x1=0+R1.flatten.length:=e1
  have e2:x2=X.length:=e2
  have e3:y1=0+R1.flatten.length+X.length:=e3
  have e4:y2=Y.length:=e4
  rw [Nat.zero_add] at e1 e3
  have uX:=ri.u X (List.mem_append_right _ (.head _))
  have uY:=ri.u Y (List.mem_append_right _ (.tail _ (.head _)))
  have hl:(arrOf st).toList=R1.flatten++X++Y++(R2.flatten++Z):=by
   rw [ri.l]
   simp only [List.flatten_append,List.flatten_cons,List.append_assoc]
  have q1:(pendingOf st)[i]?=some (x1,x2,x3):=by
   rw [← Array.getElem?_toList,e,List.getElem?_append_right (by omega),show i - p1.length=0 by omega]
   rfl
  have q2:(pendingOf st)[i+1]?=some (x1+x2,y2,y3):=by
   rw [← Array.getElem?_toList,e,List.getElem?_append_right (by omega),show i+1 - p1.length=1 by omega,e1,e2,← e3]
   rfl
  refine Zhb K ri.k ri.f q1 q2 hl e1.symm e2.symm e4.symm (by omega) (by omega) (fun x hx=>hP x (ri.m.mem_iff.mp hx)) uX.1 uY.1 fun M st' hm hu ha hk hf hp=>?_
  have lm:=hm.length_eq
  rw [List.length_append] at lm
  refine h M st' ⟨hk,hf,?_,?_,?_,fun R hR=>?_⟩
  ·rw [ha]
   refine List.Perm.trans ?_ ri.m
   rw [hl]
   simp only [List.append_assoc]
   refine List.Perm.append_left _ ?_
   rw [← List.append_assoc X Y]
   exact hm.append_right _
  ·rw [ha]
   simp only [List.flatten_append,List.flatten_cons,List.append_assoc]
  ·rw [hp]
   rw [Array.toList_eraseIdxIfInBounds,Array.toList_setIfInBounds,set_erase e (by omega)]
   refine h1.join ⟨by show x1=_;rw [e1,Nat.zero_add],by show x2+y2=_;omega,?_⟩
   rw [lm,← Nat.add_assoc]
   exact h3
  ·rcases List.mem_append.mp hR with q | q
   ·exact ri.u R (List.mem_append_left _ q)
   ·rcases List.mem_cons.mp q with q | q
    ·subst q
     exact ⟨hu,by omega⟩
    ·exact ri.u R (List.mem_append_right _ (.tail _ (.tail _ q)))
theorem RI.sc {st':SortSt}(ri:RI κ r a0 st Rs Z)(c:SC κ Rs.flatten.length st st'):∃Z',RI κ r a0 st' Rs Z'∧Z'.length=Z.length∧∀i,Z'[i]?=(arrOf st')[Rs.flatten.length+i]?:=by
 have hsz:=c.size
 have h1:(arrOf st).size=Rs.flatten.length+Z.length:=by rw [← Array.length_toList,ri.l,List.length_append]
 have e:(arrOf st').toList=Rs.flatten++(arrOf st').toList.drop Rs.flatten.length:=by
  refine List.ext_getElem? fun i=>?_
  by_cases hi:i<Rs.flatten.length
  ·rw [List.getElem?_append_left hi,Array.getElem?_toList,c.o i hi,← Array.getElem?_toList,ri.l,List.getElem?_append_left hi]
  ·rw [List.getElem?_append_right (by omega),List.getElem?_drop,show Rs.flatten.length+(i - Rs.flatten.length)=i by omega]
 refine ⟨(arrOf st').toList.drop Rs.flatten.length,⟨c.k,c.f,c.m.toList.trans ri.m,e,by rw [c.p];exact ri.p,ri.u⟩,?_,fun i=>?_⟩
 ·rw [List.length_drop,Array.length_toList]
  omega
 ·rw [List.getElem?_drop,Array.getElem?_toList]
theorem upTo_up {g:Nat→Keyed}{l:List Keyed}{n:Nat}(h:UpTo r g n)(e:∀i x,i<n→l[i]?=some x→x=g i):Up r (l.take n):=by
 refine List.pairwise_iff_getElem.mpr fun i j hi hj hij=>?_
 rw [List.length_take] at hi hj
 rw [List.getElem_take,List.getElem_take,e i _ (by omega) (List.getElem?_eq_getElem (by omega)),e j _ (by omega) (List.getElem?_eq_getElem (by omega))]
 exact h i j (by omega) (by omega)
theorem len_flat:∀{Rs:List (List Keyed)},(∀R∈Rs,1≤R.length)→Rs.length≤Rs.flatten.length
 | [],_=>Nat.le_refl _
 | R::Rs,h=>by
  have h1:=h R (.head _)
  have h2:=len_flat fun R hR=>h R (.tail _ hR)
  rw [List.flatten_cons,List.length_append,List.length_cons]
  omega
theorem two_at {Rs:List (List Keyed)}{i:Nat}(h:i+1<Rs.length):∃R1 X Y R2,Rs=R1++X::Y::R2∧R1.length=i:=by
 refine ⟨Rs.take i,Rs[i],Rs[i+1],Rs.drop (i+2),?_,List.length_take_of_le (by omega)⟩
 rw [← List.drop_eq_getElem_cons,← List.drop_eq_getElem_cons,List.take_append_drop]
theorem RI.size (ri:RI κ r a0 st Rs Z):a0.length=Rs.flatten.length+Z.length:=by rw [← ri.m.length_eq,ri.l,List.length_append]
theorem Pend.mod {f:Pn→Pn}(hf:∀p,(f p).1=p.1∧(f p).2.1=p.2.1):∀{Rs:List (List Keyed)} {off:Nat} {ps:List Pn} (i:Nat),Pend off Rs ps→Pend off Rs (ps.modify i f)
 | [],_,[],i,h=>by rw [List.modify_nil];exact h
 | [],_,_::_,_,h=>h.elim
 | _::_,_,[],_,h=>h.elim
 | R::Rs,off,p::ps,0,h=>by
  rw [List.modify_zero_cons]
  exact ⟨(hf p).1.trans h.1,(hf p).2.trans h.2.1,h.2.2⟩
 | R::Rs,off,p::ps,i+1,h=>by
  rw [List.modify_succ_cons]
  exact ⟨h.1,h.2.1,Pend.mod hf i h.2.2⟩
noncomputable def RunQ (κ:SortKind)(r:Keyed→Keyed→Bool)(a0:List Keyed)(size x:Nat):ForInStep (Option Unit×Nat)→SortSt→Prop
 | .done (c,_),st'=>c=none∧∃Rs,RI κ r a0 st' Rs []
 | .yield (c,lo),st'=>c=none∧x+1≤lo∧∃Rs Z,RI κ r a0 st' Rs Z∧Rs.flatten.length=lo∧lo≤size
theorem ask_runs {Q:Unit→SortSt→Prop}(d0:Keyed)(K:Ask prog w A s κ P r)(hP:∀x∈(arrOf st).toList,P x)(hk:kindOf st=κ)(hf:failedOf st=none)(hp:pendingOf st=#[])(h2:1≤(arrOf st).size)
  (h:∀st',(arrOf st').toList.Perm (arrOf st).toList→failedOf st'=none→Up r (arrOf st').toList→Q () st'):wpS (model prog w) A E s sortRuns' Q st:=by
 have r0:RI κ r (arrOf st).toList st [] (arrOf st).toList:=⟨hk,hf,List.Perm.refl _,rfl,by rw [hp];trivial,fun _ z=>nomatch z⟩
 refine wpS_bind (wpS_get ?_)
 extract_lets -underBinder size minrun l0
 have hsz:size=(arrOf st).size:=rfl
 clear_value size minrun
 refine wpS_bind (wpS_mono (wpS_forRange (I:=fun x c st'=>c.1=none∧x≤c.2∧∃Rs Z,RI κ r (arrOf st).toList st' Rs Z∧Rs.flatten.length=c.2∧c.2≤size) (Q:=fun c st'=>c.1=none∧∃Rs,RI κ r (arrOf st).toList st' Rs []) ?step ?fin ⟨rfl,Nat.zero_le _,[],_,r0,rfl,Nat.zero_le _⟩) ?post)
 case fin =>
  rintro ⟨c,lo⟩ st' ⟨e,h1,Rs,Z,ri,h3,h4⟩
  have h1:max 0 size≤lo:=h1
  have h3:Rs.flatten.length=lo:=h3
  have h4:lo≤size:=h4
  have hl:=congrArg List.length ri.l
  rw [Array.length_toList,List.length_append,h3,← Array.length_toList,ri.m.length_eq,Array.length_toList] at hl
  have:Z=[]:=List.length_eq_zero_iff.mp (by omega)
  subst this
  exact ⟨e,Rs,ri⟩
 case step =>
  rintro x ⟨c,lo⟩ st' _ hx ⟨e,h1,Rs,Z,ri,h3,h4⟩
  have e:c=none:=e
  subst e
  have h1:x≤lo:=h1
  have h3:Rs.flatten.length=lo:=h3
  have h4:lo≤size:=h4
  have hrs:=ri.size
  rw [Array.length_toList] at hrs
  have hP':∀x∈(arrOf st').toList,P x:=fun x hx=>hP x (ri.m.mem_iff.mp hx)
  have hs':(arrOf st').size=size:=by rw [← Array.length_toList,ri.m.length_eq,Array.length_toList];exact hsz.symm
  refine Zau (fun c1=>?_) (fun c1=>?_)
  ·have c1:lo≥size:=c1
   have:Z=[]:=List.length_eq_zero_iff.mp (by omega)
   subst this
   exact wpS_pure ⟨rfl,Rs,ri⟩
  have c1:¬lo≥size:=c1
  subst h3
  refine wpS_bind (ask_count (lo:=Rs.flatten.length) (nrem:=size - Rs.flatten.length) d0 K hP' ri.k ri.f (by omega) (by omega) fun m st1 sc1 m1 m2 u1=>?_)
  refine wpS_mono (Q:=RunQ κ r (arrOf st).toList size x) ?_ (fun rr st4 q=>by cases rr<;>exact q)
  dsimp -zeta -zetaHave only
  extract_lets -underBinder n0 jp
  have hj:∀n st2,SC κ Rs.flatten.length st' st2→1≤n→n≤size - Rs.flatten.length→UpTo r (gx d0 Rs.flatten.length (arrOf st2)) n→wpS (model prog w) A E s (jp () n) (RunQ κ r (arrOf st).toList size x) st2:=fun n st2 sc2 g1 g2 u2=>by
   obtain ⟨Z2,ri2,lz,ez⟩:=ri.sc sc2
   have uz:Up r (Z2.take n):=upTo_up u2 fun i x hi e=>by
    rw [ez] at e
    unfold gx
    rw [e]
    rfl
   have lt:(Z2.take n).length=n:=List.length_take_of_le (by omega)
   refine wpS_bind (wpS_get ?_)
   extract_lets -underBinder jp2
   have hj2:∀st3 Rs3,RI κ r (arrOf st).toList st3 Rs3 Z2→Rs3.flatten.length=Rs.flatten.length→wpS (model prog w) A E s (jp2 ()) (RunQ κ r (arrOf st).toList size x) st3:=fun st3 Rs3 ri3 hl3=>by
    refine wpS_bind (wpS_modify (wpS_pure ⟨rfl,by omega,Rs3++[Z2.take n],Z2.drop n,⟨ri3.k,ri3.f,ri3.m,?_,?_,fun R hR=>?_⟩,?_,by omega⟩))
    ·show (arrOf st3).toList=_
     rw [ri3.l,List.flatten_append,List.flatten_cons,List.flatten_nil,List.append_nil,List.append_assoc,List.take_append_drop]
    ·show Pend 0 _ ((pendingOf st3).push (Rs.flatten.length,n,0)).toList
     rw [Array.toList_push]
     exact ri3.p.join ⟨by rw [Nat.zero_add];exact hl3.symm,lt.symm,trivial⟩
    ·rcases List.mem_append.mp hR with q | q
     ·exact ri3.u R q
     ·rw [List.mem_singleton.mp q]
      exact ⟨uz,by omega⟩
    ·rw [List.flatten_append,List.flatten_cons,List.flatten_nil,List.append_nil,List.length_append,lt,hl3]
   cases eb:(pendingOf st2).back? with
   | none=>exact hj2 st2 Rs ri2 rfl
   | some t =>
    obtain ⟨s1,n1,w0⟩:=t
    dsimp -zeta -zetaHave only
    extract_lets -underBinder pw
    refine wpS_bind (wpS_mono (wpS_forRange (I:=fun y c st3=>c.1=none∧∃Rs3,RI κ r (arrOf st).toList st3 Rs3 Z2∧Rs3.flatten.length=Rs.flatten.length) (Q:=fun c st3=>c.1=none∧∃Rs3,RI κ r (arrOf st).toList st3 Rs3 Z2∧Rs3.flatten.length=Rs.flatten.length) ?s3 (fun _ _ q=>q) ⟨rfl,Rs,ri2,rfl⟩) ?p3)
    case p3 =>
     rintro ⟨c,u⟩ st3 ⟨e,Rs3,ri3,hl3⟩
     have e:c=none:=e
     subst e
     refine wpS_bind (wpS_modify ?_)
     refine hj2 _ Rs3 ⟨ri3.k,ri3.f,ri3.m,ri3.l,?_,ri3.u⟩ hl3
     show Pend 0 _ ((pendingOf st3).modify ((pendingOf st3).size - 1) fun x=>(x.1,x.2.1,pw)).toList
     rw [Array.toList_modify]
     exact Pend.mod (f:=fun x=>(x.1,x.2.1,pw)) (fun p=>⟨rfl,rfl⟩) _ ri3.p
    case s3 =>
     rintro y ⟨c,u⟩ st3 _ _ ⟨e,Rs3,ri3,hl3⟩
     have e:c=none:=e
     subst e
     have hpl:(pendingOf st3).size=Rs3.length:=by rw [← Array.length_toList];exact ri3.p.len
     refine wpS_bind (wpS_get ?_)
     dsimp only
     by_cases c5:(pendingOf st3).size > 1
     ·rw [if_pos c5,Array.getElem?_eq_getElem (show (pendingOf st3).size - 2<(pendingOf st3).size by omega)]
      dsimp only
      refine Zau (fun _=>wpS_pure ⟨rfl,Rs3,ri3,hl3⟩) (fun _=>?_)
      obtain ⟨R1,X,Y,R2,eR,l1⟩:=two_at (Rs:=Rs3) (i:=(pendingOf st3).size - 2) (by omega)
      subst eR
      have q0:=ri3.size
      refine wpS_bind (Zft K hP ri3 l1 fun M st4 ri4=>?_)
      refine Zau (fun z=>absurd z (by decide)) (fun _=>?_)
      have q1:=ri4.size
      exact wpS_pure ⟨rfl,_,ri4,by omega⟩
     ·rw [if_neg c5]
      exact wpS_pure ⟨rfl,Rs3,ri3,hl3⟩
  refine Zau (fun c2=>?_) (fun c2=>?_)
  ·have c2:m<minrun:=c2
   refine wpS_bind (wpS_lift (wpAny_rule ⟨rfl,?_⟩))
   refine wpS_bind (ask_bin (lo:=Rs.flatten.length) (nrem:=size - Rs.flatten.length) d0 K hP' (by omega) sc1 (n:=min (size - Rs.flatten.length) minrun) (by omega) (by omega) (by omega) u1 fun st2 sc2 u2=>?_)
   refine Zau (fun z=>absurd z (by decide)) (fun _=>?_)
   exact hj _ st2 sc2 (by omega) (by omega) u2
  ·exact hj m st1 sc1 m1 m2 u1
 case post =>
  rintro ⟨c,lo⟩ st' ⟨e,Rs,ri⟩
  have e:c=none:=e
  subst e
  refine wpS_bind (wpS_mono (wpS_forRange (I:=fun x c st''=>c.1=none∧∃Rs,RI κ r (arrOf st).toList st'' Rs []∧Rs.length+x≤size+1) (Q:=fun c st''=>c.1=none∧∃Rs,RI κ r (arrOf st).toList st'' Rs []∧Rs.length≤1) ?st2 ?fi2 ?in2) ?po2)
  case po2 =>
   rintro ⟨c,u⟩ st'' ⟨e,Rs,ri,h1⟩
   have e:c=none:=e
   subst e
   refine wpS_pure (h st'' ri.m ri.f ?_)
   rw [ri.l,List.append_nil]
   match Rs,h1 with
   | [],_=>exact List.Pairwise.nil
   | [R],_=>rw [List.flatten_cons,List.flatten_nil,List.append_nil];exact (ri.u R (.head _)).1
  case fi2 =>
   rintro c st'' ⟨e,Rs,ri,h1⟩
   exact ⟨e,Rs,ri,by omega⟩
  case in2 =>
   refine ⟨rfl,Rs,ri,?_⟩
   have h5:=len_flat fun R hR=>(ri.u R hR).2
   have h6:=ri.size
   rw [Array.length_toList,List.length_nil] at h6
   omega
  case st2 =>
   rintro x ⟨c,u⟩ st'' _ hx ⟨e,Rs,ri,h1⟩
   have e:c=none:=e
   subst e
   have hpl:(pendingOf st'').size=Rs.length:=by rw [← Array.length_toList];exact ri.p.len
   refine wpS_bind (wpS_get ?_)
   refine Zau (fun c1=>?_) (fun c1=>?_)
   ·have c1:(pendingOf st'').size≤1:=c1
    exact wpS_pure ⟨rfl,Rs,ri,by omega⟩
   ·have c1:¬(pendingOf st'').size≤1:=c1
    have go:∀i,i+1<Rs.length→wpS (model prog w) A E s (mergeAt' i) (fun b st3=>b=true∧∃Rs',RI κ r (arrOf st).toList st3 Rs' []∧Rs'.length+(x+1)≤size+1) st'':=fun i hi=>by
     obtain ⟨R1,X,Y,R2,eR,l1⟩:=two_at hi
     subst eR
     refine Zft K hP ri l1 fun M st3 ri3=>⟨rfl,_,ri3,?_⟩
     rw [List.length_append,List.length_cons,List.length_cons] at h1
     rw [List.length_append,List.length_cons]
     omega
    refine wpS_bind (wpS_mono (go _ ?_) ?_)
    ·have key:∀(c:Prop) [Decidable c],(if c then (pendingOf st'').size - 2 - 1 else (pendingOf st'').size - 2)+1<Rs.length:=fun c _=>by
      by_cases z:c
      ·rw [if_pos z]
       omega
      ·rw [if_neg z]
       omega
     exact key _
    ·rintro b st3 ⟨rfl,Rs',ri',h7⟩
     refine Zau (fun z=>absurd z (by decide)) (fun _=>?_)
     exact wpS_pure ⟨rfl,Rs',ri',h7⟩
end
end L2
namespace L2
open PySem PySem.SeqAt PySem.MeetsSeq PySem.MeetsSeq3
open AutoSeq1 (wpAny_loadPart')
noncomputable def LtAt (A:Around)(s:Shared)(y x:Value)(b:Bool):Prop:=∀(prog:Program) (w:World) (E:Value→Shared→Prop) (Q:Value→Shared→Prop),Q (.bool b) s→wpAny (model prog w) A (richCompare .Lt y x) Q E s
noncomputable def lexI (e l:Nat→Bool)(m n:Nat):List Nat→Bool
 | []=>decide (m<n)
 | j::js=>if e j=true then lexI e l m n js else l j
theorem lt_loopAt (l b:Addr)(items items2:Array Value)(n n2:Nat)(dd dd2:Option Addr)(sl sl2:Array (Option Value))(e lt:Nat→Bool)(k:Nat) :
    ∀i:Nat,min items.size items2.size - i=k→Meets (Builtin.«list.__eq__.loop» ⟨[.ref l,.ref b,rawInt i,rawInt 0],[]⟩)
      (fun A R s=>s.heap.get? l=some { cls:=.type "list",dict:=dd,data:=.seq items n,slots:=sl }∧s.heap.get? b=some { cls:=.type "list",dict:=dd2,data:=.seq items2 n2,slots:=sl2 }∧
        (∀j (h1:j<items.size) (h2:j<items2.size),EqAt A.in1 s items[j] items2[j] (e j))∧(∀j (h1:j<items.size) (h2:j<items2.size),e j=false→LtAt A.in1 s items[j] items2[j] (lt j))∧
        R (.ok (.ret (.bool (lexI e lt items.size items2.size ((List.range (min items.size items2.size)).drop i))))) s):=by
  induction k with
  | zero =>
    intro i hk prog w A R s h
    obtain ⟨hp,g,d,tk,os⟩:=s;obtain ⟨hl,hb,he,hlt,h⟩:=h
    wp_walk using wpAny_loadPart' hl,wpAny_loadPart' hb
    have hd:(List.range (min items.size items2.size)).drop i=[]:=by simp;omega
    rw [hd] at h
    by_cases hi:i<items.size
    · have hi1:items[((i:Nat):Int).toNat]?=some items[i]:=by simp [hi]
      have hi2:items2[((i:Nat):Int).toNat]?=none:=by simp;omega
      rw [hi1,hi2]
      wp_walk using wpAny_loadPart' hl,wpAny_loadPart' hb
      exact h
    · have hi1:items[((i:Nat):Int).toNat]?=none:=by simp;omega
      rw [hi1]
      wp_walk using wpAny_loadPart' hl,wpAny_loadPart' hb
      exact h
  | succ k ih =>
    intro i hk prog w A R s h
    obtain ⟨hp,g,d,tk,os⟩:=s;obtain ⟨hl,hb,he,hlt,h⟩:=h
    wp_walk using wpAny_loadPart' hl,wpAny_loadPart' hb
    have q1:i<items.size:=by omega
    have q2:i<items2.size:=by omega
    have hi1:items[((i:Nat):Int).toNat]?=some items[i]:=by simp [q1]
    have hi2:items2[((i:Nat):Int).toNat]?=some items2[i]:=by simp [q2]
    have hd:(List.range (min items.size items2.size)).drop i=i::(List.range (min items.size items2.size)).drop (i+1):=by
      rw [List.drop_eq_getElem_cons (by simp;omega)]
      simp
    have hc:((i:Int)+1)=((i+1:Nat):Int):=by push_cast;rfl
    rw [hd] at h
    unfold lexI at h
    rw [hi1,hi2]
    refine wpAny_bind (he i q1 q2 prog w _ _ ?_)
    cases hb':e i with
    | true =>
      rw [hb',if_pos rfl] at h
      wp_walk
      rw [hc]
      exact ⟨plainId_quiet plain_eq_loop _,codeAny_builtin entry_eq_loop (by
        rw [Around.under_plainId plain_eq_loop _]
        exact ih (i+1) (by omega) prog w A R _ ⟨hl,hb,he,hlt,h⟩)⟩
    | false =>
      rw [hb',if_neg Bool.false_ne_true] at h
      wp_walk using wpAny_loadPart' hl,wpAny_loadPart' hb
      rw [hi1,hi2]
      refine wpAny_bind (hlt i q1 q2 hb' prog w _ _ ?_)
      wp_walk
      exact h
theorem list_ltAt (l b:Addr)(items items2:Array Value)(n n2:Nat)(dd dd2:Option Addr)(sl sl2:Array (Option Value))(e lt:Nat→Bool) :
    Meets (Builtin.«list.__lt__» ⟨[.ref l,.ref b],[]⟩)
      (fun A R s=>s.heap.get? l=some { cls:=.type "list",dict:=dd,data:=.seq items n,slots:=sl }∧s.heap.get? b=some { cls:=.type "list",dict:=dd2,data:=.seq items2 n2,slots:=sl2 }∧
        (∀j (h1:j<items.size) (h2:j<items2.size),EqAt A.in1 s items[j] items2[j] (e j))∧(∀j (h1:j<items.size) (h2:j<items2.size),e j=false→LtAt A.in1 s items[j] items2[j] (lt j))∧
        R (.ok (.ret (.bool (lexI e lt items.size items2.size (List.range (min items.size items2.size)))))) s):=by
  intro prog w A R s h
  obtain ⟨hp,g,d,tk,os⟩:=s;obtain ⟨hl,hb,he,hlt,h⟩:=h
  have f3:=AutoSeq1.sub_list_list
  wp_walk using wpAny_loadPart' hl,wpAny_loadPart' hb
  exact ⟨plainId_quiet plain_eq_loop _,codeAny_builtin entry_eq_loop (by
    rw [Around.under_plainId plain_eq_loop _]
    exact lt_loopAt l b items items2 n n2 dd dd2 sl sl2 e lt _ 0 rfl prog w A R _ ⟨hl,hb,he,hlt,by simpa using h⟩)⟩
theorem tuple_ltAt (l b:Addr)(items items2:Array Value)(n n2:Nat)(dd dd2:Option Addr)(sl sl2:Array (Option Value))(e lt:Nat→Bool) :
    Meets (Builtin.«tuple.__lt__» ⟨[.ref l,.ref b],[]⟩)
      (fun A R s=>s.heap.get? l=some { cls:=.type "tuple",dict:=dd,data:=.seq items n,slots:=sl }∧s.heap.get? b=some { cls:=.type "tuple",dict:=dd2,data:=.seq items2 n2,slots:=sl2 }∧
        (∀j (h1:j<items.size) (h2:j<items2.size),EqAt A.in1 s items[j] items2[j] (e j))∧(∀j (h1:j<items.size) (h2:j<items2.size),e j=false→LtAt A.in1 s items[j] items2[j] (lt j))∧
        R (.ok (.ret (.bool (lexI e lt items.size items2.size (List.range (min items.size items2.size)))))) s) :=
  .of_wp fun prog w A R s h=>by
    obtain ⟨hp,g,d,tk,os⟩:=s;obtain ⟨hl,hb,he,hlt,h⟩:=h
    have f2:=AutoSeq1.sub_tuple_tuple
    have hZ:(items.toList.zip items2.toList).length=min items.size items2.size:=by simp
    wp_walk using wpAny_loadPart' hl,wpAny_loadPart' hb,wpAny_forIn_list _ (fun rest b s'=>b.1=none∧s'=⟨hp,g,d,tk,os⟩∧∃i,rest=(items.toList.zip items2.toList).drop i∧
      R (.ok (.ret (.bool (lexI e lt items.size items2.size ((List.range (min items.size items2.size)).drop i))))) ⟨hp,g,d,tk,os⟩) _
    case turn =>
      rintro ⟨y,x⟩ rest b s' ⟨hb',rfl,i,hz,hR⟩
      have hli:i<(items.toList.zip items2.toList).length:=by
        rcases Nat.lt_or_ge i (items.toList.zip items2.toList).length with h' | h'
        · exact h'
        · rw [List.drop_of_length_le h'] at hz;cases hz
      have hm:i<min items.size items2.size:=hZ▸hli
      have h1:i<items.size:=Nat.lt_of_lt_of_le hm (Nat.min_le_left _ _)
      have h2:i<items2.size:=Nat.lt_of_lt_of_le hm (Nat.min_le_right _ _)
      rw [List.drop_eq_getElem_cons hli] at hz
      injection hz with hyx hrest
      have hy:y=items[i]:=by have:=congrArg Prod.fst hyx;simpa using this
      have hx:x=items2[i]:=by have:=congrArg Prod.snd hyx;simpa using this
      subst hy hx
      have hd:(List.range (min items.size items2.size)).drop i=i::(List.range (min items.size items2.size)).drop (i+1):=by
        rw [List.drop_eq_getElem_cons (by simpa using hm)]
        simp
      rw [hd] at hR
      unfold lexI at hR
      refine wpAny_bind (he i h1 h2 prog w _ _ ?_)
      cases hy:e i with
      | true =>
        rw [hy,if_pos rfl] at hR
        wp_walk
        exact ⟨rfl,rfl,i+1,hrest,hR⟩
      | false =>
        rw [hy,if_neg Bool.false_ne_true] at hR
        have hr:∀{E':Value→Shared→Prop} {Q':Value→Shared→Prop},Q' (.bool (lt i)) ⟨hp,g,d,tk,os⟩→wpAny (model prog w) A.in1 (richCompare .Lt items[i] items2[i]) Q' E' ⟨hp,g,d,tk,os⟩:=fun q=>hlt i h1 h2 hy prog w _ _ q
        wp_walk using hr
        exact ⟨_,rfl,hR⟩
    case fin =>
      rintro ⟨b1,b2⟩ s' ⟨hb',rfl,i,hz,hR⟩
      simp only at hb'
      subst hb'
      have hge:min items.size items2.size≤i:=by
        rcases Nat.lt_or_ge i (items.toList.zip items2.toList).length with h' | h'
        · rw [List.drop_eq_getElem_cons h'] at hz;cases hz
        · exact hZ▸h'
      rw [List.drop_of_length_le (by simpa using hge)] at hR
      wp_walk
      exact ⟨_,rfl,hR⟩
    case h =>
      exact ⟨rfl,rfl,0,rfl,by simpa using h⟩
end L2
namespace L2
open PySem PySem.SeqAt PyProof.Rows
open Dl (Pc sLt pcLt ctLt)
noncomputable def pP (p:Pc):PyData:=.tuple [.int p.1,.str p.2]
noncomputable def cP (c:List Pc):PyData:=.list (c.map pP)
theorem eqv_pP (p q:Pc):PyData.eqv (pP p) (pP q)=decide (p=q):=by
 obtain ⟨a,b⟩:=p
 obtain ⟨c,d⟩:=q
 simp only [pP,PyData.eqv,PyData.eqvAll,Bool.and_true]
 by_cases h1:a=c<;>by_cases h2:b=d<;>simp [h1,h2]
theorem can_pP {p:Pc}(h:PyData.strOk p.2=true):(pP p).canLay0=true:=by
 show (true&&(PyData.strOk p.2&&true))=true
 rw [h]
 rfl
theorem dep_pP (p:Pc):(pP p).depth≤1:=by
 simp [pP,PyData.depth,PyData.depthAll]
section
variable {A:Around}{s:Shared}
theorem ltAt_int (a b:Int)(t u:Tok):LtAt A s (.int a t) (.int b u) (decide (a<b)):=fun _ _ _ _ h=>PySem.P.lt_int h
theorem ltAt_str (a b:Str)(t u:Tok):LtAt A s (.str a t) (.str b u) (sLt a b):=fun _ _ _ _ h=>PySem.P.lt_str h
theorem reads_pc {h:Heap}{u:Value}{p:Pc}{as:List Addr}(r:Reads h u (pP p) as):∃l o t1 t2 n,u=.ref l∧h.get? l=some o∧o.cls=.type "tuple"∧o.data=.seq #[.int p.1 t1,.str p.2 t2] n:=by
 generalize hd:pP p=d at r
 cases r with
 | @tuple l o vs n xs as1 h1 h2 h3 h4 =>
  cases hd
  obtain ⟨vl⟩:=vs
  have h4:ReadsAll h vl [.int p.1,.str p.2] _:=h4
  cases h4 with
  | cons r1 r2=>cases r2 with
   | cons r2 r3 =>
    cases r1 with
    | int i t1=>cases r2 with
     | str z t2=>cases r3 with
      | nil=>exact ⟨l,o,t1,t2,n,rfl,h1,h2,h3⟩
 | _=>cases hd
theorem ltAt_pc {p q:Pc}{u v:Value}{as bs:List Addr}(ru:Reads s.heap u (pP p) as)(rv:Reads s.heap v (pP q) bs)(hu:A.units<cLine):LtAt A s u v (pcLt p q):=fun prog w E Q h=>by
 obtain ⟨l,⟨cls,dd,data,sl⟩,t1,t2,n,rfl,h1,h2,h3⟩:=reads_pc ru
 obtain ⟨l',⟨cls',dd',data',sl'⟩,t1',t2',n',rfl,k1,k2,k3⟩:=reads_pc rv
 simp only at h2 h3 k2 k3
 subst h2 h3 k2 k3
 refine richCompare_meets_room (op:=.Lt) ⟨_,h1,rfl⟩ ⟨_,k1,rfl⟩ F.slot_tuple_lt F.entry_tuple_lt (F.args_tuple_lt_2 _ _)
  (tuple_ltAt l l' _ _ n n' dd dd' sl sl' (fun j=>if j=0 then decide (p.1=q.1) else decide (p.2=q.2)) (fun j=>if j=0 then decide (p.1<q.1) else sLt p.2 q.2)) ⟨h1,k1,?_,?_,?_⟩ hu
 ·intro j j1 j2
  match j,j1 with
  | 0,_=>exact fun _ _ _ _ z=>PySem.wpAny_eqBool_int (by rw [show (p.1==q.1)=decide (p.1=q.1) by by_cases e:p.1=q.1<;>simp [e]];simpa using z)
  | 1,_=>exact fun _ _ _ _ z=>PySem.wpAny_eqBool_str (by simpa using z)
 ·intro j j1 j2 _
  match j,j1 with
  | 0,_=>exact ltAt_int _ _ _ _
  | 1,_=>exact ltAt_str _ _ _ _
 ·refine ⟨(fun x=>nomatch x),?_⟩
  have e:lexI (fun j=>if j=0 then decide (p.1=q.1) else decide (p.2=q.2)) (fun j=>if j=0 then decide (p.1<q.1) else sLt p.2 q.2) 2 2 [0,1]=pcLt p q:=by
   unfold pcLt
   by_cases e1:p.1=q.1
   ·by_cases e2:p.2=q.2<;>simp [lexI,e1,e2]
   ·simp [lexI,e1]
  show Q (.bool (lexI _ _ 2 2 [0,1])) s
  rw [e]
  exact h
theorem lex_ct (c d:List Pc)(z:Pc):∀(k i:Nat),i+k=min c.length d.length→lexI (fun j=>decide (c.getD j z=d.getD j z)) (fun j=>pcLt (c.getD j z) (d.getD j z)) c.length d.length ((List.range (min c.length d.length)).drop i)=ctLt (c.drop i) (d.drop i)
 | 0,i,h=>by
  rw [List.drop_eq_nil_of_le (as:=List.range _) (by simp;omega)]
  show decide (c.length<d.length)=_
  by_cases h1:i<c.length
  ·rw [List.drop_eq_nil_of_le (as:=d) (by omega),List.drop_eq_getElem_cons h1]
   exact decide_eq_false (by omega)
  ·rw [List.drop_eq_nil_of_le (as:=c) (by omega)]
   by_cases h2:i<d.length
   ·rw [List.drop_eq_getElem_cons h2]
    exact decide_eq_true (by omega)
   ·rw [List.drop_eq_nil_of_le (as:=d) (by omega)]
    exact decide_eq_false (by omega)
 | k+1,i,h=>by
  have h1:i<c.length:=by omega
  have h2:i<d.length:=by omega
  have e1:c.getD i z=c[i]:=by rw [List.getD_eq_getElem?_getD,List.getElem?_eq_getElem h1];rfl
  have e2:d.getD i z=d[i]:=by rw [List.getD_eq_getElem?_getD,List.getElem?_eq_getElem h2];rfl
  rw [List.drop_eq_getElem_cons (by simp;omega),List.getElem_range,List.drop_eq_getElem_cons h1,List.drop_eq_getElem_cons h2]
  unfold lexI ctLt
  rw [lex_ct c d z k (i+1) (by omega),e1,e2]
  by_cases e:c[i]=d[i]
  ·rw [if_pos (decide_eq_true e),if_pos e]
  ·rw [if_neg (fun q=>e (of_decide_eq_true q)),if_neg e]
theorem reads_ct {h:Heap}{u:Value}{c:List Pc}{as:List Addr}(r:Reads h u (cP c) as):∃l o vl n bs,u=.ref l∧h.get? l=some o∧o.cls=.type "list"∧o.data=.seq (List.toArray vl) n∧ReadsAll h vl (c.map pP) bs:=by
 generalize hd:cP c=d at r
 cases r with
 | @list l o vs n xs as1 h1 h2 h3 h4 =>
  cases hd
  obtain ⟨vl⟩:=vs
  exact ⟨l,o,vl,n,_,rfl,h1,h2,h3,h4⟩
 | _=>cases hd
theorem readsAll_at {h:Heap}:∀{c:List Pc} {vl:List Value} {bs:List Addr},ReadsAll h vl (c.map pP) bs→vl.length=c.length∧∀j (h1:j<vl.length) (z:Pc),∃as,Reads h vl[j] (pP (c.getD j z)) as
 | [],vl,bs,r=>by
  cases r
  exact ⟨rfl,fun j h1=>absurd h1 (Nat.not_lt_zero _)⟩
 | p::c,vl,bs,r=>by
  cases r with
  | cons r1 r2 =>
   obtain ⟨e1,e2⟩:=readsAll_at r2
   refine ⟨by rw [List.length_cons,List.length_cons,e1],fun j h1 z=>?_⟩
   match j,h1 with
   | 0,_=>exact ⟨_,r1⟩
   | j+1,h1=>exact e2 j (by simpa using h1) z
theorem ct_walk {c d:List Pc}{u v:Value}{as bs:List Addr}(ru:Reads s.heap u (cP c) as)(rv:Reads s.heap v (cP d) bs)(hc:∀p∈c,PyData.strOk p.2=true)(hd:∀p∈d,PyData.strOk p.2=true)(hu:A.units+8<cLine) :
  ∃(l l':Addr) (vl vl':List Value) (n n':Nat) (dd dd':Option Addr) (sl sl':Array (Option Value)),u=.ref l∧v=.ref l'∧s.heap.get? l=some { cls:=.type "list",dict:=dd,data:=.seq (List.toArray vl) n,slots:=sl }∧s.heap.get? l'=some { cls:=.type "list",dict:=dd',data:=.seq (List.toArray vl') n',slots:=sl' }∧
   vl.length=c.length∧vl'.length=d.length∧(∀j (h1:j<(List.toArray vl).size) (h2:j<(List.toArray vl').size),EqAt A.in1 s (List.toArray vl)[j] (List.toArray vl')[j] (decide (c.getD j (0,"")=d.getD j (0,""))))∧
   (∀j (h1:j<(List.toArray vl).size) (h2:j<(List.toArray vl').size),(decide (c.getD j (0,"")=d.getD j (0,"")):Bool)=false→LtAt A.in1 s (List.toArray vl)[j] (List.toArray vl')[j] (pcLt (c.getD j (0,"")) (d.getD j (0,"")))):=by
 obtain ⟨l,⟨cls,dd,data,sl⟩,vl,n,as',rfl,h1,h2,h3,h4⟩:=reads_ct ru
 obtain ⟨l',⟨cls',dd',data',sl'⟩,vl',n',bs',rfl,k1,k2,k3,k4⟩:=reads_ct rv
 simp only at h2 h3 k2 k3
 subst h2 h3 k2 k3
 obtain ⟨e1,e2⟩:=readsAll_at h4
 obtain ⟨e3,e4⟩:=readsAll_at k4
 have mem:∀{c:List Pc} {j:Nat} (_:j<c.length),c.getD j (0,"")∈c:=fun {c j} hj=>by
  rw [List.getD_eq_getElem?_getD,List.getElem?_eq_getElem hj]
  exact List.getElem_mem hj
 have hin:A.in1.units+1<cLine:=by show A.units+1+1<cLine;omega
 refine ⟨l,l',vl,vl',n,n',dd,dd',sl,sl',rfl,rfl,h1,k1,e1,e3,fun j j1 j2=>?_,fun j j1 j2 _=>?_⟩
 ·obtain ⟨a1,r1⟩:=e2 j (by simpa using j1) (0,"")
  obtain ⟨b1,r2⟩:=e4 j (by simpa using j2) (0,"")
  intro prog w E Q q
  refine eqBoolOverData prog w A.in1 E s _ _ _ _ _ _ Q r1 r2 (can_pP (hc _ (mem (by simpa [e1] using j1)))) (can_pP (hd _ (mem (by simpa [e3] using j2)))) ?_ (by rw [eqv_pP];exact q)
  have:=dep_pP (c.getD j (0,""))
  omega
 ·obtain ⟨a1,r1⟩:=e2 j (by simpa using j1) (0,"")
  obtain ⟨b1,r2⟩:=e4 j (by simpa using j2) (0,"")
  exact ltAt_pc r1 r2 (by omega)
end
end L2
namespace L2
open PySem PySem.SeqAt PyProof.Rows
open Dl (Pc sLt pcLt ctLt)
theorem sLt_irr (x:Str):sLt x x=false:=decide_eq_false (List.lt_irrefl _)
theorem sLt_tr {x y z:Str}(h:sLt x y=true)(h2:sLt y z=true):sLt x z=true:=decide_eq_true (List.lt_trans (of_decide_eq_true h) (of_decide_eq_true h2))
theorem sLt_tri {x y:Str}(h:x≠y):sLt x y=true∨sLt y x=true:=by
 have hne:x.cps.toList≠y.cps.toList:=fun e=>h (by cases x;cases y;congr 1;exact Array.toList_inj.mp e)
 by_cases q:x.cps.toList<y.cps.toList
 ·exact .inl (decide_eq_true q)
 ·rcases List.le_iff_lt_or_eq.mp (List.not_lt.mp q) with h' | h'
  ·exact .inr (decide_eq_true h')
  ·exact absurd h'.symm hne
theorem pcLt_irr (p:Pc):pcLt p p=false:=by unfold pcLt;rw [if_pos rfl,if_pos rfl]
theorem pcLt_iff {p q:Pc}:pcLt p q=true↔p.1<q.1∨(p.1=q.1∧sLt p.2 q.2=true):=by
 unfold pcLt
 by_cases h:p.1=q.1
 ·rw [if_pos h]
  by_cases h2:p.2=q.2
  ·rw [if_pos h2,h2,sLt_irr]
   constructor
   ·intro z;cases z
   ·rintro (z | ⟨_,z⟩)
    ·omega
    ·cases z
  ·rw [if_neg h2]
   constructor
   ·intro z;exact .inr ⟨h,z⟩
   ·rintro (z | ⟨_,z⟩)
    ·omega
    ·exact z
 ·rw [if_neg h]
  constructor
  ·intro z;exact .inl (of_decide_eq_true z)
  ·rintro (z | ⟨z,_⟩)
   ·exact decide_eq_true z
   ·exact absurd z h
theorem pcLt_tr {p q t:Pc}(h:pcLt p q=true)(h2:pcLt q t=true):pcLt p t=true:=by
 rw [pcLt_iff] at *
 rcases h with h | ⟨h,h'⟩<;>rcases h2 with h2 | ⟨h2,h2'⟩
 ·exact .inl (by omega)
 ·exact .inl (by omega)
 ·exact .inl (by omega)
 ·exact .inr ⟨by omega,sLt_tr h' h2'⟩
theorem pcLt_tri {p q:Pc}(h:p≠q):pcLt p q=true∨pcLt q p=true:=by
 rw [pcLt_iff,pcLt_iff]
 rcases Int.lt_trichotomy p.1 q.1 with z | z | z
 ·exact .inl (.inl z)
 ·rcases sLt_tri (x:=p.2) (y:=q.2) (fun e=>h (Prod.ext z e)) with y | y
  ·exact .inl (.inr ⟨z,y⟩)
  ·exact .inr (.inr ⟨z.symm,y⟩)
 ·exact .inr (.inl z)
theorem ctLt_irr:∀c:List Pc,ctLt c c=false
 | []=>rfl
 | p::c=>by unfold ctLt;rw [if_pos rfl];exact ctLt_irr c
theorem ctLt_tr:∀{c d e:List Pc},ctLt c d=true→ctLt d e=true→ctLt c e=true
 | [],[],_,h,_=>nomatch h
 | [],_::_,[],_,h=>nomatch h
 | [],_::_,_::_,_,_=>rfl
 | _::_,[],_,h,_=>nomatch h
 | _::_,_::_,[],_,h=>nomatch h
 | p::c,q::d,t::e,h,h2=>by
  unfold ctLt at *
  by_cases e1:p=q
  ·rw [if_pos e1] at h
   subst e1
   by_cases e2:p=t
   ·rw [if_pos e2] at h2 ⊢
    exact ctLt_tr h h2
   ·rw [if_neg e2] at h2 ⊢
    exact h2
  ·rw [if_neg e1] at h
   by_cases e2:q=t
   ·subst e2
    rw [if_neg e1]
    exact h
   ·rw [if_neg e2] at h2
    have h3:=pcLt_tr h h2
    rw [if_neg (fun z=>by rw [z,pcLt_irr] at h3;cases h3)]
    exact h3
theorem ctLt_tri:∀{c d:List Pc},c≠d→ctLt c d=true∨ctLt d c=true
 | [],[],h=>absurd rfl h
 | [],_::_,_=>.inl rfl
 | _::_,[],_=>.inr rfl
 | p::c,q::d,h=>by
  unfold ctLt
  by_cases e:p=q
  ·rw [if_pos e,if_pos e.symm]
   exact ctLt_tri fun z=>h (by rw [e,z])
  ·rw [if_neg e,if_neg (fun z=>e z.symm)]
   exact pcLt_tri e
theorem ctLt_as {c d:List Pc}(h:ctLt c d=true):ctLt d c=false:=by
 cases e:ctLt d c with
 | false=>rfl
 | true=>rw [← ctLt_irr c,← ctLt_tr h e]
theorem ctLt_le {c d e:List Pc}(h:ctLt d c=false)(h2:ctLt e d=false):ctLt e c=false:=by
 cases q:ctLt e c with
 | false=>rfl
 | true =>
  by_cases e1:c=d
  ·subst e1
   rw [h2] at q
   cases q
  ·rcases ctLt_tri e1 with z | z
   ·rw [← h2,ctLt_tr q z]
   ·rw [h] at z
    cases z
theorem ctLt_anti {c d:List Pc}(h:ctLt d c=false)(h2:ctLt c d=false):c=d:=by
 by_cases e:c=d
 ·exact e
 ·rcases ctLt_tri e with z | z
  ·rw [h2] at z;cases z
  ·rw [h] at z;cases z
noncomputable def cutOf (h:Heap)(v:Value):List Pc:=open Classical in if q:∃c as,Reads h v (cP c) as then q.choose else []
theorem pP_inj {p q:Pc}(h:pP p=pP q):p=q:=by
 injection h with h
 simp only [List.cons.injEq,PyData.int.injEq,PyData.str.injEq,and_true] at h
 exact Prod.ext h.1 h.2
theorem cP_inj {c d:List Pc}(h:cP c=cP d):c=d:=by
 injection h with h
 exact List.map_inj_right (fun _ _=>pP_inj) |>.mp h
theorem cutOf_eq {h:Heap}{v:Value}{c:List Pc}{as:List Addr}(r:Reads h v (cP c) as):cutOf h v=c:=by
 have q:∃c as,Reads h v (cP c) as:=⟨c,as,r⟩
 unfold cutOf
 rw [dif_pos q]
 obtain ⟨bs,r2⟩:=q.choose_spec
 exact cP_inj (Reads.unique r2 _ _ r).1
noncomputable def IsCt (h:Heap)(v:Value):Prop:=∃c as,Reads h v (cP c) as∧∀p∈c,PyData.strOk p.2=true
theorem IsCt.keeps {h h':Heap}{v:Value}(i:IsCt h v)(k:∀b o,h.get? b=some o→h'.get? b=some o):IsCt h' v∧cutOf h' v=cutOf h v:=by
 obtain ⟨c,as,r,ok⟩:=i
 exact ⟨⟨c,as,Reads.keeps k r,ok⟩,(cutOf_eq (Reads.keeps k r)).trans (cutOf_eq r).symm⟩
section
variable {prog:Program}{w:World}{A:Around}{E:Value→Shared→Prop}{s:Shared}
theorem ask_cuts (hu:A.units+8<cLine):Ask prog w A s oneType' (fun x=>IsCt s.heap x.1) (fun x y=>ctLt (cutOf s.heap x.1) (cutOf s.heap y.1)) where
 run:=fun {x y Q E} hx hy q=>by
  obtain ⟨c,as,ru,hc⟩:=hx
  obtain ⟨d,bs,rv,hd⟩:=hy
  rw [cutOf_eq ru,cutOf_eq rv] at q
  obtain ⟨l,l',vl,vl',n,n',dd,dd',sl,sl',e1,e2,h1,k1,e3,e4,he,hlt⟩:=ct_walk (A:=A) ru rv hc hd hu
  rw [e1,e2,keyLt'_oneType,oneLt'_eq]
  simp only [if_true]
  refine wpAny_bind (wpAny_cRoomFor (by omega) ?_)
  have t:lexI (fun j=>decide (c.getD j (0,"")=d.getD j (0,""))) (fun j=>pcLt (c.getD j (0,"")) (d.getD j (0,""))) (List.toArray vl).size (List.toArray vl').size (List.range (min (List.toArray vl).size (List.toArray vl').size))=ctLt c d:=by
   have:=lex_ct c d (0,"") (min c.length d.length) 0 (by omega)
   rw [List.drop_zero,List.drop_zero,List.drop_zero] at this
   rw [List.size_toArray,List.size_toArray,e3,e4,this]
  refine wpAny_bind (wpAny_callSpecialIfBound?_slot (name:="__lt__") ⟨_,h1,rfl⟩ F.slot_list_lt (call_meets F.slot_list_lt ⟨_,h1,rfl⟩ F.entry_list_lt (F.args_list_lt_2 _ _) (list_ltAt l l' _ _ n n' dd dd' sl sl' (fun j=>decide (c.getD j (0,"")=d.getD j (0,""))) (fun j=>pcLt (c.getD j (0,"")) (d.getD j (0,"")))) ⟨h1,k1,he,hlt,?_⟩))
  rw [t]
  exact wpAny_truthy_bool q
 tr:=fun _ _ _ h1 h2=>ctLt_le h1 h2
 as:=fun _ _ h=>ctLt_as h
theorem ct_looks {M:Model}{h:Heap}{v:Value}(i:IsCt h v):PySem.W.Looks M h (typeOf v) (.type "list"):=by
 obtain ⟨c,as,r,_⟩:=i
 obtain ⟨l,o,vl,n,bs,rfl,h1,h2,_⟩:=reads_ct r
 have q:PySem.W.Looks M h (typeOf (.ref l)) o.cls:=(PySem.W.Looks.ld h1).andThen .now
 rw [h2] at q
 exact q
theorem zip_twice:∀vs:List Value,vs.zip vs=vs.map fun v=>(v,v)
 | []=>rfl
 | v::vs=>by rw [List.zip_cons_cons,List.map_cons,zip_twice vs]
theorem zip_self (vs:List Value):(vs.toArray.zip vs.toArray).toList=vs.map fun v=>(v,v):=by
 rw [← zip_twice]
 simp
theorem cut_sort {a:Addr}{vs:List Value}{n:Nat}{P:Fin→Shared→Prop}(ho:s.heap.get? a=some (seqObj "list" vs.toArray n))(hI:∀s':Shared,(∀b o,b≠a→s.heap.get? b=some o→s'.heap.get? b=some o)→∀v∈vs,IsCt s'.heap v∧cutOf s'.heap v=cutOf s.heap v)(hm:vs.length≤sizeLine)(hu:A.units+8<cLine)
    (h:∀out:Array Value,out.toList.Perm vs→(out.toList.map (cutOf s.heap)).Pairwise (fun c d=>ctLt d c=false)→P (.done (.ret .none)) { s with heap:=sortedHeap s.heap a vs out }) :
    wpAny (model prog w) A (Builtin.«list.sort» ⟨[.ref a],[]⟩) P E s:=by
  have hlt:=Heap.lt_size ho
  obtain ⟨e0,h1⟩:∃e0,(s.heap.update a (Obj.mapSeq fun _=>#[])).get? a=some (seqObj "list" #[] e0):=⟨_,get?_update_seq ho (fun _=>#[])⟩
  have h6:(((s.heap.update a (Obj.mapSeq fun _=>#[])).push (seqObj "tuple" vs.toArray 0)).push (seqObj "list" #[] 0)).get? a=some (seqObj "list" #[] e0):=by
    rw [Heap.get?_push_ne _ _ _ (Nat.ne_of_lt (by rw [size_push',Heap.size_update];exact Nat.lt_succ_of_lt hlt)),Heap.get?_push_ne _ _ _ (Nat.ne_of_lt (by rw [Heap.size_update];exact hlt))]
    exact h1
  have keep:∀b o,b≠a→s.heap.get? b=some o→(((s.heap.update a (Obj.mapSeq fun _=>#[])).push (seqObj "tuple" vs.toArray 0)).push (seqObj "list" #[] 0)).get? b=some o:=fun b o hb q=>by
    refine Heap.get?_push_of_some _ (Heap.get?_push_of_some _ ?_)
    rw [Heap.get?_update_ne _ _ _ _ hb]
    exact q
  have hI6:=hI { s with heap:=((s.heap.update a (Obj.mapSeq fun _=>#[])).push (seqObj "tuple" vs.toArray 0)).push (seqObj "list" #[] 0) } keep
  rw [list_sort_plain]
  refine wpAny_bind (listItems_at ho rfl (wpAny_bind (listUpdate_at ho rfl (wpAny_bind (seqEpoch_at h1 rfl (wpAny_bind (wpAny_newTuple (wpAny_bind (wpAny_newList (wpAny_holding ?_))) (by simpa using hm)))))
    (by simpa using hm))))
  have fin:∀(st':SortSt),(arrOf st').toList.Perm (vs.map fun v=>(v,v))→failedOf st'=none→((arrOf st').toList.map fun x=>cutOf s.heap x.1).Pairwise (fun c d=>ctLt d c=false)→
      wpAny (model prog w) A (do
        let touched:=(← seqEpoch a) != e0
        Builtin.List.listUpdate (.ref a) fun _=>(arrOf st').map (·.2)
        if let some e:=failedOf st' then rule "list.sort.comparison-raised";throw e
        if touched then rule "list.sort.modified";raiseError "ValueError" "list modified during sort"
        ret .none) P E { s with heap:=((s.heap.update a (Obj.mapSeq fun _=>#[])).push (seqObj "tuple" vs.toArray 0)).push (seqObj "list" #[] 0) }:=fun st' hp hf hs=>by
    have same:∀x∈(arrOf st').toList,x.1=x.2:=fun x hx=>by
      obtain ⟨v,_,rfl⟩:=List.mem_map.mp (hp.mem_iff.mp hx)
      rfl
    refine wpAny_bind (seqEpoch_at h6 rfl (wpAny_bind (listUpdate_at h6 rfl ?_ (hsz2:=by
      refine Nat.le_trans (Nat.le_of_eq (Array.size_map ..)) ?_
      rw [← Array.length_toList,hp.length_eq,List.length_map]
      omega))))
    rw [hf]
    simp only [bne_self_eq_false,Bool.false_eq_true,if_false]
    refine wpAny_pure (h _ ?_ ?_)
    · rw [Array.toList_map]
      have:=hp.map (·.2)
      rw [List.map_map,show ((fun x:Keyed=>x.2)∘fun v:Value=>(v,v))=id from rfl,List.map_id] at this
      exact this
    · rw [Array.toList_map,List.map_map]
      rw [List.map_congr_left (g:=fun x=>cutOf s.heap x.1) (fun x hx=>by show cutOf s.heap x.2=_;rw [same x hx])]
      exact hs
  by_cases h2:vs.toArray.size<2
  · simp only [if_pos h2]
    refine wpAny_bind (wpAny_pure ?_)
    rw [StateT.run_pure]
    refine wpAny_bind (wpAny_pure ?_)
    refine fin (SortSt.mk' general' (vs.toArray.zip vs.toArray) #[] 7 none) (by show (vs.toArray.zip vs.toArray).toList.Perm _;rw [zip_self]) rfl ?_
    show ((vs.toArray.zip vs.toArray).toList.map fun x=>cutOf s.heap x.1).Pairwise _
    rw [zip_self]
    match vs,h2 with
    | [],_=>exact List.Pairwise.nil
    | [v],_=>exact List.pairwise_singleton _ _
    | _::_::_,h2=>exact absurd h2 (by simp)
  · simp only [if_neg h2]
    have h2':2≤vs.length:=by rw [List.size_toArray] at h2;omega
    refine wpAny_bind (PySem.W.kas_kind h2' (fun v hv=>ct_looks (hI6 v hv).1) (by decide) (by decide) ?_)
    have hne:∃x,x∈vs:=⟨vs[0],List.getElem_mem (by omega)⟩
    obtain ⟨v0,hv0⟩:=hne
    refine wpAny_bind (wpAny_mono (ask_runs (st:=SortSt.mk' oneType' (vs.toArray.zip vs.toArray) #[] 7 none) (Q:=fun _ st'=>(arrOf st').toList.Perm (vs.map fun v=>(v,v))∧failedOf st'=none∧((arrOf st').toList.map fun x=>cutOf s.heap x.1).Pairwise (fun c d=>ctLt d c=false)) (v0,v0) (ask_cuts hu) ?_ rfl rfl rfl ?_ fun st' q1 q2 q3=>⟨?_,q2,?_⟩) ?_ fun _ _ e=>e)
    · intro x hx
      have hx:x∈(vs.toArray.zip vs.toArray).toList:=hx
      rw [zip_self] at hx
      obtain ⟨v,hv,rfl⟩:=List.mem_map.mp hx
      exact (hI6 v hv).1
    · show 1≤(vs.toArray.zip vs.toArray).size
      rw [← Array.length_toList,zip_self,List.length_map]
      omega
    · have q1:(arrOf st').toList.Perm (vs.toArray.zip vs.toArray).toList:=q1
      rw [zip_self] at q1
      exact q1
    · have q1:(arrOf st').toList.Perm (vs.toArray.zip vs.toArray).toList:=q1
      rw [zip_self] at q1
      refine List.pairwise_map.mpr (List.Pairwise.imp_of_mem (fun {x y} hx hy z=>?_) q3)
      obtain ⟨v,hv,rfl⟩:=List.mem_map.mp (q1.mem_iff.mp hx)
      obtain ⟨v',hv',rfl⟩:=List.mem_map.mp (q1.mem_iff.mp hy)
      have e1:=(hI6 v hv).2
      have e2:=(hI6 v' hv').2
      show ctLt (cutOf s.heap v') (cutOf s.heap v)=false
      rw [← e1,← e2]
      exact z
    · rintro ⟨⟨⟩,st'⟩ s' ⟨rfl,q1,q2,q3⟩
      exact fin st' q1 q2 q3
theorem cut_sorted {l:Addr}{vs:List Value}{Q:Value→Shared→Prop}(hl:s.heap.IsList l vs.toArray)(hI:∀v∈vs,IsCt s.heap v)(hm:vs.length≤sizeLine)(hu:A.units+12<cLine)
  (h:∀out:Array Value,out.toList.Perm vs→(out.toList.map (cutOf s.heap)).Pairwise (fun c d=>ctLt d c=false)→Q (.ref (s.heap.objs.size+1)) { s with heap:=sortedAll s.heap vs out }) :
  wpAny (model prog w) A (call (.builtin "sorted") [.ref l]) Q E s:=by
 have hz:((s.heap.push (seqObj "list" #[] 0)).update s.heap.objs.size (Obj.mapSeq (·++vs.toArray))).objs.size=s.heap.objs.size+1:=by rw [Heap.size_update,size_push']
 have hL:=Heap.get?_push_size ((s.heap.push (seqObj "list" #[] 0)).update s.heap.objs.size (Obj.mapSeq (·++vs.toArray))) (o:=seqObj "list" vs.toArray 0) rfl
 rw [hz] at hL
 have keep:∀b o,s.heap.get? b=some o→(((s.heap.push (seqObj "list" #[] 0)).update s.heap.objs.size (Obj.mapSeq (·++vs.toArray))).push (seqObj "list" vs.toArray 0)).get? b=some o:=fun b o q=>by
  refine Heap.get?_push_of_some _ ?_
  rw [Heap.get?_update_ne _ _ _ _ (Nat.ne_of_lt (Heap.lt_size q))]
  exact Heap.get?_push_of_some _ q
 refine Calls.call_function_entry kind_sorted plain_sorted entry_sorted (args_sorted1 _) ?_
 unfold Builtin.«sorted»
 refine wpAny_bind (m:=checkCount "sorted" 1 1 _) (wpAny_pure (wpAny_bind (collect_list hl (wpAny_bind (wpAny_newList ?_ (by simpa using hm))) hm)))
 simp only [hz]
 have hI0:∀v∈vs,IsCt (((s.heap.push (seqObj "list" #[] 0)).update s.heap.objs.size (Obj.mapSeq (·++vs.toArray))).push (seqObj "list" vs.toArray 0)) v∧cutOf (((s.heap.push (seqObj "list" #[] 0)).update s.heap.objs.size (Obj.mapSeq (·++vs.toArray))).push (seqObj "list" vs.toArray 0)) v=cutOf s.heap v:=fun v hv=>(hI v hv).keeps keep
 have old:∀b o,s.heap.get? b=some o→b≠s.heap.objs.size+1:=fun b o q=>Nat.ne_of_lt (Nat.lt_succ_of_lt (Heap.lt_size q))
 refine wpAny_bind (wpAny_holding (wpAny_call_entry slot_list_sort ⟨_,hL,rfl⟩ entry_list_sort (cut_sort hL (fun s' k v hv=>?_) hm (by show A.units+1+1+8<cLine;omega) fun out q1 q2=>⟨_,rfl,?_⟩) (args_list_sort _)))
 ·have:=(hI v hv).keeps (h':=s'.heap) fun b o q=>k b o (old b o q) (keep b o q)
  exact ⟨this.1,this.2.trans (hI0 v hv).2.symm⟩
 ·refine wpAny_pure ⟨_,rfl,h out q1 ?_⟩
  rw [List.map_congr_left (g:=cutOf (((s.heap.push (seqObj "list" #[] 0)).update s.heap.objs.size (Obj.mapSeq (·++vs.toArray))).push (seqObj "list" vs.toArray 0))) (fun v hv=>((hI0 v (q1.mem_iff.mp hv)).2).symm)]
  exact q2
end
end L2
namespace L2
open PySem PySem.Spec PyProof.Rows
open Dl (D R FE FT FA FO FS FI FB Fl Pc ctLt)
section
variable {K:PySem.W.Frag}{C:String→Addr}{E:XK}{Γ Δ Γl Δl:List Nat}{m m1 m2 m3 mr:Nat}{S S1 S2 S3:List (Nat×Bool)}{H:Hp}
theorem EnvOk.pathExt {H0 Hb H:Hp}{σ:St}{ρ:DEnv}{A:Nat→List Addr}{i:Nat}{d d':D}{es:List D}{path:List Int}(I:EnvOk K C H0 Hb H Γ Δ σ ρ A)(hi:i∈Δ)(hd:ρ[i]?=some (some d))(hu:Dl.updP (Dl.extL es) path d=some d') :
  ∃v b ys,σ[i]?=some (some v)∧AtP K H v path b∧H b=some (.lst ys)∧ys.length+es.length≤sizeLine∧b∈A i∧∀H2 ws B,Same H H2→RpA K C H2 es ws B→B.Nodup→(∀a∈B,Hb a=Option.none∧∀j,a∉A j)→
   ∃A',EnvOk K C H0 Hb (upd H2 b (.lst (ys++ws))) Γ Δ σ (ρ.set i (some d')) A':=by
 obtain ⟨v,hs,r⟩:=I.rep i d hd
 obtain ⟨d1,d2,d3⟩:=I.deep i hi
 obtain ⟨b,ys,ds,es',l,A1,A2,p1,p2,p3,p4,p5,p6⟩:=r.path d1 hu
 unfold Dl.extL at p4
 split at p4
 ·rename_i hz
  cases p4
  have hbA:b∈A i:=by rw [p5];simp
  refine ⟨v,b,ys,hs,p1,p2,by rw [p3.len];exact limLine hz,hbA,fun H2 ws B g re nB hB=>?_⟩
  have hbB:b∉B:=fun z=>(hB b z).2 i hbA
  have I2:=I.mono g
  have p2':=g _ _ p2
  have ext:Ext (fun c=>c=b) H2 (upd H2 b (.lst (ys++ws))):=fun c o h=>by
   by_cases e:c=b
   ·subst e
    rw [p2'] at h
    cases h
    exact .inr ⟨rfl,.lst⟩
   ·rw [Zap e]
    exact .inl h
  have hbl:b∉l:=by
   rw [p5] at d1
   have:=(List.nodup_append.mp d1).2.1
   rw [List.cons_append] at this
   exact fun z=>(List.nodup_cons.mp this).1 (List.mem_append_left _ z)
  have r3:RpA K C (upd H2 b (.lst (ys++ws))) (ds++es) (ys++ws) (l++B) :=
   ((p3.same g).ext ext fun a ha z=>hbl (by rw [← z];exact ha)).app (re.ext ext fun a ha z=>hbB (by rw [← z];exact ha))
  have r4:=p6 (upd H2 b (.lst (ys++ws))) (ys++ws) (l++B) (fun a o ha h=>by rw [Zap ha];exact g _ _ h) Zay r3
  have hsub:∀a∈A1++(b::(l++B)++A2),a∈A i∨(Hb a=Option.none∧∀j,a∉A j):=fun a ha=>by
   rw [p5]
   simp only [List.mem_append,List.mem_cons] at ha ⊢
   rcases ha with z | (z | z | z) | z
   ·exact .inl (.inl z)
   ·exact .inl (.inr (.inl (.inl z)))
   ·exact .inl (.inr (.inl (.inr z)))
   ·exact .inr (hB a z)
   ·exact .inl (.inr (.inr z))
  have nd:(A1++(b::(l++B)++A2)).Nodup:=by
   have pm:(A1++(b::(l++B)++A2)).Perm (A i++B):=by
    rw [p5]
    simp only [List.cons_append,List.append_assoc]
    refine List.Perm.append_left _ (List.Perm.cons _ (List.Perm.append_left _ ?_))
    exact List.perm_append_comm
   refine pm.nodup_iff.mpr (List.nodup_append.mpr ⟨d1,nB,fun x hx y hy e=>?_⟩)
   subst e
   exact (hB x hy).2 i hx
  exact ⟨_,I2.deepWrite hi (List.getElem?_eq_some_iff.mp hd).1 hs hbA r4 nd hsub⟩
 ·cases p4
theorem sPathX_ok {i:Nat}{fk fe:FE}{ρ:DEnv}{ok:Fl→Prop}{er:String→Option Int→Prop}(p:Post (Dl.sPathX i fk fe ρ) ok er):∃d n es d',ρ[i]?=some (some d)∧fk ρ=.ok (.int n)∧fe ρ=.ok (.lst es)∧Dl.updP (Dl.extL es) [n] d=some d'∧ok (.nx (ρ.set i (some d'))):=by
  unfold Dl.sPathX at p
  split at p
  · rename_i d ed
    cases ek:fk ρ with
    | bad=>rw [ek] at p;exact p.elim
    | err c x=>rw [ek] at p;exact p.elim
    | ok z =>
      rw [ek] at p
      cases z with
      | int n =>
        cases ef:fe ρ with
        | bad=>rw [ef] at p;exact p.elim
        | err c x=>rw [ef] at p;exact p.elim
        | ok v =>
          rw [ef] at p
          cases v with
          | lst es =>
            have p:Post (match Dl.updP (Dl.extL es) [n] d with
              | some d'=>.ok (Fl.nx (ρ.set i (some d')))
              | none=>.bad) _ _:=p
            split at p
            · rename_i d' eu
              exact ⟨d,n,es,d',ed,rfl,rfl,eu,p⟩
            · exact p.elim
          | _=>exact p.elim
      | _=>exact p.elim
  · exact p.elim
theorem sok_pathX {i:Nat}{tk te:TE}{fk fe:FE}(hi:autoParam (i∈Δ) aT1._auto_1)(hk:EOk K C E Γ Δ m1 S1 tk fk)(he:EOk K C E Γ Δ 2 [] te fe) :
  SOk K C E mr Γl Δl Γ Δ Γ Δ (tDrop (tBM K "list" rExtend (tOp (rIx K) (tVar i) tk) (tCons te tNil))) (Dl.sPathX i fk fe):=fun H0 Hb H σ ρ A D I p=>by
 obtain ⟨d,n,es,d',ed,ek,ef,eu,q⟩:=sPathX_ok p
 obtain ⟨v,b,ys,hs,hat,hb,hz,hbA,up⟩:=I.pathExt hi ed eu
 refine ⟨v,hs,hk H0 Hb H σ ρ A _ I ?_⟩
 rw [ek]
 intro w H1 g1 ry
 obtain ⟨By,ry,_⟩:=ry
 obtain ⟨rfl,_⟩:=ry
 refine rIx_at (hat.same g1) fun u hu=>?_
 have hu:u=.ref b:=hu
 subst hu
 refine ⟨.inl ⟨rfl,ys,SqL.of (g1 _ _ hb)⟩,he H0 Hb H1 σ ρ A _ (I.mono g1) ?_⟩
 rw [ef]
 intro w2 H2 g2 re
 obtain ⟨B,re,nB,hB⟩:=Res.new' I g1 re
 obtain ⟨c,zs,B2,rfl,e2,e3,e4⟩:=re
 subst e4
 have nB2:=(List.nodup_cons.mp nB).2
 obtain ⟨A',I'⟩:=up H2 zs B2 (g1.trans g2) e3 nB2 fun a ha=>hB a (.tail _ ha)
 exact ⟨b,c,ys,zs,rfl,rfl,g2 _ _ (g1 _ _ hb),e2,by rw [e3.len];exact hz,q σ _ A' I'⟩
theorem pcOf_eq {d:D}{p:Pc}(h:Dl.pcOf d=some p):d=.tup [.int p.1,.str p.2]:=by
 unfold Dl.pcOf at h
 split at h
 ·cases h
  rfl
 ·cases h
theorem pcsOf_eq:∀{ds:List D} {c:List Pc},Dl.pcsOf ds=some c→ds=c.map fun p=>.tup [.int p.1,.str p.2]
 | [],c,h=>by cases h;rfl
 | d::ds,c,h=>by
  obtain ⟨p,h1,h⟩:=Option.bind_eq_some_iff.mp (show ((Dl.pcOf d).bind fun p=>(Dl.pcsOf ds).bind fun ps=>some (p::ps))=some c from h)
  obtain ⟨ps,h2,h⟩:=Option.bind_eq_some_iff.mp h
  cases h
  rw [pcOf_eq h1,pcsOf_eq h2]
  rfl
theorem ctOf_eq {d:D}{c:List Pc}(h:Dl.ctOf d=some c):d=Dl.ctD c:=by
 cases d with
 | lst ds=>rw [pcsOf_eq (show Dl.pcsOf ds=some c from h)];rfl
 | _=>cases h
theorem ctsOf_eq:∀{ds:List D} {cs:List (List Pc)},Dl.ctsOf ds=some cs→ds=cs.map Dl.ctD
 | [],cs,h=>by cases h;rfl
 | d::ds,cs,h=>by
  obtain ⟨c,h1,h⟩:=Option.bind_eq_some_iff.mp (show ((Dl.ctOf d).bind fun c=>(Dl.ctsOf ds).bind fun cs=>some (c::cs))=some cs from h)
  obtain ⟨cs',h2,h⟩:=Option.bind_eq_some_iff.mp h
  cases h
  rw [ctOf_eq h1,ctsOf_eq h2]
  rfl
theorem insC_perm (c:List Pc):∀l,(Dl.insC c l).Perm (c::l)
 | []=>List.Perm.refl _
 | d::l=>by
  unfold Dl.insC
  split
  ·exact List.Perm.refl _
  ·exact ((insC_perm c l).cons d).trans (List.Perm.swap c d l)
theorem sortC_perm:∀l,(Dl.sortC l).Perm l
 | []=>List.Perm.refl _
 | c::l=>(insC_perm c _).trans ((sortC_perm l).cons c)
theorem insC_up (c:List Pc):∀l,l.Pairwise (fun x y=>ctLt y x=false)→(Dl.insC c l).Pairwise (fun x y=>ctLt y x=false)
 | [],_=>List.pairwise_singleton _ _
 | d::l,h=>by
  obtain ⟨h1,h2⟩:=List.pairwise_cons.mp h
  unfold Dl.insC
  split
  ·rename_i q
   refine List.pairwise_cons.mpr ⟨fun y hy=>?_,h⟩
   rcases List.mem_cons.mp hy with e | e
   ·rw [e]
    exact ctLt_as q
   ·exact ctLt_le (ctLt_as q) (h1 y e)
  ·rename_i q
   refine List.pairwise_cons.mpr ⟨fun y hy=>?_,insC_up c l h2⟩
   rcases List.mem_cons.mp ((insC_perm c l).mem_iff.mp hy) with e | e
   ·rw [e]
    exact Bool.eq_false_iff.mpr q
   ·exact h1 y e
theorem sortC_up:∀l,(Dl.sortC l).Pairwise (fun x y=>ctLt y x=false)
 | []=>List.Pairwise.nil
 | c::l=>insC_up c _ (sortC_up l)
theorem sortC_eq {l l':List (List Pc)}(hp:l'.Perm l)(hu:l'.Pairwise (fun x y=>ctLt y x=false)):Dl.sortC l=l' :=
 List.Perm.eq_of_pairwise (fun x y _ _ h1 h2=>ctLt_anti h1 h2) (sortC_up l) hu ((sortC_perm l).trans hp.symm)
theorem toPy_ct:∀c:List Pc,toPyA (c.map fun p=>.tup [.int p.1,.str p.2])=c.map pP
 | []=>rfl
 | p::c=>by
  show toPy (.tup [.int p.1,.str p.2])::toPyA _=pP p::_
  rw [toPy_ct c]
  rfl
theorem dep_ct (c:List Pc):Dl.dep (Dl.ctD c)≤2:=by
 have:∀c:List Pc,Dl.depA (c.map fun p=>.tup [.int p.1,.str p.2])≤1:=fun c=>by
  induction c with
  | nil=>simp [Dl.depA]
  | cons p c ih=>simp [Dl.depA,Dl.dep];omega
 have h:=this c
 unfold Dl.ctD
 rw [Dl.dep]
 omega
theorem can_all:∀{c:List Pc},PyData.canLayAll0 (c.map pP)=true→∀p∈c,PyData.strOk p.2=true
 | q::c,h,p,hp=>by
  have h3:((true&&(PyData.strOk q.2&&true))&&PyData.canLayAll0 (c.map pP))=true:=h
  rw [Bool.and_eq_true] at h3
  rcases List.mem_cons.mp hp with z | z
  ·rw [z]
   simpa using h3.1
  ·exact can_all h3.2 p z
theorem Rp.ct {c:List Pc}{v:V}{B:List Addr}(r:Rp K C H (Dl.ctD c) v B):(∃b,v=.ref b)∧Dn K H v (cP c)∧∀p∈c,PyData.strOk p.2=true:=by
 obtain ⟨h1,h2,_⟩:=r.dn (n:=50) (Nat.le_trans (dep_ct c) (by decide)) (by decide)
 have e:toPy (Dl.ctD c)=cP c:=by
  show PyData.list (toPyA _)=PyData.list _
  rw [toPy_ct]
 rw [e] at h1 h2
 refine ⟨?_,h1,fun p hp=>?_⟩
 ·obtain ⟨a,xs,B,rfl,_⟩:=r
  exact ⟨a,rfl⟩
 ·exact can_all h2 p hp
theorem RpA.cts:∀{cs:List (List Pc)} {xs:List V} {B:List Addr},RpA K C H (cs.map Dl.ctD) xs B→∃L:List (Addr×List Pc),xs=L.map (fun x=>V.ref x.1)∧cs=L.map (·.2)∧∀x∈L,∃Bi,Rp K C H (Dl.ctD x.2) (.ref x.1) Bi∧∀b∈Bi,b∈B
 | [],xs,B,r=>⟨[],r.1,rfl,fun _ h=>nomatch h⟩
 | c::cs,xs,B,r=>by
  obtain ⟨x,l,B1,B2,rfl,h1,h2,rfl⟩:=r
  obtain ⟨⟨b,rfl⟩,_⟩:=Rp.ct h1
  obtain ⟨L,rfl,e2,h3⟩:=RpA.cts h2
  refine ⟨(b,c)::L,rfl,by rw [e2];rfl,fun x hx=>?_⟩
  rcases List.mem_cons.mp hx with z | z
  ·subst z
   exact ⟨B1,h1,fun b hb=>List.mem_append_left _ hb⟩
  ·obtain ⟨Bi,q1,q2⟩:=h3 x z
   exact ⟨Bi,q1,fun b hb=>List.mem_append_right _ (q2 b hb)⟩
theorem RpA.pick {B:List Addr}:∀{L:List (Addr×List Pc)},(∀x∈L,∃Bi,Rp K C H (Dl.ctD x.2) (.ref x.1) Bi∧∀b∈Bi,b∈B)→∃B2,RpA K C H ((L.map (·.2)).map Dl.ctD) (L.map fun x=>V.ref x.1) B2∧∀b∈B2,b∈B
 | [],_=>⟨[],⟨rfl,rfl⟩,fun _ h=>nomatch h⟩
 | x::L,h=>by
  obtain ⟨B1,q1,q2⟩:=h x (.head _)
  obtain ⟨B2,q3,q4⟩:=RpA.pick (L:=L) fun y hy=>h y (.tail _ hy)
  exact ⟨B1++B2,⟨_,_,B1,B2,rfl,q1,q3,rfl⟩,fun b hb=>(List.mem_append.mp hb).elim (q2 b) (q4 b)⟩
end
noncomputable def rSortC (K:PySem.W.Frag):List V→Hp→VK→Prop:=fun vs H Q=>∃(a:Addr) (L:List (Addr×List Pc)),vs=[.ref a]∧SqL K H a (L.map fun x=>V.ref x.1)∧(∀x∈L,Dn K H (.ref x.1) (cP x.2)∧∀p∈x.2,PyData.strOk p.2=true)∧L.length≤1000∧
 ∀(L':List (Addr×List Pc)) (r:Addr),L'.Perm L→(L'.map (·.2)).Pairwise (fun x y=>ctLt y x=false)→H r=none→Q (.ref r) (upd H r (.lst (L'.map fun x=>V.ref x.1)))
theorem vals_refs:∀{bs:List Addr} {its:List Value},Vals (bs.map V.ref) its→its=bs.map Value.ref
 | [],_,.nil=>rfl
 | b::bs,_,.cons r rs=>by
  rw [show _=Value.ref b from r,vals_refs rs]
  rfl
theorem refs_vals:∀(bs:List Addr),Vals (bs.map V.ref) (bs.map Value.ref)
 | []=>.nil
 | b::bs=>.cons rfl (refs_vals bs)
noncomputable def adr:Value→Addr
 | .ref a=>a
 | _=>0
section
variable {X:Cx}
theorem Zgk (hu:X.A.units+64<cLine):CallR X (.builtin "sorted") (rSortC X.K):=by
 intro pins s σ H xs us Q I r h
 obtain ⟨a,L,rfl,hq,hL,hl,q⟩:=h
 obtain ⟨u,rfl,rx⟩:=vals1 r
 cases rx
 obtain ⟨its,rv,p,hz⟩:=I.list hq
 have rv':Vals ((L.map (·.1)).map V.ref) its:=by rw [List.map_map];exact rv
 have ei:=vals_refs rv'
 have rd:∀x∈L,∃as,Reads s.heap (.ref x.1) (cP x.2) as:=fun x hx=>(hL x hx).1.reads I rfl
 have hI:∀v∈its,IsCt s.heap v:=fun v hv=>by
  rw [ei,List.map_map] at hv
  obtain ⟨x,hx,rfl⟩:=List.mem_map.mp hv
  obtain ⟨as,ra⟩:=rd x hx
  exact ⟨_,as,ra,(hL x hx).2⟩
 have hlen:its.length≤sizeLine:=by
  rw [ei,List.length_map,List.length_map,sizeLine_eq]
  omega
 refine cut_sorted p.isList hI hlen (by omega) fun out q1 q2=>?_
 obtain ⟨e,he⟩:=sortedAll_at s.heap its out
 have hn:H (s.heap.objs.size+1)=none:=I.hok.fresh (Nat.le_succ _)
 have eo:out.toList=(out.toList.map adr).map Value.ref:=by
  rw [List.map_map]
  conv=>lhs;rw [← List.map_id out.toList]
  refine List.map_congr_left fun v hv=>?_
  have:=q1.mem_iff.mp hv
  rw [ei] at this
  obtain ⟨b,_,rfl⟩:=List.mem_map.mp this
  rfl
 have pb:(out.toList.map adr).Perm (L.map (·.1)):=by
  have:=q1.map adr
  rw [ei,List.map_map,show (adr∘Value.ref)=id from rfl,List.map_id] at this
  exact this
 have cut:∀x∈L,cutOf s.heap (.ref x.1)=x.2:=fun x hx=>by
  obtain ⟨as,ra⟩:=rd x hx
  exact cutOf_eq ra
 have eL:L=(L.map (·.1)).map fun b=>(b,cutOf s.heap (.ref b)):=by
  rw [List.map_map]
  conv=>lhs;rw [← List.map_id L]
  refine List.map_congr_left fun x hx=>?_
  show x=(x.1,cutOf s.heap (.ref x.1))
  rw [cut x hx]
 have pL:((out.toList.map adr).map fun b=>(b,cutOf s.heap (.ref b))).Perm L:=by
  conv=>rhs;rw [eL]
  exact pb.map _
 have hs:(((out.toList.map adr).map fun b=>(b,cutOf s.heap (.ref b))).map (·.2)).Pairwise (fun x y=>ctLt y x=false):=by
  rw [eo,List.map_map] at q2
  rw [List.map_map]
  exact q2
 have hv:Vals ((((out.toList.map adr).map fun b=>(b,cutOf s.heap (.ref b))).map fun x=>V.ref x.1)) out.toList:=by
  rw [List.map_map,eo]
  have:=refs_vals (out.toList.map adr)
  rw [show (List.map adr (List.map Value.ref (List.map adr out.toList)))=List.map adr out.toList by rw [List.map_map,show (adr∘Value.ref)=id from rfl,List.map_id]]
  exact this
 have hv2:=hv.length
 have I2:=I.laid (t':=s.toks) (o:=.lst ((((out.toList.map adr).map fun b=>(b,cutOf s.heap (.ref b))).map fun x=>V.ref x.1))) (h':=sortedAll s.heap its out) (fun b o q=>sortedAll_old q) (Nat.le_succ _) ⟨by rw [List.length_map,pL.length_eq];exact Nat.le_trans hl (by decide),out.toList,e,hv,by simpa [seqObj] using he⟩
 exact ⟨.ref (s.heap.objs.size+1),_,I2,rfl,q _ _ pL hs hn⟩
end
section
variable {K:PySem.W.Frag}{C:String→Addr}{E:XK}{Γ Δ Γl Δl:List Nat}{m m1 m2 m3 mr:Nat}{S S1 S2 S3:List (Nat×Bool)}{H:Hp}
theorem eok_sortC {te:TE}{fe:FE}(he:EOk K C E Γ Δ m S te fe):EOk K C E Γ Δ 1 S (tCB (rSortC K) (tCons te tNil)) (Dl.fA Dl.gSortC (Dl.aCons fe Dl.aNil)):=fun H0 Hb H σ ρ A Q I p =>
  he H0 Hb H σ ρ A _ I (by
    have p':=Post.bind (Post.bind p)
    refine Post.imp p' (fun d q v H1 g1 r=>?_) fun c x q H' g'=>q H' g'
    have q:Post (Dl.oR (Dl.gSortC [d])) (fun d=>∀v H',Same H H'→Res K C 1 S H A d v H'→Q v H') (fun c x=>∀H',Same H H'→EC C E c x H'):=q
    obtain ⟨z,e,q⟩:=oR_ok q
    obtain ⟨B,r,r',_⟩:=r
    show rSortC K [v] H1 Q
    cases d with
    | lst ds =>
      obtain ⟨cs,h1,h2⟩:=Option.bind_eq_some_iff.mp (show ((Dl.ctsOf ds).bind fun cs=>if cs.length≤1000 then some (D.lst ((Dl.sortC cs).map Dl.ctD)) else none)=some z from e)
      split at h2
      · rename_i hlen
        cases h2
        rw [ctsOf_eq h1] at r
        obtain ⟨a,xs,B',rfl,e2,e3,e4⟩:=r
        subst e4
        obtain ⟨L,rfl,ec,hL⟩:=RpA.cts e3
        refine ⟨a,L,rfl,SqL.of e2,fun x hx=>?_,by rw [ec,List.length_map] at hlen;exact hlen,fun L' l pL hs hl=>?_⟩
        · obtain ⟨Bi,q1,_⟩:=hL x hx
          exact (Rp.ct q1).2
        · have g2:=sameNew hl (.lst (L'.map fun x=>V.ref x.1))
          have es:Dl.sortC cs=L'.map (·.2):=sortC_eq (by rw [ec];exact pL.map _) hs
          obtain ⟨B2,q1,q2⟩:=RpA.pick (L:=L') fun x hx=>hL x (pL.mem_iff.mp hx)
          rw [es] at q
          refine q _ _ (g1.trans g2) ⟨l::B2,⟨l,_,B2,rfl,Zay,q1.same g2,rfl⟩,fun b hb=>?_,fun _ b r e=>?_,(fun z=>nomatch z)⟩
          · rcases List.mem_cons.mp hb with z | z
            · rw [z];exact .inl (g1.free hl)
            · exact r' b (.tail _ (q2 b z))
          · cases e
            refine ⟨g1.free hl,fun h=>?_⟩
            obtain ⟨ys,w,_⟩:=q1.isl l h
            rw [w] at hl
            cases hl
      · cases h2
    | _=>cases e)
end
section
variable {X:Cx}{C:String→Addr}{E:XK}{Γ Δ Γ' Δ' Γl Δl:List Nat}{m m1 m2 m3 mr:Nat}{S S1 S2 S3:List (Nat×Bool)}{a b c e o kx:Expr}{ta tb tc te tk:TE}{fa fb fc fe fk:FE}{p p1 p2 pos apos cpos:Pos}
theorem ce_sortC (K:PySem.W.Frag)(hu:X.A.units+64<cLine)(hg:Gl X "sorted")(hm:X.mg "sorted"=none)(he:JE X C E Γ Δ m S e te fe)(hse:starEach [e] X.env=(false,eval e X.env)::starEach [] X.env)(hpl:autoParam ((backTo pos (starEach ([]:List Expr) X.env)).any (·.1)=false) aT2._auto_1)(hK:autoParam (X.K=K) aT2._auto_1) :
  JE X C E Γ Δ 1 S (.Call (.Name "sorted" p) [e] [] pos) (tCB (rSortC K) (tCons te tNil)) (Dl.fA Dl.gSortC (Dl.aCons fe Dl.aNil)):=by
 subst hK
 exact ⟨qe_callB (Zgk hu) hg hm PyProof.Rows.boot_sorted (qa_cons he.q qa_nil hse) (by decide) (by decide) hse hpl,eok_sortC he.o⟩
theorem cs_pathX {i:Nat}{x:Str}(hk:JE X C E Γ Δ m1 S1 kx tk fk)(hs:PlainIx kx)(he:JE X C E Γ Δ 2 [] e te fe)(hse:starEach [e] X.env=(false,eval e X.env)::starEach [] X.env)(hi:autoParam (i∈Δ) aT1._auto_1)(hN:autoParam (X.N[i]?=some x) aT2._auto_1)(hv:autoParam (Vis X.env.scope x) aT3._auto_1)(hd:autoParam ((x==("__debug__":Str))=false) aT1._auto_1)(hcd:autoParam ((x==("__classdict__":Str))=false) aT1._auto_1)
  (hbase:autoParam (attributeBase (.Subscript (.Name x p) kx p1) "extend" X.env (eval (.Subscript (.Name x p) kx p1) X.env)=eval (.Subscript (.Name x p) kx p1) X.env) aT2._auto_1)
  (hfew:autoParam (((backTo cpos (starEach [e] X.env)).all (fun x=>!x.1)&&(backToKw cpos (keywordEach [] X.env)).all (fun x=>x.1.isSome)&&decide (([e]:List Expr).length+([]:List Keyword).length+(if ([]:List Keyword).isEmpty then 0 else 1)<30))=true) aT2._auto_1)
  (hline:autoParam ((apos.endLine==cpos.line)=true) aT2._auto_1) (hplain:autoParam ((backTo cpos (starEach ([]:List Expr) X.env)).any (·.1)=false) aT2._auto_1) (hsw:autoParam (swapsWith (.Call (.Attribute (.Subscript (.Name x p) kx p1) "extend" apos) [e] [] cpos) none pos.line X.env=pure false) aT2._auto_1) :
  JS X C E mr Γl Δl Γ Δ Γ Δ (.Expr (.Call (.Attribute (.Subscript (.Name x p) kx p1) "extend" apos) [e] [] cpos) pos) (tDrop (tBM X.K "list" rExtend (tOp (rIx X.K) (tVar i) tk) (tCons te tNil))) (Dl.sPathX i fk fe) :=
 ⟨qs_expr (qe_bm PySem.F.plainAttrs_list PySem.F.slot_list_extend PySem.F.type_list_extend mt_extend (qe_ix ix_seq (qv i hN hv hd hcd) hk.q hs) (qa_cons he.q qa_nil hse) hbase hfew hline hse hplain) hsw,sok_pathX hi hk.o he.o⟩
end
end L2
namespace L2
open PySem PySem.Spec PyProof.Rows
open Dl (D R FE FT FA FO FS FI FB Fl)
structure RoomH (k:Nat)(A:Around):Prop where
 dp:A.depth+3*k+5<recursionLimit
 un:A.units+16*k+200<cLine
theorem Room.mark {k:Nat}{A:Around}(r:Room k A)(v:Option Value):RoomH k (A.mark v):=⟨r.dp,r.un⟩
theorem RoomH.depth {k:Nat}{A:Around}(r:RoomH k A):A.depth<recursionLimit:=by have:=r.dp;omega
theorem RoomH.units {k:Nat}{A:Around}(r:RoomH k A):A.units+64<cLine:=by have:=r.un;omega
theorem RoomH.deeper {k:Nat}{A:Around}(r:RoomH (k+1) A)(env:Env):RoomH k (A.deeper env) :=
 ⟨by have:=r.dp;show A.depth+1+3*k+5<_;omega,by have:=r.un;show A.units+3+16*k+200<_;omega⟩
structure FnOkH (P:Program)(w:World)(K:PySem.W.Frag)(mg:Str→Option Value)(base:Heap)(k:Nat)(f:Addr)(fd:FuncData)(ps:List Str)(sp:Sp):Prop where
 len:∀vs H Q E,sp vs H Q E→vs.length=ps.length
 run:∀(A:Around) (outer:List Env) (s:Shared) (H:Hp) (args:Args) (us:List Value) (vs:List V) (Q:VK) (E:XK),RoomH k A→Env0 P w K mg base A outer s H→BindsTo s fd args (ps.zip us)→Vals vs us→sp vs H Q E→
  codeAny (model P w) A (.call (.ref f) args) (CR CX0 outer P w H s Q E) s
structure DefH (P:Program)(w:World)(K:PySem.W.Frag)(mg:Str→Option Value)(base:Heap)(k:Nat)(x:Str)(ps:List Str)(sp:Sp):Prop where
 ex:∃f fd,mg x=some (.ref f)∧PySem.W.keepIn K (.ref f)=true∧Binds K fd ps []∧FnOkH P w K mg base k f fd ps sp
noncomputable abbrev Cx.wild (X:Cx):Cx:={ X with calm:=false,xe:=fun _ _=>False }
theorem inv_startH {P:Program}{w:World}{K:PySem.W.Frag}{mg:Str→Option Value}{base:Heap}{N ps:List Str}{qual:Str}{scope:Scope}{f:Addr}{cd:Value}{A:Around}{outer:List Env}{s s1:Shared}{H:Hp}{E:XK}{us:List Value}{vs:List V}
    (S:FnScope N ps scope) (e0:Env0 P w K mg base A outer s H) (hl:vs.length=ps.length) (r:Vals vs us)
    (x:InCallC s s.heap.objs.size (bindL (envOfC qual scope s.heap.objs.size f cd).kindOf (ps.zip us) fun _=>none) (cellsFrom (s.heap.objs.size+1) scope.names []) (bindC (envOfC qual scope s.heap.objs.size f cd).kindOf (ps.zip us) fun _=>none) s1) :
    Inv (cxOf CX0 P w K mg base N qual scope f cd A outer s H E).wild [] (start N vs) H s1:=by
  have e1:Env0 P w K mg base { A with handled:=none } outer s H:=⟨e0.frames,e0.mod,e0.bs,e0.bsz,e0.funs,e0.frf,e0.hok,e0.bare⟩
  have I:Inv (cxOf CX0 P w K mg base N qual scope f cd { A with handled:=none } outer s H E) [] (start N vs) H s1:=inv_start S rfl e1 hl r x
  exact ⟨⟨I.ok.mod,I.ok.kind,I.ok.glob,I.ok.blt,I.ok.above,I.ok.inj,I.ok.has,I.ok.cab,(fun z=>by cases z),I.ok.frames,I.ok.stk,I.ok.exf,I.ok.bs,I.ok.bsz,I.ok.noex,I.ok.exfs,I.ok.funs,I.ok.frf⟩,
    I.os,I.bare,I.base,I.loc,I.cell,I.free,I.freeC,I.pin,I.hok,I.len⟩
theorem Fun.okH {P:Program}{w:World}{K:PySem.W.Frag}{C:String→Addr}{mg:Str→Option Value}{base:Heap}{x qual:Str}{st:Stmt}{f:Addr}{fd:FuncData}{N ps:List Str}{k n mr:Nat}{Γ' Δ':List Nat}{g:FS}(F:Fun K x qual st f fd)(S:FnScope N ps (defScope st))(hn:ps.length=n)
    (hbody:∀(cdv:Value) (A:Around) (outer:List Env) (s:Shared) (H:Hp) (E:XK),RoomH k (A.deeper (envOfC qual (defScope st) s.heap.objs.size f cdv))→
      ∃t,JSs (cxOf CX0 P w K mg base N qual (defScope st) f cdv A outer s H E).wild C E0 mr [] [] [] [] Γ' Δ' (defBody st) t g):FnOkH P w K mg base (k+1) f fd ps (spD K C n mr fun ds=>(Dl.run N.length g ds).calm):=by
  have len:∀vs H Q E,spD K C n mr (fun ds=>(Dl.run N.length g ds).calm) vs H Q E→vs.length=ps.length:=fun vs H Q E h=>by
    obtain ⟨ds,B,h1,h2,_⟩:=h
    rw [h2.len,h1,hn]
  obtain ⟨oc,od,kV,doc,pm,an,cdv,ct,osl,rfl,lk,hcd⟩:=F.ex
  refine ⟨len,fun A outer s H args us vs Q E hr e0 hb r hsp=>?_⟩
  have hl:=len _ _ _ _ hsp
  have KX:K.In s.heap:=e0.mod.kin.keeps fun b o e=>(e0.bs b o e).1
  have lim:s.heap.NoLimit:=e0.mod.nolimit.keeps fun b o e=>(e0.bs b o e).1
  have hkind:∀y∈ps.zip us,(defScope st).names.lookup y.1=some .local∨((defScope st).names.lookup y.1=some .cell∧((cellsFrom (s.heap.objs.size+1) (defScope st).names []).lookup y.1).isSome=true):=fun ⟨n,v⟩ hy=>by
    rcases S.par n (List.of_mem_zip hy).1 with q | q
    · exact .inl q
    · exact .inr ⟨q,PySem.W.cellsFrom_some _ _ _ (.inl q)⟩
  refine codeAny_call_function hr.depth (KX _ _ lk) rfl S.co S.gen rfl (PySem.W.codeRec_of KX hcd) (hb _ _ _ _ ?_)
  refine wpAny_newFunctionEnv_cells S.kind hkind fun env he s1 x=>?_
  subst he
  refine ⟨lim.keeps x.toInCall.keep,codeAny_func ?_⟩
  obtain ⟨ds,B,h1,h2,h3⟩:=hsp
  obtain ⟨t,ht⟩:=hbody cdv A outer s H E (hr.deeper _)
  have hq:=run_post (K:=K) ht.o h2 (Post.imp (calm_of h3) (fun _ q=>q) fun _ _ z=>z.elim)
  have I:=inv_startH (E:=E) S e0 hl r x
  refine wpAny_mono (ht.q.out [] s1 (start N vs) H _ I hq) (fun fl s' hs=>?_) fun e s' hs=>False.elim hs
  have fin:∀{σ':St} {H':Hp} {v:V} {u:Value},Inv (cxOf CX0 P w K mg base N qual (defScope st) f cdv A outer s H E).wild [] σ' H' s'→RelV v u→Q v H'→CE outer P w H s Q u s' :=
    fun {σ' H' v u} J rv q=>⟨v,H',J.os,J.bare,J.base,J.hok,rv,q⟩
  cases fl with
  | ret u =>
    obtain ⟨v,σ',H',J,rv,q⟩:=hs
    exact fin J rv q
  | next =>
    obtain ⟨σ',H',J,q⟩:=hs
    exact fin (v:=V.non) (u:=Value.none) J rfl q
  | brk =>
    obtain ⟨_,_,_,q⟩:=hs
    exact False.elim q
  | cont =>
    obtain ⟨_,_,_,q⟩:=hs
    exact False.elim q
section
variable {X:Cx}{C:String→Addr}{E:XK}{Γ Δ:List Nat}{m n mr k:Nat}{S:List (Nat×Bool)}{x:Str}{p pos:Pos}{e:Expr}{es:List Expr}{t:TA}
theorem ce_callH {K:PySem.W.Frag}{ps:List Str}{F:List D→R D}{f:FA}(Df:DefH X.prog X.w X.K X.mg X.base k x ps (spD K C n mr F))(hr:RoomH k X.A)(hg:Gl X x)(hx:Passes CX0 X E)
  (ha:JA X C E Γ Δ m S (e::es) n t f) (hdb:autoParam ((x==("__debug__":Str))=false) aT1._auto_1) (he:autoParam (starEach (e::es) X.env=(false,eval e X.env)::starEach es X.env) aT2._auto_1) (hpl:autoParam ((backTo pos (starEach es X.env)).any (·.1)=false) aT2._auto_1) (hK:autoParam (X.K=K) aT2._auto_1) :
  JE X C E Γ Δ mr [] (.Call (.Name x p) (e::es) [] pos) (tCall (spD K C n mr F) [] E t) (Dl.fCall F f):=by
 subst hK
 refine ⟨⟨?_⟩,Zhd ha.o ha.n⟩
 obtain ⟨fa,fd,hm,hk,hb,FF⟩:=Df.ex
 intro pins s σ H Q I h
 refine wpAny_Call_Name_kw (ld_glob I hg hm ?_ hdb)
 refine PySem.W.callWith_K (h₀:=X.base) I.ok.mod.kin hk (thn (ha.q.out pos pins s σ H _ I h) fun us s1 ⟨vs,H1,I1,r,q⟩=>⟨I1.kIn,?_⟩) he hpl
 have r2:Vals (vs++[]) (us++[]):=r.append .nil
 have hl:(us++([]:List Value)).length=ps.length:=by rw [← r2.length];exact FF.len _ _ _ _ q
 refine wpAny_call (codeAny_mono (FF.run X.A X.stack s1 H1 ⟨us,[]⟩ (us++[]) (vs++[]) Q E hr I1.env0 (hb s1 us I1.kIn hl) r2 q) fun r s' hq=>?_)
 cases r with
 | error e=>exact hx pins σ H1 s1 e s' I1 hq
 | ok fl =>
  cases fl with
  | ret u=>exact I1.after hq
  | next=>exact False.elim hq
  | brk=>exact False.elim hq
  | cont=>exact False.elim hq
end
end L2
namespace Dl
open PySem
noncomputable def Zhe:FS :=
  (sSeq (sIf (cOr (cE (f2 gLt (fV 1) (fC (.int 0)))) (cOr (cE (f2 gGt (fV 2) (fA gLen (aCons (fV 0) aNil)))) (cE (f2 gGt (fV 1) (fV 2))))) sNever sNx)
    (sRet (fA gSum (aCons (fSl gSl (fV 0) (oSome (fV 1)) (oSome (fV 2))) aNil))))
noncomputable def Zdw (ds:List D):R D:=(run 3 Zhe ds).calm
noncomputable def Zec:FS :=
 (sSet 2 (f2 gMod (f2 gAdd (f2 gAdd (f2 gMul (fV 2) (fC (.int 48271))) (f2 gMod (fV 3) (fC (.int 1000003)))) (fC (.int 1))) (fC (.int 2147483647))))
noncomputable def Zhc:FS :=
  (sSeq (sIf (cE (f2 gLt (fV 1) (fA gLen (aCons (fV 0) aNil)))) (sRet (f1 gFlat (f2 gIx (fV 0) (fV 1)))) sNx)
    (sSeq (sSet 2 (fC (.int 5)))
    (sSeq (sFor (jList (fSl gSl (fV 0) oNone (oSome (fC (.int 63))))) (bName 3) Zec)
    (sRet (f2 gMod (f2 gAdd (fV 2) (f2 gMul (fC (.int 7919)) (fV 1))) (fC (.int 1000003)))))))
noncomputable def Zci (ds:List D):R D:=(run 4 Zhc ds).calm
noncomputable def Zhv:FS :=
  (sSeq (sSet 2 (f2 gMod (f2 gPow (f2 gAdd (f2 gAdd (f2 gMod (fV 0) (fC (.int 2147483629))) (f2 gMul (fC (.int 1013)) (fV 1))) (fC (.int 7919))) (fC (.int 3))) (fC (.int 2147483647))))
    (sSeq (sSet 3 (f2 gMod (f2 gAdd (f2 gAdd (f2 gMul (fV 2) (fC (.int 40699))) (f2 gMul (f2 gMul (fC (.int 3793)) (fV 1)) (fV 1))) (fC (.int 11))) (fC (.int 2147483399))))
    (sRet (f2 gDiv (fV 3) (fC (.int 101))))))
noncomputable def Zcu (ds:List D):R D:=(run 4 Zhv ds).calm
noncomputable def Zfk:FS :=
 (sRet (fAnd (f1 (gIsI "int") (fV 0)) (f1 gNot (f1 (gIsI "bool") (fV 0)))))
noncomputable def Zbl (ds:List D):R D:=(run 1 Zfk ds).calm
noncomputable def Zdl:FS :=
 (sApp 1 (f2 gAdd (f2 gIx (fV 1) (f1 gNeg (fC (.int 1)))) (fV 2)))
noncomputable def Zfi:FS :=
  (sSeq (sSet 1 (fA gLst (aCons (fC (.int 0)) aNil)))
    (sSeq (sFor (jList (fV 0)) (bName 2) Zdl)
    (sRet (fV 1))))
noncomputable def Zbs (ds:List D):R D:=(run 3 Zfi ds).calm
noncomputable def Zgu:FS :=
  (sSeq (sSet 3 (f2 gAdd (fV 2) (f2 gIx (fV 1) (fC (.int 1)))))
    (sSeq (sIf (cOr (cE (f2 gLt (fV 2) (fC (.int 0)))) (cE (f2 gGe (fV 3) (fA gLen (aCons (fV 0) aNil))))) (sRet (fC (.bl false))) sNx)
    (sRet (f2 gLe (f2 gSub (f2 gIx (fV 0) (fV 3)) (f2 gIx (fV 0) (fV 2))) (f2 gIx (fV 1) (fC (.int 3)))))))
noncomputable def Zcc (ds:List D):R D:=(run 4 Zgu ds).calm
noncomputable def q_fits:FS :=
  (sSeq (sSet 3 (f2 gAdd (fV 2) (f2 gIx (fV 1) (fC (.int 1)))))
    (sSeq (sIf (cOr (cE (f2 gLt (fV 2) (fC (.int 0)))) (cE (f2 gGt (fV 3) (fA gLen (aCons (fV 0) aNil))))) (sRet (fC (.bl false))) sNx)
    (sRet (f2 gLe (fCall Zdw (aCons (fV 0) (aCons (fV 2) (aCons (fV 3) aNil)))) (f2 gIx (fV 1) (fC (.int 3)))))))
noncomputable def Zfr (ds:List D):R D:=(run 4 q_fits ds).calm
noncomputable def Zet:FS :=
  (sIf (cE (f2 gLt (fV 3) (f2 gPow (fC (.int 10)) (fC (.int 18))))) (sApp 5 (f2 gMod (fCall Zcu (aCons (fV 3) (aCons (fV 6) aNil))) (f2 gIx (fV 2) (fV 6)))) (sIf (cE (f2 gGt (fV 4) (fC (.int 0)))) (sSeq (sApp 5 (f2 gMod (fV 4) (f2 gIx (fV 2) (fV 6))))
    (sSet 4 (f2 gDiv (fV 4) (f2 gIx (fV 2) (fV 6))))) (sSeq (sSet 7 (fCall Zci (aCons (fV 0) (aCons (f2 gMod (f2 gAdd (f2 gAdd (fV 1) (fC (.int 1))) (fV 6)) (fC (.int 63))) aNil))))
    (sApp 5 (f2 gMod (fCall Zcu (aCons (fV 7) (aCons (fV 6) aNil))) (f2 gIx (fV 2) (fV 6)))))))
noncomputable def Zhs:FS :=
  (sSeq (sSet 3 (fCall Zci (aCons (fV 0) (aCons (fV 1) aNil))))
    (sSeq (sSet 4 (f1 gFlat (fV 3)))
    (sSeq (sSet 5 (fA gLst aNil))
    (sSeq (sFor (jRng1 (aCons (fA gLen (aCons (fV 2) aNil)) aNil)) (bName 6) Zet)
    (sRet (fV 5))))))
noncomputable def Zbg (ds:List D):R D:=(run 8 Zhs ds).calm
noncomputable def Zdo:FS :=
  (sSeq (sSet 7 (f2 gSub (fV 4) (f2 gIx (fV 6) (fC (.int 1)))))
    (sIf (cE (fCall Zcc (aCons (fV 2) (aCons (fV 6) (aCons (fV 7) aNil))))) (sSet 5 (fA gMax (aCons (fV 5) (aCons (f2 gAdd (f2 gIx (fV 3) (fV 7)) (f2 gIx (fV 6) (fC (.int 2)))) aNil)))) sNx))
noncomputable def Zdm:FS :=
  (sSeq (sSet 5 (f1 gFlat (f2 gIx (fV 3) (f1 gNeg (fC (.int 1))))))
    (sSeq (sFor (jList (fV 1)) (bName 6) Zdo)
    (sApp 3 (f1 gFlat (fV 5)))))
noncomputable def Zfq:FS :=
  (sSeq (sSet 2 (fCall Zbs (aCons (fV 0) aNil)))
    (sSeq (sSet 3 (fA gLst (aCons (fC (.int 0)) aNil)))
    (sSeq (sFor (jRng2 (aCons (fC (.int 1)) (aCons (fA gLen (aCons (fV 2) aNil)) aNil))) (bName 4) Zdm)
    (sRet (fV 3)))))
noncomputable def Zbx (ds:List D):R D:=(run 8 Zfq ds).calm
noncomputable def Zhg:FS :=
 (sRet (fComp 3 1 (jList (fV 1)) (bName 3) (cE (fCall Zfr (aCons (fV 0) (aCons (fV 3) (aCons (f2 gSub (fV 2) (f2 gIx (fV 3) (fC (.int 1)))) aNil))))) (f1 gFlat (fV 3))))
noncomputable def Zck (ds:List D):R D:=(run 3 Zhg ds).calm
noncomputable def Zdd:FS :=
  (sSeq (sSet 9 (f2 gAdd (f2 gMul (fC (.int 3)) (fV 8)) (fC (.int 6))))
    (sSeq (sSet 10 (f1 gFlat (f2 gIx (fA gLst (aCons (fC (.int 1)) (aCons (fC (.int 2)) (aCons (fC (.int 3)) (aCons (fC (.int 4)) (aCons (fC (.int 5)) (aCons (fC (.int 6)) (aCons (fC (.int 2)) (aCons (fC (.int 3)) (aCons (fC (.int 11)) (aCons (fC (.int 40)) (aCons (f2 gIx (fA gLst (aCons (fC (.int 150)) (aCons (fC (.int 200)) aNil))) (f2 gMod (fV 8) (fC (.int 2)))) aNil)))))))))))) (f2 gIx (fV 4) (fV 9)))))
    (sSeq (sSet 11 (f2 gAdd (fC (.int 1)) (f2 gIx (fV 4) (f2 gAdd (fV 9) (fC (.int 1))))))
    (sSeq (sIf (cE (f2 gEq (f2 gIx (fV 4) (fC (.int 3))) (fC (.int 1)))) (sSet 11 (f2 gAdd (f2 gMul (fC (.int 3)) (fV 10)) (f2 gMod (f2 gIx (fV 4) (f2 gAdd (fV 9) (fC (.int 1)))) (fC (.int 4))))) sNx)
    (sSeq (sIf (cE (f2 gEq (f2 gIx (fV 4) (fC (.int 3))) (fC (.int 2)))) (sSet 11 (f2 gAdd (fC (.int 1)) (f2 gMod (f2 gIx (fV 4) (f2 gAdd (fV 9) (fC (.int 1)))) (fC (.int 3))))) sNx)
    (sSeq (sIf (cE (f2 gEq (f2 gIx (fV 4) (fC (.int 3))) (fC (.int 3)))) (sSet 11 (f1 gFlat (fV 10))) sNx)
    (sSeq (sSet 12 (fA gMin (aCons (f2 gMul (f2 gIx (fA gLst (aCons (fC (.int 0)) (aCons (fC (.int 0)) (aCons (fC (.int 1)) (aCons (fC (.int 2)) (aCons (fC (.int 3)) (aCons (fC (.int 12)) aNil))))))) (f2 gIx (fV 4) (f2 gAdd (fV 9) (fC (.int 2))))) (fV 5)) (aCons (f2 gSub (f2 gPow (fC (.int 10)) (fC (.int 18))) (fC (.int 1))) aNil))))
    (sSeq (sSet 13 (f1 gFlat (f2 gIx (fV 3) (f2 gMod (f2 gAdd (f2 gIx (fV 4) (fC (.int 4))) (f2 gMul (f2 gAdd (f2 gMul (fC (.int 2)) (f2 gIx (fV 4) (fC (.int 5)))) (fC (.int 1))) (fV 8))) (fC (.int 16))))))
    (sApp 7 (fA gTup (aCons (f1 gFlat (fV 13)) (aCons (f1 gFlat (fV 10)) (aCons (fA gMin (aCons (f2 gMul (fV 11) (fV 6)) (aCons (f2 gPow (fC (.int 10)) (fC (.int 18))) aNil))) (aCons (f1 gFlat (fV 12)) aNil))))))))))))))
noncomputable def Zgq:FS :=
  (sSeq (sSet 3 (fA gLst (aCons (fC (.str ("a":Str))) (aCons (fC (.str ("ab":Str))) (aCons (fC (.str ("abc":Str))) (aCons (fC (.str ("b":Str))) (aCons (fC (.str ("ba":Str))) (aCons (fC (.str ("z":Str))) (aCons (fC (.str ("zzzzzzzz":Str))) (aCons (fC (.str ("roll":Str))) (aCons (fC (.str ("cut":Str))) (aCons (fC (.str ("by":Str))) aNil))))))))))))
    (sSeq (sSet 3 (f2 gAdd (fV 3) (fA gLst (aCons (fC (.str ("aab":Str))) (aCons (fC (.str ("zz":Str))) (aCons (fC (.str ("kind":Str))) (aCons (fC (.str ("qsvw":Str))) (aCons (fC (.str ("fghjmp":Str))) (aCons (fC (.str ("x":Str))) aNil)))))))))
    (sSeq (sSet 4 (fCall Zbg (aCons (fV 0) (aCons (fV 1) (aCons (f2 gAdd (fA gLst (aCons (f2 gAdd (fV 2) (fC (.int 1))) (aCons (fC (.int 4)) (aCons (fC (.int 4)) (aCons (fC (.int 4)) (aCons (fC (.int 16)) (aCons (fC (.int 4)) aNil))))))) (f2 gMul (fA gLst (aCons (fC (.int 11)) (aCons (fC (.int 40)) (aCons (fC (.int 6)) aNil)))) (fV 2))) aNil)))))
    (sSeq (sSet 5 (f1 gFlat (f2 gIx (fA gLst (aCons (fC (.int 1)) (aCons (fC (.int 1)) (aCons (fC (.int 7)) (aCons (f2 gPow (fC (.int 10)) (fC (.int 17))) aNil))))) (f2 gIx (fV 4) (fC (.int 1))))))
    (sSeq (sSet 6 (f1 gFlat (f2 gIx (fA gLst (aCons (fC (.int 1)) (aCons (fC (.int 1)) (aCons (f2 gPow (fC (.int 10)) (fC (.int 6))) (aCons (f2 gMul (fC (.int 25)) (f2 gPow (fC (.int 10)) (fC (.int 15)))) aNil))))) (f2 gIx (fV 4) (fC (.int 2))))))
    (sSeq (sSet 7 (fA gLst aNil))
    (sSeq (sFor (jRng1 (aCons (f2 gIx (fV 4) (fC (.int 0))) aNil)) (bName 8) Zdd)
    (sRet (fV 7)))))))))
noncomputable def Zcn (ds:List D):R D:=(run 14 Zgq ds).calm
noncomputable def Zgx:FS :=
 (sRet (f1 gFlat (f2 gIx (fA gLst (aCons (fC (.int 1)) (aCons (fC (.int 1)) (aCons (fC (.int 7)) (aCons (f2 gPow (fC (.int 10)) (fC (.int 17))) aNil))))) (f2 gIx (fCall Zbg (aCons (fV 0) (aCons (fV 1) (aCons (fA gLst (aCons (f2 gAdd (fV 2) (fC (.int 1))) (aCons (fC (.int 4)) aNil))) aNil)))) (fC (.int 1))))))
noncomputable def Zda (ds:List D):R D:=(run 3 Zgx ds).calm
noncomputable def Zed:FS :=
  (sSeq (sSet 8 (f2 gAdd (f2 gMul (fC (.int 2)) (fV 7)) (fC (.int 3))))
    (sSeq (sSet 9 (fC (.int 0)))
    (sSeq (sIf (cE (f2 gLt (f2 gIx (fV 4) (fV 8)) (f2 gIx (fA gLst (aCons (fC (.int 0)) (aCons (fC (.int 1)) (aCons (fC (.int 3)) (aCons (fC (.int 6)) aNil))))) (f2 gIx (fV 4) (fC (.int 1)))))) (sSet 9 (f1 gFlat (f2 gIx (fA gLst (aCons (fV 3) (aCons (fV 3) (aCons (f2 gMul (fC (.int 2)) (fV 3)) (aCons (f2 gMul (fC (.int 3)) (fV 3)) (aCons (fV 5) aNil)))))) (f2 gIx (fV 4) (f2 gAdd (fV 8) (fC (.int 1))))))) sNx)
    (sApp 6 (f1 gFlat (fV 9))))))
noncomputable def Zha:FS :=
  (sSeq (sSet 4 (fCall Zbg (aCons (fV 0) (aCons (fV 1) (aCons (f2 gAdd (fA gLst (aCons (f2 gAdd (fV 2) (fC (.int 1))) (aCons (fC (.int 4)) (aCons (fC (.int 3)) aNil)))) (f2 gMul (fA gLst (aCons (fC (.int 8)) (aCons (fC (.int 5)) aNil))) (fV 2))) aNil)))))
    (sSeq (sSet 5 (f2 gMul (fC (.int 9)) (fV 3)))
    (sSeq (sIf (cE (f2 gEq (f2 gIx (fV 4) (fC (.int 2))) (fC (.int 0)))) (sSet 5 (f2 gPow (fC (.int 10)) (fC (.int 18)))) sNx)
    (sSeq (sSet 6 (fA gLst aNil))
    (sSeq (sFor (jRng1 (aCons (f2 gIx (fV 4) (fC (.int 0))) aNil)) (bName 7) Zed)
    (sRet (fV 6)))))))
noncomputable def Zcz (ds:List D):R D:=(run 10 Zha ds).calm
noncomputable def Zcy:FS :=
  (sSeq (sSet 8 (f2 gSub (fV 5) (f2 gIx (fV 7) (fC (.int 1)))))
    (sIf (cAnd (cE (fCall Zcc (aCons (fV 2) (aCons (fV 7) (aCons (fV 8) aNil))))) (cE (f2 gEq (f2 gAdd (f2 gIx (fV 3) (fV 8)) (f2 gIx (fV 7) (fC (.int 2)))) (f2 gIx (fV 3) (fV 5))))) (sSet 6 (f2 gAdd (fV 6) (f2 gIx (fV 4) (fV 8)))) sNx))
noncomputable def Zcb:FS :=
  (sSeq (sSet 6 (fC (.int 0)))
    (sSeq (sIf (cE (f2 gEq (f2 gIx (fV 3) (fV 5)) (f2 gIx (fV 3) (f2 gSub (fV 5) (fC (.int 1)))))) (sSet 6 (f1 gFlat (f2 gIx (fV 4) (f1 gNeg (fC (.int 1)))))) sNx)
    (sSeq (sFor (jList (fV 1)) (bName 7) Zcy)
    (sApp 4 (f1 gFlat (fV 6))))))
noncomputable def Zep:FS :=
  (sSeq (sSet 2 (fCall Zbs (aCons (fV 0) aNil)))
    (sSeq (sSet 3 (fCall Zbx (aCons (fV 0) (aCons (fV 1) aNil))))
    (sSeq (sSet 4 (fA gLst (aCons (fC (.int 1)) aNil)))
    (sSeq (sFor (jRng2 (aCons (fC (.int 1)) (aCons (fA gLen (aCons (fV 2) aNil)) aNil))) (bName 5) Zcb)
    (sRet (f1 gFlat (f2 gIx (fV 4) (f1 gNeg (fC (.int 1))))))))))
noncomputable def Zbk (ds:List D):R D:=(run 9 Zep ds).calm
noncomputable def Zho:FS :=
  (sSeq (sSet 3 (fA gLen (aCons (fV 2) aNil)))
    (sSeq (sSet 4 (fComp 5 1 (jList (fCall Zck (aCons (fV 0) (aCons (fV 1) (aCons (fV 3) aNil))))) (bName 5) cYes (f2 gAdd (f2 gIx (fV 2) (f2 gSub (fV 3) (f2 gIx (fV 5) (fC (.int 1))))) (f2 gIx (fV 5) (fC (.int 2))))))
    (sRet (fA gMax (aCons (f2 gAdd (fA gLst (aCons (f2 gIx (fV 2) (f1 gNeg (fC (.int 1)))) aNil)) (fV 4)) aNil)))))
noncomputable def Zdg (ds:List D):R D:=(run 5 Zho ds).calm
noncomputable def Zby:FS :=
  (sSeq (sSet 6 (f2 gSub (fV 3) (f2 gIx (fV 5) (fC (.int 1)))))
    (sIf (cE (f2 gEq (f2 gAdd (f2 gIx (fV 2) (fV 6)) (f2 gIx (fV 5) (fC (.int 2)))) (f2 gIx (fV 2) (fV 3)))) (sApp 4 (fA gTup (aCons (f1 gFlat (fV 6)) (aCons (fA gLst (aCons (fA gTup (aCons (f1 gFlat (fV 6)) (aCons (f1 gFlat (f2 gIx (fV 5) (fC (.int 0)))) aNil))) aNil)) aNil)))) sNx))
noncomputable def Zga:FS :=
  (sSeq (sSet 4 (fA gLst aNil))
    (sSeq (sIf (cE (f2 gEq (f2 gIx (fV 2) (f2 gSub (fV 3) (fC (.int 1)))) (f2 gIx (fV 2) (fV 3)))) (sApp 4 (fA gTup (aCons (f2 gSub (fV 3) (fC (.int 1))) (aCons (fA gLst aNil) aNil)))) sNx)
    (sSeq (sFor (jList (fCall Zck (aCons (fV 0) (aCons (fV 1) (aCons (fV 3) aNil))))) (bName 5) Zby)
    (sRet (fV 4)))))
noncomputable def Zbt (ds:List D):R D:=(run 7 Zga ds).calm
noncomputable def Zgb:FS :=
  (sSeq (sSet 4 (fCall Zda (aCons (fV 0) (aCons (fV 1) (aCons (fV 3) aNil)))))
    (sRet (fA gTup (aCons (fCall Zcz (aCons (fV 0) (aCons (f2 gAdd (fV 1) (fC (.int 1))) (aCons (fV 2) (aCons (fV 4) aNil))))) (aCons (fCall Zcn (aCons (fV 0) (aCons (fV 1) (aCons (fV 3) aNil)))) aNil)))))
noncomputable def Zcm (ds:List D):R D:=(run 5 Zgb ds).calm
noncomputable def Zfl:FS :=
 (sApp 2 (fCall Zdg (aCons (fV 0) (aCons (fV 1) (aCons (fV 2) aNil)))))
noncomputable def Zgf:FS :=
  (sSeq (sSet 2 (fA gLst (aCons (fC (.int 0)) aNil)))
    (sSeq (sWhile 100000 (cE (f2 gLe (fA gLen (aCons (fV 2) aNil)) (fA gLen (aCons (fV 0) aNil)))) Zfl)
    (sRet (fV 2))))
noncomputable def Zco (ds:List D):R D:=(run 3 Zgf ds).calm
noncomputable def Zcw:FS :=
  (sSeq (sSet 5 (fCall Zbt (aCons (fV 0) (aCons (fV 1) (aCons (fV 2) (aCons (fV 4) aNil))))))
    (sApp 3 (fA gSum (aCons (fComp 6 1 (jList (fV 5)) (bName 6) cYes (f1 gFlat (f2 gIx (fV 3) (f2 gIx (fV 6) (fC (.int 0)))))) aNil))))
noncomputable def Zfw:FS :=
  (sSeq (sSet 2 (fCall Zco (aCons (fV 0) (aCons (fV 1) aNil))))
    (sSeq (sSet 3 (fA gLst (aCons (fC (.int 1)) aNil)))
    (sSeq (sFor (jRng2 (aCons (fC (.int 1)) (aCons (f2 gAdd (fA gLen (aCons (fV 0) aNil)) (fC (.int 1))) aNil))) (bName 4) Zcw)
    (sRet (fV 3)))))
noncomputable def Zcg (ds:List D):R D:=(run 6 Zfw ds).calm
noncomputable def Zgl:FS :=
 (sRet (f1 gFlat (f2 gIx (fCall Zcg (aCons (fV 0) (aCons (fV 1) aNil))) (f1 gNeg (fC (.int 1))))))
noncomputable def Zcd (ds:List D):R D:=(run 2 Zgl ds).calm
end Dl
namespace Dl
open PySem
@[simp] theorem ev_fC (d:D)(ρ:Env):fC d ρ=.ok d:=(rfl)
@[simp] theorem ev_f1 (g:D→Option D)(a:FE)(ρ:Env):f1 g a ρ=(a ρ).bind fun x=>oR (g x):=(rfl)
@[simp] theorem ev_f2 (g:D→D→Option D)(a b:FE)(ρ:Env):f2 g a b ρ=(a ρ).bind fun x=>(b ρ).bind fun y=>oR (g x y):=(rfl)
@[simp] theorem ev_aNil (ρ:Env):aNil ρ=.ok []:=(rfl)
@[simp] theorem ev_aCons (a:FE)(r:FA)(ρ:Env):aCons a r ρ=(a ρ).bind fun x=>(r ρ).bind fun xs=>.ok (x::xs):=(rfl)
@[simp] theorem ev_fA (g:List D→Option D)(a:FA)(ρ:Env):fA g a ρ=(a ρ).bind fun xs=>oR (g xs):=(rfl)
@[simp] theorem ev_fCall (F:List D→R D)(a:FA)(ρ:Env):fCall F a ρ=(a ρ).bind F:=(rfl)
@[simp] theorem ev_fV0 (d:D)(ρ:Env):fV 0 (some d::ρ)=.ok d:=(rfl)
@[simp] theorem ev_fVs (i:Nat)(o:Option D)(ρ:Env):fV (i+1) (o::ρ)=fV i ρ:=by simp [fV]
@[simp] theorem ev_cE (a:FE)(ρ:Env):cE a ρ=(a ρ).bind fun d=>match d with | .bl b=>.ok b | _=>.bad:=(rfl)
@[simp] theorem ev_cNot (a:FT)(ρ:Env):cNot a ρ=(a ρ).bind fun b=>.ok (!b):=(rfl)
@[simp] theorem ev_cAnd (a b:FT)(ρ:Env):cAnd a b ρ=(a ρ).bind fun x=>if x then b ρ else .ok false:=(rfl)
@[simp] theorem ev_cOr (a b:FT)(ρ:Env):cOr a b ρ=(a ρ).bind fun x=>if x then .ok true else b ρ:=(rfl)
@[simp] theorem ev_cYes (ρ:Env):cYes ρ=.ok true:=(rfl)
@[simp] theorem ev_fAnd (a b:FE)(ρ:Env):fAnd a b ρ=(a ρ).bind fun x=>match x with | .bl true=>b ρ | .bl false=>.ok (.bl false) | _=>.bad:=(rfl)
@[simp] theorem ev_fOr (a b:FE)(ρ:Env):fOr a b ρ=(a ρ).bind fun x=>match x with | .bl true=>.ok (.bl true) | .bl false=>b ρ | _=>.bad:=(rfl)
@[simp] theorem ev_fIf (c:FT)(a b:FE)(ρ:Env):fIf c a b ρ=(c ρ).bind fun x=>if x then a ρ else b ρ:=(rfl)
@[simp] theorem ev_fChain (g g':D→D→Option D)(a b c:FE)(ρ:Env):fChain g g' a b c ρ=(a ρ).bind fun x=>(b ρ).bind fun y=>(oR (g x y)).bind fun z=>match z with | .bl true=>(c ρ).bind fun w=>oR (g' y w) | .bl false=>.ok (.bl false) | _=>.bad:=(rfl)
@[simp] theorem ev_fSl (g:D→Option Int→Option Int→Option D)(a:FE)(l h:FO)(ρ:Env):fSl g a l h ρ=(a ρ).bind fun x=>(l ρ).bind fun lo=>(h ρ).bind fun hi=>oR (g x lo hi):=(rfl)
@[simp] theorem ev_oNone (ρ:Env):oNone ρ=.ok none:=(rfl)
@[simp] theorem ev_oSome (a:FE)(ρ:Env):oSome a ρ=(a ρ).bind fun d=>match d with | .int i=>.ok (some i) | _=>.bad:=(rfl)
@[simp] theorem ev_jList (a:FE)(ρ:Env):jList a ρ=(a ρ).bind fun d=>match d with | .lst xs=>if xs.length≤lim then .ok xs else .bad | .scr ns=>if ns.length≤lim then .ok (ns.map D.int) else .bad | _=>.bad:=(rfl)
@[simp] theorem ev_jTup (a:FE)(ρ:Env):jTup a ρ=(a ρ).bind fun d=>match d with | .tup xs=>if xs.length≤lim then .ok xs else .bad | _=>.bad:=(rfl)
@[simp] theorem ev_jRng1 (a:FA)(ρ:Env):jRng1 a ρ=(a ρ).bind fun ds=>match ds with | [.int j]=>if -1000000000≤j∧j≤1000000 then .ok (rngL 0 j.toNat) else .bad | _=>.bad:=(rfl)
noncomputable def rngOf2 (ds:List D):R (List D):=match ds with
 | [.int i,.int j]=>if -1000000000≤i∧i≤1000000000∧-1000000000≤j∧j≤1000000000∧(j - i).toNat≤lim then .ok (rngL i (j - i).toNat) else .bad
 | _=>.bad
@[simp] theorem ev_jRng2 (a:FA)(ρ:Env):jRng2 a ρ=(a ρ).bind rngOf2:=(rfl)
theorem rngOf2_ok {i j:Int}{n:Nat}(hn:n=(j - i).toNat)(h1:-1000000≤i)(h2:i≤1000000)(h3:-1000000≤j)(h4:j≤1000000)(h5:n≤1000000):rngOf2 [.int i,.int j]=.ok (rngL i n):=by
 subst hn
 unfold rngOf2
 simp only []
 rw [if_pos ⟨by omega,by omega,by omega,by omega,h5⟩]
@[simp] theorem ev_fComp (n k:Nat)(it:FI)(b:FB)(c:FT)(e:FE)(ρ:Env):fComp n k it b c e ρ=if ρ.length=n then (it ρ).bind fun xs=>(compN k b c e ρ xs).calm.bind fun ys=>.ok (.lst ys) else .bad:=(rfl)
@[simp] theorem ev_sNx (ρ:Env):sNx ρ=.ok (.nx ρ):=(rfl)
@[simp] theorem ev_sNever (ρ:Env):sNever ρ=.bad:=(rfl)
@[simp] theorem ev_sSeq (a b:FS)(ρ:Env):sSeq a b ρ=(a ρ).bind fun fl=>match fl with | .nx ρ'=>b ρ' | fl=>.ok fl:=(rfl)
@[simp] theorem ev_sSet (i:Nat)(e:FE)(ρ:Env):sSet i e ρ=(e ρ).bind fun d=>.ok (.nx (ρ.set i (some d))):=(rfl)
@[simp] theorem ev_sRet (e:FE)(ρ:Env):sRet e ρ=(e ρ).bind fun d=>.ok (.ret d):=(rfl)
@[simp] theorem ev_sIf (c:FT)(a b:FS)(ρ:Env):sIf c a b ρ=(c ρ).bind fun x=>if x then a ρ else b ρ:=(rfl)
@[simp] theorem ev_sApp (i:Nat)(e:FE)(ρ:Env):sApp i e ρ=(fV i ρ).bind fun v=>match v with | .lst xs=>(e ρ).bind fun d=>if xs.length<lim then .ok (.nx (ρ.set i (some (.lst (xs++[d]))))) else .bad | _=>.bad:=by
 unfold sApp fV
 split
 ·rename_i xs e;simp [e]
 ·rename_i h
  split
  ·rename_i d e
   cases d<;>simp
   rename_i xs
   exact absurd e (h xs)
  ·rfl
@[simp] theorem ev_sRaise (c:String)(f:FA)(ρ:Env):sRaise c f ρ=(f ρ).bind fun _=>.err c none:=(rfl)
theorem ev_sTry (cs:List String)(N i:Nat)(b h:FS)(ρ:Env):sTry cs N i b h ρ=match b ρ with
 | .err c x=>if cs.contains c then (h ((List.replicate N none).set i (some (.exc c x)))).calm.bind fun fl=>match fl with
   | .nx _=>.ok (.nx (List.replicate N none))
   | .brk _=>.ok (.brk (List.replicate N none))
   | .cnt _=>.ok (.cnt (List.replicate N none))
   | .ret d=>.ok (.ret d)
  else .bad
 | r=>r:=(rfl)
@[simp] theorem ev_sFor (it:FI)(b:FB)(s:FS)(ρ:Env):sFor it b s ρ=(it ρ).bind fun xs=>forD b s xs ρ:=(rfl)
@[simp] theorem ev_sWhile (n:Nat)(c:FT)(s:FS)(ρ:Env):sWhile n c s ρ=whileD c s n ρ:=(rfl)
@[simp] theorem ev_sAsg (e:FE)(b:FB)(ρ:Env):sAsg e b ρ=(e ρ).bind fun d=>(b d ρ).calm.bind fun ρ'=>.ok (.nx ρ'):=(rfl)
@[simp] theorem ev_bName (i:Nat)(d:D)(ρ:Env):bName i d ρ=.ok (ρ.set i (some d)):=(rfl)
@[simp] theorem ev_bNil (ρ:Env):bNil [] ρ=.ok ρ:=(rfl)
@[simp] theorem ev_bCons (b:FB)(r:List D→Env→R Env)(d:D)(ds:List D)(ρ:Env):bCons b r (d::ds) ρ=(b d ρ).bind fun ρ'=>r ds ρ':=(rfl)
@[simp] theorem ev_bTup (r:List D→Env→R Env)(ds:List D)(ρ:Env):bTup r (.tup ds) ρ=r ds ρ:=(rfl)
@[simp] theorem ev_run (N:Nat)(b:FS)(ds:List D):run N b ds=(b (ds.map some++List.replicate (N - ds.length) none)).bind fun fl=>match fl with | .nx _=>.ok .non | .ret d=>.ok d | _=>.bad:=(rfl)
@[simp] theorem forD_nil (b:FB)(s:FS)(ρ:Env):forD b s [] ρ=.ok (.nx ρ):=(rfl)
theorem forD_cons (b:FB)(s:FS)(x:D)(xs:List D)(ρ:Env):forD b s (x::xs) ρ=(b x ρ).calm.bind fun ρ1=>(s ρ1).bind fun fl=>match fl with | .nx ρ2=>forD b s xs ρ2 | .cnt ρ2=>forD b s xs ρ2 | .brk ρ2=>.ok (.nx ρ2) | .ret d=>.ok (.ret d):=rfl
@[simp] theorem add_ii (i j:Int):gAdd (.int i) (.int j)=some (.int (i+j)):=rfl
@[simp] theorem addI_ii (i j:Int):gAddI (.int i) (.int j)=some (.int (i+j)):=rfl
@[simp] theorem sub_ii (i j:Int):gSub (.int i) (.int j)=some (.int (i - j)):=rfl
@[simp] theorem lt_ii (i j:Int):gLt (.int i) (.int j)=some (.bl (decide (i<j))):=rfl
@[simp] theorem le_ii (i j:Int):gLe (.int i) (.int j)=some (.bl (decide (i≤j))):=rfl
@[simp] theorem gt_ii (i j:Int):gGt (.int i) (.int j)=some (.bl (decide (j<i))):=rfl
@[simp] theorem ge_ii (i j:Int):gGe (.int i) (.int j)=some (.bl (decide (j≤i))):=rfl
@[simp] theorem neg_i (i:Int):gNeg (.int i)=some (.int (-i)):=rfl
@[simp] theorem not_b (b:Bool):gNot (.bl b)=some (.bl (!b)):=rfl
@[simp] theorem eq_ii (i j:Int):gEq (.int i) (.int j)=some (.bl (decide (i=j))):=show some (D.bl (i==j))=_ from congrArg (fun b=>some (D.bl b)) (by by_cases h:i=j<;>simp [h])
@[simp] theorem eq_bb (i j:Bool):gEq (.bl i) (.bl j)=some (.bl (i==j)):=rfl
@[simp] theorem ne_bb (i j:Bool):gNe (.bl i) (.bl j)=some (.bl (!(i==j))):=rfl
@[simp] theorem is_n (x:D):gIs x .non=some (.bl (isNon x)):=rfl
@[simp] theorem isNot_n (x:D):gIsNot x .non=some (.bl (!isNon x)):=rfl
@[simp] theorem is_b (b c:Bool):gIs (.bl b) (.bl c)=some (.bl (b==c)):=rfl
@[simp] theorem isNot_b (b c:Bool):gIsNot (.bl b) (.bl c)=some (.bl (!(b==c))):=rfl
@[simp] theorem isNon_non:isNon .non=true:=rfl
@[simp] theorem isNon_i (i:Int):isNon (.int i)=false:=rfl
@[simp] theorem isNon_b (i:Bool):isNon (.bl i)=false:=rfl
@[simp] theorem isNon_l (i:List D):isNon (.lst i)=false:=rfl
@[simp] theorem isNon_t (i:List D):isNon (.tup i)=false:=rfl
theorem mul_ii {i j:Int}(h:(-(2 ^ 64)<i∧i<2 ^ 64)∨(-(2 ^ 64)<j∧j<2 ^ 64)):gMul (.int i) (.int j)=some (.int (i*j)):=by
 have:(short i||short j)=true:=by simp [short];exact h
 simp [gMul,this]
theorem mod_ii {i j:Int}(h:0<j):gMod (.int i) (.int j)=some (.int (i % j)):=by simp [gMod,h]
theorem div_ii {i j:Int}(h:0<j)(h2:j<2 ^ 200):gDiv (.int i) (.int j)=some (.int (i / j)):=by simp only [gDiv];rw [if_pos ⟨h,h2⟩]
theorem pow_ii {i j:Int}(h:0≤j)(h2:j≤1000000)(h3:i.natAbs<2 ^ 64):gPow (.int i) (.int j)=some (.int (i ^ j.toNat)):=by simp only [gPow];rw [if_pos ⟨h,h2,h3⟩]
@[simp] theorem pow10_6:gPow (.int 10) (.int 6)=some (.int 1000000):=by
 rw [pow_ii (by omega) (by omega) (by decide)]
 rfl
@[simp] theorem pow10_15:gPow (.int 10) (.int 15)=some (.int 1000000000000000):=by
 rw [pow_ii (by omega) (by omega) (by decide)]
 rfl
@[simp] theorem pow10_17:gPow (.int 10) (.int 17)=some (.int 100000000000000000):=by
 rw [pow_ii (by omega) (by omega) (by decide)]
 rfl
@[simp] theorem pow10_18:gPow (.int 10) (.int 18)=some (.int 1000000000000000000):=by
 rw [pow_ii (by omega) (by omega) (by decide)]
 rfl
@[simp] theorem flat_i (i:Int):flat (.int i)=true:=rfl
@[simp] theorem flat_b (i:Bool):flat (.bl i)=true:=rfl
@[simp] theorem flat_s (i:Str):flat (.str i)=true:=rfl
@[simp] theorem flat_n:flat .non=true:=rfl
@[simp] theorem flat_t (xs:List D):flat (.tup xs)=flatA xs:=rfl
@[simp] theorem flatA_n:flatA []=true:=rfl
@[simp] theorem flatA_c (x:D)(xs:List D):flatA (x::xs)=(flat x&&flatA xs):=rfl
theorem flatA_map {α:Type}{f:α→D}(h:∀a,flat (f a)=true):∀xs:List α,flatA (xs.map f)=true
 | []=>rfl
 | x::xs=>by simp [h x,flatA_map h xs]
@[simp] theorem flatA_ints (ns:List Int):flatA (ns.map D.int)=true:=flatA_map (fun _=>rfl) ns
@[simp] theorem gFlat_i (i:Int):gFlat (.int i)=some (.int i):=rfl
@[simp] theorem gFlat_b (i:Bool):gFlat (.bl i)=some (.bl i):=rfl
@[simp] theorem gFlat_s (i:Str):gFlat (.str i)=some (.str i):=rfl
@[simp] theorem gFlat_n:gFlat .non=some .non:=rfl
@[simp] theorem ints_map (ns:List Int):intsOf (ns.map D.int)=some ns:=by
 induction ns with
 | nil=>rfl
 | cons n ns ih=>simp [intsOf,ih]
@[simp] theorem len_l (xs:List D):gLen [.lst xs]=some (.int xs.length):=(rfl)
@[simp] theorem len_t (xs:List D):gLen [.tup xs]=some (.int xs.length):=(rfl)
@[simp] theorem len_scr (xs:List Int):gLen [.scr xs]=some (.int xs.length):=(rfl)
@[simp] theorem sum_ints (ns:List Int):gSum [.lst (ns.map D.int)]=some (.int ns.sum):=by simp [gSum]
@[simp] theorem max_ii (i j:Int):gMax [.int i,.int j]=some (.int (max i j)):=by
 simp only [gMax]
 congr 2
 by_cases h:j > i
 ·rw [if_pos h];omega
 ·rw [if_neg h];omega
@[simp] theorem min_ii (i j:Int):gMin [.int i,.int j]=some (.int (min i j)):=by
 simp only [gMin]
 congr 2
 by_cases h:j<i
 ·rw [if_pos h];omega
 ·rw [if_neg h];omega
theorem max_ints {ns:List Int}(h:ns≠[]):gMax [.lst (ns.map D.int)]=some (.int (maxL ns)):=by simp [gMax,h]
@[simp] theorem isI_i (c:String)(i:Int):gIsI c (.int i)=some (.bl (c=="int")):=rfl
@[simp] theorem isI_b (c:String)(i:Bool):gIsI c (.bl i)=some (.bl (c=="bool"||c=="int")):=rfl
@[simp] theorem isI_l (c:String)(i:List D):gIsI c (.lst i)=some (.bl (c=="list")):=rfl
@[simp] theorem isI_t (c:String)(i:List D):gIsI c (.tup i)=some (.bl (c=="tuple")):=rfl
@[simp] theorem isI_s (c:String)(i:Str):gIsI c (.str i)=some (.bl (c=="str")):=rfl
@[simp] theorem isI_n (c:String):gIsI c .non=some (.bl false):=rfl
theorem atD_nat {α:Type}{xs:List α}{i:Int}{k:Nat}{x:α}(e:i=(k:Int))(h:xs[k]?=some x):atD xs i=some x:=by
 subst e
 have hk:=(List.getElem?_eq_some_iff.mp h).1
 unfold atD ixD
 rw [if_pos (by omega),if_pos (by omega)]
 simpa using h
theorem atD_last {α:Type}(xs:List α)(x:α):atD (xs++[x]) (-1)=some x:=by
 unfold atD ixD
 rw [if_neg (by omega),if_pos (by simp;omega)]
 simp only [Option.bind_some]
 have:(-1+(((xs++[x]).length:Nat):Int)).toNat=xs.length:=by simp;omega
 rw [this]
 simp
theorem ix_l {xs:List D}{i:Int}{k:Nat}{x:D}(e:i=(k:Int))(h:xs[k]?=some x):gIx (.lst xs) (.int i)=some x:=atD_nat e h
theorem ix_t {xs:List D}{i:Int}{k:Nat}{x:D}(e:i=(k:Int))(h:xs[k]?=some x):gIx (.tup xs) (.int i)=some x:=atD_nat e h
@[simp] theorem ixL_l (xs:List D)(y:D):gIxL (.lst xs) y=gIx (.lst xs) y:=(rfl)
@[simp] theorem listV_l (xs:List D):gListV [.lst xs]=some (.lst xs):=(rfl)
@[simp] theorem ix_last (xs:List D)(x:D):gIx (.lst (xs++[x])) (.int (-1))=some x:=atD_last xs x
theorem ix_ints {ns:List Int}{i:Int}{k:Nat}(e:i=(k:Int))(h:k<ns.length):gIx (.lst (ns.map D.int)) (.int i)=some (.int (ns.getD k 0)):=ix_l e (by simp [h,List.getD])
theorem ix_lastI {ns:List Int}(h:ns≠[]):gIx (.lst (ns.map D.int)) (.int (-1))=some (.int (ns.getD (ns.length - 1) 0)):=by
 have e:=List.dropLast_concat_getLast h
 have e2:ns.getD (ns.length - 1) 0=ns.getLast h:=by
  have hl:ns.length - 1<ns.length:=by have:=List.length_pos_iff.mpr h;omega
  rw [List.getLast_eq_getElem]
  simp [List.getD,hl]
 rw [e2]
 conv=>lhs;rw [← e,List.map_append,List.map_singleton]
 exact ix_last _ _
@[simp] theorem ix_l0 (a:D)(r:List D):gIx (.lst (a::r)) (.int 0)=some a:=ix_l (k:=0) rfl rfl
@[simp] theorem ix_l1 (a b:D)(r:List D):gIx (.lst (a::b::r)) (.int 1)=some b:=ix_l (k:=1) rfl rfl
@[simp] theorem ix_l2 (a b c:D)(r:List D):gIx (.lst (a::b::c::r)) (.int 2)=some c:=ix_l (k:=2) rfl rfl
theorem cut_map {α β:Type}(f:α→β)(xs:List α)(lo hi:Option Int):cut (xs.map f) lo hi=(cut xs lo hi).map f:=by
 unfold cut
 rw [List.length_map,List.map_take,List.map_drop]
theorem cut_ab {α:Type}{xs:List α}{a b:Int}(h0:0≤a)(h1:a≤b)(h2:b≤xs.length):cut xs (some a) (some b)=(xs.drop a.toNat).take (b.toNat - a.toNat):=by
 unfold cut sixD
 simp only []
 rw [if_neg (by omega),if_neg (by omega),Nat.min_eq_left (by omega),Nat.min_eq_left (by omega)]
theorem cut_to {α:Type}{xs:List α}{b:Int}(h0:0≤b):cut xs none (some b)=xs.take b.toNat:=by
 unfold cut sixD
 simp only []
 rw [if_neg (by omega),List.drop_zero,Nat.sub_zero]
 by_cases h:b.toNat≤xs.length
 ·rw [Nat.min_eq_left h]
 ·rw [Nat.min_eq_right (by omega),List.take_of_length_le (Nat.le_refl _),List.take_of_length_le (by omega)]
@[simp] theorem sl_ints (ns:List Int)(lo hi:Option Int):gSl (.lst (ns.map D.int)) lo hi=some (.lst ((cut ns lo hi).map D.int)):=by
 simp [gSl,cut_map]
@[simp] theorem sl_scr (ns:List Int)(lo hi:Option Int):gSl (.scr ns) lo hi=some (.lst ((cut ns lo hi).map D.int)):=(rfl)
@[simp] theorem gLst_0:gLst []=some (.lst []):=rfl
@[simp] theorem gLst_1 (a:D):gLst [a]=some (.lst [a]):=rfl
@[simp] theorem gLst_2 (a b:D):gLst [a,b]=some (.lst [a,b]):=rfl
@[simp] theorem gLst_3 (a b c:D):gLst [a,b,c]=some (.lst [a,b,c]):=rfl
@[simp] theorem gLst_4 (a0 a1 a2 a3:D):gLst [a0,a1,a2,a3]=some (.lst [a0,a1,a2,a3]):=rfl
@[simp] theorem gLst_5 (a0 a1 a2 a3 a4:D):gLst [a0,a1,a2,a3,a4]=some (.lst [a0,a1,a2,a3,a4]):=rfl
@[simp] theorem gLst_6 (a0 a1 a2 a3 a4 a5:D):gLst [a0,a1,a2,a3,a4,a5]=some (.lst [a0,a1,a2,a3,a4,a5]):=rfl
@[simp] theorem gLst_10 (a0 a1 a2 a3 a4 a5 a6 a7 a8 a9:D):gLst [a0,a1,a2,a3,a4,a5,a6,a7,a8,a9]=some (.lst [a0,a1,a2,a3,a4,a5,a6,a7,a8,a9]):=rfl
@[simp] theorem gLst_11 (a0 a1 a2 a3 a4 a5 a6 a7 a8 a9 a10:D):gLst [a0,a1,a2,a3,a4,a5,a6,a7,a8,a9,a10]=some (.lst [a0,a1,a2,a3,a4,a5,a6,a7,a8,a9,a10]):=rfl
@[simp] theorem gTup_2 (a b:D):gTup [a,b]=some (.tup [a,b]):=rfl
@[simp] theorem gTup_3 (a b c:D):gTup [a,b,c]=some (.tup [a,b,c]):=rfl
@[simp] theorem gTup_4 (a b c d:D):gTup [a,b,c,d]=some (.tup [a,b,c,d]):=rfl
@[simp] theorem calm_bind_ok {α β:Type}(a:α)(f:α→R β):((R.ok a).calm).bind f=f a:=(rfl)
theorem forD_inv {b:FB}{s:FS}{xs:List D}{P:Nat→Env→Prop}{Rr:R Fl→Prop}{ρ:Env}(h0:P 0 ρ)
  (hs:∀i x ρ,xs[i]?=some x→P i ρ→∃ρ1,b x ρ=.ok ρ1∧((∃ρ2,(s ρ1=.ok (.nx ρ2)∨s ρ1=.ok (.cnt ρ2))∧P (i+1) ρ2)∨(∃d,s ρ1=.ok (.ret d)∧Rr (.ok (.ret d)))∨∃ρ2,s ρ1=.ok (.brk ρ2)∧Rr (.ok (.nx ρ2))))
  (hd:∀ρ,P xs.length ρ→Rr (.ok (.nx ρ))):Rr (forD b s xs ρ):=by
 have key:∀n i ρ,n+i=xs.length→P i ρ→Rr (forD b s (xs.drop i) ρ):=by
  intro n
  induction n with
  | zero =>
   intro i ρ hn p
   rw [List.drop_of_length_le (by omega)]
   have e:i=xs.length:=by omega
   subst e
   exact hd ρ p
  | succ n ih =>
   intro i ρ hn p
   have hi:i<xs.length:=by omega
   rw [List.drop_eq_getElem_cons hi,forD_cons]
   obtain ⟨ρ1,e1,h⟩:=hs i xs[i] ρ (List.getElem?_eq_getElem hi) p
   rw [e1,calm_bind_ok]
   rcases h with ⟨ρ2,e2 | e2,p2⟩ | ⟨d,e2,p2⟩ | ⟨ρ2,e2,p2⟩
   ·rw [e2];exact ih (i+1) ρ2 (by omega) p2
   ·rw [e2];exact ih (i+1) ρ2 (by omega) p2
   ·rw [e2];exact p2
   ·rw [e2];exact p2
 have:=key xs.length 0 ρ (by omega) h0
 simpa using this
theorem forD_st {b:FB}{s:FS}{xs:List D}{ρ:Env}(st:Nat→Env)(h0:st 0=ρ)(hs:∀i x,xs[i]?=some x→∃ρ1,b x (st i)=.ok ρ1∧s ρ1=.ok (.nx (st (i+1)))):forD b s xs ρ=.ok (.nx (st xs.length)):=by
 refine forD_inv (P:=fun i ρ=>ρ=st i) (Rr:=fun r=>r=.ok (.nx (st xs.length))) h0.symm (fun i x ρ hx e=>?_) (fun ρ e=>by rw [e])
 subst e
 obtain ⟨ρ1,e1,e2⟩:=hs i x hx
 exact ⟨ρ1,e1,.inl ⟨_,.inl e2,rfl⟩⟩
theorem rngL_get {lo:Int}{n i:Nat}(h:i<n):(rngL lo n)[i]?=some (.int (lo+i)):=by simp [rngL,h]
theorem rngL_at {lo:Int}{n i:Nat}{x:D}(h:(rngL lo n)[i]?=some x):i<n∧x=.int (lo+i):=by
 have hi:=(List.getElem?_eq_some_iff.mp h).1
 have hn:i<n:=by simpa [rngL] using hi
 rw [rngL_get hn] at h
 exact ⟨hn,(Option.some.inj h).symm⟩
@[simp] theorem rngL_length (lo:Int)(n:Nat):(rngL lo n).length=n:=by simp [rngL]
theorem comp_eq {k:Nat}{b:FB}{c:FT}{e:FE}{ρ:Env}{α:Type}{enc:α→D}{ρ1:α→Env}{p:α→Bool}{v:α→D}{xs:List α}(h:∀x∈xs,b (enc x) (ρ++List.replicate k none)=.ok (ρ1 x)∧c (ρ1 x)=.ok (p x)∧(p x=true→e (ρ1 x)=.ok (v x))):compN k b c e ρ (xs.map enc)=.ok ((xs.filter p).map v):=by
 induction xs with
 | nil=>rfl
 | cons x xs ih =>
  obtain ⟨h0,h1,h2⟩:=h x (.head _)
  have ih:=ih fun y hy=>h y (.tail _ hy)
  rw [List.map_cons]
  unfold compN
  rw [h0,calm_bind_ok,h1]
  cases hp:p x with
  | false=>simp [ih,hp]
  | true=>simp [ih,hp,h2 hp]
theorem comp1 {n:Nat}{c:FT}{e:FE}{ρ:Env}{α:Type}{enc:α→D}{p:α→Bool}{v:α→D}{xs:List α}(hn:ρ.length=n)(h:∀x∈xs,c (ρ++[some (enc x)])=.ok (p x)∧(p x=true→e (ρ++[some (enc x)])=.ok (v x))):compN 1 (bName n) c e ρ (xs.map enc)=.ok ((xs.filter p).map v) :=
  comp_eq (ρ1:=fun x=>ρ++[some (enc x)]) fun x hx=>⟨by
    show R.ok ((ρ++[none]).set n (some (enc x)))=_
    rw [← hn,List.set_append_right _ _ (Nat.le_refl _),Nat.sub_self]
    rfl,h x hx⟩
theorem comp1' {n:Nat}{e:FE}{ρ:Env}{α:Type}{enc:α→D}{v:α→D}{xs:List α}(hn:ρ.length=n)(h:∀x∈xs,e (ρ++[some (enc x)])=.ok (v x)):compN 1 (bName n) cYes e ρ (xs.map enc)=.ok (xs.map v):=by
 have:=comp1 (p:=fun _=>true) (c:=cYes) hn (xs:=xs) (enc:=enc) (e:=e) (v:=v) fun x hx=>⟨rfl,fun _=>h x hx⟩
 rw [this,List.filter_eq_self.mpr fun _ _=>rfl]
theorem while_st {c:FT}{s:FS}{ρ:Env}{n:Nat}(m:Nat)(st:Nat→Env)(h0:st 0=ρ)(hn:m<n)(hs:∀i,i<m→c (st i)=.ok true∧s (st i)=.ok (.nx (st (i+1))))(hd:c (st m)=.ok false):whileD c s n ρ=.ok (.nx (st m)):=by
 have key:∀k i n,k+i=m→k<n→whileD c s n (st i)=.ok (.nx (st m)):=by
  intro k
  induction k with
  | zero =>
   intro i n hi hn
   have e:i=m:=by omega
   subst e
   obtain ⟨n,rfl⟩:∃k,n=k+1:=⟨n - 1,by omega⟩
   simp [whileD,hd]
  | succ k ih =>
   intro i n hi hn
   obtain ⟨n,rfl⟩:∃k,n=k+1:=⟨n - 1,by omega⟩
   obtain ⟨h1,h2⟩:=hs i (by omega)
   simp only [whileD,h1,bind_ok,if_true,h2]
   exact ih (i+1) n (by omega) (by omega)
 rw [← h0]
 exact key m 0 n (by omega) hn
theorem Zaw {i:Nat}{e:FE}{ρ:Env}{d:D}(h:e ρ=.ok d):sSet i e ρ=.ok (.nx (ρ.set i (some d))):=by rw [ev_sSet,h];rfl
theorem Zam {a b:FS}{ρ ρ':Env}{r:R Fl}(h:a ρ=.ok (.nx ρ'))(h2:b ρ'=r):sSeq a b ρ=r:=by rw [ev_sSeq,h];exact h2
theorem Zej {g:D→Option D}{a:FE}{ρ:Env}{x z:D}(ha:a ρ=.ok x)(h:g x=some z):f1 g a ρ=.ok z:=by rw [ev_f1,ha];show oR (g x)=_;rw [h];rfl
theorem Zak {g:D→D→Option D}{a b:FE}{ρ:Env}{x y z:D}(ha:a ρ=.ok x)(hb:b ρ=.ok y)(h:g x y=some z):f2 g a b ρ=.ok z:=by rw [ev_f2,ha,hb];show oR (g x y)=_;rw [h];rfl
theorem Zdf {g:List D→Option D}{a:FA}{ρ:Env}{xs:List D}{z:D}(ha:a ρ=.ok xs)(h:g xs=some z):fA g a ρ=.ok z:=by rw [ev_fA,ha];show oR (g xs)=_;rw [h];rfl
theorem Zad {a:FE}{r:FA}{ρ:Env}{x:D}{xs:List D}(ha:a ρ=.ok x)(hr:r ρ=.ok xs):aCons a r ρ=.ok (x::xs):=by rw [ev_aCons,ha,hr];rfl
theorem Zbb {F:List D→R D}{a:FA}{ρ:Env}{xs:List D}{d:D}(ha:a ρ=.ok xs)(h:F xs=.ok d):fCall F a ρ=.ok d:=by rw [ev_fCall,ha];exact h
theorem Zct {a:FE}{ρ:Env}{b:Bool}(h:a ρ=.ok (.bl b)):cE a ρ=.ok b:=by rw [ev_cE,h];rfl
theorem Zdp {c:FT}{a b:FS}{ρ:Env}{r:R Fl}(hc:c ρ=.ok true)(h:a ρ=r):sIf c a b ρ=r:=by rw [ev_sIf,hc];exact h
theorem Zcj {c:FT}{a b:FS}{ρ:Env}{r:R Fl}(hc:c ρ=.ok false)(h:b ρ=r):sIf c a b ρ=r:=by rw [ev_sIf,hc];exact h
theorem Zez {i:Nat}{e:FE}{ρ:Env}{xs:List D}{d:D}(hv:fV i ρ=.ok (.lst xs))(h:e ρ=.ok d)(hl:xs.length<lim):sApp i e ρ=.ok (.nx (ρ.set i (some (.lst (xs++[d]))))):=by rw [ev_sApp,hv,h];exact if_pos hl
theorem Zcs {e:FE}{ρ:Env}{d:D}(h:e ρ=.ok d):sRet e ρ=.ok (.ret d):=by rw [ev_sRet,h];rfl
theorem r_rng {a:FA}{ρ:Env}{j:Int}(h:a ρ=.ok [.int j])(h1:-1000000000≤j∧j≤1000000):jRng1 a ρ=.ok (rngL 0 j.toNat):=by rw [ev_jRng1,h];exact if_pos h1
theorem Zeh {it:FI}{b:FB}{s:FS}{ρ:Env}{xs:List D}{r:R Fl}(h:it ρ=.ok xs)(h2:forD b s xs ρ=r):sFor it b s ρ=r:=by rw [ev_sFor,h];exact h2
theorem Zcq {N:Nat}{q:FS}{ds:List D}{d:D}(h:q (ds.map some++List.replicate (N - ds.length) none)=.ok (.ret d)):(run N q ds).calm=.ok d:=by unfold run;rw [h];rfl
theorem mulS {a b:Int}(h0:0≤a)(h1:a≤1000000):gMul (.int a) (.int b)=some (.int (a*b)):=mul_ii (.inl ⟨by omega,by omega⟩)
theorem Zge {a b:FS}{ρ:Env}{d:D}(h:a ρ=.ok (.ret d)):sSeq a b ρ=.ok (.ret d):=by rw [ev_sSeq,h];rfl
theorem mulR {a b:Int}(h0:0≤b)(h1:b≤1000000):gMul (.int a) (.int b)=some (.int (a*b)):=mul_ii (.inr ⟨by omega,by omega⟩)
theorem Zdr {a:FE}{ρ:Env}{xs:List D}(h:a ρ=.ok (.lst xs))(hl:xs.length≤lim):jList a ρ=.ok xs:=by rw [ev_jList,h];exact if_pos hl
theorem Zgt {a b:FT}{ρ:Env}{r:R Bool}(h:a ρ=.ok true)(h2:b ρ=r):cAnd a b ρ=r:=by rw [ev_cAnd,h];exact h2
theorem r_cAndF {a b:FT}{ρ:Env}(h:a ρ=.ok false):cAnd a b ρ=.ok false:=by rw [ev_cAnd,h];rfl
theorem bl_t {p:Prop}[Decidable p](h:p):some (D.bl (decide p))=some (D.bl true):=congrArg (fun b=>some (D.bl b)) (decide_eq_true h)
theorem bl_f {p:Prop}[Decidable p](h:¬p):some (D.bl (decide p))=some (D.bl false):=congrArg (fun b=>some (D.bl b)) (decide_eq_false h)
theorem Zhi {a b:FT}{ρ:Env}{r:R Bool}(h:a ρ=.ok false)(h2:b ρ=r):cOr a b ρ=r:=by rw [ev_cOr,h];exact h2
theorem r_asg {e:FE}{b:FB}{ρ ρ':Env}{d:D}(h:e ρ=.ok d)(hb:b d ρ=.ok ρ'):sAsg e b ρ=.ok (.nx ρ'):=by
 unfold sAsg
 rw [h]
 show (b d ρ).calm.bind _=_
 rw [hb]
 rfl
theorem r_rng2 {a:FA}{ρ:Env}{ds xs:List D}(h:a ρ=.ok ds)(h1:rngOf2 ds=.ok xs):jRng2 a ρ=.ok xs:=by rw [ev_jRng2,h];exact h1
theorem Zhh {n k:Nat}{it:FI}{b:FB}{c:FT}{e:FE}{ρ:Env}{xs ys:List D}(hn:ρ.length=n)(h:it ρ=.ok xs)(h1:compN k b c e ρ xs=.ok ys):fComp n k it b c e ρ=.ok (.lst ys):=by
 rw [ev_fComp,if_pos hn,h]
 show (compN k b c e ρ xs).calm.bind _=_
 rw [h1]
 rfl
theorem r_cOrT {a b:FT}{ρ:Env}(h:a ρ=.ok true):cOr a b ρ=.ok true:=by rw [ev_cOr,h];rfl
end Dl
namespace Dl
open PySem
set_option genInjectivity true in
structure Kd where
 name:Str
 w:Int
 wo:Int
 al:Int
noncomputable def kD (k:Kd):D:=.tup [.str k.name,.int k.w,.int k.wo,.int k.al]
noncomputable def iD (ns:List Int):D:=.lst (ns.map D.int)
noncomputable def tD (ks:List Kd):D:=.lst (ks.map kD)
noncomputable def pD (p:Int×Str):D:=.tup [.int p.1,.str p.2]
noncomputable def psD (ps:List (Int×Str)):D:=.lst (ps.map pD)
@[simp] theorem flat_kD (k:Kd):flat (kD k)=true:=rfl
@[simp] theorem flat_pD (k:Int×Str):flat (pD k)=true:=rfl
@[simp] theorem gFlat_kD (k:Kd):gFlat (kD k)=some (kD k):=rfl
@[simp] theorem gFlat_pD (k:Int×Str):gFlat (pD k)=some (pD k):=rfl
@[simp] theorem flatA_kD (ks:List Kd):flatA (ks.map kD)=true:=flatA_map (fun _=>rfl) ks
@[simp] theorem kD_0 (k:Kd):gIx (kD k) (.int 0)=some (.str k.name):=ix_t (k:=0) rfl rfl
@[simp] theorem kD_1 (k:Kd):gIx (kD k) (.int 1)=some (.int k.w):=ix_t (k:=1) rfl rfl
@[simp] theorem kD_2 (k:Kd):gIx (kD k) (.int 2)=some (.int k.wo):=ix_t (k:=2) rfl rfl
@[simp] theorem kD_3 (k:Kd):gIx (kD k) (.int 3)=some (.int k.al):=ix_t (k:=3) rfl rfl
noncomputable def pre (ns:List Int)(i:Nat):Int:=(ns.take i).sum
theorem pre_cut (ns:List Int)(a b:Nat)(h:a≤b):((ns.drop a).take (b - a)).sum=pre ns b - pre ns a:=by
 unfold pre
 have e:ns.take b=ns.take a++(ns.drop a).take (b - a):=by
  have:=List.take_add (l:=ns) (i:=a) (j:=b - a)
  rw [show a+(b - a)=b by omega] at this
  exact this
 rw [e,List.sum_append]
 omega
theorem pre_succ {ns:List Int}{i:Nat}{x:Int}(h:ns[i]?=some x):pre ns (i+1)=pre ns i+x:=by
 unfold pre
 rw [List.take_add_one,h,List.sum_append]
 simp
noncomputable def good (ns:List Int)(k:Kd)(p:Int):Bool:=decide (0≤p∧p+k.w≤ns.length∧pre ns (p+k.w).toNat - pre ns p.toNat≤k.al)
theorem spoilt_ok {ns:List Int}{b e:Int}(h0:0≤b)(h1:b≤e)(h2:e≤ns.length):Zdw [iD ns,.int b,.int e]=.ok (.int (pre ns e.toNat - pre ns b.toNat)):=by
 have a1:¬b<0:=by omega
 have a2:¬(ns.length:Int)<e:=by omega
 have a3:¬e<b:=by omega
 simp [-List.map_take,-List.map_drop,Zdw,Zhe,iD,a1,a2,a3,cut_ab h0 h1 h2,pre_cut _ _ _ (show b.toNat≤e.toNat by omega)]
theorem fits_ok (ns:List Int)(k:Kd)(p:Int)(hw:1≤k.w):Zfr [iD ns,kD k,.int p]=.ok (.bl (good ns k p)):=by
 have l1:gLen [iD ns]=some (.int ns.length):=by simp [iD]
 by_cases h0:p<0
 ·have e:good ns k p=false:=decide_eq_false (by omega)
  rw [e]
  exact Zcq (Zam (Zaw (Zak rfl (Zak rfl rfl (kD_1 k)) rfl)) (Zge (Zdp (r_cOrT (Zct (Zak rfl rfl (bl_t h0)))) (Zcs rfl))))
 ·by_cases h1:(ns.length:Int)<p+k.w
  ·have e:good ns k p=false:=decide_eq_false (by omega)
   rw [e]
   exact Zcq (Zam (Zaw (Zak rfl (Zak rfl rfl (kD_1 k)) rfl)) (Zge (Zdp (Zhi (Zct (Zak rfl rfl (bl_f h0))) (Zct (Zak rfl (Zdf (Zad rfl rfl) l1) (bl_t h1)))) (Zcs rfl))))
  ·have hs:=spoilt_ok (ns:=ns) (b:=p) (e:=p+k.w) (by omega) (by omega) (by omega)
   have e:good ns k p=decide (pre ns (p+k.w).toNat - pre ns p.toNat≤k.al):=by
    unfold good
    apply decide_eq_decide.mpr
    constructor
    ·exact fun z=>z.2.2
    ·exact fun z=>⟨by omega,by omega,z⟩
   rw [e]
   exact Zcq (Zam (Zaw (Zak rfl (Zak rfl rfl (kD_1 k)) rfl)) (Zam (Zcj (Zhi (Zct (Zak rfl rfl (bl_f h0))) (Zct (Zak rfl (Zdf (Zad rfl rfl) l1) (bl_f h1)))) rfl) (Zcs (Zak (Zbb (Zad rfl (Zad rfl (Zad rfl rfl))) hs) (Zak rfl rfl (kD_3 k)) rfl))))
noncomputable def sumsOf (ns:List Int):List Int:=(List.range (ns.length+1)).map (pre ns)
theorem sums_len (ns:List Int):(sumsOf ns).length=ns.length+1:=by simp [sumsOf]
theorem sums_at (ns:List Int){k:Nat}(h:k≤ns.length):(sumsOf ns).getD k 0=pre ns k:=by
 unfold sumsOf
 have h':k<ns.length+1:=by omega
 simp [List.getD,h']
theorem sums_ok (ns:List Int)(h:ns.length≤1000):Zbs [iD ns]=.ok (iD (sumsOf ns)):=by
  have hl:ns.length≤lim:=by show _≤1000000;omega
  have hf:=forD_st (b:=bName 2) (s:=Zdl) (xs:=ns.map D.int) (ρ:=[some (iD ns),some (.lst [.int 0]),none])
    (fun i=>[some (iD ns),some (.lst (((List.range i).map (pre ns)).map D.int++[.int (pre ns i)])),match i with | 0=>none | i+1=>some (.int (ns.getD i 0))]) rfl (fun i x hx=>by
      rw [List.getElem?_map] at hx
      obtain ⟨y,hy,rfl⟩:=Option.map_eq_some_iff.mp hx
      have hi:=(List.getElem?_eq_some_iff.mp hy).1
      refine ⟨_,rfl,?_⟩
      have hlen:i+1<1000000:=by omega
      simp [-List.map_map,Zdl,hlen,pre_succ hy,List.range_succ,hy])
  simp only [List.length_map] at hf
  simp [Zbs,Zfi,iD,hl] at hf ⊢
  simp [hf,sumsOf,List.range_succ]
theorem good_ok (ns:List Int)(k:Kd)(p:Int)(hw:1≤k.w):Zcc [iD (sumsOf ns),kD k,.int p]=.ok (.bl (good ns k p)):=by
 have hsl:=sums_len ns
 have l1:gLen [iD (sumsOf ns)]=some (.int (sumsOf ns).length):=by simp [iD]
 by_cases h0:p<0
 ·have e:good ns k p=false:=decide_eq_false (by omega)
  rw [e]
  exact Zcq (Zam (Zaw (Zak rfl (Zak rfl rfl (kD_1 k)) rfl)) (Zge (Zdp (r_cOrT (Zct (Zak rfl rfl (bl_t h0)))) (Zcs rfl))))
 ·by_cases h1:((sumsOf ns).length:Int)≤p+k.w
  ·have e:good ns k p=false:=decide_eq_false (by omega)
   rw [e]
   exact Zcq (Zam (Zaw (Zak rfl (Zak rfl rfl (kD_1 k)) rfl)) (Zge (Zdp (Zhi (Zct (Zak rfl rfl (bl_f h0))) (Zct (Zak rfl (Zdf (Zad rfl rfl) l1) (bl_t h1)))) (Zcs rfl))))
  ·have e:good ns k p=decide (pre ns (p+k.w).toNat - pre ns p.toNat≤k.al):=by
    unfold good
    apply decide_eq_decide.mpr
    constructor
    ·exact fun z=>z.2.2
    ·exact fun z=>⟨by omega,by omega,z⟩
   have i1:=ix_ints (ns:=sumsOf ns) (i:=p+k.w) (k:=(p+k.w).toNat) (by omega) (by omega)
   have i2:=ix_ints (ns:=sumsOf ns) (i:=p) (k:=p.toNat) (by omega) (by omega)
   rw [sums_at ns (by omega)] at i1 i2
   rw [e]
   exact Zcq (Zam (Zaw (Zak rfl (Zak rfl rfl (kD_1 k)) rfl)) (Zam (Zcj (Zhi (Zct (Zak rfl rfl (bl_f h0))) (Zct (Zak rfl (Zdf (Zad rfl rfl) l1) (bl_f h1)))) rfl) (Zcs (Zak (Zak (Zak rfl rfl i1) (Zak rfl rfl i2) rfl) (Zak rfl rfl (kD_3 k)) rfl))))
theorem cell_ok (ns:List Int)(hn:ns.length≤63){i:Int}(h0:0≤i)(h1:i<1000000):∃n:Int,Zci [.scr ns,.int i]=.ok (.int n):=by
 have c:(cE (f2 gLt (fV 1) (fA gLen (aCons (fV 0) aNil)))) [some (.scr ns),some (.int i),none,none]=.ok (decide (i<ns.length)):=Zct (Zak rfl (Zdf (Zad rfl rfl) rfl) rfl)
 by_cases h:i<ns.length
 ·have hi:i.toNat<ns.length:=(Int.toNat_lt h0).mpr h
  have e:gIx (.scr ns) (.int i)=some (.int (ns.getD i.toNat 0)):=congrArg (Option.map D.int) (atD_nat (k:=i.toNat) (Int.toNat_of_nonneg h0).symm (by simp [List.getD,hi]))
  exact ⟨_,Zcq (Zge (Zdp (c.trans (congrArg Dl.R.ok (decide_eq_true h))) (Zcs (Zej (Zak rfl rfl e) rfl))))⟩
 ·have key:∃seed:Int,∃o,forD (bName 3) Zec ((ns.take 63).map D.int) [some (.scr ns),some (.int i),some (.int 5),none]=.ok (.nx [some (.scr ns),some (.int i),some (.int seed),o]):=by
   refine forD_inv (P:=fun _ ρ=>∃seed:Int,∃o,ρ=[some (.scr ns),some (.int i),some (.int seed),o]) (Rr:=fun r=>∃seed:Int,∃o,r=.ok (.nx [some (.scr ns),some (.int i),some (.int seed),o])) ⟨5,none,rfl⟩ ?_ ?_
   ·rintro j x ρ hx ⟨seed,o,rfl⟩
    rw [List.getElem?_map] at hx
    obtain ⟨y,hy,rfl⟩:=Option.map_eq_some_iff.mp hx
    exact ⟨_,rfl,.inl ⟨_,.inl (Zaw (Zak (Zak (Zak (Zak rfl rfl (mulR (by decide) (by decide))) (Zak rfl rfl (mod_ii (by decide))) rfl) rfl rfl) rfl (mod_ii (by decide)))),_,_,rfl⟩⟩
   ·rintro ρ ⟨seed,o,rfl⟩
    exact ⟨seed,o,rfl⟩
  obtain ⟨seed,o,e⟩:=key
  have hc:cut ns none (some 63)=ns.take 63:=cut_to (by decide)
  have hl:(jList (fSl gSl (fV 0) oNone (oSome (fC (.int 63))))) [some (.scr ns),some (.int i),some (.int 5),none]=.ok ((ns.take 63).map D.int):=by
   have hm:min 63 ns.length≤lim:=by show _≤1000000;omega
   simp [-List.map_take,hc,hm]
  exact ⟨_,Zcq (Zam (Zcj (c.trans (congrArg Dl.R.ok (decide_eq_false h))) rfl) (Zam (Zaw rfl) (Zam (Zeh hl e) (Zcs (Zak (Zak rfl (Zak rfl rfl (mulS (by decide) (by decide))) rfl) rfl (mod_ii (by decide)))))))⟩
theorem mix_ok (c:Int){k:Int}(h0:0≤k)(h1:k<1000000):∃n:Int,Zcu [.int c,.int k]=.ok (.int n):=by
 have n0:0≤c % 2147483629+1013*k+7919:=Int.add_nonneg (Int.add_nonneg (Int.emod_nonneg _ (by decide)) (Int.mul_nonneg (by decide) h0)) (by decide)
 have n1:c % 2147483629+1013*k+7919<2147483629+1013*1000000+7919:=Int.add_lt_add_right (Int.add_lt_add_of_lt_of_le (Int.emod_lt_of_pos _ (by decide)) (Int.mul_le_mul_of_nonneg_left (Int.le_of_lt h1) (by decide))) _
 have b:(c % 2147483629+1013*k+7919).natAbs<2 ^ 64:=Int.ofNat_lt.mp (by rw [Int.natAbs_of_nonneg n0];exact Int.lt_trans n1 (by decide))
 have e1:=pow_ii (i:=c % 2147483629+1013*k+7919) (j:=3) (by decide) (by decide) b
 exact ⟨_,Zcq (Zam (Zaw (Zak (Zak (Zak (Zak (Zak rfl rfl (mod_ii (by decide))) (Zak rfl rfl (mulS (by decide) (by decide))) rfl) rfl rfl) rfl e1) rfl (mod_ii (by decide)))) (Zam (Zaw (Zak (Zak (Zak (Zak rfl rfl (mulR (by decide) (by decide))) (Zak (Zak rfl rfl (mulS (by decide) (by decide))) rfl (mulR h0 (Int.le_of_lt h1))) rfl) rfl rfl) rfl (mod_ii (by decide)))) (Zcs (Zak rfl rfl (div_ii (by decide) (by decide))))))⟩
structure Row (ms os:List Int):Prop where
 len:os.length=ms.length
 at_:∀k,k<ms.length→0≤os.getD k 0∧os.getD k 0<ms.getD k 0
theorem Row.nil (ms:List Int):Row (ms.take 0) []:=⟨by simp,fun k hk=>by simp at hk⟩
theorem Row.all {ms os:List Int}(h:Row (ms.take ms.length) os):Row ms os:=by
 rw [List.take_length] at h
 exact h
theorem Row.push {ms os:List Int}{k:Nat}{v:Int}(h:Row (ms.take k) os)(hk:k<ms.length)(h0:0≤v)(h1:v<ms.getD k 0):Row (ms.take (k+1)) (os++[v]):=by
 have hl:=h.len
 rw [List.length_take] at hl
 have hm:min k ms.length=k:=by omega
 have hm':min (k+1) ms.length=k+1:=by omega
 refine ⟨by rw [List.length_append,List.length_take,hm',List.length_singleton];omega,fun j hj=>?_⟩
 rw [List.length_take,hm'] at hj
 by_cases e:j=k
 ·subst e
  have e1:(os++[v]).getD j 0=v:=by
   have:os.length=j:=by omega
   simp [List.getD,← this]
  have e2:(ms.take (j+1)).getD j 0=ms.getD j 0:=by simp [List.getD,List.getElem?_take]
  rw [e1,e2]
  exact ⟨h0,h1⟩
 ·have hj':j<k:=by omega
  have q:=h.at_ j (by rw [List.length_take];omega)
  have e1:(os++[v]).getD j 0=os.getD j 0:=by
   have:j<os.length:=by omega
   simp [List.getD,List.getElem?_append_left this]
  have e2:(ms.take (k+1)).getD j 0=(ms.take k).getD j 0:=by
   have h1:j<k+1:=by omega
   simp [List.getD,List.getElem?_take,hj',h1]
  rw [e1,e2]
  exact q
theorem getD_all {P:Int→Prop}{ws:List Int}{i:Nat}(h:∀w∈ws,P w)(hi:i<ws.length):P (ws.getD i 0):=by
 have e:ws.getD i 0=ws[i]:=by simp [List.getD,hi]
 rw [e]
 exact h _ (List.getElem_mem hi)
theorem row_okL (ns:List Int)(hn:ns.length≤63){i:Int}(h0:0≤i)(h1:i<1000)(ms:List Int)(hm:ms.length≤2000)(hms:∀m∈ms,0<m∧m<2 ^ 200):∃os,Zbg [.scr ns,.int i,iD ms]=.ok (iD os)∧Row ms os:=by
 obtain ⟨c,hc⟩:=cell_ok ns hn h0 (show i<1000000 by omega)
 have key:=forD_inv (b:=bName 6) (s:=Zet) (xs:=rngL 0 ms.length) (ρ:=[some (.scr ns),some (.int i),some (iD ms),some (.int c),some (.int c),some (.lst []),none,none])
  (P:=fun k ρ=>∃(l:Int) (os:List Int) (o6 o7:Option D),Row (ms.take k) os∧ρ=[some (.scr ns),some (.int i),some (iD ms),some (.int c),some (.int l),some (iD os),o6,o7])
  (Rr:=fun r=>∃(l:Int) (os:List Int) (o6 o7:Option D),Row ms os∧r=.ok (.nx [some (.scr ns),some (.int i),some (iD ms),some (.int c),some (.int l),some (iD os),o6,o7]))
  ⟨c,[],none,none,Row.nil ms,rfl⟩ ?_ ?_
 ·obtain ⟨l,os,o6,o7,hr,e⟩:=key
  refine ⟨os,?_,hr⟩
  have b1:-1000000000≤(ms.length:Int)∧(ms.length:Int)≤1000000:=by omega
  have gl:gLen [iD ms]=some (.int ms.length):=by simp [iD]
  exact Zcq (Zam (Zaw (Zbb (Zad rfl (Zad rfl rfl)) hc)) (Zam (Zaw (Zej rfl rfl)) (Zam (Zaw rfl) (Zam (Zeh (r_rng (Zad (Zdf (Zad rfl rfl) gl) rfl) b1) e) (Zcs rfl)))))
 ·rintro k x ρ hx ⟨l,os,o6,o7,hr,rfl⟩
  obtain ⟨hk,rfl⟩:=rngL_at hx
  rw [Int.zero_add]
  have hol:os.length=k:=by have:=hr.len;rw [List.length_take] at this;omega
  have hlim:(os.map D.int).length<lim:=by rw [List.length_map];show _<1000000;omega
  have c1:∀o5:Option D,(cE (f2 gLt (fV 3) (f2 gPow (fC (.int 10)) (fC (.int 18))))) [some (.scr ns),some (.int i),some (iD ms),some (.int c),some (.int l),o5,some (.int k),o7]=.ok (decide (c<1000000000000000000)):=fun _=>Zct (Zak rfl (Zak rfl rfl pow10_18) rfl)
  have ap:∀v:Int,iD (os++[v])=.lst (os.map D.int++[.int v]):=fun v=>congrArg D.lst List.map_append
  have hmk:=getD_all hms hk
  have ix:=ix_ints (ns:=ms) (i:=(k:Int)) (k:=k) rfl hk
  have md:∀z:Int,gMod (.int z) (.int (ms.getD k 0))=some (.int (z % ms.getD k 0)):=fun z=>mod_ii hmk.1
  have nn:∀z:Int,0≤z % ms.getD k 0∧z % ms.getD k 0<ms.getD k 0:=fun z=>⟨Int.emod_nonneg _ (Int.ne_of_gt hmk.1),Int.emod_lt_of_pos _ hmk.1⟩
  have k0:0≤(k:Int)∧(k:Int)<1000000:=by omega
  obtain ⟨x1,hx1⟩:=mix_ok c k0.1 k0.2
  obtain ⟨c2,hc2⟩:=cell_ok ns hn (i:=(i+1+k) % 63) (Int.emod_nonneg _ (by decide)) (Int.lt_trans (Int.emod_lt_of_pos _ (by decide)) (by decide))
  obtain ⟨x2,hx2⟩:=mix_ok c2 k0.1 k0.2
  refine ⟨_,rfl,.inl ?_⟩
  by_cases a1:c<1000000000000000000
  ·refine ⟨[some (.scr ns),some (.int i),some (iD ms),some (.int c),some (.int l),some (iD (os++[x1 % ms.getD k 0])),some (.int k),o7],.inl ?_,l,_,_,o7,hr.push hk (nn x1).1 (nn x1).2,rfl⟩
   rw [ap]
   exact Zdp ((c1 _).trans (congrArg Dl.R.ok (decide_eq_true a1))) (Zez rfl (Zak (Zbb (Zad rfl (Zad rfl rfl)) hx1) (Zak rfl rfl ix) (md x1)) hlim)
  ·by_cases a2:0<l
   ·refine ⟨[some (.scr ns),some (.int i),some (iD ms),some (.int c),some (.int (l / ms.getD k 0)),some (iD (os++[l % ms.getD k 0])),some (.int k),o7],.inl ?_,_,_,_,o7,hr.push hk (nn l).1 (nn l).2,rfl⟩
    rw [ap]
    exact Zcj ((c1 _).trans (congrArg Dl.R.ok (decide_eq_false a1))) (Zdp (Zct (Zak rfl rfl (congrArg (fun b=>some (D.bl b)) (decide_eq_true a2)))) (Zam (Zez rfl (Zak rfl (Zak rfl rfl ix) (md l)) hlim) (Zaw (Zak rfl (Zak rfl rfl ix) (div_ii hmk.1 hmk.2)))))
   ·refine ⟨[some (.scr ns),some (.int i),some (iD ms),some (.int c),some (.int l),some (iD (os++[x2 % ms.getD k 0])),some (.int k),some (.int c2)],.inl ?_,l,_,_,_,hr.push hk (nn x2).1 (nn x2).2,rfl⟩
    rw [ap]
    exact Zcj ((c1 _).trans (congrArg Dl.R.ok (decide_eq_false a1))) (Zcj (Zct (Zak rfl rfl (congrArg (fun b=>some (D.bl b)) (decide_eq_false a2)))) (Zam (Zaw (Zbb (Zad rfl (Zad (Zak (Zak (Zak rfl rfl rfl) rfl rfl) rfl (mod_ii (by decide))) rfl)) hc2)) (Zez rfl (Zak (Zbb (Zad rfl (Zad rfl rfl)) hx2) (Zak rfl rfl ix) (md x2)) hlim)))
 ·rintro ρ ⟨l,os,o6,o7,hr,rfl⟩
  rw [rngL_length] at hr
  exact ⟨l,os,o6,o7,hr.all,rfl⟩
theorem row_ok (ns:List Int)(hn:ns.length≤63){i:Int}(h0:0≤i)(h1:i<1000)(ms:List Int)(hm:ms.length≤1000)(hms:∀m∈ms,0<m∧m<2 ^ 200):∃os,Zbg [.scr ns,.int i,iD ms]=.ok (iD os)∧Row ms os:=row_okL ns hn h0 h1 ms (Nat.le_trans hm (by decide)) hms
theorem ix_lit (ws:List Int){i:Int}(h0:0≤i)(h1:i<ws.length):gIx (.lst (ws.map D.int)) (.int i)=some (.int (ws.getD i.toNat 0)):=ix_ints (by omega) (by omega)
theorem rep_len (l:List Int):∀n:Nat,(List.replicate n l).flatten.length=n*l.length
 | 0=>by simp
 | n+1=>by rw [List.replicate_succ,List.flatten_cons,List.length_append,rep_len l n,Nat.succ_mul,Nat.add_comm]
theorem rep_map (l:List Int)(n:Nat):(List.replicate n (l.map D.int)).flatten=(List.replicate n l).flatten.map D.int:=by
 rw [List.map_flatten,List.map_replicate]
theorem mul_rep {ws:List Int}{m:Int}(h0:0≤m)(h1:m≤200)(hl:ws.length≤1000):gMul (.lst (ws.map D.int)) (.int m)=some (iD (List.replicate m.toNat ws).flatten):=by
  simp only [gMul]
  rw [if_pos ⟨by omega,by
    rw [List.length_map]
    show ws.length*m.toNat≤1000000
    have:ws.length*m.toNat≤1000*200:=Nat.mul_le_mul hl (by omega)
    omega,by omega,flatA_ints ws⟩,rep_map]
  rfl
theorem add_ints {xs ys:List Int}(h:xs.length+ys.length≤1000000):gAdd (iD xs) (iD ys)=some (iD (xs++ys)):=by
 show (if (xs.map D.int).length+(ys.map D.int).length≤lim∧flatA (xs.map D.int)∧flatA (ys.map D.int) then some (D.lst (xs.map D.int++ys.map D.int)) else none)=_
 rw [if_pos ⟨by rw [List.length_map,List.length_map];exact h,flatA_ints _,flatA_ints _⟩,← List.map_append]
 rfl
theorem rep2_get (x y:Int):∀(n k:Nat),k<n→(List.replicate n [x,y]).flatten.getD (2*k) 0=x∧(List.replicate n [x,y]).flatten.getD (2*k+1) 0=y
 | 0,k,h=>by omega
 | n+1,0,_=>by simp [List.replicate_succ,List.flatten_cons,List.getD]
 | n+1,k+1,h=>by
  have q:=rep2_get x y n k (by omega)
  have e1:2*(k+1)=2*k+2:=by omega
  rw [List.replicate_succ,List.flatten_cons,e1]
  exact q
theorem rep3_get (x y z:Int):∀(n k:Nat),k<n→(List.replicate n [x,y,z]).flatten.getD (3*k) 0=x∧(List.replicate n [x,y,z]).flatten.getD (3*k+1) 0=y∧(List.replicate n [x,y,z]).flatten.getD (3*k+2) 0=z
 | 0,k,h=>by omega
 | n+1,0,_=>by simp [List.replicate_succ,List.flatten_cons,List.getD]
 | n+1,k+1,h=>by
  have q:=rep3_get x y z n k (by omega)
  have e1:3*(k+1)=3*k+3:=by omega
  rw [List.replicate_succ,List.flatten_cons,e1]
  exact q
theorem mem_rep {l:List Int}{n:Nat}{z:Int}(h:z∈(List.replicate n l).flatten):z∈l:=by
 obtain ⟨l',hl,hz⟩:=List.mem_flatten.mp h
 rwa [(List.mem_replicate.mp hl).2] at hz
noncomputable def poolL:List Str:=["a","ab","abc","b","ba","z","zzzzzzzz","roll","cut","by","aab","zz","kind","qsvw","fghjmp","x"]
theorem pool_inj:∀j:Nat,j<16→∀k:Nat,k<16→poolL.getD j ""=poolL.getD k ""→j=k:=by decide +kernel
noncomputable def nameAt (s4 s5:Int)(k:Nat):Str:=poolL.getD ((s4+(2*s5+1)*(k:Int)) % 16).toNat ""
theorem step_inj:∀t:Nat,t<4→∀j:Nat,j<8→∀k:Nat,k<8→((2*(t:Int)+1)*j - (2*(t:Int)+1)*k) % 16=0→j=k:=by decide +kernel
theorem nameAt_inj {s4 s5:Int}(h0:0≤s5)(h1:s5<4){j k:Nat}(hj:j<8)(hk:k<8)(e:nameAt s4 s5 j=nameAt s4 s5 k):j=k:=by
 have lt:∀x:Int,(x % 16).toNat<16:=fun x=>(Int.toNat_lt (Int.emod_nonneg x (by decide))).mpr (Int.emod_lt_of_pos x (by decide))
 have q:=congrArg Int.ofNat (pool_inj _ (lt _) _ (lt _) e)
 have q1:(s4+(2*s5+1)*(j:Int)) % 16=(s4+(2*s5+1)*(k:Int)) % 16:=(Int.toNat_of_nonneg (Int.emod_nonneg _ (by decide))).symm.trans (q.trans (Int.toNat_of_nonneg (Int.emod_nonneg _ (by decide))))
 have q2:=Int.emod_eq_emod_iff_emod_sub_eq_zero.mp q1
 rw [Int.add_sub_add_left] at q2
 obtain ⟨t,rfl⟩:=Int.eq_ofNat_of_zero_le h0
 exact step_inj t (Int.ofNat_lt.mp h1) j hj k hk q2
theorem nameAt_mem (s4 s5:Int)(k:Nat):nameAt s4 s5 k∈poolL:=by
 unfold nameAt
 have h:((s4+(2*s5+1)*(k:Int)) % 16).toNat<poolL.length:=by show _<16;omega
 have e:poolL.getD ((s4+(2*s5+1)*(k:Int)) % 16).toNat ""=poolL[((s4+(2*s5+1)*(k:Int)) % 16).toNat]:=by simp [List.getD,h]
 rw [e]
 exact List.getElem_mem h
structure KindOk (k:Kd):Prop where
 nm:k.name∈poolL
 w1:1≤k.w
 w2:k.w≤200
 o1:1≤k.wo
 o2:k.wo≤1000000000000000000
 a1:0≤k.al
 a2:k.al<1000000000000000000
structure TabOk (ks:List Kd):Prop where
 ok:∀k∈ks,KindOk k
 nd:(ks.map (·.name)).Nodup
theorem pool_ix {i:Int}(h0:0≤i)(h1:i<16):gIx (.lst (poolL.map D.str)) (.int i)=some (.str (poolL.getD i.toNat "")):=ix_l (k:=i.toNat) (by omega) (by
  have h:i.toNat<poolL.length:=by show _<16;omega
  simp [List.getD,h])
theorem max_lit {ms:List Int}(h:∀m∈ms,0<m∧m≤1000000):∀m∈ms,0<m∧m<2 ^ 200:=fun m hm=>⟨(h m hm).1,Int.lt_of_le_of_lt (h m hm).2 (by decide)⟩
theorem four {x:Int}(h:0≤x∧x<4):x=0∨x=1∨x=2∨x=3:=by
 obtain ⟨n,rfl⟩:=Int.eq_ofNat_of_zero_le h.1
 match n,Int.ofNat_lt.mp h.2 with
 | 0,_=>exact .inl rfl
 | 1,_=>exact .inr (.inl rfl)
 | 2,_=>exact .inr (.inr (.inl rfl))
 | 3,_=>exact .inr (.inr (.inr rfl))
theorem mod_bd {x m:Int}(hm:0<m):0≤x % m∧x % m<m:=⟨Int.emod_nonneg _ (Int.ne_of_gt hm),Int.emod_lt_of_pos _ hm⟩
theorem tab_turn {d0 d1 d2 o9 o10 o11 o12 o13:Option D}{O:D}{T:List D}{fl gn bw wd am x3 x4 x5 x6 x7 x8:Int}{k:Nat}{nm:Str}
    (j0:gIx O (.int (3*(k:Int)+6))=some (.int x6)) (j1:gIx O (.int (3*(k:Int)+6+1))=some (.int x7)) (j2:gIx O (.int (3*(k:Int)+6+2))=some (.int x8))
    (j3:gIx O (.int 3)=some (.int x3)) (j4:gIx O (.int 4)=some (.int x4)) (j5:gIx O (.int 5)=some (.int x5))
    (ib:gIx (.lst [.int 150,.int 200]) (.int ((k:Int) % 2))=some (.int bw))
    (iw:gIx (.lst [.int 1,.int 2,.int 3,.int 4,.int 5,.int 6,.int 2,.int 3,.int 11,.int 40,.int bw]) (.int x6)=some (.int wd))
    (ia:gIx (.lst [.int 0,.int 0,.int 1,.int 2,.int 3,.int 12]) (.int x8)=some (.int am))
    (iN:gIx (.lst (poolL.map D.str)) (.int ((x4+(2*x5+1)*(k:Int)) % 16))=some (.str nm))
    (w1:1≤wd∧wd≤200) (c7:0≤x7∧x7<40) (c3:0≤x3∧x3<4) (c5:0≤x5∧x5<4) (m1:0≤am∧am≤12) (sl:T.length<lim) :
    ∃wo:Int,(1≤wo∧wo≤1000)∧Zdd [d0,d1,d2,some (.lst (poolL.map D.str)),some O,some (.int fl),some (.int gn),some (.lst T),some (.int k),o9,o10,o11,o12,o13] =
      .ok (.nx [d0,d1,d2,some (.lst (poolL.map D.str)),some O,some (.int fl),some (.int gn),some (.lst (T++[.tup [.str nm,.int wd,.int (min (wo*gn) 1000000000000000000),.int (min (am*fl) 999999999999999999)]])),some (.int k),some (.int (3*(k:Int)+6)),some (.int wd),some (.int wo),some (.int (min (am*fl) 999999999999999999)),some (.str nm)]):=by
  obtain ⟨wo,hb,mid⟩:∃wo:Int,(1≤wo∧wo≤1000)∧∀Q:FS,(sSeq (sIf (cE (f2 gEq (f2 gIx (fV 4) (fC (.int 3))) (fC (.int 1)))) (sSet 11 (f2 gAdd (f2 gMul (fC (.int 3)) (fV 10)) (f2 gMod (f2 gIx (fV 4) (f2 gAdd (fV 9) (fC (.int 1)))) (fC (.int 4))))) sNx)
    (sSeq (sIf (cE (f2 gEq (f2 gIx (fV 4) (fC (.int 3))) (fC (.int 2)))) (sSet 11 (f2 gAdd (fC (.int 1)) (f2 gMod (f2 gIx (fV 4) (f2 gAdd (fV 9) (fC (.int 1)))) (fC (.int 3))))) sNx)
    (sSeq (sIf (cE (f2 gEq (f2 gIx (fV 4) (fC (.int 3))) (fC (.int 3)))) (sSet 11 (f1 gFlat (fV 10))) sNx) Q))) [d0,d1,d2,some (.lst (poolL.map D.str)),some O,some (.int fl),some (.int gn),some (.lst T),some (.int k),some (.int (3*(k:Int)+6)),some (.int wd),some (.int (1+x7)),o12,o13] =
      Q [d0,d1,d2,some (.lst (poolL.map D.str)),some O,some (.int fl),some (.int gn),some (.lst T),some (.int k),some (.int (3*(k:Int)+6)),some (.int wd),some (.int wo),o12,o13]:=by
    rcases four c3 with rfl | rfl | rfl | rfl
    · exact ⟨1+x7,⟨Int.le_add_of_nonneg_right c7.1,Int.le_trans (Int.add_le_add_left (Int.le_of_lt c7.2) 1) (by decide)⟩,fun Q=>Zam (Zcj (Zct (Zak (Zak rfl rfl j3) rfl rfl)) rfl) (Zam (Zcj (Zct (Zak (Zak rfl rfl j3) rfl rfl)) rfl) (Zam (Zcj (Zct (Zak (Zak rfl rfl j3) rfl rfl)) rfl) rfl))⟩
    · exact ⟨3*wd+x7 % 4,⟨Int.le_trans (show (1:Int)≤3*1+0 by decide) (Int.add_le_add (Int.mul_le_mul_of_nonneg_left w1.1 (by decide)) (mod_bd (by decide)).1),Int.le_trans (Int.add_le_add (Int.mul_le_mul_of_nonneg_left w1.2 (by decide)) (Int.le_of_lt (mod_bd (by decide)).2)) (by decide)⟩,fun Q=>Zam (Zdp (Zct (Zak (Zak rfl rfl j3) rfl rfl)) (Zaw (Zak (Zak rfl rfl (mulS (by decide) (by decide))) (Zak (Zak rfl (Zak rfl rfl rfl) j1) rfl (mod_ii (by decide))) rfl))) (Zam (Zcj (Zct (Zak (Zak rfl rfl j3) rfl rfl)) rfl) (Zam (Zcj (Zct (Zak (Zak rfl rfl j3) rfl rfl)) rfl) rfl))⟩
    · exact ⟨1+x7 % 3,⟨Int.le_add_of_nonneg_right (mod_bd (by decide)).1,Int.le_trans (Int.add_le_add_left (Int.le_of_lt (mod_bd (by decide)).2) 1) (by decide)⟩,fun Q=>Zam (Zcj (Zct (Zak (Zak rfl rfl j3) rfl rfl)) rfl) (Zam (Zdp (Zct (Zak (Zak rfl rfl j3) rfl rfl)) (Zaw (Zak rfl (Zak (Zak rfl (Zak rfl rfl rfl) j1) rfl (mod_ii (by decide))) rfl))) (Zam (Zcj (Zct (Zak (Zak rfl rfl j3) rfl rfl)) rfl) rfl))⟩
    · exact ⟨wd,⟨w1.1,Int.le_trans w1.2 (by decide)⟩,fun Q=>Zam (Zcj (Zct (Zak (Zak rfl rfl j3) rfl rfl)) rfl) (Zam (Zcj (Zct (Zak (Zak rfl rfl j3) rfl rfl)) rfl) (Zam (Zdp (Zct (Zak (Zak rfl rfl j3) rfl rfl)) (Zaw (Zej rfl rfl))) rfl))⟩
  exact ⟨wo,hb,Zam (Zaw (Zak (Zak rfl rfl (mulS (by decide) (by decide))) rfl rfl)) (Zam (Zaw (Zej (Zak (Zdf (Zad rfl (Zad rfl (Zad rfl (Zad rfl (Zad rfl (Zad rfl (Zad rfl (Zad rfl (Zad rfl (Zad rfl (Zad (Zak rfl (Zak rfl rfl (mod_ii (by decide))) ib) rfl))))))))))) rfl) (Zak rfl rfl j0) iw) rfl)) (Zam (Zaw (Zak rfl (Zak rfl (Zak rfl rfl rfl) j1) rfl)) ((mid _).trans
    (Zam (Zaw (Zdf (Zad (Zak (Zak rfl (Zak rfl (Zak rfl rfl rfl) j2) ia) rfl (mulS m1.1 (Int.le_trans m1.2 (by decide)))) (Zad (Zak (Zak rfl rfl pow10_18) rfl (show gSub (.int 1000000000000000000) (.int 1)=some (.int 999999999999999999) from rfl)) rfl)) (min_ii _ _)))
    (Zam (Zaw (Zej (Zak rfl (Zak (Zak (Zak rfl rfl j4) (Zak (Zak (Zak rfl (Zak rfl rfl j5) (mulS (by decide) (by decide))) rfl rfl) rfl (mulS (Int.add_nonneg (Int.mul_nonneg (by decide) c5.1) (by decide)) (Int.le_trans (Int.add_le_add_right (Int.mul_le_mul_of_nonneg_left (Int.le_of_lt c5.2) (by decide)) 1) (by decide)))) rfl) rfl (mod_ii (by decide))) iN) rfl))
    (Zez rfl (Zdf (Zad (Zej rfl rfl) (Zad (Zej rfl rfl) (Zad (Zdf (Zad (Zak rfl rfl (mulS (Int.le_trans (by decide) hb.1) (Int.le_trans hb.2 (by decide)))) (Zad (Zak rfl rfl pow10_18) rfl)) (min_ii _ _)) (Zad (Zej rfl rfl) rfl)))) rfl) sl))))))⟩
theorem under {x m:Int}{k:Nat}(h:k<x.toNat)(hx:x<m+1):k<m.toNat:=by omega
theorem lits_and {P:Int→Prop}{l:List Int}{b:Int}(h:∀z∈l,P z)(hb:P b):∀z∈l++[b],P z:=List.forall_mem_append.mpr ⟨h,fun _ hz=>List.mem_singleton.mp hz▸hb⟩
theorem tri_lt {k j m:Nat}(h:k<m)(hj:j<3):3*k+(j+6)<6+m*3:=by omega
theorem table_ok (ns:List Int)(hn:ns.length≤63){i m:Int}(h0:0≤i)(h1:i<1000)(m0:0≤m)(m1:m≤8):∃ks,Zcn [.scr ns,.int i,.int m]=.ok (tD ks)∧(ks.length:Int)≤m∧TabOk ks:=by
  have m8:m.toNat≤8:=Int.toNat_le.mpr m1
  have m24:6+m.toNat*3≤30:=Nat.add_le_add_left (Nat.mul_le_mul_right 3 m8) 6
  have ms_eq:gAdd (iD [m+1,4,4,4,16,4]) (iD (List.replicate m.toNat [11,40,6]).flatten)=some (iD ([m+1,4,4,4,16,4]++(List.replicate m.toNat [11,40,6]).flatten)):=add_ints (by
    rw [rep_len]
    exact Nat.le_trans m24 (by decide))
  have mr:=mul_rep (ws:=[11,40,6]) m0 (Int.le_trans m1 (by decide)) (by decide)
  have hml:([m+1,4,4,4,16,4]++(List.replicate m.toNat [(11:Int),40,6]).flatten).length=6+m.toNat*3:=by rw [List.length_append,rep_len];rfl
  obtain ⟨os,hos,R⟩:=row_ok ns hn h0 h1 ([m+1,4,4,4,16,4]++(List.replicate m.toNat [11,40,6]).flatten) (by rw [hml];exact Nat.le_trans m24 (by decide)) (max_lit (List.forall_mem_append.mpr ⟨List.forall_mem_cons.mpr ⟨⟨Int.lt_add_one_of_le m0,Int.le_trans (Int.add_le_add_right m1 1) (by decide)⟩,by decide⟩,fun z hz=>(by decide:∀z∈[(11:Int),40,6],0<z∧z≤1000000) z (mem_rep hz)⟩))
  have hol:os.length=6+m.toNat*3:=by rw [R.len,hml]
  have hlt:∀{j:Nat},j<6→j<([m+1,4,4,4,16,4]++(List.replicate m.toNat [(11:Int),40,6]).flatten).length:=fun h=>by rw [hml];exact Nat.lt_of_lt_of_le h (Nat.le_add_right _ _)
  have hlo:∀{j:Nat},j<6→j<os.length:=fun h=>by rw [hol];exact Nat.lt_of_lt_of_le h (Nat.le_add_right _ _)
  have tri:∀k j:Nat,k<m.toNat→j<3→3*k+(j+6)<6+m.toNat*3:=fun _ _ h hj=>tri_lt h hj
  have a0:0≤os.getD 0 0∧os.getD 0 0<m+1:=R.at_ 0 (hlt (by decide))
  have a1:0≤os.getD 1 0∧os.getD 1 0<4:=R.at_ 1 (hlt (by decide))
  have a2:0≤os.getD 2 0∧os.getD 2 0<4:=R.at_ 2 (hlt (by decide))
  have a3:0≤os.getD 3 0∧os.getD 3 0<4:=R.at_ 3 (hlt (by decide))
  have a4:0≤os.getD 4 0∧os.getD 4 0<16:=R.at_ 4 (hlt (by decide))
  have a5:0≤os.getD 5 0∧os.getD 5 0<4:=R.at_ 5 (hlt (by decide))
  have b3:∀k:Nat,k<m.toNat→(0≤os.getD (3*k+6) 0∧os.getD (3*k+6) 0<11)∧(0≤os.getD (3*k+7) 0∧os.getD (3*k+7) 0<40)∧(0≤os.getD (3*k+8) 0∧os.getD (3*k+8) 0<6):=fun k hk=>by
    obtain ⟨g1,g2,g3⟩:=rep3_get 11 40 6 m.toNat k hk
    have e:∀j:Nat,([m+1,4,4,4,16,4]++(List.replicate m.toNat [(11:Int),40,6]).flatten).getD (j+6) 0=(List.replicate m.toNat [(11:Int),40,6]).flatten.getD j 0:=fun j=>rfl
    have r1:=R.at_ (3*k+6) (by rw [hml];exact tri k 0 hk (by decide))
    have r2:=R.at_ (3*k+7) (by rw [hml];exact tri k 1 hk (by decide))
    have r3:=R.at_ (3*k+8) (by rw [hml];exact tri k 2 hk (by decide))
    rw [e (3*k),g1] at r1
    rw [show 3*k+7=(3*k+1)+6 from rfl,e (3*k+1),g2] at r2
    rw [show 3*k+8=(3*k+2)+6 from rfl,e (3*k+2),g3] at r3
    exact ⟨r1,r2,r3⟩
  have ix:∀k:Nat,k<os.length→∀j:Int,j=(k:Int)→gIx (.lst (os.map D.int)) (.int j)=some (.int (os.getD k 0)):=fun k hk j e=>ix_ints e hk
  obtain ⟨fl,hfl⟩:∃fl,fl=([1,1,7,100000000000000000]:List Int).getD (os.getD 1 0).toNat 0:=⟨_,rfl⟩
  obtain ⟨gn,hgn⟩:∃gn,gn=([1,1,1000000,25000000000000000]:List Int).getD (os.getD 2 0).toNat 0:=⟨_,rfl⟩
  have fl1:1≤fl∧fl≤100000000000000000:=by
    rw [hfl]
    exact getD_all (P:=fun z=>1≤z∧z≤100000000000000000) (by decide) (show _<4 from (Int.toNat_lt a1.1).mpr a1.2)
  have gn1:1≤gn∧gn≤25000000000000000:=by
    rw [hgn]
    exact getD_all (P:=fun z=>1≤z∧z≤25000000000000000) (by decide) (show _<4 from (Int.toNat_lt a2.1).mpr a2.2)
  have i1:gIx (.lst [.int 1,.int 1,.int 7,.int 100000000000000000]) (.int (os.getD 1 0))=some (.int fl):=by rw [hfl];exact ix_lit [1,1,7,100000000000000000] a1.1 a1.2
  have i2:gIx (.lst [.int 1,.int 1,.int 1000000,.int 25000000000000000]) (.int (os.getD 2 0))=some (.int gn):=by rw [hgn];exact ix_lit [1,1,1000000,25000000000000000] a2.1 a2.2
  have key:=forD_inv (b:=bName 8) (s:=Zdd) (xs:=rngL 0 (os.getD 0 0).toNat) (ρ:=[some (.scr ns),some (.int i),some (.int m),some (.lst (poolL.map D.str)),some (iD os),some (.int fl),some (.int gn),some (.lst []),none,none,none,none,none,none])
    (P:=fun k ρ=>∃(ks:List Kd) (o8 o9 o10 o11 o12 o13:Option D),ks.length=k∧(∀x∈ks,KindOk x)∧ks.map (·.name)=(List.range k).map (nameAt (os.getD 4 0) (os.getD 5 0))∧ρ=[some (.scr ns),some (.int i),some (.int m),some (.lst (poolL.map D.str)),some (iD os),some (.int fl),some (.int gn),some (tD ks),o8,o9,o10,o11,o12,o13])
    (Rr:=fun r=>∃(ks:List Kd) (o8 o9 o10 o11 o12 o13:Option D),ks.length=(os.getD 0 0).toNat∧(∀x∈ks,KindOk x)∧ks.map (·.name)=(List.range ks.length).map (nameAt (os.getD 4 0) (os.getD 5 0))∧r=.ok (.nx [some (.scr ns),some (.int i),some (.int m),some (.lst (poolL.map D.str)),some (iD os),some (.int fl),some (.int gn),some (tD ks),o8,o9,o10,o11,o12,o13]))
    ⟨[],none,none,none,none,none,none,rfl,(fun _ h=>nomatch h),rfl,rfl⟩ ?_ ?_
  · obtain ⟨ks,o8,o9,o10,o11,o12,o13,kl,kok,knm,e⟩:=key
    have k8:ks.length≤8:=by rw [kl];exact Int.toNat_le.mpr (Int.le_trans (Int.lt_add_one_iff.mp a0.2) m1)
    refine ⟨ks,?_,by rw [kl,Int.toNat_of_nonneg a0.1];exact Int.lt_add_one_iff.mp a0.2,kok,?_⟩
    · have b1:-1000000000≤os.getD 0 0∧os.getD 0 0≤1000000:=⟨Int.le_trans (by decide) a0.1,Int.le_trans (Int.lt_add_one_iff.mp a0.2) (Int.le_trans m1 (by decide))⟩
      have hp:gAdd (.lst [.str ("a":Str),.str ("ab":Str),.str ("abc":Str),.str ("b":Str),.str ("ba":Str),.str ("z":Str),.str ("zzzzzzzz":Str),.str ("roll":Str),.str ("cut":Str),.str ("by":Str)]) (.lst [.str ("aab":Str),.str ("zz":Str),.str ("kind":Str),.str ("qsvw":Str),.str ("fghjmp":Str),.str ("x":Str)])=some (.lst (poolL.map D.str)):=rfl
      have mr':gMul (.lst [.int 11,.int 40,.int 6]) (.int m)=_:=mr
      have ms':gAdd (.lst [.int (m+1),.int 4,.int 4,.int 4,.int 16,.int 4]) (iD (List.replicate m.toNat [11,40,6]).flatten)=_:=ms_eq
      generalize iD ([m+1,4,4,4,16,4]++(List.replicate m.toNat [11,40,6]).flatten)=Mv at hos ms'
      generalize iD (List.replicate m.toNat [11,40,6]).flatten=Mw at mr' ms'
      exact Zcq (Zam (Zaw rfl) (Zam (Zaw (Zak rfl rfl hp)) (Zam (Zaw (Zbb (Zad rfl (Zad rfl (Zad (Zak (Zdf (Zad (Zak rfl rfl rfl) rfl) rfl) (Zak rfl rfl mr') ms') rfl))) hos))
        (Zam (Zaw (Zej (Zak (Zdf (Zad rfl (Zad rfl (Zad rfl (Zad (Zak rfl rfl pow10_17) rfl)))) rfl) (Zak rfl rfl (ix 1 (hlo (by decide)) 1 rfl)) i1) rfl))
        (Zam (Zaw (Zej (Zak (Zdf (Zad rfl (Zad rfl (Zad (Zak rfl rfl (show gPow (.int 10) (.int 6)=some (.int 1000000) by simp)) (Zad (Zak rfl (Zak rfl rfl pow10_15) (show gMul (.int 25) (.int 1000000000000000)=some (.int 25000000000000000) from mulS (by decide) (by decide))) rfl)))) rfl) (Zak rfl rfl (ix 2 (hlo (by decide)) 2 rfl)) i2) rfl))
        (Zam (Zaw rfl) (Zam (Zeh (r_rng (Zad (Zak rfl rfl (ix 0 (hlo (by decide)) 0 rfl)) rfl) b1) e) (Zcs rfl))))))))
    · rw [knm,List.nodup_iff_pairwise_ne,List.pairwise_map]
      refine List.Pairwise.imp_of_mem ?_ (List.nodup_iff_pairwise_ne.mp List.nodup_range)
      intro i j hi hj hij e
      have hi:=List.mem_range.mp hi
      have hj:=List.mem_range.mp hj
      exact hij (nameAt_inj a5.1 a5.2 (Nat.lt_of_lt_of_le hi (Nat.le_trans k8 (by decide))) (Nat.lt_of_lt_of_le hj (Nat.le_trans k8 (by decide))) e)
  · rintro k x ρ hx ⟨ks,o8,o9,o10,o11,o12,o13,kl,kok,knm,rfl⟩
    obtain ⟨hk,rfl⟩:=rngL_at hx
    rw [Int.zero_add]
    have hkm:k<m.toNat:=under hk a0.2
    obtain ⟨c1,c2,c3⟩:=b3 k hkm
    have j0:=ix (3*k+6) (by rw [hol];exact tri k 0 hkm (by decide)) (3*k+6) rfl
    have j1:=ix (3*k+7) (by rw [hol];exact tri k 1 hkm (by decide)) (3*k+6+1) (Int.add_assoc _ 6 1)
    have j2:=ix (3*k+8) (by rw [hol];exact tri k 2 hkm (by decide)) (3*k+6+2) (Int.add_assoc _ 6 2)
    have j3:=ix 3 (hlo (by decide)) 3 rfl
    have j4:=ix 4 (hlo (by decide)) 4 rfl
    have j5:=ix 5 (hlo (by decide)) 5 rfl
    obtain ⟨bw,hbw⟩:∃bw,bw=([150,200]:List Int).getD ((k:Int) % 2).toNat 0:=⟨_,rfl⟩
    have k2:0≤(k:Int) % 2∧(k:Int) % 2<2:=⟨Int.emod_nonneg _ (by decide),Int.emod_lt_of_pos _ (by decide)⟩
    have bw1:1≤bw∧bw≤200:=by
      rw [hbw]
      exact getD_all (P:=fun z=>1≤z∧z≤200) (by decide) (show _<2 from (Int.toNat_lt k2.1).mpr k2.2)
    have ib:gIx (.lst [.int 150,.int 200]) (.int ((k:Int) % 2))=some (.int bw):=by rw [hbw];exact ix_lit [150,200] k2.1 k2.2
    obtain ⟨wd,hwd⟩:∃wd,wd=([1,2,3,4,5,6,2,3,11,40,bw]:List Int).getD (os.getD (3*k+6) 0).toNat 0:=⟨_,rfl⟩
    have wd1:1≤wd∧wd≤200:=by
      rw [hwd]
      exact getD_all (P:=fun z=>1≤z∧z≤200) (lits_and (l:=[1,2,3,4,5,6,2,3,11,40]) (by decide) bw1) (show _<11 from (Int.toNat_lt c1.1).mpr c1.2)
    have iw:gIx (.lst [.int 1,.int 2,.int 3,.int 4,.int 5,.int 6,.int 2,.int 3,.int 11,.int 40,.int bw]) (.int (os.getD (3*k+6) 0))=some (.int wd):=by rw [hwd];exact ix_lit [1,2,3,4,5,6,2,3,11,40,bw] c1.1 c1.2
    obtain ⟨am,ham⟩:∃am,am=([0,0,1,2,3,12]:List Int).getD (os.getD (3*k+8) 0).toNat 0:=⟨_,rfl⟩
    have am1:0≤am∧am≤12:=by
      rw [ham]
      exact getD_all (P:=fun z=>0≤z∧z≤12) (by decide) (show _<6 from (Int.toNat_lt c3.1).mpr c3.2)
    have ia:gIx (.lst [.int 0,.int 0,.int 1,.int 2,.int 3,.int 12]) (.int (os.getD (3*k+8) 0))=some (.int am):=by rw [ham];exact ix_lit [0,0,1,2,3,12] c3.1 c3.2
    have iN:=pool_ix (i:=(os.getD 4 0+(2*os.getD 5 0+1)*(k:Int)) % 16) (Int.emod_nonneg _ (by decide)) (Int.emod_lt_of_pos _ (by decide))
    have sl:(ks.map kD).length<lim:=by rw [List.length_map,kl];exact Nat.lt_of_lt_of_le hkm (Nat.le_trans m8 (by decide))
    obtain ⟨wo,wo1,turn⟩:=tab_turn (d0:=some (.scr ns)) (d1:=some (.int i)) (d2:=some (.int m)) (o9:=o9) (o10:=o10) (o11:=o11) (o12:=o12) (o13:=o13) (fl:=fl) (gn:=gn) j0 j1 j2 j3 j4 j5 ib iw ia iN wd1 c2 a3 a5 am1 sl
    have pr:0≤am*fl:=Int.mul_nonneg am1.1 (Int.le_trans (by decide) fl1.1)
    have wg:1≤wo*gn:=Int.mul_le_mul wo1.1 gn1.1 (by decide) (Int.le_trans (by decide) wo1.1)
    have kd:KindOk ⟨nameAt (os.getD 4 0) (os.getD 5 0) k,wd,min (wo*gn) 1000000000000000000,min (am*fl) 999999999999999999⟩:=⟨nameAt_mem _ _ _,wd1.1,wd1.2,Int.le_min.mpr ⟨wg,by decide⟩,Int.min_le_right _ _,Int.le_min.mpr ⟨pr,by decide⟩,Int.lt_of_le_of_lt (Int.min_le_right _ _) (by decide)⟩
    refine ⟨_,rfl,.inl ⟨[some (.scr ns),some (.int i),some (.int m),some (.lst (poolL.map D.str)),some (iD os),some (.int fl),some (.int gn),some (tD (ks++[⟨nameAt (os.getD 4 0) (os.getD 5 0) k,wd,min (wo*gn) 1000000000000000000,min (am*fl) 999999999999999999⟩])),some (.int k),some (.int (3*k+6)),some (.int wd),some (.int wo),some (.int (min (am*fl) 999999999999999999)),some (.str (nameAt (os.getD 4 0) (os.getD 5 0) k))],.inl ?_,_,_,_,_,_,_,_,?_,?_,?_,rfl⟩⟩
    · rw [show tD (ks++[⟨nameAt (os.getD 4 0) (os.getD 5 0) k,wd,min (wo*gn) 1000000000000000000,min (am*fl) 999999999999999999⟩])=.lst (ks.map kD++[.tup [.str (nameAt (os.getD 4 0) (os.getD 5 0) k),.int wd,.int (min (wo*gn) 1000000000000000000),.int (min (am*fl) 999999999999999999)]]) from congrArg D.lst List.map_append]
      exact turn
    · rw [List.length_append,kl];rfl
    · intro x hx
      rcases List.mem_append.mp hx with h | h
      · exact kok x h
      · rw [List.mem_singleton.mp h];exact kd
    · rw [List.map_append,knm,List.range_succ,List.map_append]
      rfl
  · rintro ρ ⟨ks,o8,o9,o10,o11,o12,o13,kl,kok,knm,rfl⟩
    rw [rngL_length] at kl
    exact ⟨ks,o8,o9,o10,o11,o12,o13,kl,kok,by rw [kl];rw [rngL_length] at knm;exact knm,rfl⟩
theorem flaw_ok (ns:List Int)(hn:ns.length≤63){i m:Int}(h0:0≤i)(h1:i<1000)(m0:0≤m)(m1:m≤1000):∃fl:Int,Zda [.scr ns,.int i,.int m]=.ok (.int fl)∧1≤fl∧fl≤100000000000000000:=by
 obtain ⟨os,hos,R⟩:=row_ok ns hn h0 h1 [m+1,4] (by decide:2≤1000) (max_lit (List.forall_mem_cons.mpr ⟨⟨by omega,by omega⟩,by decide⟩))
 have hol:os.length=2:=R.len
 have a1:0≤os.getD 1 0∧os.getD 1 0<4:=R.at_ 1 (by decide:1<2)
 obtain ⟨fl,hfl⟩:∃fl,fl=([1,1,7,100000000000000000]:List Int).getD (os.getD 1 0).toNat 0:=⟨_,rfl⟩
 have fl1:1≤fl∧fl≤100000000000000000:=by
  rw [hfl]
  exact getD_all (P:=fun z=>1≤z∧z≤100000000000000000) (by decide) (show _<4 from (Int.toNat_lt a1.1).mpr a1.2)
 have i1:gIx (.lst [.int 1,.int 1,.int 7,.int 100000000000000000]) (.int (os.getD 1 0))=some (.int fl):=by rw [hfl];exact ix_lit [1,1,7,100000000000000000] a1.1 a1.2
 have i0:=ix_ints (ns:=os) (i:=1) (k:=1) rfl (by rw [hol];decide)
 exact ⟨fl,Zcq (Zcs (Zej (Zak (Zdf (Zad rfl (Zad rfl (Zad rfl (Zad (Zak rfl rfl pow10_17) rfl)))) rfl) (Zak (Zbb (Zad rfl (Zad rfl (Zad (Zdf (Zad (Zak rfl rfl rfl) rfl) rfl) rfl))) hos) rfl i0) i1) rfl)),fl1⟩
theorem roll_ok (ns:List Int)(hn:ns.length≤63){i m fl:Int}(h0:0≤i)(h1:i<1000)(m0:0≤m)(m1:m≤200)(f0:1≤fl)(f1:fl≤100000000000000000):∃ws,Zcz [.scr ns,.int i,.int m,.int fl]=.ok (iD ws)∧(ws.length:Int)≤m∧∀w∈ws,0≤w∧w≤1000000000000000000:=by
  have ms_eq:gAdd (iD [m+1,4,3]) (iD (List.replicate m.toNat [8,5]).flatten)=some (iD ([m+1,4,3]++(List.replicate m.toNat [8,5]).flatten)):=add_ints (by
    rw [rep_len]
    show 3+m.toNat*2≤1000000
    omega)
  have mr:=mul_rep (ws:=[8,5]) m0 (show m≤200 by omega) (by decide)
  have hml:([m+1,4,3]++(List.replicate m.toNat [(8:Int),5]).flatten).length=3+m.toNat*2:=by rw [List.length_append,rep_len];rfl
  obtain ⟨os,hos,R⟩:=row_ok ns hn h0 h1 ([m+1,4,3]++(List.replicate m.toNat [8,5]).flatten) (by omega) (max_lit (List.forall_mem_append.mpr ⟨List.forall_mem_cons.mpr ⟨⟨by omega,by omega⟩,by decide⟩,fun z hz=>(by decide:∀z∈[(8:Int),5],0<z∧z≤1000000) z (mem_rep hz)⟩))
  have hol:os.length=3+m.toNat*2:=by rw [R.len,hml]
  have hlt:∀{j:Nat},j<3→j<([m+1,4,3]++(List.replicate m.toNat [(8:Int),5]).flatten).length:=fun h=>by rw [hml];exact Nat.lt_of_lt_of_le h (Nat.le_add_right _ _)
  have hlo:∀{j:Nat},j<3→j<os.length:=fun h=>by rw [hol];exact Nat.lt_of_lt_of_le h (Nat.le_add_right _ _)
  have tri:∀k j:Nat,k<m.toNat→j<2→2*k+(j+3)<3+m.toNat*2:=fun k j h hj=>by omega
  have a0:0≤os.getD 0 0∧os.getD 0 0<m+1:=R.at_ 0 (hlt (by decide))
  have a1:0≤os.getD 1 0∧os.getD 1 0<4:=R.at_ 1 (hlt (by decide))
  have a2:0≤os.getD 2 0∧os.getD 2 0<3:=R.at_ 2 (hlt (by decide))
  have b2:∀k:Nat,k<m.toNat→(0≤os.getD (2*k+3) 0∧os.getD (2*k+3) 0<8)∧(0≤os.getD (2*k+4) 0∧os.getD (2*k+4) 0<5):=fun k hk=>by
    obtain ⟨g1,g2⟩:=rep2_get 8 5 m.toNat k hk
    have e:∀j:Nat,([m+1,4,3]++(List.replicate m.toNat [(8:Int),5]).flatten).getD (j+3) 0=(List.replicate m.toNat [(8:Int),5]).flatten.getD j 0:=fun j=>rfl
    have r1:=R.at_ (2*k+3) (by rw [hml];exact tri k 0 hk (by decide))
    have r2:=R.at_ (2*k+4) (by rw [hml];exact tri k 1 hk (by decide))
    rw [e (2*k),g1] at r1
    rw [show 2*k+4=(2*k+1)+3 from rfl,e (2*k+1),g2] at r2
    exact ⟨r1,r2⟩
  have ix:∀k:Nat,k<os.length→∀j:Int,j=(k:Int)→gIx (.lst (os.map D.int)) (.int j)=some (.int (os.getD k 0)):=fun k hk j e=>ix_ints e hk
  obtain ⟨gr,hgr,gr1⟩:∃gr:Int,gr=(if os.getD 2 0=0 then 1000000000000000000 else 9*fl)∧0≤gr∧gr≤1000000000000000000:=by
    refine ⟨_,rfl,?_⟩
    split
    · exact ⟨by decide,by decide⟩
    · exact ⟨Int.mul_nonneg (by decide) (Int.le_trans (by decide) f0),Int.le_trans (Int.mul_le_mul_of_nonneg_left f1 (by decide)) (by decide)⟩
  obtain ⟨th,hth⟩:∃th,th=([0,1,3,6]:List Int).getD (os.getD 1 0).toNat 0:=⟨_,rfl⟩
  have ith:gIx (.lst [.int 0,.int 1,.int 3,.int 6]) (.int (os.getD 1 0))=some (.int th):=by rw [hth];exact ix_lit [0,1,3,6] a1.1 a1.2
  have key:=forD_inv (b:=bName 7) (s:=Zed) (xs:=rngL 0 (os.getD 0 0).toNat) (ρ:=[some (.scr ns),some (.int i),some (.int m),some (.int fl),some (iD os),some (.int gr),some (.lst []),none,none,none])
    (P:=fun k ρ=>∃(ws:List Int) (o7 o8 o9:Option D),ws.length=k∧(∀x∈ws,0≤x∧x≤1000000000000000000)∧ρ=[some (.scr ns),some (.int i),some (.int m),some (.int fl),some (iD os),some (.int gr),some (iD ws),o7,o8,o9])
    (Rr:=fun r=>∃(ws:List Int) (o7 o8 o9:Option D),ws.length=(os.getD 0 0).toNat∧(∀x∈ws,0≤x∧x≤1000000000000000000)∧r=.ok (.nx [some (.scr ns),some (.int i),some (.int m),some (.int fl),some (iD os),some (.int gr),some (iD ws),o7,o8,o9]))
    ⟨[],none,none,none,rfl,(fun _ h=>nomatch h),rfl⟩ ?_ ?_
  · obtain ⟨ws,o7,o8,o9,wl,wok,e⟩:=key
    refine ⟨ws,?_,by omega,wok⟩
    have b1:-1000000000≤os.getD 0 0∧os.getD 0 0≤1000000:=by omega
    have mr':gMul (.lst [.int 8,.int 5]) (.int m)=_:=mr
    have ms':gAdd (.lst [.int (m+1),.int 4,.int 3]) (iD (List.replicate m.toNat [8,5]).flatten)=_:=ms_eq
    generalize iD ([m+1,4,3]++(List.replicate m.toNat [8,5]).flatten)=Mv at hos ms'
    generalize iD (List.replicate m.toNat [8,5]).flatten=Mw at mr' ms'
    have t1:gMul (.int 9) (.int fl)=some (.int (9*fl)):=mulS (by decide) (by decide)
    have body:∀Q r,Q [some (.scr ns),some (.int i),some (.int m),some (.int fl),some (iD os),some (.int gr),none,none,none,none]=r→(sSeq (sSet 5 (f2 gMul (fC (.int 9)) (fV 3))) (sSeq (sIf (cE (f2 gEq (f2 gIx (fV 4) (fC (.int 2))) (fC (.int 0)))) (sSet 5 (f2 gPow (fC (.int 10)) (fC (.int 18)))) sNx) Q)) [some (.scr ns),some (.int i),some (.int m),some (.int fl),some (iD os),none,none,none,none,none]=r:=fun Q r h=>by
      have c:∀z:Option D,(cE (f2 gEq (f2 gIx (fV 4) (fC (.int 2))) (fC (.int 0)))) [some (.scr ns),some (.int i),some (.int m),some (.int fl),some (iD os),z,none,none,none,none]=.ok (os.getD 2 0==0):=fun z=>Zct (Zak (Zak rfl rfl (ix 2 (hlo (by decide)) 2 rfl)) rfl rfl)
      by_cases d:os.getD 2 0=0
      · rw [if_pos d] at hgr
        exact Zam (Zaw (Zak rfl rfl t1)) (Zam (Zdp ((c _).trans (by rw [d];rfl)) (Zaw (Zak rfl rfl pow10_18))) (by rw [hgr] at h;exact h))
      · rw [if_neg d] at hgr
        exact Zam (Zaw (Zak rfl rfl t1)) (Zam (Zcj ((c _).trans (congrArg Dl.R.ok (beq_false_of_ne d))) rfl) (by rw [hgr] at h;exact h))
    exact Zcq (Zam (Zaw (Zbb (Zad rfl (Zad rfl (Zad (Zak (Zdf (Zad (Zak rfl rfl rfl) rfl) rfl) (Zak rfl rfl mr') ms') rfl))) hos)) (body _ _ (Zam (Zaw rfl) (Zam (Zeh (r_rng (Zad (Zak rfl rfl (ix 0 (hlo (by decide)) 0 rfl)) rfl) b1) e) (Zcs rfl)))))
  · rintro k x ρ hx ⟨ws,o7,o8,o9,wl,wok,rfl⟩
    obtain ⟨hk,rfl⟩:=rngL_at hx
    rw [Int.zero_add]
    have hkm:k<m.toNat:=under hk a0.2
    obtain ⟨c1,c2⟩:=b2 k hkm
    have j0:=ix (2*k+3) (by rw [hol];exact tri k 0 hkm (by decide)) (2*k+3) rfl
    have j1:=ix (2*k+4) (by rw [hol];exact tri k 1 hkm (by decide)) (2*k+3+1) (Int.add_assoc _ 3 1)
    have jj:=ix 1 (hlo (by decide)) 1 rfl
    have sl:ws.length<lim:=by show _<1000000;omega
    obtain ⟨wt,hwt⟩:∃wt,wt=([fl,fl,2*fl,3*fl,gr]:List Int).getD (os.getD (2*k+4) 0).toNat 0:=⟨_,rfl⟩
    have wt1:0≤wt∧wt≤1000000000000000000:=by
      rw [hwt]
      have g:∀n:Int,1≤n→n≤3→0≤n*fl∧n*fl≤1000000000000000000:=fun n n0 n1=>⟨Int.mul_nonneg (Int.le_trans (by decide) n0) (Int.le_trans (by decide) f0),Int.le_trans (Int.mul_le_mul n1 f1 (Int.le_trans (by decide) f0) (by decide)) (by decide)⟩
      have g1:0≤fl∧fl≤1000000000000000000:=⟨Int.le_trans (by decide) f0,Int.le_trans f1 (by decide)⟩
      exact getD_all (P:=fun z=>0≤z∧z≤1000000000000000000) (List.forall_mem_cons.mpr ⟨g1,List.forall_mem_cons.mpr ⟨g1,List.forall_mem_cons.mpr ⟨g 2 (by decide) (by decide),List.forall_mem_cons.mpr ⟨g 3 (by decide) (by decide),List.forall_mem_cons.mpr ⟨gr1,fun _ h=>nomatch h⟩⟩⟩⟩⟩) (show _<5 from (Int.toNat_lt c2.1).mpr c2.2)
    have iw:gIx (.lst [.int fl,.int fl,.int (2*fl),.int (3*fl),.int gr]) (.int (os.getD (2*k+4) 0))=some (.int wt):=by rw [hwt];exact ix_lit [fl,fl,2*fl,3*fl,gr] c2.1 c2.2
    have t1:gMul (.int 2) (.int fl)=some (.int (2*fl)):=mulS (by decide) (by decide)
    have t2:gMul (.int 3) (.int fl)=some (.int (3*fl)):=mulS (by decide) (by decide)
    have t3:gMul (.int 2) (.int (k:Int))=some (.int (2*k)):=mulS (by decide) (by decide)
    have c:(cE (f2 gLt (f2 gIx (fV 4) (fV 8)) (f2 gIx (fA gLst (aCons (fC (.int 0)) (aCons (fC (.int 1)) (aCons (fC (.int 3)) (aCons (fC (.int 6)) aNil))))) (f2 gIx (fV 4) (fC (.int 1)))))) [some (.scr ns),some (.int i),some (.int m),some (.int fl),some (iD os),some (.int gr),some (iD ws),some (.int k),some (.int (2*k+3)),some (.int 0)]=.ok (decide (os.getD (2*k+3) 0<th)):=Zct (Zak (Zak rfl rfl j0) (Zak rfl (Zak rfl rfl jj) ith) (by simp))
    have sl':(ws.map D.int).length<lim:=by rw [List.length_map];exact sl
    have all:∀z:Int,0≤z∧z≤1000000000000000000→∀x∈ws++[z],0≤x∧x≤1000000000000000000:=fun z hz x hx=>by
      rcases List.mem_append.mp hx with h | h
      · exact wok x h
      · rw [List.mem_singleton.mp h];exact hz
    refine ⟨_,rfl,.inl ?_⟩
    by_cases d:os.getD (2*k+3) 0<th
    · refine ⟨[some (.scr ns),some (.int i),some (.int m),some (.int fl),some (iD os),some (.int gr),some (iD (ws++[wt])),some (.int k),some (.int (2*k+3)),some (.int wt)],.inl ?_,_,_,_,_,by rw [List.length_append,wl];rfl,all wt wt1,rfl⟩
      rw [show iD (ws++[wt])=.lst (ws.map D.int++[.int wt]) from congrArg D.lst List.map_append]
      exact Zam (Zaw (Zak (Zak rfl rfl t3) rfl rfl)) (Zam (Zaw rfl) (Zam (Zdp (c.trans (congrArg Dl.R.ok (decide_eq_true d))) (Zaw (Zej (Zak (Zdf (Zad rfl (Zad rfl (Zad (Zak rfl rfl t1) (Zad (Zak rfl rfl t2) rfl)))) rfl) (Zak rfl (Zak rfl rfl rfl) j1) iw) rfl))) (Zez rfl (Zej rfl rfl) sl')))
    · refine ⟨[some (.scr ns),some (.int i),some (.int m),some (.int fl),some (iD os),some (.int gr),some (iD (ws++[0])),some (.int k),some (.int (2*k+3)),some (.int 0)],.inl ?_,_,_,_,_,by rw [List.length_append,wl];rfl,all 0 ⟨by decide,by decide⟩,rfl⟩
      rw [show iD (ws++[0])=.lst (ws.map D.int++[.int 0]) from congrArg D.lst List.map_append]
      exact Zam (Zaw (Zak (Zak rfl rfl t3) rfl rfl)) (Zam (Zaw rfl) (Zam (Zcj (c.trans (congrArg Dl.R.ok (decide_eq_false d))) rfl) (Zez rfl (Zej rfl rfl) sl')))
  · rintro ρ ⟨ws,o7,o8,o9,wl,wok,rfl⟩
    rw [rngL_length] at wl
    exact ⟨ws,o7,o8,o9,wl,wok,rfl⟩
theorem drawn_ok (ns:List Int)(hn:ns.length≤63){i m c:Int}(h0:0≤i)(h1:i<900)(m0:0≤m)(m1:m≤200)(c0:0≤c)(c1:c≤8):∃ws ks,Zcm [.scr ns,.int i,.int m,.int c]=.ok (.tup [iD ws,tD ks])∧(ws.length:Int)≤m∧(∀w∈ws,0≤w∧w≤1000000000000000000)∧(ks.length:Int)≤c∧TabOk ks:=by
 obtain ⟨fl,e1,f0,f1⟩:=flaw_ok ns hn h0 (show i<1000 by omega) c0 (show c≤1000 by omega)
 obtain ⟨ws,e2,w1,w2⟩:=roll_ok ns hn (i:=i+1) (by omega) (by omega) m0 m1 f0 f1
 obtain ⟨ks,e3,k1,k2⟩:=table_ok ns hn h0 (show i<1000 by omega) c0 c1
 exact ⟨ws,ks,Zcq (Zam (Zaw (Zbb (Zad rfl (Zad rfl (Zad rfl rfl))) e1)) (Zcs (Zdf (Zad (Zbb (Zad rfl (Zad (Zak rfl rfl rfl) (Zad rfl (Zad rfl rfl)))) e2) (Zad (Zbb (Zad rfl (Zad rfl (Zad rfl rfl))) e3) rfl)) rfl))),w1,w2,k1,k2⟩
end Dl
namespace Dl
noncomputable def S:Nat→(Nat→Int)→Int
 | 0,_=>0
 | n+1,f=>S n f+f n
theorem S_congr {n:Nat}{f g:Nat→Int}(h:∀i,i<n→f i=g i):S n f=S n g:=by
 induction n with
 | zero=>rfl
 | succ n ih=>rw [S,S,ih fun i hi=>h i (by omega),h n (by omega)]
theorem S_add (n:Nat)(f g:Nat→Int):S n f+S n g=S n fun i=>f i+g i:=by
 induction n with
 | zero=>rfl
 | succ n ih=>simp only [S];rw [← ih];omega
theorem S_zero {n:Nat}{f:Nat→Int}(h:∀i,i<n→f i=0):S n f=0:=by
 induction n with
 | zero=>rfl
 | succ n ih=>rw [S,ih fun i hi=>h i (by omega),h n (by omega)];rfl
theorem S_one {n k:Nat}(hk:k<n)(v:Int):S n (fun i=>if i=k then v else 0)=v:=by
 induction n with
 | zero=>omega
 | succ n ih =>
  rw [S]
  by_cases h:k<n
  ·rw [ih h,if_neg (by omega)];omega
  ·have:n=k:=by omega
   subst this
   rw [S_zero fun i hi=>if_neg (by omega),if_pos rfl];omega
noncomputable def pth (e:Nat→Nat→Int)(a:Nat):Nat→List Int
 | 0=>[1]
 | d+1=>pth e a d++[S (d+1) fun i=>e (a+i) (a+d+1)*(pth e a d).getD i 0]
noncomputable def W (e:Nat→Nat→Int)(a d:Nat):Int:=(pth e a d).getD d 0
theorem pth_len (e:Nat→Nat→Int)(a:Nat):∀d,(pth e a d).length=d+1
 | 0=>rfl
 | d+1=>by rw [pth,List.length_append,pth_len e a d];rfl
theorem pth_at (e:Nat→Nat→Int)(a:Nat):∀(d i:Nat),i≤d→(pth e a d).getD i 0=W e a i
 | 0,i,h=>by
  have:i=0:=by omega
  subst this
  rfl
 | d+1,i,h=>by
  by_cases q:i=d+1
  ·subst q;rfl
  ·rw [pth]
   have hl:=pth_len e a d
   have hi:i<(pth e a d).length:=by omega
   have:∀x:Int,(pth e a d++[x]).getD i 0=(pth e a d).getD i 0:=fun x=>by simp [List.getD,List.getElem?_append_left hi]
   rw [this]
   exact pth_at e a d i (by omega)
theorem W_zero (e:Nat→Nat→Int)(a:Nat):W e a 0=1:=rfl
theorem W_last (e:Nat→Nat→Int)(a d:Nat):W e a (d+1)=S (d+1) fun i=>e (a+i) (a+d+1)*W e a i:=by
 have hl:=pth_len e a d
 have h:∀x:Int,(pth e a d++[x]).getD (d+1) 0=x:=fun x=>by simp [List.getD,← hl]
 unfold W
 rw [pth,h]
 exact S_congr fun i hi=>by rw [pth_at e a d i (by omega)];rfl
end Dl
namespace Dl
open PySem
theorem ending_ok (ns:List Int)(ks:List Kd)(e:Int)(hk:ks.length≤1000)(hw:∀k∈ks,1≤k.w):Zck [iD ns,tD ks,.int e]=.ok (tD (ks.filter fun k=>good ns k (e - k.w))):=by
 have hl:ks.length≤lim:=by show _≤1000000;omega
 have hc:=comp1 (n:=3) (ρ:=[some (iD ns),some (tD ks),some (.int e)]) (enc:=kD) (p:=fun k=>good ns k (e - k.w)) (v:=kD) (xs:=ks)
  (c:=cE (fCall Zfr (aCons (fV 0) (aCons (fV 3) (aCons (f2 gSub (fV 2) (f2 gIx (fV 3) (fC (.int 1)))) aNil))))) (e:=f1 gFlat (fV 3)) rfl fun k hk=>by
   constructor
   ·simp [fits_ok ns k (e - k.w) (hw k hk)]
   ·intro _;simp
 simp [Zck,Zhg,tD,hl] at hc ⊢
 simp [hc]
noncomputable def cntStep (ns:List Int)(ks:List Kd)(cs:List Int):Int:=cs.getD (cs.length - 1) 0+((ks.filter fun k=>good ns k ((cs.length:Int) - k.w)).map fun k=>cs.getD ((cs.length:Int) - k.w).toNat 0).sum
noncomputable def cnts (ns:List Int)(ks:List Kd):Nat→List Int
 | 0=>[1]
 | j+1=>cnts ns ks j++[cntStep ns ks (cnts ns ks j)]
noncomputable def cnt (ns:List Int)(ks:List Kd)(j:Nat):Int:=(cnts ns ks j).getD j 0
theorem good_bd {ns:List Int}{k:Kd}{p:Int}(h:good ns k p=true):0≤p∧p+k.w≤ns.length:=by
 have:=of_decide_eq_true h
 exact ⟨this.1,this.2.1⟩
theorem ix_lastG {ns:List Int}{j:Nat}(h:ns.length=j+1):gIx (.lst (ns.map D.int)) (.int (-1))=some (.int (ns.getD j 0)):=by
 rw [ix_lastI (by intro z;rw [z] at h;simp at h),h,Nat.add_sub_cancel]
end Dl
namespace Dl
open PySem
noncomputable abbrev Cut:=List (Int×Str)×Int
noncomputable def addK (ns:List Int)(rows:List (List Cut))(e:Nat)(k:Kd):List Cut:=if good ns k ((e:Int) - k.w)=true then (rows.getD ((e:Int) - k.w).toNat []).map fun c=>(c.1++[((e:Int) - k.w,k.name)],c.2+k.wo) else []
noncomputable def rowOf (ns:List Int)(ks:List Kd)(rows:List (List Cut)):List Cut:=rows.getD (rows.length - 1) []++(ks.map (addK ns rows rows.length)).flatten
noncomputable def rowsA (ns:List Int)(ks:List Kd):Nat→List (List Cut)
 | 0=>[[([],0)]]
 | j+1=>rowsA ns ks j++[rowOf ns ks (rowsA ns ks j)]
mutual
theorem eqv_self:∀d:D,dep d≤20→eqv d d=true
 | .non,_=>rfl
 | .bl b,_=>beq_self_eq_true b
 | .int b,_=>beq_self_eq_true b
 | .str b,_=>beq_self_eq_true b
 | .lst xs,h=>eqvA_self xs (Nat.le_of_succ_le h)
 | .tup xs,h=>eqvA_self xs (Nat.le_of_succ_le h)
 | .scr _,h=>absurd h (by decide:¬100≤20)
 | .rng _ _,h=>absurd h (by decide:¬100≤20)
 | .exc _ _,h=>absurd h (by decide:¬100≤20)
 | .obj _ _ _,h=>absurd h (by decide:¬100≤20)
 | .dct _ _,h=>absurd h (by decide:¬100≤20)
 | .dtt _ _,h=>absurd h (by decide:¬100≤20)
theorem eqvA_self:∀xs:List D,depA xs≤20→eqvA xs xs=true
 | [],_=>rfl
 | x::xs,h=>by
  have a:dep x≤20∧depA xs≤20:=Nat.max_le.mp h
  show (eqv x x&&eqvA xs xs)=true
  rw [eqv_self x a.1,eqvA_self xs a.2]
  rfl
end
theorem gEq_self {d:D}(h:dep d≤20):gEq d d=some (.bl true):=by
 unfold gEq
 rw [if_pos ⟨h,h⟩,eqv_self d h]
end Dl
namespace Dl
open PySem
theorem foldl_max_mem:∀(r:List Int) (x:Int),r.foldl max x=x∨r.foldl max x∈r
 | [],x=>.inl rfl
 | z::r,x=>by
  rw [List.foldl_cons]
  rcases foldl_max_mem r (max x z) with h | h
  ·rw [h]
   by_cases hz:z≤x
   ·exact .inl (by omega)
   ·refine .inr ?_
    rw [show max x z=z by omega]
    exact .head _
  ·exact .inr (.tail _ h)
theorem maxL_mem {xs:List Int}(h:xs≠[]):maxL xs∈xs:=by
 cases xs with
 | nil=>exact absurd rfl h
 | cons x r =>
  show r.foldl max x∈_
  rcases foldl_max_mem r x with e | e
  ·rw [e];exact .head _
  ·exact .tail _ e
noncomputable def hStep (ns:List Int)(ks:List Kd)(ts:List Int):Int:=maxL (ts.getD (ts.length - 1) 0::(ks.filter fun k=>good ns k ((ts.length:Int) - k.w)).map fun k=>ts.getD ((ts.length:Int) - k.w).toNat 0+k.wo)
noncomputable def hts (ns:List Int)(ks:List Kd):Nat→List Int
 | 0=>[0]
 | j+1=>hts ns ks j++[hStep ns ks (hts ns ks j)]
theorem hts_len (ns:List Int)(ks:List Kd):∀j,(hts ns ks j).length=j+1
 | 0=>rfl
 | j+1=>by rw [hts,List.length_append,hts_len ns ks j];rfl
noncomputable def ht (ns:List Int)(ks:List Kd)(j:Nat):Int:=(hts ns ks j).getD j 0
theorem hts_at (ns:List Int)(ks:List Kd):∀(j i:Nat),i≤j→(hts ns ks j).getD i 0=ht ns ks i
 | 0,i,h=>by
  have:i=0:=by omega
  subst this
  rfl
 | j+1,i,h=>by
  by_cases e:i=j+1
  ·subst e;rfl
  ·have:=hts_len ns ks j
   rw [← hts_at ns ks j i (by omega),hts]
   simp only [List.getD]
   rw [List.getElem?_append_left (by omega)]
theorem ht_succ (ns:List Int)(ks:List Kd)(hw:∀k∈ks,1≤k.w)(j:Nat):ht ns ks (j+1)=maxL (ht ns ks j::(ks.filter fun k=>good ns k ((j+1:Nat) - k.w)).map fun k=>ht ns ks (((j+1:Nat):Int) - k.w).toNat+k.wo):=by
 have hl:=hts_len ns ks j
 have e:ht ns ks (j+1)=hStep ns ks (hts ns ks j):=by
  unfold ht
  rw [hts]
  simp only [List.getD]
  rw [List.getElem?_append_right (by omega),hl]
  simp
 rw [e,hStep,hl,show j+1 - 1=j by omega,hts_at ns ks j j (Nat.le_refl _)]
 congr 2
 refine List.map_congr_left fun k hk=>?_
 obtain ⟨k1,k2⟩:=List.mem_filter.mp hk
 have:=good_bd k2
 have:=hw k k1
 rw [hts_at ns ks j _ (by omega)]
theorem ht_is (ns:List Int)(ks:List Kd)(hw:∀k∈ks,1≤k.w)(j:Nat):ht ns ks (j+1)=ht ns ks j∨∃k∈ks,good ns k ((j+1:Nat) - k.w)=true∧ht ns ks (((j+1:Nat):Int) - k.w).toNat+k.wo=ht ns ks (j+1):=by
 have h:=maxL_mem (xs:=ht ns ks j::(ks.filter fun k=>good ns k ((j+1:Nat) - k.w)).map fun k=>ht ns ks (((j+1:Nat):Int) - k.w).toNat+k.wo) (fun e=>nomatch e)
 rw [← ht_succ ns ks hw j] at h
 rcases List.mem_cons.mp h with e | e
 ·exact .inl e
 ·obtain ⟨k,k1,k2⟩:=List.mem_map.mp e
  obtain ⟨k3,k4⟩:=List.mem_filter.mp k1
  exact .inr ⟨k,k3,k4,k2⟩
theorem next_top_ok (ns:List Int)(ks:List Kd)(ts:List Int){j:Nat}(hl:ts.length=j+1)(hj:j<1000)(hk:ks.length≤1000)(hw:∀k∈ks,1≤k.w):Zdg [iD ns,tD ks,iD ts]=.ok (.int (hStep ns ks ts)):=by
 have he:=ending_ok ns ks (ts.length:Int) hk hw
 have hc:=comp1' (n:=5) (ρ:=[some (iD ns),some (tD ks),some (iD ts),some (.int ts.length),none]) (enc:=kD) (v:=fun k:Kd=>.int (ts.getD ((ts.length:Int) - k.w).toNat 0+k.wo)) (xs:=ks.filter fun k=>good ns k ((ts.length:Int) - k.w))
  (e:=f2 gAdd (f2 gIx (fV 2) (f2 gSub (fV 3) (f2 gIx (fV 5) (fC (.int 1))))) (f2 gIx (fV 5) (fC (.int 2)))) rfl fun k hk=>by
   obtain ⟨k1,k2⟩:=List.mem_filter.mp hk
   have bd:=good_bd k2
   have hw1:=hw k k1
   have ix:=ix_ints (ns:=ts) (i:=(ts.length:Int) - k.w) (k:=((ts.length:Int) - k.w).toNat) (by omega) (by omega)
   have ix':gIx (iD ts) (.int ((ts.length:Int) - k.w))=_:=ix
   exact Zak (Zak rfl (Zak rfl (Zak rfl rfl (kD_1 k)) rfl) ix') (Zak rfl rfl (kD_2 k)) rfl
 have hlast:=ix_lastG (ns:=ts) hl
 have hlast':gIx (iD ts) (.int (-1))=_:=hlast
 have hlen:gLen [iD ts]=some (.int ts.length):=by simp [iD]
 have hf:(ks.filter fun k=>good ns k ((ts.length:Int) - k.w)).length≤ks.length:=List.length_filter_le _ _
 unfold hStep
 rw [show ts.length - 1=j by omega]
 have hmm:((ks.filter fun k=>good ns k ((ts.length:Int) - k.w)).map fun k:Kd=>D.int (ts.getD ((ts.length:Int) - k.w).toNat 0+k.wo))=((ks.filter fun k=>good ns k ((ts.length:Int) - k.w)).map fun k:Kd=>ts.getD ((ts.length:Int) - k.w).toNat 0+k.wo).map D.int:=by rw [List.map_map];rfl
 rw [hmm] at hc
 have hML:((ks.filter fun k=>good ns k ((ts.length:Int) - k.w)).map fun k:Kd=>ts.getD ((ts.length:Int) - k.w).toNat 0+k.wo).length≤1000:=by rw [List.length_map];omega
 have he':Zck [iD ns,tD ks,.int ts.length]=.ok (.lst ((ks.filter fun k=>good ns k ((ts.length:Int) - k.w)).map kD)):=he
 have hEL':((ks.filter fun k=>good ns k ((ts.length:Int) - k.w)).map kD).length≤lim:=by rw [List.length_map];show _≤1000000;omega
 have ha:=add_ints (xs:=[ts.getD j 0]) (ys:=(ks.filter fun k=>good ns k ((ts.length:Int) - k.w)).map fun k:Kd=>ts.getD ((ts.length:Int) - k.w).toNat 0+k.wo) (by rw [List.length_singleton];omega)
 have hmx:=max_ints (ns:=ts.getD j 0::(ks.filter fun k=>good ns k ((ts.length:Int) - k.w)).map fun k:Kd=>ts.getD ((ts.length:Int) - k.w).toNat 0+k.wo) (by simp)
 exact Zcq (Zam (Zaw (Zdf (Zad rfl rfl) hlen)) (Zam (Zaw (Zhh rfl (Zdr (Zbb (Zad rfl (Zad rfl (Zad rfl rfl))) he') hEL') hc)) (Zcs (Zdf (Zad (Zak (Zdf (Zad (Zak rfl (Zej rfl rfl) hlast') rfl) rfl) rfl ha) rfl) hmx))))
theorem heights_ok (ns:List Int)(ks:List Kd)(hn:ns.length≤900)(hk:ks.length≤1000)(hw:∀k∈ks,1≤k.w):Zco [iD ns,tD ks]=.ok (iD (hts ns ks ns.length)):=by
  have h:=while_st (c:=cE (f2 gLe (fA gLen (aCons (fV 2) aNil)) (fA gLen (aCons (fV 0) aNil)))) (s:=Zfl) (n:=100000) (ρ:=[some (iD ns),some (tD ks),some (.lst [.int 0])]) ns.length (fun i=>[some (iD ns),some (tD ks),some (iD (hts ns ks i))]) rfl (by omega) (fun i hi=>by
      have hl:=hts_len ns ks i
      have nt:=next_top_ok ns ks (hts ns ks i) (j:=i) hl (by omega) hk hw
      have l1:gLen [iD (hts ns ks i)]=some (.int ((i+1:Nat):Int)):=by simp [iD,hl]
      have l2:gLen [iD ns]=some (.int ns.length):=by simp [iD]
      have e1:iD (hts ns ks (i+1))=.lst ((hts ns ks i).map D.int++[.int (hStep ns ks (hts ns ks i))]):=by
        rw [hts,iD,List.map_append]
        rfl
      refine ⟨?_,?_⟩
      · exact Zct (Zak (Zdf (Zad rfl rfl) l1) (Zdf (Zad rfl rfl) l2) (bl_t (Int.ofNat_le.mpr hi)))
      · have hlim':((hts ns ks i).map D.int).length<lim:=by rw [List.length_map,hl];show _<1000000;omega
        rw [e1]
        exact Zez rfl (Zbb (Zad rfl (Zad rfl (Zad rfl rfl))) nt) hlim') (by
      have hl:=hts_len ns ks ns.length
      have l1:gLen [iD (hts ns ks ns.length)]=some (.int ((ns.length+1:Nat):Int)):=by simp [iD,hl]
      have l2:gLen [iD ns]=some (.int ns.length):=by simp [iD]
      generalize iD ns=A at *
      generalize iD (hts ns ks ns.length)=T at *
      simp [l1,l2]
      omega)
  generalize iD ns=A at *
  generalize tD ks=B at *
  generalize iD (hts ns ks ns.length)=T at *
  simp [Zco,Zgf,h]
end Dl
namespace Dl
open PySem
theorem eq_str (a b:Str):gEq (.str a) (.str b)=some (.bl (a==b)):=rfl
theorem eq_int (a b:Int):gEq (.int a) (.int b)=some (.bl (a==b)):=rfl
theorem ne_int (a b:Int):gNe (.int a) (.int b)=some (.bl (!(a==b))):=rfl
end Dl
namespace Dl
open PySem
end Dl
namespace Dl
open PySem
inductive Way (ns:List Int)(ks:List Kd):Nat→Nat→Int→Prop where
 | nil (a:Nat):Way ns ks a a 0
 | skip {a b:Nat} {w:Int}:Way ns ks a b w→b+1≤ns.length→Way ns ks a (b+1) w
 | piece {a b:Nat} {w:Int} {k:Kd}:Way ns ks a b w→k∈ks→good ns k (b:Int)=true→Way ns ks a (b+k.w.toNat) (w+k.wo)
section
variable {ns:List Int}{ks:List Kd}
end
end Dl
namespace Dl
open PySem
theorem foldl_hts (ns:List Int)(ks:List Kd)(ts:List Int)(e:Int):∀(l:List Kd) (m:Int),l.foldl (fun m k=>if good ns k (e - k.w)=true then max m (ts.getD (e - k.w).toNat 0+k.wo) else m) m=((l.filter fun k=>good ns k (e - k.w)).map fun k=>ts.getD (e - k.w).toNat 0+k.wo).foldl max m
 | [],m=>rfl
 | k::l,m=>by
  rw [List.foldl_cons,foldl_hts ns ks ts e l]
  by_cases h:good ns k (e - k.w)=true
  ·rw [if_pos h,List.filter_cons_of_pos (p:=fun k:Kd=>good ns k (e - k.w)) h,List.map_cons,List.foldl_cons]
  ·rw [if_neg h,List.filter_cons_of_neg (p:=fun k:Kd=>good ns k (e - k.w)) h]
theorem lheights_ok (ns:List Int)(ks:List Kd)(hn:ns.length≤900)(hk:ks.length≤1000)(hw:∀k∈ks,1≤k.w):Zbx [iD ns,tD ks]=.ok (iD (hts ns ks ns.length)):=by
  have hsum:=sums_ok ns (by omega)
  have hsl:=sums_len ns
  have hkl:(ks.map kD).length≤lim:=by rw [List.length_map];show _≤1000000;omega
  have inner:∀(j:Nat),j<ns.length→∀(o6 o7:Option D),∃o6' o7',forD (bName 6) Zdo (ks.map kD) [some (iD ns),some (tD ks),some (iD (sumsOf ns)),some (iD (hts ns ks j)),some (.int ((j+1:Nat):Int)),some (.int (ht ns ks j)),o6,o7] =
      .ok (.nx [some (iD ns),some (tD ks),some (iD (sumsOf ns)),some (iD (hts ns ks j)),some (.int ((j+1:Nat):Int)),some (.int (hStep ns ks (hts ns ks j))),o6',o7']):=by
    intro j hj o6 o7
    have hl:=hts_len ns ks j
    refine forD_inv (P:=fun i ρ=>∃o6 o7,ρ=[some (iD ns),some (tD ks),some (iD (sumsOf ns)),some (iD (hts ns ks j)),some (.int ((j+1:Nat):Int)),some (.int ((ks.take i).foldl (fun m k=>if good ns k (((j+1:Nat):Int) - k.w)=true then max m ((hts ns ks j).getD (((j+1:Nat):Int) - k.w).toNat 0+k.wo) else m) (ht ns ks j))),o6,o7])
      (Rr:=fun r=>∃o6' o7',r=.ok (.nx [some (iD ns),some (tD ks),some (iD (sumsOf ns)),some (iD (hts ns ks j)),some (.int ((j+1:Nat):Int)),some (.int (hStep ns ks (hts ns ks j))),o6',o7'])) ⟨o6,o7,rfl⟩ ?_ ?_
    · rintro i x ρ hx ⟨a6,a7,rfl⟩
      rw [List.getElem?_map] at hx
      obtain ⟨k,hk',rfl⟩:=Option.map_eq_some_iff.mp hx
      have hkm:=List.mem_of_getElem? hk'
      have hw1:=hw k hkm
      rw [List.take_add_one,hk']
      simp only [Option.toList_some,List.foldl_append,List.foldl_cons,List.foldl_nil]
      generalize (ks.take i).foldl (fun m k=>if good ns k (((j+1:Nat):Int) - k.w)=true then max m ((hts ns ks j).getD (((j+1:Nat):Int) - k.w).toNat 0+k.wo) else m) (ht ns ks j)=M
      have hg:=good_ok ns k (((j+1:Nat):Int) - k.w) hw1
      refine ⟨_,rfl,.inl ?_⟩
      cases hgv:good ns k (((j+1:Nat):Int) - k.w) with
      | false =>
        rw [hgv] at hg
        rw [if_neg (by simp)]
        refine ⟨[some (iD ns),some (tD ks),some (iD (sumsOf ns)),some (iD (hts ns ks j)),some (.int ((j+1:Nat):Int)),some (.int M),some (kD k),some (.int (((j+1:Nat):Int) - k.w))],.inl ?_,_,_,rfl⟩
        exact Zam (Zaw (Zak rfl (Zak rfl rfl (kD_1 k)) rfl)) (Zcj (Zct (Zbb (Zad rfl (Zad rfl (Zad rfl rfl))) hg)) rfl)
      | true =>
        rw [hgv] at hg
        rw [if_pos rfl]
        have bd:=good_bd hgv
        have ix:=ix_ints (ns:=hts ns ks j) (i:=((j+1:Nat):Int) - k.w) (k:=(((j+1:Nat):Int) - k.w).toNat) (by omega) (by omega)
        have ix':gIx (iD (hts ns ks j)) (.int (((j+1:Nat):Int) - k.w))=_:=ix
        refine ⟨[some (iD ns),some (tD ks),some (iD (sumsOf ns)),some (iD (hts ns ks j)),some (.int ((j+1:Nat):Int)),some (.int (max M ((hts ns ks j).getD (((j+1:Nat):Int) - k.w).toNat 0+k.wo))),some (kD k),some (.int (((j+1:Nat):Int) - k.w))],.inl ?_,_,_,rfl⟩
        exact Zam (Zaw (Zak rfl (Zak rfl rfl (kD_1 k)) rfl)) (Zdp (Zct (Zbb (Zad rfl (Zad rfl (Zad rfl rfl))) hg)) (Zaw (Zdf (Zad rfl (Zad (Zak (Zak rfl rfl ix') (Zak rfl rfl (kD_2 k)) rfl) rfl)) (max_ii _ _))))
    · rintro ρ ⟨a6,a7,rfl⟩
      refine ⟨a6,a7,?_⟩
      rw [List.length_map,List.take_of_length_le (Nat.le_refl _),foldl_hts ns ks]
      have e:hStep ns ks (hts ns ks j)=((ks.filter fun k=>good ns k (((j+1:Nat):Int) - k.w)).map fun k=>(hts ns ks j).getD (((j+1:Nat):Int) - k.w).toNat 0+k.wo).foldl max (ht ns ks j):=by
        unfold hStep maxL
        rw [hl,show j+1 - 1=j by omega]
        rfl
      rw [e]
  have hf:=forD_inv (b:=bName 4) (s:=Zdm) (xs:=rngL 1 ns.length) (ρ:=[some (iD ns),some (tD ks),some (iD (sumsOf ns)),some (.lst [.int 0]),none,none,none,none])
    (P:=fun j ρ=>∃o4 o5 o6 o7,ρ=[some (iD ns),some (tD ks),some (iD (sumsOf ns)),some (iD (hts ns ks j)),o4,o5,o6,o7]) (Rr:=fun r=>∃o4 o5 o6 o7,r=.ok (.nx [some (iD ns),some (tD ks),some (iD (sumsOf ns)),some (iD (hts ns ks ns.length)),o4,o5,o6,o7])) ⟨none,none,none,none,rfl⟩ (by
      rintro j x ρ hx ⟨o4,o5,o6,o7,rfl⟩
      obtain ⟨hj,rfl⟩:=rngL_at hx
      have e1:(1:Int)+(j:Int)=((j+1:Nat):Int):=by omega
      rw [e1]
      obtain ⟨o6',o7',hin⟩:=inner j hj o6 o7
      have hl:=hts_len ns ks j
      have ix:=ix_lastG (ns:=hts ns ks j) hl
      rw [hts_at ns ks j j (Nat.le_refl _)] at ix
      have hlim:((hts ns ks j).map D.int).length<lim:=by rw [List.length_map,hl];show _<1000000;omega
      refine ⟨_,rfl,.inl ⟨[some (iD ns),some (tD ks),some (iD (sumsOf ns)),some (iD (hts ns ks (j+1))),some (.int ((j+1:Nat):Int)),some (.int (hStep ns ks (hts ns ks j))),o6',o7'],.inl ?_,_,_,_,_,rfl⟩⟩
      have e:iD (hts ns ks (j+1))=.lst ((hts ns ks j).map D.int++[.int (hStep ns ks (hts ns ks j))]):=by
        rw [hts,iD,List.map_append]
        rfl
      rw [e]
      exact Zam (Zaw (Zej (Zak rfl (Zej rfl rfl) ix) rfl)) (Zam (Zeh (Zdr rfl hkl) hin) (Zez rfl (Zej rfl rfl) hlim))) (fun ρ h=>by
      obtain ⟨o4,o5,o6,o7,rfl⟩:=h
      rw [rngL_length]
      exact ⟨_,_,_,_,rfl⟩)
  obtain ⟨o4,o5,o6,o7,hf⟩:=hf
  have l1:gLen [iD (sumsOf ns)]=some (.int ((ns.length:Int)+1)):=by simp [iD,hsl]
  have b1:-1000000000≤(1:Int)∧(1:Int)≤1000000000∧-1000000000≤(ns.length:Int)+1∧(ns.length:Int)+1≤1000000000∧((ns.length:Int)+1 - 1).toNat≤lim:=⟨by omega,by omega,by omega,by omega,by show _≤1000000;omega⟩
  have b2:((ns.length:Int)+1 - 1).toNat=ns.length:=by omega
  have rg:rngOf2 [.int 1,.int ((ns.length:Int)+1)]=.ok (rngL 1 ns.length):=by unfold rngOf2;simp only [];rw [if_pos b1,b2]
  exact Zcq (Zam (Zaw (Zbb (Zad rfl rfl) hsum)) (Zam (Zaw rfl) (Zam (Zeh (r_rng2 (Zad rfl (Zad (Zdf (Zad rfl rfl) l1) rfl)) rg) hf) (Zcs rfl))))
end Dl
namespace Dl
open PySem
noncomputable def V {α:Type}:R α→(α→Prop)→Prop
 | .ok a,Q=>Q a
 | .err _ _,_=>False
 | .bad,_=>False
@[simp] theorem V_ok {α:Type}(a:α)(Q:α→Prop):V (.ok a) Q=Q a:=(rfl)
theorem V_bind {α β:Type}(r:R α)(f:α→R β)(Q:β→Prop):V (r.bind f) Q=V r fun a=>V (f a) Q:=by cases r<;>rfl
theorem V.imp {α:Type}{r:R α}{Q Q':α→Prop}(h:V r Q)(g:∀a,Q a→Q' a):V r Q':=by
 cases r with
 | ok a=>exact g a h
 | err _ _=>exact h
 | bad=>exact h
theorem V.ex {α:Type}{r:R α}{Q:α→Prop}(h:V r Q):∃a,r=.ok a∧Q a:=by
 cases r with
 | ok a=>exact ⟨a,rfl,h⟩
 | err _ _=>exact h.elim
 | bad=>exact h.elim
theorem V.of {α:Type}{r:R α}{a:α}{Q:α→Prop}(e:r=.ok a)(h:Q a):V r Q:=by rw [e];exact h
noncomputable def turn (b:FB)(s:FS)(x:D)(ρ:Env):R Fl:=(b x ρ).calm.bind s
noncomputable def Tn (P:Env→Prop)(Q:Fl→Prop):Fl→Prop
 | .nx ρ=>P ρ
 | .cnt ρ=>P ρ
 | .brk ρ=>Q (.nx ρ)
 | .ret d=>Q (.ret d)
@[simp] theorem Tn_nx (P:Env→Prop)(Q:Fl→Prop)(ρ:Env):Tn P Q (.nx ρ)=P ρ:=(rfl)
@[simp] theorem Tn_cnt (P:Env→Prop)(Q:Fl→Prop)(ρ:Env):Tn P Q (.cnt ρ)=P ρ:=(rfl)
@[simp] theorem Tn_brk (P:Env→Prop)(Q:Fl→Prop)(ρ:Env):Tn P Q (.brk ρ)=Q (.nx ρ):=(rfl)
@[simp] theorem Tn_ret (P:Env→Prop)(Q:Fl→Prop)(d:D):Tn P Q (.ret d)=Q (.ret d):=(rfl)
theorem V_for {b:FB}{s:FS}{Q:Fl→Prop}{P:List D→Env→Prop}(hs:∀x r ρ,P (x::r) ρ→V (turn b s x ρ) (Tn (P r) Q))(hd:∀ρ,P [] ρ→Q (.nx ρ)):∀{xs:List D} {ρ:Env},P xs ρ→V (forD b s xs ρ) Q
 | [],ρ,h=>hd ρ h
 | x::xs,ρ,h=>by
  have t:=hs x xs ρ h
  unfold turn at t
  rw [V_bind] at t
  rw [forD_cons,V_bind]
  refine t.imp fun ρ1 q=>?_
  rw [V_bind]
  refine q.imp fun fl q=>?_
  cases fl with
  | nx ρ2=>exact V_for hs hd q
  | cnt ρ2=>exact V_for hs hd q
  | brk ρ2=>exact q
  | ret d=>exact q
theorem V_forM {α:Type}{enc:α→D}{b:FB}{s:FS}{Q:Fl→Prop}{P:List α→Env→Prop}(hs:∀x r ρ,P (x::r) ρ→V (turn b s (enc x) ρ) (Tn (P r) Q))(hd:∀ρ,P [] ρ→Q (.nx ρ)){xs:List α}{ρ:Env}(h:P xs ρ):V (forD b s (xs.map enc) ρ) Q:=by
 refine V_for (P:=fun ds ρ=>∃ys:List α,ds=ys.map enc∧P ys ρ) (fun x r ρ p=>?_) (fun ρ p=>?_) ⟨xs,rfl,h⟩
 ·obtain ⟨ys,e,p⟩:=p
  cases ys with
  | nil=>cases e
  | cons y ys =>
   rw [List.map_cons,List.cons.injEq] at e
   obtain ⟨rfl,rfl⟩:=e
   refine (hs y ys ρ p).imp fun fl q=>?_
   cases fl with
   | nx ρ2=>exact ⟨ys,rfl,q⟩
   | cnt ρ2=>exact ⟨ys,rfl,q⟩
   | brk ρ2=>exact q
   | ret d=>exact q
 ·obtain ⟨ys,e,p⟩:=p
  cases ys with
  | nil=>exact hd ρ p
  | cons y ys=>cases e
theorem V_forI {b:FB}{s:FS}{Q:Fl→Prop}{P:Nat→Env→Prop}{xs:List D}{ρ:Env}(h0:P 0 ρ)(hs:∀i x ρ,xs[i]?=some x→P i ρ→V (turn b s x ρ) (Tn (P (i+1)) Q))(hd:∀ρ,P xs.length ρ→Q (.nx ρ)):V (forD b s xs ρ) Q:=by
 refine V_for (P:=fun r ρ=>∃i,r=xs.drop i∧i≤xs.length∧P i ρ) (fun x r ρ p=>?_) (fun ρ p=>?_) ⟨0,rfl,Nat.zero_le _,h0⟩
 ·obtain ⟨i,e,hi,p⟩:=p
  have hl:i<xs.length:=by
   rcases Nat.lt_or_ge i xs.length with q | q
   ·exact q
   ·rw [List.drop_of_length_le q] at e;cases e
  rw [List.drop_eq_getElem_cons hl,List.cons.injEq] at e
  obtain ⟨rfl,rfl⟩:=e
  refine (hs i _ ρ (List.getElem?_eq_getElem hl) p).imp fun fl q=>?_
  cases fl with
  | nx ρ2=>exact ⟨i+1,rfl,hl,q⟩
  | cnt ρ2=>exact ⟨i+1,rfl,hl,q⟩
  | brk ρ2=>exact q
  | ret d=>exact q
 ·obtain ⟨i,e,hi,p⟩:=p
  have:i=xs.length:=by
   have:=congrArg List.length e
   rw [List.length_drop,List.length_nil] at this
   omega
  subst this
  exact hd ρ p
theorem V_rng {b:FB}{s:FS}{Q:Fl→Prop}{P:Nat→Env→Prop}{lo:Int}{n:Nat}{ρ:Env}(h0:P 0 ρ)(hs:∀i ρ,i<n→P i ρ→V (turn b s (.int (lo+i)) ρ) (Tn (P (i+1)) Q))(hd:∀ρ,P n ρ→Q (.nx ρ)):V (forD b s (rngL lo n) ρ) Q :=
  V_forI h0 (fun i x ρ hx p=>by
    obtain ⟨hi,rfl⟩:=rngL_at hx
    exact hs i ρ hi p) (fun ρ p=>hd ρ (by rw [rngL_length] at p;exact p))
@[simp] theorem turn_name (i:Nat)(s:FS)(x:D)(ρ:Env):turn (bName i) s x ρ=s (ρ.set i (some x)):=(rfl)
@[simp] theorem ev_fJoin (a b:FE)(ρ:Env):fJoin a b ρ=(a ρ).bind fun x=>match x with | .str s=>(b ρ).bind fun y=>oR (gJoin (.str s) y) | _=>.bad:=(rfl)
@[simp] theorem calm_bad {α:Type}:(R.bad:R α).calm=.bad:=(rfl)
@[simp] theorem gLst_7 (a0 a1 a2 a3 a4 a5 a6:D):gLst [a0,a1,a2,a3,a4,a5,a6]=some (.lst [a0,a1,a2,a3,a4,a5,a6]):=rfl
@[simp] theorem gLst_8 (a0 a1 a2 a3 a4 a5 a6 a7:D):gLst [a0,a1,a2,a3,a4,a5,a6,a7]=some (.lst [a0,a1,a2,a3,a4,a5,a6,a7]):=rfl
@[simp] theorem gLst_9 (a0 a1 a2 a3 a4 a5 a6 a7 a8:D):gLst [a0,a1,a2,a3,a4,a5,a6,a7,a8]=some (.lst [a0,a1,a2,a3,a4,a5,a6,a7,a8]):=rfl
end Dl
namespace Dl
open PySem
theorem add_str {x y:Str}{n m:Nat}(h:plain n x=true)(g:plain m y=true)(e:n+m≤1000):gAdd (.str x) (.str y)=some (.str (x++y)):=by
 unfold gAdd
 simp only []
 unfold plain at h g
 rw [Bool.and_eq_true] at h g
 have:=of_decide_eq_true h.1
 have:=of_decide_eq_true g.1
 rw [if_pos (by show _≤1000000;omega)]
end Dl
namespace Dl
open PySem
noncomputable def eL:Nat→List Int→List D
 | _,[]=>[]
 | k,w::r=>.tup [.int (k:Int),.int w]::eL (k+1) r
theorem neX {d:D}(h:dep d≤20):gNe d d=some (.bl false):=by
 have hs:=gEq_self h
 simp only [gEq] at hs
 rw [if_pos ⟨h,h⟩] at hs
 have:eqv d d=true:=by simpa using hs
 simp only [gNe]
 rw [if_pos ⟨h,h⟩,this]
 rfl
theorem forD_step {b:FB}{s:FS}{x:D}{xs:List D}{ρ ρ1:Env}(hb:b x ρ=.ok ρ1):forD b s (x::xs) ρ=(s ρ1).bind fun fl=>match fl with
  | .nx ρ2=>forD b s xs ρ2
  | .cnt ρ2=>forD b s xs ρ2
  | .brk ρ2=>.ok (.nx ρ2)
  | .ret d=>.ok (.ret d):=by
 rw [forD_cons,hb]
 rfl
noncomputable def rg (k n:Nat):List D:=(List.range' k n).map fun (j:Nat)=>D.int (0+(j:Int))
theorem rg_cons (k n:Nat):rg k (n+1)=D.int (0+(k:Int))::rg (k+1) n:=rfl
theorem rg_of (n:Nat):rngL 0 n=rg 0 n:=by
 unfold rngL rg
 rw [← List.range_eq_range']
theorem len_ints {e:FE}{ρ:Env}{ws:List Int}(h:e ρ=.ok (iD ws)):fA gLen (aCons e aNil) ρ=.ok (.int ws.length):=Zdf (Zad h rfl) (by simp [iD,gLen])
theorem list_ints (ws:List Int):gList [iD ws]=some (iD ws):=by simp [iD,gList]
end Dl
namespace Dl
open PySem
section
variable {ns:List Int}{ks:List Kd}
noncomputable def tg (ns:List Int)(ks:List Kd)(b:Nat):List Kd:=ks.filter fun k=>decide (ht ns ks ((b:Int) - k.w).toNat+k.wo=ht ns ks b)
noncomputable def be (ns:List Int)(ks:List Kd)(c b:Nat):Int:=(if b=c+1∧ht ns ks b=ht ns ks c then 1 else 0)+(((tg ns ks b).filter fun k=>good ns k c&&decide ((c:Int)+k.w=b)).length:Int)
noncomputable def cb (ns:List Int)(ks:List Kd)(e:Nat):Int:=W (be ns ks) 0 e
theorem tg_mem {b:Nat}{k:Kd}(h:k∈tg ns ks b):k∈ks:=(List.mem_filter.mp h).1
theorem cnt_cons {α:Type}(p:α→Bool)(x:α)(l:List α):(((x::l).filter p).length:Int)=(if p x=true then 1 else 0)+((l.filter p).length:Int):=by
 rw [List.filter_cons]
 by_cases h:p x=true
 ·rw [if_pos h,if_pos h,List.length_cons]
  omega
 ·rw [if_neg h,if_neg h]
  omega
theorem sum_cons_if {α:Type}(p:α→Bool)(f:α→Int)(x:α)(l:List α):(((x::l).filter p).map f).sum=(if p x=true then f x else 0)+((l.filter p).map f).sum:=by
 rw [List.filter_cons]
 by_cases h:p x=true
 ·rw [if_pos h,if_pos h]
  rfl
 ·rw [if_neg h,if_neg h]
  omega
theorem S_kindsA (ns:List Int)(f:Nat→Int)(a d:Nat):∀l:List Kd,(∀k∈l,1≤k.w)→S (d+1) (fun i=>((l.filter fun k=>good ns k ((a+i:Nat):Int)&&decide (((a+i:Nat):Int)+k.w=((a+d+1:Nat):Int))).length:Int)*f i)=((l.filter fun k=>good ns k (((a+d+1:Nat):Int) - k.w)&&decide ((a:Int)≤((a+d+1:Nat):Int) - k.w)).map fun k=>f ((((a+d+1:Nat):Int) - k.w).toNat - a)).sum
 | [],_=>S_zero fun i _=>by simp
 | k::l,hl=>by
  have hk:=hl k (.head _)
  have ih:=S_kindsA ns f a d l fun x hx=>hl x (.tail _ hx)
  rw [sum_cons_if,← ih]
  have e1:(fun i=>(((k::l).filter fun k=>good ns k ((a+i:Nat):Int)&&decide (((a+i:Nat):Int)+k.w=((a+d+1:Nat):Int))).length:Int)*f i)=fun i=>(if (good ns k ((a+i:Nat):Int)&&decide (((a+i:Nat):Int)+k.w=((a+d+1:Nat):Int)))=true then 1 else 0)*f i+((l.filter fun k=>good ns k ((a+i:Nat):Int)&&decide (((a+i:Nat):Int)+k.w=((a+d+1:Nat):Int))).length:Int)*f i:=funext fun i=>by rw [cnt_cons,Int.add_mul]
  rw [e1,← S_add]
  congr 1
  obtain ⟨v,hv⟩:∃v,v=(if (good ns k (((a+d+1:Nat):Int) - k.w)&&decide ((a:Int)≤((a+d+1:Nat):Int) - k.w))=true then f ((((a+d+1:Nat):Int) - k.w).toNat - a) else 0):=⟨_,rfl⟩
  rw [← hv]
  by_cases hd:(a:Int)≤((a+d+1:Nat):Int) - k.w
  ·have e2:S (d+1) (fun i=>(if (good ns k ((a+i:Nat):Int)&&decide (((a+i:Nat):Int)+k.w=((a+d+1:Nat):Int)))=true then 1 else 0)*f i)=S (d+1) (fun i=>if i=(((a+d+1:Nat):Int) - k.w).toNat - a then v else 0):=S_congr fun i hi=>by
    by_cases q:i=(((a+d+1:Nat):Int) - k.w).toNat - a
    ·have e3:((a+i:Nat):Int)=((a+d+1:Nat):Int) - k.w:=by omega
     rw [if_pos q,hv,e3,← q,decide_eq_true (show ((a+d+1:Nat):Int) - k.w+k.w=((a+d+1:Nat):Int) by omega),decide_eq_true hd]
     split
     ·rw [Int.one_mul]
     ·rw [Int.zero_mul]
    ·rw [if_neg q,decide_eq_false (show ¬((a+i:Nat):Int)+k.w=((a+d+1:Nat):Int) by omega),Bool.and_false,if_neg Bool.false_ne_true,Int.zero_mul]
   rw [e2]
   exact S_one (by omega) v
  ·rw [hv,decide_eq_false hd,Bool.and_false,if_neg Bool.false_ne_true]
   refine S_zero fun i hi=>?_
   rw [decide_eq_false (show ¬((a+i:Nat):Int)+k.w=((a+d+1:Nat):Int) by omega),Bool.and_false,if_neg Bool.false_ne_true,Int.zero_mul]
theorem W_be (hw:∀k∈ks,1≤k.w)(a d:Nat):W (be ns ks) a (d+1)=(if ht ns ks (a+d+1)=ht ns ks (a+d) then W (be ns ks) a d else 0)+(((tg ns ks (a+d+1)).filter fun k=>good ns k (((a+d+1:Nat):Int) - k.w)&&decide ((a:Int)≤((a+d+1:Nat):Int) - k.w)).map fun k=>W (be ns ks) a ((((a+d+1:Nat):Int) - k.w).toNat - a)).sum:=by
 rw [W_last,← S_kindsA ns (W (be ns ks) a) a d (tg ns ks (a+d+1)) fun k hk=>hw k (tg_mem hk)]
 obtain ⟨v,hv⟩:∃v,v=(if ht ns ks (a+d+1)=ht ns ks (a+d) then W (be ns ks) a d else 0):=⟨_,rfl⟩
 rw [← hv,← S_one (Nat.lt_succ_self d) v,S_add]
 refine S_congr fun i hi=>?_
 rw [show be ns ks (a+i) (a+d+1)=(if a+d+1=a+i+1∧ht ns ks (a+d+1)=ht ns ks (a+i) then 1 else 0)+(((tg ns ks (a+d+1)).filter fun k=>good ns k ((a+i:Nat):Int)&&decide (((a+i:Nat):Int)+k.w=((a+d+1:Nat):Int))).length:Int) from rfl,Int.add_mul]
 congr 1
 by_cases e:i=d
 ·subst e
  rw [if_pos rfl,hv]
  by_cases q:ht ns ks (a+i+1)=ht ns ks (a+i)
  ·rw [if_pos ⟨rfl,q⟩,if_pos q,Int.one_mul]
  ·rw [if_neg (fun z=>q z.2),if_neg q,Int.zero_mul]
 ·rw [if_neg e,if_neg (fun z=>e (by omega)),Int.zero_mul]
theorem cb_zero:cb ns ks 0=1:=rfl
theorem cb_succ (hw:∀k∈ks,1≤k.w)(e:Nat):cb ns ks (e+1)=(if ht ns ks (e+1)=ht ns ks e then cb ns ks e else 0)+(((tg ns ks (e+1)).filter fun k=>good ns k (((e+1:Nat):Int) - k.w)).map fun k=>cb ns ks (((e+1:Nat):Int) - k.w).toNat).sum:=by
 have h:=W_be (ns:=ns) (ks:=ks) hw 0 e
 rw [show 0+e+1=e+1 by omega,show 0+e=e by omega] at h
 unfold cb
 rw [h]
 congr 1
 have hf:((tg ns ks (e+1)).filter fun k=>good ns k (((e+1:Nat):Int) - k.w)&&decide (((0:Nat):Int)≤((e+1:Nat):Int) - k.w))=(tg ns ks (e+1)).filter fun k=>good ns k (((e+1:Nat):Int) - k.w):=by
  refine List.filter_congr fun k _=>?_
  by_cases g:good ns k (((e+1:Nat):Int) - k.w)=true
  ·have:=(good_bd g).1
   rw [g,Bool.true_and]
   exact decide_eq_true (by omega)
  ·rw [Bool.eq_false_iff.mpr g,Bool.false_and]
 rw [hf]
 rfl
theorem W_nn {e:Nat→Nat→Int}(h:∀c b,0≤e c b)(a:Nat):∀d,0≤W e a d:=fun d=>by
 induction d using Nat.strongRecOn with
 | ind d ih =>
  cases d with
  | zero=>rw [W_zero];decide
  | succ d =>
   rw [W_last]
   have:∀n (f:Nat→Int),(∀i,i<n→0≤f i)→0≤S n f:=fun n f=>by
    induction n with
    | zero=>exact fun _=>Int.le_refl _
    | succ n ihn=>exact fun hf=>Int.add_nonneg (ihn fun i hi=>hf i (by omega)) (hf n (by omega))
   exact this _ _ fun i hi=>Int.mul_nonneg (h _ _) (ih i hi)
theorem be_nn (c b:Nat):0≤be ns ks c b:=by
 unfold be
 split<;>omega
noncomputable def rs (ns:List Int)(ks:List Kd)(e:Nat):Int:=ht ns.reverse ks (ns.length - e)
noncomputable def re (ns:List Int)(ks:List Kd)(c b:Nat):Int:=be ns.reverse ks (ns.length - b) (ns.length - c)
theorem S_ne {n:Nat}{f:Nat→Int}(h:∀i,i<n→f i=0):S n f=0:=S_zero h
theorem cb_pos (hw:∀k∈ks,1≤k.w):∀e,0<cb ns ks e:=fun e=>by
 induction e using Nat.strongRecOn with
 | ind e ih =>
  cases e with
  | zero=>rw [cb_zero];decide
  | succ e =>
   rw [cb_succ hw]
   have nn:∀l:List Kd,0≤(l.map fun k=>cb ns ks (((e+1:Nat):Int) - k.w).toNat).sum:=fun l=>by
    induction l with
    | nil=>exact Int.le_refl _
    | cons k l ihl=>exact Int.add_nonneg (W_nn be_nn 0 _) ihl
   rcases ht_is ns ks hw e with h | ⟨k,hk,hg,h⟩
   ·rw [if_pos h]
    have:=ih e (by omega)
    have:=nn ((tg ns ks (e+1)).filter fun k=>good ns k (((e+1:Nat):Int) - k.w))
    omega
   ·have hm:k∈(tg ns ks (e+1)).filter fun k=>good ns k (((e+1:Nat):Int) - k.w):=List.mem_filter.mpr ⟨List.mem_filter.mpr ⟨hk,decide_eq_true h⟩,hg⟩
    obtain ⟨l1,l2,hl⟩:=List.append_of_mem hm
    rw [hl,List.map_append,List.map_cons,List.sum_append,List.sum_cons]
    have h1:=hw k hk
    have h2:=(good_bd hg).1
    have:=ih (((e+1:Nat):Int) - k.w).toNat (by omega)
    have:=nn l1
    have:=nn l2
    have h0:(0:Int)≤if ht ns ks (e+1)=ht ns ks e then cb ns ks e else 0:=by
     split
     ·exact W_nn be_nn 0 _
     ·exact Int.le_refl _
    omega
end
end Dl
namespace Dl
open PySem
section
variable {ns:List Int}{ks:List Kd}
end
end Dl
namespace Dl
open PySem
section
variable {ns:List Int}{ks:List Kd}
theorem ht_ix {e:Nat}(he:e≤ns.length){i:Int}(hi:i=(e:Int)):gIx (iD (hts ns ks ns.length)) (.int i)=some (.int (ht ns ks e)):=by
 have:=hts_len ns ks ns.length
 rw [← hts_at ns ks ns.length e he]
 exact ix_ints hi (by omega)
noncomputable abbrev Stp:=Int×List (Int×Str)
noncomputable def stD (s:Stp):D:=.tup [.int s.1,psD s.2]
noncomputable def kst (e:Nat)(k:Kd):Stp:=((e:Int) - k.w,[((e:Int) - k.w,k.name)])
noncomputable def stL (ns:List Int)(ks:List Kd)(e:Nat):List Stp:=(if ht ns ks (e - 1)=ht ns ks e then [((e:Int) - 1,[])] else [])++((ks.filter fun k=>good ns k ((e:Int) - k.w)).filter fun k=>decide (ht ns ks ((e:Int) - k.w).toNat+k.wo=ht ns ks e)).map (kst e)
theorem steps_loop {e:Nat}(he:e≤ns.length){A T:D}:∀(xs:List Kd) (ss:List Stp) (a b:Option D),(∀k∈xs,good ns k ((e:Int) - k.w)=true∧1≤k.w)→ss.length+xs.length≤10000→
  ∃a' b',forD (bName 5) Zby (xs.map kD) [some A,some T,some (iD (hts ns ks ns.length)),some (.int e),some (.lst (ss.map stD)),a,b]=.ok (.nx [some A,some T,some (iD (hts ns ks ns.length)),some (.int e),some (.lst ((ss++(xs.filter fun k=>decide (ht ns ks ((e:Int) - k.w).toNat+k.wo=ht ns ks e)).map (kst e)).map stD)),a',b'])
 | [],ss,a,b,_,_=>⟨a,b,by rw [List.filter_nil,List.map_nil,List.map_nil,List.append_nil];rfl⟩
 | k::xs,ss,a,b,h,hl=>by
  rw [List.length_cons] at hl
  obtain ⟨hg,h1⟩:=h k (.head _)
  have hb:=good_bd hg
  have i1:=ht_ix (ns:=ns) (ks:=ks) (e:=((e:Int) - k.w).toNat) (i:=(e:Int) - k.w) (by omega) (by omega)
  have i2:=ht_ix (ns:=ns) (ks:=ks) (e:=e) (i:=(e:Int)) he rfl
  rw [List.map_cons,forD_step (ρ1:=[some A,some T,some (iD (hts ns ks ns.length)),some (.int e),some (.lst (ss.map stD)),some (kD k),b]) rfl,List.filter_cons]
  have s0:sSet 6 (f2 gSub (fV 3) (f2 gIx (fV 5) (fC (.int 1)))) [some A,some T,some (iD (hts ns ks ns.length)),some (.int e),some (.lst (ss.map stD)),some (kD k),b]=.ok (.nx [some A,some T,some (iD (hts ns ks ns.length)),some (.int e),some (.lst (ss.map stD)),some (kD k),some (.int ((e:Int) - k.w))]):=Zaw (Zak rfl (Zak rfl rfl (kD_1 k)) rfl)
  by_cases t:ht ns ks ((e:Int) - k.w).toNat+k.wo=ht ns ks e
  ·have c:cE (f2 gEq (f2 gAdd (f2 gIx (fV 2) (fV 6)) (f2 gIx (fV 5) (fC (.int 2)))) (f2 gIx (fV 2) (fV 3))) [some A,some T,some (iD (hts ns ks ns.length)),some (.int e),some (.lst (ss.map stD)),some (kD k),some (.int ((e:Int) - k.w))]=.ok true:=Zct (Zak (Zak (Zak rfl rfl i1) (Zak rfl rfl (kD_2 k)) rfl) (Zak rfl rfl i2) ((eq_ii _ _).trans (bl_t t)))
   have ap:sApp 4 (fA gTup (aCons (f1 gFlat (fV 6)) (aCons (fA gLst (aCons (fA gTup (aCons (f1 gFlat (fV 6)) (aCons (f1 gFlat (f2 gIx (fV 5) (fC (.int 0)))) aNil))) aNil)) aNil))) [some A,some T,some (iD (hts ns ks ns.length)),some (.int e),some (.lst (ss.map stD)),some (kD k),some (.int ((e:Int) - k.w))]=.ok (.nx [some A,some T,some (iD (hts ns ks ns.length)),some (.int e),some (.lst ((ss++[kst e k]).map stD)),some (kD k),some (.int ((e:Int) - k.w))]):=by
    rw [List.map_append]
    exact Zez (xs:=ss.map stD) (d:=stD (kst e k)) rfl (Zdf (Zad (Zej rfl rfl) (Zad (Zdf (Zad (Zdf (Zad (Zej rfl rfl) (Zad (Zej (Zak rfl rfl (kD_0 k)) rfl) rfl)) rfl) rfl) rfl) rfl)) rfl) (by rw [List.length_map];show _<1000000;omega)
   obtain ⟨a',b',ih⟩:=steps_loop he xs (ss++[kst e k]) (some (kD k)) (some (.int ((e:Int) - k.w))) (fun x hx=>h x (.tail _ hx)) (by rw [List.length_append];simp only [List.length_cons,List.length_nil];omega)
   refine ⟨a',b',?_⟩
   rw [if_pos (decide_eq_true t),show Zby [some A,some T,some (iD (hts ns ks ns.length)),some (.int e),some (.lst (ss.map stD)),some (kD k),b]=_ from Zam s0 (Zdp c ap)]
   show forD _ _ (xs.map kD) _=_
   rw [ih,List.append_assoc]
   rfl
  ·have c:cE (f2 gEq (f2 gAdd (f2 gIx (fV 2) (fV 6)) (f2 gIx (fV 5) (fC (.int 2)))) (f2 gIx (fV 2) (fV 3))) [some A,some T,some (iD (hts ns ks ns.length)),some (.int e),some (.lst (ss.map stD)),some (kD k),some (.int ((e:Int) - k.w))]=.ok false:=Zct (Zak (Zak (Zak rfl rfl i1) (Zak rfl rfl (kD_2 k)) rfl) (Zak rfl rfl i2) ((eq_ii _ _).trans (bl_f t)))
   obtain ⟨a',b',ih⟩:=steps_loop he xs ss (some (kD k)) (some (.int ((e:Int) - k.w))) (fun x hx=>h x (.tail _ hx)) (by omega)
   refine ⟨a',b',?_⟩
   rw [if_neg (fun z=>t (of_decide_eq_true z)),show Zby [some A,some T,some (iD (hts ns ks ns.length)),some (.int e),some (.lst (ss.map stD)),some (kD k),b]=_ from Zam s0 (Zcj c rfl)]
   exact ih
theorem steps_ok (hk:ks.length≤1000)(hw:∀k∈ks,1≤k.w){e:Nat}(h1:1≤e)(he:e≤ns.length):Zbt [iD ns,tD ks,iD (hts ns ks ns.length),.int e]=.ok (.lst ((stL ns ks e).map stD)):=by
 have en:=ending_ok ns ks (e:Int) hk hw
 have i1:=ht_ix (ns:=ns) (ks:=ks) (e:=e - 1) (i:=(e:Int) - 1) (by omega) (by omega)
 have i2:=ht_ix (ns:=ns) (ks:=ks) (e:=e) (i:=(e:Int)) he rfl
 have hfl:(ks.filter fun k=>good ns k ((e:Int) - k.w)).length≤ks.length:=List.length_filter_le _ _
 have lp:∀ss:List Stp,ss.length≤1→∃a b,forD (bName 5) Zby ((ks.filter fun k=>good ns k ((e:Int) - k.w)).map kD) [some (iD ns),some (tD ks),some (iD (hts ns ks ns.length)),some (.int e),some (.lst (ss.map stD)),none,none]=.ok (.nx [some (iD ns),some (tD ks),some (iD (hts ns ks ns.length)),some (.int e),some (.lst ((ss++((ks.filter fun k=>good ns k ((e:Int) - k.w)).filter fun k=>decide (ht ns ks ((e:Int) - k.w).toNat+k.wo=ht ns ks e)).map (kst e)).map stD)),a,b]):=fun ss hss=>steps_loop he _ ss none none (fun k hk'=>⟨(List.mem_filter.mp hk').2,hw k (List.mem_filter.mp hk').1⟩) (by omega)
 have jl:∀ss:List Stp,jList (fCall Zck (aCons (fV 0) (aCons (fV 1) (aCons (fV 3) aNil)))) [some (iD ns),some (tD ks),some (iD (hts ns ks ns.length)),some (.int e),some (.lst (ss.map stD)),none,none]=.ok ((ks.filter fun k=>good ns k ((e:Int) - k.w)).map kD):=fun ss=>Zdr (Zbb (Zad rfl (Zad rfl (Zad rfl rfl))) en) (by rw [List.length_map];show _≤1000000;omega)
 unfold stL
 by_cases t:ht ns ks (e - 1)=ht ns ks e
 ·rw [if_pos t]
  obtain ⟨a,b,q⟩:=lp [((e:Int) - 1,[])] (Nat.le_refl 1)
  exact Zcq (Zam (Zaw rfl) (Zam (Zdp (Zct (Zak (Zak rfl (Zak rfl rfl rfl) i1) (Zak rfl rfl i2) ((eq_ii _ _).trans (bl_t t)))) (Zez (xs:=[]) rfl (Zdf (Zad (Zak rfl rfl rfl) (Zad rfl rfl)) rfl) (by decide))) (Zam (Zeh (jl [((e:Int) - 1,[])]) q) (Zcs rfl))))
 ·rw [if_neg t]
  obtain ⟨a,b,q⟩:=lp [] (by decide)
  exact Zcq (Zam (Zaw rfl) (Zam (Zcj (Zct (Zak (Zak rfl (Zak rfl rfl rfl) i1) (Zak rfl rfl i2) ((eq_ii _ _).trans (bl_f t)))) rfl) (Zam (Zeh (jl []) q) (Zcs rfl))))
noncomputable def cbs (ns:List Int)(ks:List Kd)(n:Nat):List Int:=(List.range (n+1)).map (cb ns ks)
theorem cbs_len (n:Nat):(cbs ns ks n).length=n+1:=by simp [cbs]
theorem cbs_at {n e:Nat}(he:e≤n):(cbs ns ks n).getD e 0=cb ns ks e:=by
 unfold cbs
 rw [List.getD_eq_getElem?_getD,List.getElem?_map,List.getElem?_range (by omega)]
 rfl
theorem cb_ix {n e:Nat}(he:e≤n){i:Int}(hi:i=(e:Int)):gIx (iD (cbs ns ks n)) (.int i)=some (.int (cb ns ks e)):=by
 rw [← cbs_at (ns:=ns) (ks:=ks) he]
 exact ix_ints hi (by rw [cbs_len];omega)
theorem cbs_succ (n:Nat):cbs ns ks (n+1)=cbs ns ks n++[cb ns ks (n+1)]:=by
 unfold cbs
 rw [List.range_succ,List.map_append]
 rfl
theorem stL_sum (hw:∀k∈ks,1≤k.w)(e:Nat):((stL ns ks (e+1)).map fun s=>cb ns ks s.1.toNat).sum=cb ns ks (e+1):=by
 rw [cb_succ hw]
 unfold stL
 rw [List.map_append,List.sum_append,show e+1 - 1=e by omega]
 congr 1
 ·by_cases h:ht ns ks e=ht ns ks (e+1)
  ·rw [if_pos h,if_pos h.symm]
   show cb ns ks (((e+1:Nat):Int) - 1).toNat+0=_
   rw [show (((e+1:Nat):Int) - 1).toNat=e by omega]
   omega
  ·rw [if_neg h,if_neg (fun z=>h z.symm)]
   rfl
 ·rw [List.map_map,List.filter_filter]
  unfold tg
  rw [List.filter_filter]
  congr 1
  have:(ks.filter fun k=>decide (ht ns ks (((e+1:Nat):Int) - k.w).toNat+k.wo=ht ns ks (e+1))&&good ns k (((e+1:Nat):Int) - k.w))=ks.filter fun k=>good ns k (((e+1:Nat):Int) - k.w)&&decide (ht ns ks (((e+1:Nat):Int) - k.w).toNat+k.wo=ht ns ks (e+1)):=List.filter_congr fun k _=>Bool.and_comm _ _
  rw [this]
  rfl
theorem stL_bd (hw:∀k∈ks,1≤k.w){e:Nat}:∀s∈stL ns ks (e+1),0≤s.1∧s.1≤e:=fun s hs=>by
 unfold stL at hs
 rcases List.mem_append.mp hs with h | h
 ·split at h
  ·rw [List.mem_singleton.mp h]
   show 0≤((e+1:Nat):Int) - 1∧((e+1:Nat):Int) - 1≤e
   omega
  ·cases h
 ·obtain ⟨k,hk,rfl⟩:=List.mem_map.mp h
  have hk1:=List.mem_filter.mp (List.mem_filter.mp hk).1
  have h1:=hw k hk1.1
  have h2:=(good_bd hk1.2).1
  show 0≤((e+1:Nat):Int) - k.w∧((e+1:Nat):Int) - k.w≤e
  omega
theorem counts_ok (hn:ns.length≤900)(hk:ks.length≤1000)(hw:∀k∈ks,1≤k.w):Zcg [iD ns,tD ks]=.ok (iD (cbs ns ks ns.length)):=by
 have hh:=heights_ok ns ks hn hk hw
 have key:V (forD (bName 4) Zcw (rngL 1 ns.length) [some (iD ns),some (tD ks),some (iD (hts ns ks ns.length)),some (iD (cbs ns ks 0)),none,none]) (fun fl=>∃a b,fl=.nx [some (iD ns),some (tD ks),some (iD (hts ns ks ns.length)),some (iD (cbs ns ks ns.length)),a,b]):=by
  refine V_rng (P:=fun i ρ=>∃a b,ρ=[some (iD ns),some (tD ks),some (iD (hts ns ks ns.length)),some (iD (cbs ns ks i)),a,b]) ⟨none,none,rfl⟩ (fun i ρ hi q=>?_) (fun ρ q=>?_)
  ·obtain ⟨a,b,rfl⟩:=q
   have st:=steps_ok (ns:=ns) hk hw (e:=i+1) (by omega) (by omega)
   have hlen:(stL ns ks (i+1)).length≤10000:=by
    unfold stL
    rw [List.length_append,List.length_map]
    have h1:=List.length_filter_le (fun k=>decide (ht ns ks (((i+1:Nat):Int) - k.w).toNat+k.wo=ht ns ks (i+1))) (ks.filter fun k=>good ns k (((i+1:Nat):Int) - k.w))
    have h2:=List.length_filter_le (fun k=>good ns k (((i+1:Nat):Int) - k.w)) ks
    have h3:(if ht ns ks (i+1 - 1)=ht ns ks (i+1) then [(((i+1:Nat):Int) - 1,([]:List (Int×Str)))] else []).length≤1:=by split<;>simp
    omega
   rw [turn_name]
   refine V.of (a:=.nx [some (iD ns),some (tD ks),some (iD (hts ns ks ns.length)),some (iD (cbs ns ks (i+1))),some (.int (1+(i:Int))),some (.lst ((stL ns ks (i+1)).map stD))]) ?_ (by exact ⟨_,_,rfl⟩)
   have e1:(1+(i:Int))=((i+1:Nat):Int):=by omega
   show Zcw [some (iD ns),some (tD ks),some (iD (hts ns ks ns.length)),some (iD (cbs ns ks i)),some (.int (1+(i:Int))),b]=_
   rw [e1]
   refine Zam (Zaw (Zbb (Zad rfl (Zad rfl (Zad rfl (Zad rfl rfl)))) st)) ?_
   have cm:fComp 6 1 (jList (fV 5)) (bName 6) cYes (f1 gFlat (f2 gIx (fV 3) (f2 gIx (fV 6) (fC (.int 0))))) [some (iD ns),some (tD ks),some (iD (hts ns ks ns.length)),some (iD (cbs ns ks i)),some (.int ((i+1:Nat):Int)),some (.lst ((stL ns ks (i+1)).map stD))]=.ok (iD ((stL ns ks (i+1)).map fun s=>cb ns ks s.1.toNat)):=by
    unfold iD
    rw [List.map_map]
    refine Zhh rfl (Zdr (xs:=(stL ns ks (i+1)).map stD) rfl (by rw [List.length_map];show _≤1000000;omega)) (comp1' rfl fun s hs=>?_)
    have hb:=stL_bd (ns:=ns) hw s hs
    exact Zej (Zak rfl (Zak rfl rfl (show gIx (stD s) (.int 0)=some (.int s.1) from rfl)) (cb_ix (ns:=ns) (ks:=ks) (n:=i) (e:=s.1.toNat) (by omega) (by omega))) rfl
   have sm:gSum [iD ((stL ns ks (i+1)).map fun s=>cb ns ks s.1.toNat)]=some (.int (cb ns ks (i+1))):=by
    rw [← stL_sum hw]
    exact sum_ints _
   refine Eq.trans (Zez (xs:=(cbs ns ks i).map D.int) (d:=.int (cb ns ks (i+1))) rfl (Zdf (Zad cm rfl) sm) (by rw [List.length_map,cbs_len];show _<1000000;omega)) ?_
   rw [cbs_succ]
   simp [iD]
  ·obtain ⟨a,b,rfl⟩:=q
   exact ⟨a,b,rfl⟩
 obtain ⟨fl,h1,a,b,rfl⟩:=key.ex
 refine Zcq (Zam (Zaw (Zbb (Zad rfl (Zad rfl rfl)) hh)) (Zam (Zaw rfl) (Zam (Zeh (r_rng2 (Zad rfl (Zad (Zak (len_ints rfl) rfl rfl) rfl)) (rngOf2_ok (n:=ns.length) (by omega) (by omega) (by omega) (by omega) (by omega) (by omega))) h1) (Zcs rfl))))
end
end Dl
namespace Dl
open PySem
section
variable {ns:List Int}{ks:List Kd}
noncomputable abbrev PK:=Nat×Kd
noncomputable def nm (x:PK):Int×Str:=((x.1:Int),x.2.name)
noncomputable def enN (x:PK):Nat:=((x.1:Int)+x.2.w).toNat
noncomputable def may (ns:List Int)(ks:List Kd)(x:PK):Bool:=decide (ht ns ks x.1+x.2.wo+rs ns ks (enN x)=ht ns ks ns.length)
noncomputable def must (ns:List Int)(ks:List Kd)(x:PK):Bool:=decide (cb ns ks x.1*cb ns.reverse ks (ns.length - enN x)=cb ns ks ns.length)
theorem cbs_last (n:Nat):gIx (iD (cbs ns ks n)) (.int (-1))=some (.int (cb ns ks n)):=by
 have hl:=cbs_len (ns:=ns) (ks:=ks) n
 have h:=ix_lastI (ns:=cbs ns ks n) (fun z=>by rw [z] at hl;cases hl)
 rw [hl,Nat.add_sub_cancel,cbs_at (Nat.le_refl _)] at h
 exact h
end
end Dl
namespace Dl
open PySem
noncomputable def Zdq:FS :=
 (sPathX 4 (fV 6) (fComp 8 1 (jList (f2 gIx (fV 4) (fV 5))) (bName 8) cYes (f2 gAdd (fV 7) (fV 8))))
noncomputable def Zds:FS :=
 (sFor (jList (fCall Zbt (aCons (fV 0) (aCons (fV 1) (aCons (fV 3) (aCons (fV 5) aNil)))))) (bTup (bCons (bName 6) (bCons (bName 7) bNil))) Zdq)
noncomputable def Zel:FS :=
  (sSeq (sIf (cE (f2 gGt (fCall Zcd (aCons (fV 0) (aCons (fV 1) aNil))) (fV 2))) (sRaiseI "TooMany" (fV 2)) sNx)
    (sSeq (sSet 3 (fCall Zco (aCons (fV 0) (aCons (fV 1) aNil))))
    (sSeq (sSet 4 (fComp 8 1 (jList (fV 3)) (bName 8) cYes (fA gLst aNil)))
    (sSeq (sPath 4 (aCons (f1 gNeg (fC (.int 1))) aNil) (fA gLst aNil))
    (sSeq (sFor (jRng3 (aCons (fA gLen (aCons (fV 0) aNil)) (aCons (fC (.int 0)) (aCons (f1 gNeg (fC (.int 1))) aNil)))) (bName 5) Zds)
    (sRet (fA gSortC (aCons (f2 gIx (fV 4) (fC (.int 0))) aNil))))))))
noncomputable def Zbp (ds:List D):R D:=run 8 Zel ds
noncomputable def Zgp:FS :=
  (sTry ["TooMany"] 4 3 (sRet (fA gTup (aCons (fC (.str ("told":Str))) (aCons (fA gLen (aCons (fCall Zbp (aCons (fV 0) (aCons (fV 1) (aCons (fV 2) aNil)))) aNil)) aNil)))) (sSeq (sIf (cOr (cNot (cE (f1 (gIsT [("TooMany",true)]) (fV 3)))) (cOr (cE (f1 (gIsT [("TooMany",false)]) (fV 3))) (cE (f1 (gIsT [("TooMany",false)]) (fV 3))))) (sRet (fA gTup (aCons (fC (.str ("other":Str))) (aCons (fC (.int 0)) aNil)))) sNx)
    (sSeq (sIf (cOr (cNot (cE (f1 (gIsT [("TooMany",true)]) (fV 3)))) (cNot (cE (fCall Zbl (aCons (f1 (gExF ["TooMany"]) (fV 3)) aNil))))) (sRet (fA gTup (aCons (fC (.str ("other":Str))) (aCons (fC (.int 1)) aNil)))) sNx)
    (sRet (fA gTup (aCons (fC (.str ("many":Str))) (aCons (f1 (gExF ["TooMany"]) (fV 3)) aNil)))))))
noncomputable def Zbh (ds:List D):R D:=(run 4 Zgp ds).calm
noncomputable def Zfx:FS :=
  (sSeq (sIf (cE (f2 gNe (fCall Zbh (aCons (fA gList (aCons (fV 1) aNil)) (aCons (fA gList (aCons (fV 2) aNil)) (aCons (fV 5) aNil)))) (fA gTup (aCons (fC (.str ("many":Str))) (aCons (fV 5) aNil))))) (sRet (fC (.bl false))) sNx)
    (sIf (cAnd (cE (f2 gLe (fV 3) (fC (.int 200)))) (cE (f2 gNe (fCall Zbh (aCons (fA gList (aCons (fV 1) aNil)) (aCons (fA gList (aCons (fV 2) aNil)) (aCons (fV 3) aNil)))) (fA gTup (aCons (fC (.str ("told":Str))) (aCons (fV 3) aNil)))))) (sRet (fC (.bl false))) sNx))
noncomputable def q_law:FS :=
  (sSeq (sAsg (fCall Zcm (aCons (fV 0) (aCons (fC (.int 0)) (aCons (fC (.int 30)) (aCons (fC (.int 8)) aNil))))) (bTup (bCons (bName 1) (bCons (bName 2) bNil))))
    (sSeq (sSet 3 (fCall Zbk (aCons (fV 1) (aCons (fV 2) aNil))))
    (sSeq (sSet 4 (fCall Zbg (aCons (fV 0) (aCons (fC (.int 2)) (aCons (fA gLst (aCons (fC (.int 3)) (aCons (fC (.int 200)) aNil))) aNil)))))
    (sSeq (sSet 5 (f1 gFlat (f2 gIx (fA gLst (aCons (f2 gSub (fV 3) (fC (.int 1))) (aCons (f2 gMod (f2 gIx (fV 4) (fC (.int 1))) (fV 3)) (aCons (fC (.int 0)) aNil)))) (f2 gIx (fV 4) (fC (.int 0))))))
    (sSeq (sSet 5 (fA gMin (aCons (fV 5) (aCons (fC (.int 200)) aNil))))
    (sSeq (sFor (jRng1 (aCons (fC (.int 2)) aNil)) (bName 6) Zfx)
    (sRet (fC (.bl true)))))))))
noncomputable def F_law (ds:List D):R D:=(run 7 q_law ds).calm
end Dl
namespace Dl
open PySem
section
variable {ns:List Int}{ks:List Kd}
theorem sum_snoc (t g:Kd→Bool)(f:Kd→Int)(dn:List Kd)(k:Kd):((((dn++[k]).filter t).filter g).map f).sum=(((dn.filter t).filter g).map f).sum+if g k=true∧t k=true then f k else 0:=by
 rw [List.filter_append,List.filter_append,List.map_append,List.sum_append]
 congr 1
 cases ht:t k<;>cases hg:g k<;>simp [ht,hg]
theorem lbc_in (hn:ns.length≤900)(hw:∀k∈ks,1≤k.w){i:Nat}(hi:i<ns.length){base:Int}(o7 o8:Option D) :
  V (forD (bName 7) Zcy (ks.map kD) [some (iD ns),some (tD ks),some (iD (sumsOf ns)),some (iD (hts ns ks ns.length)),some (iD (cbs ns ks i)),some (.int ((i+1:Nat):Int)),some (.int base),o7,o8])
   (fun fl=>∃a b,fl=.nx [some (iD ns),some (tD ks),some (iD (sumsOf ns)),some (iD (hts ns ks ns.length)),some (iD (cbs ns ks i)),some (.int ((i+1:Nat):Int)),some (.int (base+(((tg ns ks (i+1)).filter fun k=>good ns k (((i+1:Nat):Int) - k.w)).map fun k=>cb ns ks (((i+1:Nat):Int) - k.w).toNat).sum)),a,b]):=by
 refine V_forM (P:=fun r ρ=>∃dn a b,dn++r=ks∧ρ=[some (iD ns),some (tD ks),some (iD (sumsOf ns)),some (iD (hts ns ks ns.length)),some (iD (cbs ns ks i)),some (.int ((i+1:Nat):Int)),some (.int (base+(((dn.filter fun k=>decide (ht ns ks (((i+1:Nat):Int) - k.w).toNat+k.wo=ht ns ks (i+1))).filter fun k=>good ns k (((i+1:Nat):Int) - k.w)).map fun k=>cb ns ks (((i+1:Nat):Int) - k.w).toNat).sum)),a,b]) (fun k r ρ h=>?_) (fun ρ h=>?_) ⟨[],o7,o8,rfl,by simp⟩
 ·obtain ⟨dn,a,b,e,rfl⟩:=h
  have hkm:k∈ks:=by rw [← e];exact List.mem_append_right _ (.head _)
  have h1:=hw k hkm
  have e2:(dn++[k])++r=ks:=by rw [List.append_assoc];exact e
  have hs:=sum_snoc (fun k=>decide (ht ns ks (((i+1:Nat):Int) - k.w).toNat+k.wo=ht ns ks (i+1))) (fun k=>good ns k (((i+1:Nat):Int) - k.w)) (fun k=>cb ns ks (((i+1:Nat):Int) - k.w).toNat) dn k
  have hg:=good_ok ns k (((i+1:Nat):Int) - k.w) h1
  rw [turn_name]
  generalize (((dn.filter fun k=>decide (ht ns ks (((i+1:Nat):Int) - k.w).toNat+k.wo=ht ns ks (i+1))).filter fun k=>good ns k (((i+1:Nat):Int) - k.w)).map fun k=>cb ns ks (((i+1:Nat):Int) - k.w).toNat).sum=s at *
  by_cases g:good ns k (((i+1:Nat):Int) - k.w)=true
  ·have hb:=good_bd g
   rw [g] at hg
   have i1:=ht_ix (ns:=ns) (ks:=ks) (e:=(((i+1:Nat):Int) - k.w).toNat) (i:=((i+1:Nat):Int) - k.w) (by omega) (by omega)
   have i2:=ht_ix (ns:=ns) (ks:=ks) (e:=i+1) (i:=((i+1:Nat):Int)) (by omega) rfl
   have i3:=cb_ix (ns:=ns) (ks:=ks) (n:=i) (e:=(((i+1:Nat):Int) - k.w).toNat) (i:=((i+1:Nat):Int) - k.w) (by omega) (by omega)
   by_cases t:ht ns ks (((i+1:Nat):Int) - k.w).toNat+k.wo=ht ns ks (i+1)
   ·rw [if_pos ⟨g,decide_eq_true t⟩] at hs
    refine V.of (a:=.nx [some (iD ns),some (tD ks),some (iD (sumsOf ns)),some (iD (hts ns ks ns.length)),some (iD (cbs ns ks i)),some (.int ((i+1:Nat):Int)),some (.int (base+s+cb ns ks (((i+1:Nat):Int) - k.w).toNat)),some (kD k),some (.int (((i+1:Nat):Int) - k.w))]) ?_ (by exact ⟨dn++[k],_,_,e2,by rw [hs,Int.add_assoc]⟩)
    exact Zam (Zaw (Zak rfl (Zak rfl rfl (kD_1 k)) rfl)) (Zdp (Zgt (Zct (Zbb (Zad rfl (Zad rfl (Zad rfl rfl))) hg)) (Zct (Zak (Zak (Zak rfl rfl i1) (Zak rfl rfl (kD_2 k)) rfl) (Zak rfl rfl i2) ((eq_ii _ _).trans (bl_t t))))) (Zaw (Zak rfl (Zak rfl rfl i3) rfl)))
   ·rw [if_neg (fun z=>t (of_decide_eq_true z.2)),Int.add_zero] at hs
    refine V.of (a:=.nx [some (iD ns),some (tD ks),some (iD (sumsOf ns)),some (iD (hts ns ks ns.length)),some (iD (cbs ns ks i)),some (.int ((i+1:Nat):Int)),some (.int (base+s)),some (kD k),some (.int (((i+1:Nat):Int) - k.w))]) ?_ (by exact ⟨dn++[k],_,_,e2,by rw [hs]⟩)
    exact Zam (Zaw (Zak rfl (Zak rfl rfl (kD_1 k)) rfl)) (Zcj (Zgt (Zct (Zbb (Zad rfl (Zad rfl (Zad rfl rfl))) hg)) (Zct (Zak (Zak (Zak rfl rfl i1) (Zak rfl rfl (kD_2 k)) rfl) (Zak rfl rfl i2) ((eq_ii _ _).trans (bl_f t))))) rfl)
  ·rw [if_neg (fun z=>g z.1),Int.add_zero] at hs
   rw [Bool.eq_false_iff.mpr g] at hg
   refine V.of (a:=.nx [some (iD ns),some (tD ks),some (iD (sumsOf ns)),some (iD (hts ns ks ns.length)),some (iD (cbs ns ks i)),some (.int ((i+1:Nat):Int)),some (.int (base+s)),some (kD k),some (.int (((i+1:Nat):Int) - k.w))]) ?_ (by exact ⟨dn++[k],_,_,e2,by rw [hs]⟩)
   exact Zam (Zaw (Zak rfl (Zak rfl rfl (kD_1 k)) rfl)) (Zcj (r_cAndF (Zct (Zbb (Zad rfl (Zad rfl (Zad rfl rfl))) hg))) rfl)
 ·obtain ⟨dn,a,b,e,rfl⟩:=h
  rw [List.append_nil] at e
  subst e
  exact ⟨a,b,rfl⟩
theorem lbc_ok (hn:ns.length≤900)(hk:ks.length≤1000)(hw:∀k∈ks,1≤k.w):Zbk [iD ns,tD ks]=.ok (.int (cb ns ks ns.length)):=by
 have hh:=lheights_ok ns ks hn hk hw
 have hs:=sums_ok ns (by omega)
 have key:V (forD (bName 5) Zcb (rngL 1 ns.length) [some (iD ns),some (tD ks),some (iD (sumsOf ns)),some (iD (hts ns ks ns.length)),some (iD (cbs ns ks 0)),none,none,none,none]) (fun fl=>∃a b c d,fl=.nx [some (iD ns),some (tD ks),some (iD (sumsOf ns)),some (iD (hts ns ks ns.length)),some (iD (cbs ns ks ns.length)),a,b,c,d]):=by
  refine V_rng (P:=fun i ρ=>∃a b c d,ρ=[some (iD ns),some (tD ks),some (iD (sumsOf ns)),some (iD (hts ns ks ns.length)),some (iD (cbs ns ks i)),a,b,c,d]) ⟨none,none,none,none,rfl⟩ (fun i ρ hi q=>?_) (fun ρ q=>?_)
  ·obtain ⟨a,b,c,d,rfl⟩:=q
   rw [turn_name]
   have e1:(1+(i:Int))=((i+1:Nat):Int):=by omega
   show V (Zcb [some (iD ns),some (tD ks),some (iD (sumsOf ns)),some (iD (hts ns ks ns.length)),some (iD (cbs ns ks i)),some (.int (1+(i:Int))),b,c,d]) _
   rw [e1]
   have i1:=ht_ix (ns:=ns) (ks:=ks) (e:=i) (i:=((i+1:Nat):Int) - 1) (by omega) (by omega)
   have i2:=ht_ix (ns:=ns) (ks:=ks) (e:=i+1) (i:=((i+1:Nat):Int)) (by omega) rfl
   obtain ⟨fl,h1,a',b',rfl⟩:=(lbc_in (ns:=ns) (ks:=ks) hn hw hi (base:=if ht ns ks (i+1)=ht ns ks i then cb ns ks i else 0) c d).ex
   rw [← cb_succ hw] at h1
   refine V.of (a:=.nx [some (iD ns),some (tD ks),some (iD (sumsOf ns)),some (iD (hts ns ks ns.length)),some (iD (cbs ns ks (i+1))),some (.int ((i+1:Nat):Int)),some (.int (cb ns ks (i+1))),a',b']) ?_ (by exact ⟨_,_,_,_,rfl⟩)
   refine Zam (Zaw rfl) (Zam (ρ':=[some (iD ns),some (tD ks),some (iD (sumsOf ns)),some (iD (hts ns ks ns.length)),some (iD (cbs ns ks i)),some (.int ((i+1:Nat):Int)),some (.int (if ht ns ks (i+1)=ht ns ks i then cb ns ks i else 0)),c,d]) ?_ (Zam (Zeh (Zdr (xs:=ks.map kD) rfl (by rw [List.length_map];show _≤1000000;omega)) h1) ?_))
   ·by_cases t:ht ns ks (i+1)=ht ns ks i
    ·rw [if_pos t]
     exact Zdp (Zct (Zak (Zak rfl rfl i2) (Zak rfl (Zak rfl rfl rfl) i1) ((eq_ii _ _).trans (bl_t t)))) (Zaw (Zej (Zak rfl rfl (cbs_last i)) rfl))
    ·rw [if_neg t]
     exact Zcj (Zct (Zak (Zak rfl rfl i2) (Zak rfl (Zak rfl rfl rfl) i1) ((eq_ii _ _).trans (bl_f t)))) rfl
   ·refine Eq.trans (Zez (xs:=(cbs ns ks i).map D.int) (d:=.int (cb ns ks (i+1))) rfl (Zej rfl rfl) (by rw [List.length_map,cbs_len];show _<1000000;omega)) ?_
    rw [cbs_succ]
    simp [iD]
  ·obtain ⟨a,b,c,d,rfl⟩:=q
   exact ⟨a,b,c,d,rfl⟩
 obtain ⟨fl,h1,a,b,c,d,rfl⟩:=key.ex
 have hl:fA gLen (aCons (fV 2) aNil) [some (iD ns),some (tD ks),some (iD (sumsOf ns)),some (iD (hts ns ks ns.length)),some (iD (cbs ns ks 0)),none,none,none,none]=.ok (.int ((ns.length+1:Nat):Int)):=by
  rw [← sums_len ns]
  exact len_ints rfl
 exact Zcq (Zam (Zaw (Zbb (Zad rfl rfl) hs)) (Zam (Zaw (Zbb (Zad rfl (Zad rfl rfl)) hh)) (Zam (Zaw rfl) (Zam (Zeh (r_rng2 (Zad rfl (Zad hl rfl)) (rngOf2_ok (n:=ns.length) (by omega) (by omega) (by omega) (by omega) (by omega) (by omega))) h1) (Zcs (Zej (Zak rfl rfl (cbs_last _)) rfl))))))
theorem count_ok' (hn:ns.length≤900)(hk:ks.length≤1000)(hw:∀k∈ks,1≤k.w):Zcd [iD ns,tD ks]=.ok (.int (cb ns ks ns.length)) :=
 Zcq (Zcs (Zej (Zak (Zbb (Zad rfl (Zad rfl rfl)) (counts_ok hn hk hw)) rfl (cbs_last _)) rfl))
end
end Dl
namespace Dl
open PySem
section
variable {ns:List Int}{ks:List Kd}
noncomputable abbrev Bt:=List (List (List Pc))
noncomputable def bD (Bs:Bt):D:=.lst (Bs.map fun l=>.lst (l.map ctD))
noncomputable def ln (Bs:Bt)(b:Nat):Int:=((Bs.getD b []).length:Int)
noncomputable def phi (ns:List Int)(ks:List Kd)(Bs:Bt)(j:Nat):Int:=S j fun b=>ln Bs b*cb ns ks b
structure BI (ns:List Int)(Bs:Bt):Prop where
 len:Bs.length=ns.length+1
 cl:∀b,∀c∈Bs.getD b [],c.length+b≤ns.length
noncomputable def addB (Bs:Bt)(b e:Nat)(p:List Pc):Bt:=Bs.set b (Bs.getD b []++(Bs.getD e []).map fun c=>p++c)
theorem addB_at {Bs:Bt}{b e:Nat}{p:List Pc}(hb:b<Bs.length)(i:Nat):(addB Bs b e p).getD i []=if i=b then Bs.getD b []++(Bs.getD e []).map (fun c=>p++c) else Bs.getD i []:=by
 unfold addB
 rw [List.getD_eq_getElem?_getD]
 by_cases h:i=b
 ·subst h
  rw [if_pos rfl,List.getElem?_set_self hb]
  rfl
 ·rw [if_neg h,List.getElem?_set_ne (fun z=>h z.symm),← List.getD_eq_getElem?_getD]
theorem ln_add {Bs:Bt}{b e:Nat}{p:List Pc}(hb:b<Bs.length)(i:Nat):ln (addB Bs b e p) i=ln Bs i+if i=b then ln Bs e else 0:=by
 unfold ln
 rw [addB_at hb]
 by_cases h:i=b
 ·subst h
  rw [if_pos rfl,if_pos rfl,List.length_append,List.length_map]
  omega
 ·rw [if_neg h,if_neg h]
  omega
theorem phi_add {Bs:Bt}{b e j:Nat}{p:List Pc}(hb:b<Bs.length)(hj:b<j):phi ns ks (addB Bs b e p) j=phi ns ks Bs j+ln Bs e*cb ns ks b:=by
 unfold phi
 rw [← S_one hj (ln Bs e*cb ns ks b),S_add]
 refine S_congr fun i _=>?_
 rw [ln_add hb]
 by_cases h:i=b
 ·subst h
  rw [if_pos rfl,if_pos rfl,Int.add_mul]
 ·rw [if_neg h,if_neg h,Int.add_zero,Int.add_zero]
theorem ln_nn (Bs:Bt)(b:Nat):0≤ln Bs b:=Int.natCast_nonneg _
theorem phi_le (hw:∀k∈ks,1≤k.w){Bs:Bt}{b:Nat}:∀{j:Nat},b<j→ln Bs b≤phi ns ks Bs j
 | j+1,h=>by
  have nn:∀j,0≤phi ns ks Bs j:=fun j=>by
   induction j with
   | zero=>exact Int.le_refl _
   | succ j ih=>exact Int.add_nonneg ih (Int.mul_nonneg (ln_nn _ _) (Int.le_of_lt (cb_pos hw j)))
  have e:phi ns ks Bs (j+1)=phi ns ks Bs j+ln Bs j*cb ns ks j:=rfl
  have h3:=Int.mul_nonneg (ln_nn Bs j) (Int.le_of_lt (cb_pos (ns:=ns) hw j))
  by_cases hj:b<j
  ·have:=phi_le hw (Bs:=Bs) hj
   omega
  ·have ej:b=j:=by omega
   subst ej
   have h1:=cb_pos (ns:=ns) hw b
   have h2:=nn b
   have h4:ln Bs b*1≤ln Bs b*cb ns ks b:=Int.mul_le_mul_of_nonneg_left h1 (ln_nn _ _)
   omega
theorem bD_at {Bs:Bt}{e:Nat}(he:e<Bs.length){i:Int}(hi:i=(e:Int)):gIx (bD Bs) (.int i)=some (.lst ((Bs.getD e []).map ctD)):=ix_l hi (by simp [he,List.getD])
theorem flat_ct (c:List Pc):flatA (c.map fun p=>D.tup [.int p.1,.str p.2])=true:=flatA_map (fun _=>rfl) c
theorem add_ct {p c:List Pc}(h:p.length+c.length≤1000000):gAdd (psD p) (ctD c)=some (ctD (p++c)):=by
 show (if (p.map pD).length+(c.map fun p=>D.tup [.int p.1,.str p.2]).length≤lim∧flatA (p.map pD)=true∧flatA (c.map fun p=>D.tup [.int p.1,.str p.2])=true then some (D.lst (p.map pD++c.map fun p=>D.tup [.int p.1,.str p.2])) else none)=_
 rw [if_pos ⟨by rw [List.length_map,List.length_map];exact h,flat_ct p,flat_ct c⟩]
 unfold ctD
 rw [List.map_append]
 rfl
theorem upd_bD {Bs:Bt}{b e:Nat}{p:List Pc}(hb:b<Bs.length){i:Int}(hi:i=(b:Int))(hl:(Bs.getD b []).length+(Bs.getD e []).length≤1000000):updP (extL ((Bs.getD e []).map fun c=>ctD (p++c))) [i] (bD Bs)=some (bD (addB Bs b e p)):=by
 have e1:ixD (Bs.map fun l=>D.lst (l.map ctD)).length i=some b:=by
  rw [List.length_map,hi]
  unfold ixD
  rw [if_pos (by omega),if_pos (by omega)]
  rfl
 have e2:(Bs.map fun l=>D.lst (l.map ctD))[b]?=some (.lst ((Bs.getD b []).map ctD)):=by
  rw [List.getElem?_map,List.getD_eq_getElem?_getD,List.getElem?_eq_getElem hb]
  rfl
 show ((ixD (Bs.map fun l=>D.lst (l.map ctD)).length i).bind fun j=>(Bs.map fun l=>D.lst (l.map ctD))[j]?.bind fun d=>(updP (extL ((Bs.getD e []).map fun c=>ctD (p++c))) [] d).map fun d'=>D.lst ((Bs.map fun l=>D.lst (l.map ctD)).set j d'))=_
 rw [e1]
 show ((Bs.map fun l=>D.lst (l.map ctD))[b]?.bind fun d=>(updP (extL ((Bs.getD e []).map fun c=>ctD (p++c))) [] d).map fun d'=>D.lst ((Bs.map fun l=>D.lst (l.map ctD)).set b d'))=_
 rw [e2]
 show ((extL ((Bs.getD e []).map fun c=>ctD (p++c)) ((Bs.getD b []).map ctD)).map D.lst).map (fun d'=>D.lst ((Bs.map fun l=>D.lst (l.map ctD)).set b d'))=_
 unfold extL
 rw [if_pos (by rw [List.length_map,List.length_map];exact hl)]
 show some (D.lst ((Bs.map fun l=>D.lst (l.map ctD)).set b (D.lst ((Bs.getD b []).map ctD++(Bs.getD e []).map fun c=>ctD (p++c)))))=_
 unfold bD addB
 rw [List.map_set,List.map_append,List.map_map]
 rfl
theorem r_pathX {i:Nat}{k e:FE}{ρ:Env}{d d':D}{n:Int}{es:List D}(hi:ρ[i]?=some (some d))(hk:k ρ=.ok (.int n))(he:e ρ=.ok (.lst es))(h:updP (extL es) [n] d=some d'):sPathX i k e ρ=.ok (.nx (ρ.set i (some d'))):=by
 unfold sPathX
 rw [hi]
 show (k ρ).calm.bind _=_
 rw [hk]
 show (e ρ).calm.bind _=_
 rw [he]
 show (match updP (extL es) [n] d with | some d'=>R.ok (Fl.nx (ρ.set i (some d'))) | none=>.bad)=_
 rw [h]
theorem BI.add {Bs:Bt}{b e:Nat}{p:List Pc}(bi:BI ns Bs)(he:e≤ns.length)(hb:b<e)(hp:p.length≤1):BI ns (addB Bs b e p):=by
 refine ⟨by unfold addB;rw [List.length_set];exact bi.len,fun i c hc=>?_⟩
 have hl:=bi.len
 rw [addB_at (by omega)] at hc
 split at hc
 ·rename_i h
  rcases List.mem_append.mp hc with q | q
  ·rw [h]
   exact bi.cl b c q
  ·obtain ⟨d,hd,rfl⟩:=List.mem_map.mp q
   have:=bi.cl e d hd
   rw [List.length_append]
   omega
 ·exact bi.cl i c hc
theorem best_in (hn:ns.length≤900)(hw:∀k∈ks,1≤k.w){A T M h:D}{e:Nat}(he:e≤ns.length){N:Int}(hN:N≤1000):∀(r:List Stp) (Bs:Bt) (o6 o7:Option D),BI ns Bs→(∀s∈r,0≤s.1∧s.1<e∧s.2.length≤1)→phi ns ks Bs e+ln Bs e*((r.map fun s=>cb ns ks s.1.toNat).sum:Int)=N→ln Bs e≤1000→
    ∃Bs' o6' o7',forD (bTup (bCons (bName 6) (bCons (bName 7) bNil))) Zdq (r.map stD) [some A,some T,some M,some h,some (bD Bs),some (.int e),o6,o7]=.ok (.nx [some A,some T,some M,some h,some (bD Bs'),some (.int e),o6',o7'])∧BI ns Bs'∧phi ns ks Bs' e=N
  | [],Bs,o6,o7,bi,_,hphi,_=>⟨Bs,o6,o7,rfl,bi,by simpa using hphi⟩
  | s::r,Bs,o6,o7,bi,hr,hphi,hle=>by
    obtain ⟨h1,h2,h3⟩:=hr s (.head _)
    have hl:=bi.len
    have hb:s.1.toNat<Bs.length:=by omega
    have hbe:s.1.toNat<e:=by omega
    rw [List.map_cons,List.sum_cons,Int.mul_add] at hphi
    have pa:=phi_add (ns:=ns) (ks:=ks) (Bs:=Bs) (b:=s.1.toNat) (e:=e) (j:=e) (p:=s.2) hb hbe
    have le:ln (addB Bs s.1.toNat e s.2) e=ln Bs e:=by rw [ln_add hb,if_neg (by omega),Int.add_zero]
    have nnr:0≤ln Bs e*((r.map fun s=>cb ns ks s.1.toNat).sum:Int):=Int.mul_nonneg (ln_nn _ _) (by
      have:∀r:List Stp,0≤((r.map fun s=>cb ns ks s.1.toNat).sum:Int):=fun r=>by
        induction r with
        | nil=>exact Int.le_refl _
        | cons s r ih=>rw [List.map_cons,List.sum_cons];exact Int.add_nonneg (Int.le_of_lt (cb_pos hw _)) ih
      exact this r)
    have p1:=phi_le (ns:=ns) hw (Bs:=addB Bs s.1.toNat e s.2) hbe
    have p2:=ln_add (Bs:=Bs) (b:=s.1.toNat) (e:=e) (p:=s.2) hb s.1.toNat
    rw [if_pos rfl] at p2
    have hsz:(Bs.getD s.1.toNat []).length+(Bs.getD e []).length≤1000000:=by
      have:ln Bs s.1.toNat+ln Bs e≤1000:=by omega
      unfold ln at this
      omega
    obtain ⟨Bs',o6',o7',q1,q2,q3⟩:=best_in hn hw (A:=A) (T:=T) (M:=M) (h:=h) he hN r (addB Bs s.1.toNat e s.2) (some (.int s.1)) (some (psD s.2)) (bi.add he hbe h3) (fun x hx=>hr x (.tail _ hx)) (by rw [pa,le];omega) (by rw [le];exact hle)
    refine ⟨Bs',o6',o7',?_,q2,q3⟩
    rw [List.map_cons,forD_step (ρ1:=[some A,some T,some M,some h,some (bD Bs),some (.int e),some (.int s.1),some (psD s.2)]) rfl]
    have cm:fComp 8 1 (jList (f2 gIx (fV 4) (fV 5))) (bName 8) cYes (f2 gAdd (fV 7) (fV 8)) [some A,some T,some M,some h,some (bD Bs),some (.int e),some (.int s.1),some (psD s.2)]=.ok (.lst ((Bs.getD e []).map fun c=>ctD (s.2++c))):=by
      refine Zhh rfl (Zdr (Zak rfl rfl (bD_at (e:=e) (by omega) rfl)) (by rw [List.length_map];show _≤1000000;omega)) (comp1' rfl fun c hc=>?_)
      have:=bi.cl e c hc
      exact Zak rfl rfl (add_ct (by omega))
    rw [show Zdq [some A,some T,some M,some h,some (bD Bs),some (.int e),some (.int s.1),some (psD s.2)]=_ from r_pathX rfl rfl cm (upd_bD hb (by omega) hsz)]
    exact q1
theorem downL_succ (j:Nat):downL ((j+1:Nat):Int) (j+1)=((j+1:Nat):Int)::downL (j:Int) j:=by
 unfold downL
 rw [List.range_succ_eq_map,List.map_cons,List.map_map,show ((j+1:Nat):Int) - ((0:Nat):Int)=((j+1:Nat):Int) by omega]
 refine congrArg _ (List.map_congr_left fun k _=>?_)
 show ((j+1:Nat):Int) - ((k+1:Nat):Int)=_
 omega
theorem stL_one {e:Nat}:∀s∈stL ns ks e,s.2.length≤1:=fun s hs=>by
 unfold stL at hs
 rcases List.mem_append.mp hs with q | q
 ·split at q
  ·rw [List.mem_singleton.mp q]
   exact Nat.zero_le _
  ·cases q
 ·obtain ⟨k,_,rfl⟩:=List.mem_map.mp q
  exact Nat.le_refl _
theorem stL_len (hk:ks.length≤1000)(e:Nat):(stL ns ks e).length≤10000:=by
 unfold stL
 rw [List.length_append,List.length_map]
 have h1:=List.length_filter_le (fun k=>decide (ht ns ks ((e:Int) - k.w).toNat+k.wo=ht ns ks e)) (ks.filter fun k=>good ns k ((e:Int) - k.w))
 have h2:=List.length_filter_le (fun k=>good ns k ((e:Int) - k.w)) ks
 have h3:(if ht ns ks (e - 1)=ht ns ks e then [((e:Int) - 1,([]:List (Int×Str)))] else []).length≤1:=by split<;>simp
 omega
theorem best_out (hn:ns.length≤900)(hk:ks.length≤1000)(hw:∀k∈ks,1≤k.w){M:D}{N:Int}(hN:N≤1000):∀(j:Nat) (Bs:Bt) (o5 o6 o7:Option D),j≤ns.length→BI ns Bs→phi ns ks Bs (j+1)=N→
  ∃Bs' o5' o6' o7',forD (bName 5) Zds ((downL (j:Int) j).map D.int) [some (iD ns),some (tD ks),some M,some (iD (hts ns ks ns.length)),some (bD Bs),o5,o6,o7]=.ok (.nx [some (iD ns),some (tD ks),some M,some (iD (hts ns ks ns.length)),some (bD Bs'),o5',o6',o7'])∧BI ns Bs'∧phi ns ks Bs' 1=N
 | 0,Bs,o5,o6,o7,_,bi,hphi=>⟨Bs,o5,o6,o7,rfl,bi,hphi⟩
 | j+1,Bs,o5,o6,o7,hj,bi,hphi=>by
  have e1:phi ns ks Bs (j+1+1)=phi ns ks Bs (j+1)+ln Bs (j+1)*cb ns ks (j+1):=rfl
  have hle:=phi_le (ns:=ns) hw (Bs:=Bs) (show j+1<j+1+1 by omega)
  have st:=steps_ok (ns:=ns) hk hw (e:=j+1) (by omega) hj
  have hsl:=stL_len (ns:=ns) (ks:=ks) hk (j+1)
  obtain ⟨B1,a6,a7,q1,q2,q3⟩:=best_in hn hw (A:=iD ns) (T:=tD ks) (M:=M) (h:=iD (hts ns ks ns.length)) hj hN (stL ns ks (j+1)) Bs o6 o7 bi (fun s hs=>⟨(stL_bd hw s hs).1,by have:=(stL_bd hw s hs).2;omega,stL_one s hs⟩) (by rw [stL_sum hw];omega) (by omega)
  obtain ⟨B2,b5,b6,b7,q4,q5,q6⟩:=best_out hn hk hw (M:=M) hN j B1 (some (.int ((j+1:Nat):Int))) a6 a7 (by omega) q2 q3
  refine ⟨B2,b5,b6,b7,?_,q5,q6⟩
  rw [downL_succ,List.map_cons,forD_step (ρ1:=[some (iD ns),some (tD ks),some M,some (iD (hts ns ks ns.length)),some (bD Bs),some (.int ((j+1:Nat):Int)),o6,o7]) rfl]
  rw [show Zds [some (iD ns),some (tD ks),some M,some (iD (hts ns ks ns.length)),some (bD Bs),some (.int ((j+1:Nat):Int)),o6,o7]=_ from Zeh (Zdr (Zbb (Zad rfl (Zad rfl (Zad rfl (Zad rfl rfl)))) st) (by rw [List.length_map];show _≤1000000;omega)) q1]
  exact q4
end
end Dl
namespace Dl
open PySem
theorem insC_len (c:List Pc):∀l:List (List Pc),(insC c l).length=l.length+1
 | []=>rfl
 | d::r=>by
  unfold insC
  split
  ·rfl
  ·rw [List.length_cons,insC_len c r,List.length_cons]
theorem sortC_len:∀l:List (List Pc),(sortC l).length=l.length
 | []=>rfl
 | c::r=>by rw [sortC,insC_len,sortC_len r,List.length_cons]
theorem pcsOf_map:∀c:List Pc,pcsOf (c.map fun p=>.tup [.int p.1,.str p.2])=some c
 | []=>rfl
 | p::r=>by
  show (pcOf (.tup [.int p.1,.str p.2])).bind (fun c=>(pcsOf (r.map fun p=>.tup [.int p.1,.str p.2])).bind fun cs=>some (c::cs))=_
  rw [pcsOf_map r]
  rfl
theorem ctsOf_map:∀l:List (List Pc),ctsOf (l.map ctD)=some l
 | []=>rfl
 | c::r=>by
  show (pcsOf (c.map fun p=>.tup [.int p.1,.str p.2])).bind (fun c=>(ctsOf (r.map ctD)).bind fun cs=>some (c::cs))=_
  rw [pcsOf_map c,ctsOf_map r]
  rfl
theorem sortC_ok {l:List (List Pc)}(h:l.length≤1000):gSortC [.lst (l.map ctD)]=some (.lst ((sortC l).map ctD)):=by
 show ((ctsOf (l.map ctD)).bind fun cs=>if cs.length≤1000 then some (D.lst ((sortC cs).map ctD)) else none)=_
 rw [ctsOf_map]
 exact if_pos h
theorem r_path1 {i:Nat}{k e:FE}{ρ:Env}{d d' v:D}{n:Int}(hi:ρ[i]?=some (some d))(hk:k ρ=.ok (.int n))(he:e ρ=.ok v)(h:updP (addL v) [n] d=some d'):sPath i (aCons k aNil) e ρ=.ok (.nx (ρ.set i (some d'))):=by
 unfold sPath
 rw [hi]
 show (aCons k aNil ρ).calm.bind _=_
 rw [Zad hk (xs:=[]) rfl]
 show (e ρ).calm.bind _=_
 rw [he]
 show (match updP (addL v) [n] d with | some d'=>R.ok (Fl.nx (ρ.set i (some d'))) | none=>.bad)=_
 rw [h]
section
variable {ns:List Int}{ks:List Kd}
noncomputable def bs0 (n:Nat):Bt:=List.replicate n []++[[[]]]
theorem upd0 (n:Nat):updP (addL (.lst [])) [-1] (.lst (List.replicate (n+1) (.lst [])))=some (bD (bs0 n)):=by
 have e1:ixD (List.replicate (n+1) (D.lst [])).length (-1)=some n:=by
  rw [List.length_replicate]
  unfold ixD
  rw [if_neg (by decide),if_pos (by omega)]
  congr 1
  omega
 have e2:(List.replicate (n+1) (D.lst []))[n]?=some (.lst []):=by
  rw [List.getElem?_replicate,if_pos (Nat.lt_succ_self n)]
 show ((ixD (List.replicate (n+1) (D.lst [])).length (-1)).bind fun j=>(List.replicate (n+1) (D.lst []))[j]?.bind fun d=>(updP (addL (.lst [])) [] d).map fun d'=>D.lst ((List.replicate (n+1) (D.lst [])).set j d'))=_
 rw [e1]
 show ((List.replicate (n+1) (D.lst []))[n]?.bind fun d=>(updP (addL (.lst [])) [] d).map fun d'=>D.lst ((List.replicate (n+1) (D.lst [])).set n d'))=_
 rw [e2]
 show some (D.lst ((List.replicate (n+1) (D.lst [])).set n (.lst [.lst []])))=_
 rw [List.replicate_succ',List.set_append_right _ _ (by rw [List.length_replicate];exact Nat.le_refl _),List.length_replicate,Nat.sub_self]
 unfold bD bs0
 rw [List.map_append,List.map_replicate]
 rfl
theorem bs0_at (n b:Nat):(bs0 n).getD b []=if b=n then [[]] else []:=by
 unfold bs0
 rw [List.getD_eq_getElem?_getD]
 by_cases h:b<n
 ·rw [List.getElem?_append_left (by rw [List.length_replicate];exact h),List.getElem?_replicate,if_pos h,if_neg (by omega)]
  rfl
 ·rw [List.getElem?_append_right (by rw [List.length_replicate];omega),List.length_replicate]
  by_cases e:b=n
  ·subst e
   rw [Nat.sub_self,if_pos rfl]
   rfl
  ·obtain ⟨j,hj⟩:∃j,b - n=j+1:=⟨b - n - 1,by omega⟩
   rw [hj,if_neg e]
   rfl
theorem bs0_bi:BI ns (bs0 ns.length):=by
 refine ⟨by simp [bs0],fun b c hc=>?_⟩
 rw [bs0_at] at hc
 split at hc
 ·rename_i h
  rw [List.mem_singleton.mp hc]
  show 0+b≤_
  omega
 ·cases hc
theorem bs0_phi:phi ns ks (bs0 ns.length) (ns.length+1)=cb ns ks ns.length:=by
 have e:phi ns ks (bs0 ns.length) (ns.length+1)=phi ns ks (bs0 ns.length) ns.length+ln (bs0 ns.length) ns.length*cb ns ks ns.length:=rfl
 have z:phi ns ks (bs0 ns.length) ns.length=0:=S_ne fun i hi=>by
  unfold ln
  rw [bs0_at,if_neg (by omega)]
  show (0:Int)*_=0
  rw [Int.zero_mul]
 have o:ln (bs0 ns.length) ns.length=1:=by
  unfold ln
  rw [bs0_at,if_pos rfl]
  rfl
 rw [e,z,o,Int.zero_add,Int.one_mul]
theorem all_best_ok (hn:ns.length≤900)(hk:ks.length≤1000)(hw:∀k∈ks,1≤k.w){m:Int}(h1:cb ns ks ns.length≤m)(h2:cb ns ks ns.length≤200):∃ds:List D,Zbp [iD ns,tD ks,.int m]=.ok (.lst ds)∧(ds.length:Int)=cb ns ks ns.length:=by
 obtain ⟨Bs,o5,o6,o7,q1,q2,q3⟩:=best_out hn hk hw (M:=.int m) (N:=cb ns ks ns.length) (by omega) ns.length (bs0 ns.length) none none none (Nat.le_refl _) bs0_bi bs0_phi
 have e3:phi ns ks Bs 1=0+ln Bs 0*cb ns ks 0:=rfl
 rw [cb_zero,Int.mul_one,Int.zero_add] at e3
 have hl:(((Bs.getD 0 []).length:Nat):Int)=cb ns ks ns.length:=e3.symm.trans q3
 refine ⟨(sortC (Bs.getD 0 [])).map ctD,?_,by rw [List.length_map,sortC_len];exact hl⟩
 have hB:=q2.len
 have cm:fComp 8 1 (jList (fV 3)) (bName 8) cYes (fA gLst aNil) [some (iD ns),some (tD ks),some (.int m),some (iD (hts ns ks ns.length)),none,none,none,none]=.ok (.lst (List.replicate (ns.length+1) (.lst []))):=by
  refine Zhh rfl (Zdr (xs:=(hts ns ks ns.length).map D.int) rfl (by rw [List.length_map,hts_len];show _≤1000000;omega)) ?_
  have z:=comp1' (e:=fA gLst aNil) (ρ:=[some (iD ns),some (tD ks),some (.int m),some (iD (hts ns ks ns.length)),none,none,none,none]) (n:=8) (enc:=D.int) (v:=fun _=>.lst []) (xs:=hts ns ks ns.length) rfl fun c hc=>rfl
  rw [z,List.map_const',hts_len]
 have rg:jRng3 (aCons (fA gLen (aCons (fV 0) aNil)) (aCons (fC (.int 0)) (aCons (f1 gNeg (fC (.int 1))) aNil))) [some (iD ns),some (tD ks),some (.int m),some (iD (hts ns ks ns.length)),some (bD (bs0 ns.length)),none,none,none]=.ok ((downL (ns.length:Int) ns.length).map D.int):=by
  unfold jRng3
  rw [Zad (len_ints rfl) (Zad (x:=.int 0) rfl (Zad (x:=.int (-1)) (xs:=[]) rfl rfl))]
  show (if (-1:Int)=-1∧-1000000000≤(ns.length:Int)∧(ns.length:Int)≤1000000000∧-1000000000≤(0:Int)∧(0:Int)≤1000000000∧((ns.length:Int) - 0).toNat≤lim then R.ok ((downL (ns.length:Int) ((ns.length:Int) - 0).toNat).map D.int) else .bad)=_
  rw [show ((ns.length:Int) - 0).toNat=ns.length by omega]
  exact if_pos ⟨rfl,by omega,by omega,by decide,by decide,by show _≤1000000;omega⟩
 have b:Zel ([iD ns,tD ks,D.int m].map some++List.replicate (8 - [iD ns,tD ks,D.int m].length) none)=.ok (.ret (.lst ((sortC (Bs.getD 0 [])).map ctD))) :=
  Zam (Zcj (Zct (Zak (Zbb (Zad rfl (Zad rfl rfl)) (count_ok' hn hk hw)) rfl (bl_f (p:=cb ns ks ns.length > m) (by omega)))) rfl) (Zam (Zaw (Zbb (Zad rfl (Zad rfl rfl)) (heights_ok ns ks hn hk hw))) (Zam (Zaw cm) (Zam (r_path1 rfl rfl rfl (upd0 _)) (Zam (Zeh rg q1) (Zcs (Zdf (Zad (Zak rfl rfl (bD_at (e:=0) (by omega) rfl)) rfl) (sortC_ok (by omega))))))))
 unfold Zbp run
 rw [b]
 rfl
theorem all_best_no (hn:ns.length≤900)(hk:ks.length≤1000)(hw:∀k∈ks,1≤k.w){m:Int}(h0:0≤m)(h1:m<cb ns ks ns.length)(h2:m≤200):Zbp [iD ns,tD ks,.int m]=.err "TooMany" (some m):=by
 have rs:sRaiseI "TooMany" (fV 2) [some (iD ns),some (tD ks),some (.int m),none,none,none,none,none]=.err "TooMany" (some m):=by
  show (if m.natAbs<2 ^ 200 then R.err "TooMany" (some m) else .bad)=_
  exact if_pos (Nat.lt_of_le_of_lt (show m.natAbs≤200 by omega) (by decide))
 have b:Zel ([iD ns,tD ks,D.int m].map some++List.replicate (8 - [iD ns,tD ks,D.int m].length) none)=.err "TooMany" (some m):=by
  have z:=Zdp (c:=cE (f2 gGt (fCall Zcd (aCons (fV 0) (aCons (fV 1) aNil))) (fV 2))) (b:=sNx) (ρ:=[some (iD ns),some (tD ks),some (.int m),none,none,none,none,none]) (Zct (Zak (y:=.int m) (Zbb (Zad rfl (Zad rfl rfl)) (count_ok' hn hk hw)) rfl (bl_t (p:=cb ns ks ns.length > m) (by omega)))) rs
  show sSeq _ _ [some (iD ns),some (tD ks),some (.int m),none,none,none,none,none]=_
  rw [ev_sSeq,z]
  rfl
 unfold Zbp run
 rw [b]
 rfl
noncomputable def aT:FS:=sRet (fA gTup (aCons (fC (.str ("told":Str))) (aCons (fA gLen (aCons (fCall Zbp (aCons (fV 0) (aCons (fV 1) (aCons (fV 2) aNil)))) aNil)) aNil)))
theorem asked_yes (hn:ns.length≤900)(hk:ks.length≤1000)(hw:∀k∈ks,1≤k.w){m:Int}(h1:cb ns ks ns.length≤m)(h2:cb ns ks ns.length≤200):Zbh [iD ns,tD ks,.int m]=.ok (.tup [.str "told",.int (cb ns ks ns.length)]):=by
 obtain ⟨ds,e,hl⟩:=all_best_ok hn hk hw h1 h2
 refine Zcq ?_
 have hb:aT [some (iD ns),some (tD ks),some (.int m),none]=.ok (.ret (.tup [.str "told",.int (cb ns ks ns.length)])):=Zcs (Zdf (Zad rfl (Zad (Zdf (Zad (Zbb (Zad rfl (Zad rfl (Zad rfl rfl))) e) rfl) (by rw [← hl];rfl)) rfl)) rfl)
 show sTry _ 4 3 aT _ [some (iD ns),some (tD ks),some (.int m),none]=_
 rw [ev_sTry,hb]
theorem asked_no (hn:ns.length≤900)(hk:ks.length≤1000)(hw:∀k∈ks,1≤k.w){m:Int}(h0:0≤m)(h1:m<cb ns ks ns.length)(h2:m≤200):Zbh [iD ns,tD ks,.int m]=.ok (.tup [.str "many",.int m]):=by
 have e:=all_best_no hn hk hw h0 h1 h2
 refine Zcq ?_
 have hb:aT [some (iD ns),some (tD ks),some (.int m),none]=.err "TooMany" (some m):=by
  show (fA gTup (aCons (fC (.str ("told":Str))) (aCons (fA gLen (aCons (fCall Zbp (aCons (fV 0) (aCons (fV 1) (aCons (fV 2) aNil)))) aNil)) aNil)) [some (iD ns),some (tD ks),some (.int m),none]).bind _=_
  simp [e]
 show sTry _ 4 3 aT _ [some (iD ns),some (tD ks),some (.int m),none]=_
 rw [ev_sTry,hb]
 rfl
theorem ne_ps (x:Str)(i:Int):gNe (.tup [.str x,.int i]) (.tup [.str x,.int i])=some (.bl false):=neX (by simp [dep,depA])
theorem law_turn {S T A:D}{ws:List Int}{c m:Int}(hw:gList [S]=some S)(ht:gList [T]=some T)(h1:Zbh [S,T,.int m]=.ok (.tup [.str "many",.int m]))(h2:c≤200→Zbh [S,T,.int c]=.ok (.tup [.str "told",.int c]))(o4 o6:Option D) :
  Zfx [some A,some S,some T,some (.int c),o4,some (.int m),o6]=.ok (.nx [some A,some S,some T,some (.int c),o4,some (.int m),o6]):=by
 refine Zam (Zcj (Zct (Zak (Zbb (Zad (Zdf (Zad rfl rfl) hw) (Zad (Zdf (Zad rfl rfl) ht) (Zad rfl rfl))) h1) (Zdf (Zad rfl (Zad rfl rfl)) rfl) (ne_ps _ _))) rfl) ?_
 by_cases hc:c≤200
 ·exact Zcj (Zgt (Zct (Zak rfl rfl (bl_t hc))) (Zct (Zak (Zbb (Zad (Zdf (Zad rfl rfl) hw) (Zad (Zdf (Zad rfl rfl) ht) (Zad rfl rfl))) (h2 hc)) (Zdf (Zad rfl (Zad rfl rfl)) rfl) (ne_ps _ _)))) rfl
 ·exact Zcj (r_cAndF (Zct (Zak rfl rfl (bl_f hc)))) rfl
end
theorem law33_true (ns:List Int)(hn:ns.length≤63):F_law [.scr ns]=.ok (.bl true):=by
 obtain ⟨ws,ks,hd,hl,_,hk,tb⟩:=drawn_ok ns hn (i:=0) (m:=30) (c:=8) (by decide) (by decide) (by decide) (by decide) (by decide) (by decide)
 have hw:∀k∈ks,1≤k.w:=fun k hk=>(tb.ok k hk).w1
 have hc:=lbc_ok (ns:=ws) (ks:=ks) (by omega) (by omega) hw
 have pos:=cb_pos (ns:=ws) hw ws.length
 have yes:=fun h:cb ws ks ws.length≤200=>asked_yes (ns:=ws) (ks:=ks) (by omega) (by omega) hw (Int.le_refl _) h
 have no:=fun (m:Int) (h0:0≤m) (h1:m<cb ws ks ws.length) (h2:m≤200)=>asked_no (ns:=ws) (ks:=ks) (by omega) (by omega) hw h0 h1 h2
 have l1:=list_ints ws
 have l2:gList [tD ks]=some (tD ks):=by simp [gList,tD,kD]
 generalize cb ws ks ws.length=c at *
 generalize iD ws=S at *
 generalize tD ks=T at *
 obtain ⟨os,hos,R⟩:=row_ok ns hn (i:=2) (by decide) (by decide) [3,200] (by decide) (by decide)
 obtain ⟨x,y,rfl⟩:∃x y,os=[x,y]:=by
  have:=R.len
  match os,this with
  | [x,y],_=>exact ⟨x,y,rfl⟩
 have x0:0≤x∧x<3:=R.at_ 0 (by decide)
 have y0:0≤y∧y<200:=R.at_ 1 (by decide)
 obtain ⟨m,hm,m0,m1⟩:∃m:Int,gIx (.lst [.int (c - 1),.int (y % c),.int 0]) (.int x)=some (.int m)∧0≤m∧m<c:=by
  obtain rfl | rfl | rfl:x=0∨x=1∨x=2:=by omega
  ·exact ⟨c - 1,ix_l0 _ _,by omega,by omega⟩
  ·exact ⟨y % c,ix_l1 _ _ _,Int.emod_nonneg _ (by omega),Int.emod_lt_of_pos _ pos⟩
  ·exact ⟨0,ix_l2 _ _ _ _,by decide,pos⟩
 obtain ⟨z,hz,z0,z1,z2⟩:∃z:Int,gMin [.int m,.int 200]=some (.int z)∧0≤z∧z<c∧z≤200:=by
  refine ⟨if (200:Int)<m then 200 else m,rfl,?_⟩
  split<;>omega
 have t:=fun o6=>law_turn (A:=.scr ns) (ws:=ws) l1 l2 (no z z0 z1 z2) yes (some (iD [x,y])) o6
 have lp:forD (bName 6) Zfx (rngL 0 2) [some (.scr ns),some S,some T,some (.int c),some (iD [x,y]),some (.int z),none]=.ok (.nx [some (.scr ns),some S,some T,some (.int c),some (iD [x,y]),some (.int z),some (.int (0+((1:Nat):Int)))]):=by
  rw [rg_of,rg_cons,forD_step (ρ1:=[some (.scr ns),some S,some T,some (.int c),some (iD [x,y]),some (.int z),some (.int (0+((0:Nat):Int)))]) rfl,t]
  show forD (bName 6) Zfx (rg (0+1) 1) _=_
  rw [rg_cons,forD_step (ρ1:=[some (.scr ns),some S,some T,some (.int c),some (iD [x,y]),some (.int z),some (.int (0+((1:Nat):Int)))]) rfl,t]
  rfl
 exact Zcq (Zam (r_asg (Zbb (Zad rfl (Zad rfl (Zad rfl (Zad rfl rfl)))) hd) rfl) (Zam (Zaw (Zbb (Zad rfl (Zad rfl rfl)) hc)) (Zam (Zaw (Zbb (Zad rfl (Zad rfl (Zad rfl rfl))) hos)) (Zam (Zaw (Zej (Zak (Zdf (Zad (Zak rfl rfl rfl) (Zad (Zak (Zak rfl rfl (ix_l1 _ _ _)) rfl (mod_ii pos)) (Zad rfl rfl))) rfl) (Zak rfl rfl (ix_l0 _ _)) hm) rfl)) (Zam (Zaw (Zdf (Zad rfl (Zad rfl rfl)) hz)) (Zam (Zeh (r_rng (j:=2) rfl (by decide)) lp) (Zcs rfl)))))))
end Dl
set_option maxHeartbeats 4000000
namespace K33
open PySem PySem.Spec PyProof.Rows L2
open Dl (D R FE FT FA FO FS FI FB Fl)
noncomputable def top (i:Nat):Stmt:=PySem.Challenge.pw_selvage_k33_too_many.main.body.getD i (.Pass ⟨0,0,0,0⟩)
noncomputable abbrev sspoilt:Stmt:=top 7
noncomputable abbrev sfits:Stmt:=top 9
noncomputable abbrev sending:Stmt:=top 11
noncomputable abbrev snext_top:Stmt:=top 12
noncomputable abbrev sheights:Stmt:=top 13
noncomputable abbrev sbest_steps:Stmt:=top 15
noncomputable abbrev sbest_counts:Stmt:=top 16
noncomputable abbrev sbest_count:Stmt:=top 17
noncomputable abbrev sall_best:Stmt:=top 18
noncomputable abbrev Zen:Stmt:=top 20
noncomputable abbrev Zfh:Stmt:=top 21
noncomputable abbrev Zfd:Stmt:=top 22
noncomputable abbrev Zdz:Stmt:=top 23
noncomputable abbrev Zeq:Stmt:=top 24
noncomputable abbrev Zeo:Stmt:=top 25
noncomputable abbrev Zea:Stmt:=top 26
noncomputable abbrev Zek:Stmt:=top 27
noncomputable abbrev Zei:Stmt:=top 28
noncomputable abbrev Zdj:Stmt:=top 29
noncomputable abbrev Zcl:Stmt:=top 30
noncomputable abbrev Zcp:Stmt:=top 31
noncomputable abbrev Zeb:Stmt:=top 32
noncomputable abbrev slaw:Stmt:=top 33
theorem scspoilt:FnScope ["roll","begin","end"] ["roll","begin","end"] (defScope sspoilt):=⟨rfl,rfl,rfl,by decide +kernel,rfl,by decide +kernel,by decide +kernel⟩
theorem scfits:FnScope ["roll","kind","place","end"] ["roll","kind","place"] (defScope sfits):=⟨rfl,rfl,rfl,by decide +kernel,rfl,by decide +kernel,by decide +kernel⟩
theorem scending:FnScope ["roll","table","end"] ["roll","table","end"] (defScope sending):=⟨rfl,rfl,rfl,by decide +kernel,rfl,by decide +kernel,by decide +kernel⟩
theorem scnext_top:FnScope ["roll","table","tops","end","worths"] ["roll","table","tops"] (defScope snext_top):=⟨rfl,rfl,rfl,by decide +kernel,rfl,by decide +kernel,by decide +kernel⟩
theorem scheights:FnScope ["roll","table","tops"] ["roll","table"] (defScope sheights):=⟨rfl,rfl,rfl,by decide +kernel,rfl,by decide +kernel,by decide +kernel⟩
theorem scbest_steps:FnScope ["roll","table","tops","end","steps","kind","begin"] ["roll","table","tops","end"] (defScope sbest_steps):=⟨rfl,rfl,rfl,by decide +kernel,rfl,by decide +kernel,by decide +kernel⟩
theorem scbest_counts:FnScope ["roll","table","tops","numbers","end","steps"] ["roll","table"] (defScope sbest_counts):=⟨rfl,rfl,rfl,by decide +kernel,rfl,by decide +kernel,by decide +kernel⟩
theorem scbest_count:FnScope ["roll","table"] ["roll","table"] (defScope sbest_count):=⟨rfl,rfl,rfl,by decide +kernel,rfl,by decide +kernel,by decide +kernel⟩
theorem scall_best:FnScope ["roll","table","most","tops","behind","end","begin","pieces"] ["roll","table","most"] (defScope sall_best):=⟨rfl,rfl,rfl,by decide +kernel,rfl,by decide +kernel,by decide +kernel⟩
theorem Zfg:FnScope ["_law_script","_law_place","_law_seed","_law_cell_here"] ["_law_script","_law_place"] (defScope Zen):=⟨rfl,rfl,rfl,by decide +kernel,rfl,by decide +kernel,by decide +kernel⟩
theorem Zfv:FnScope ["_law_cell_here","_law_k","_law_one","_law_two"] ["_law_cell_here","_law_k"] (defScope Zfh):=⟨rfl,rfl,rfl,by decide +kernel,rfl,by decide +kernel,by decide +kernel⟩
theorem Zfs:FnScope ["_law_script","_law_place","_law_sizes","_law_cell_here","_law_left","_law_some","_law_k","_law_other"] ["_law_script","_law_place","_law_sizes"] (defScope Zfd):=⟨rfl,rfl,rfl,by decide +kernel,rfl,by decide +kernel,by decide +kernel⟩
theorem Zey:FnScope ["_law_script","_law_place","_law_most","_law_pool","_law_some","_law_flaw_here","_law_gain","_law_table_here","_law_k","_law_at","_law_width","_law_worth","_law_allowed","_law_name"] ["_law_script","_law_place","_law_most"] (defScope Zdz):=⟨rfl,rfl,rfl,by decide +kernel,rfl,by decide +kernel,by decide +kernel⟩
theorem Zfj:FnScope ["_law_script","_law_place","_law_most"] ["_law_script","_law_place","_law_most"] (defScope Zeq):=⟨rfl,rfl,rfl,by decide +kernel,rfl,by decide +kernel,by decide +kernel⟩
theorem Zfo:FnScope ["_law_script","_law_place","_law_most","_law_flaw_here","_law_some","_law_great","_law_roll_here","_law_k","_law_at","_law_weight"] ["_law_script","_law_place","_law_most","_law_flaw_here"] (defScope Zeo):=⟨rfl,rfl,rfl,by decide +kernel,rfl,by decide +kernel,by decide +kernel⟩
theorem Zeu:FnScope ["_law_script","_law_place","_law_most","_law_kinds","_law_flaw_here"] ["_law_script","_law_place","_law_most","_law_kinds"] (defScope Zea):=⟨rfl,rfl,rfl,by decide +kernel,rfl,by decide +kernel,by decide +kernel⟩
theorem Zfn:FnScope ["_law_roll_here","_law_sums_here","_law_weight"] ["_law_roll_here"] (defScope Zek):=⟨rfl,rfl,rfl,by decide +kernel,rfl,by decide +kernel,by decide +kernel⟩
theorem Zfp:FnScope ["_law_sums_here","_law_kind","_law_at","_law_end"] ["_law_sums_here","_law_kind","_law_at"] (defScope Zei):=⟨rfl,rfl,rfl,by decide +kernel,rfl,by decide +kernel,by decide +kernel⟩
theorem Zdy:FnScope ["_law_roll_here","_law_table_here","_law_sums_here","_law_high","_law_end","_law_most","_law_kind","_law_at"] ["_law_roll_here","_law_table_here"] (defScope Zdj):=⟨rfl,rfl,rfl,by decide +kernel,rfl,by decide +kernel,by decide +kernel⟩
theorem Zcf:FnScope ["_law_one"] ["_law_one"] (defScope Zcl):=⟨rfl,rfl,rfl,by decide +kernel,rfl,by decide +kernel,by decide +kernel⟩
theorem Zdh:FnScope ["_law_roll_here","_law_table_here","_law_sums_here","_law_high","_law_told","_law_end","_law_count","_law_kind","_law_at"] ["_law_roll_here","_law_table_here"] (defScope Zcp):=⟨rfl,rfl,rfl,by decide +kernel,rfl,by decide +kernel,by decide +kernel⟩
theorem Zex:FnScope ["_law_roll_here","_law_table_here","_law_most","e"] ["_law_roll_here","_law_table_here","_law_most"] (defScope Zeb):=⟨rfl,rfl,rfl,by decide +kernel,rfl,by decide +kernel,by decide +kernel⟩
theorem sclaw:FnScope ["_law_script","_law_roll_here","_law_table_here","_law_count","_law_some","_law_most","_law_turn"] ["_law_script"] (defScope slaw):=⟨rfl,rfl,rfl,by decide +kernel,rfl,by decide +kernel,by decide +kernel⟩
noncomputable abbrev sTooMany_init:Stmt:=inClass (top 4) 0
theorem scTooMany_init:FnScope ["self","most"] ["self","most"] (defScope sTooMany_init):=⟨rfl,rfl,rfl,by decide +kernel,rfl,by decide +kernel,by decide +kernel⟩
structure Txt (mg:Str→Option Value)(K:PySem.W.Frag)(C:String→Addr):Prop where
 sum:mg "sum"=none
 len:mg "len"=none
 max:mg "max"=none
 range:mg "range"=none
 sorted:mg "sorted"=none
 min:mg "min"=none
 isinstance:mg "isinstance"=none
 int:mg "int"=none
 bool:mg "bool"=none
 ValueError:mg "ValueError"=none
 list:mg "list"=none
 mCutError:mg "CutError"=some (.ref (C "CutError"))
 eCutError:ErrIn K (C "CutError")
 mNoPlace:mg "NoPlace"=some (.ref (C "NoPlace"))
 eNoPlace:ErrIn K (C "NoPlace")
 mTooLong:mg "TooLong"=some (.ref (C "TooLong"))
 eTooLong:ErrIn K (C "TooLong")
 mTooMany:mg "TooMany"=some (.ref (C "TooMany"))
 kTooMany:ErrK K (C "TooMany")
 nTooMany:PySem.W.findIn K (.ref (C "TooMany")) "most"=some none
 hTooMany:PySem.W.hasDictIn K (C "TooMany")=true
 mTooBig:mg "TooBig"=some (.ref (C "TooBig"))
 eTooBig:ErrIn K (C "TooBig")
 sTooMany_CutError:PySem.W.subIn K (.ref (C "TooMany")) (.ref (C "CutError"))=some true
 sTooMany_NoPlace:PySem.W.subIn K (.ref (C "TooMany")) (.ref (C "NoPlace"))=some false
 sTooMany_TooLong:PySem.W.subIn K (.ref (C "TooMany")) (.ref (C "TooLong"))=some false
 sTooMany_TooBig:PySem.W.subIn K (.ref (C "TooMany")) (.ref (C "TooBig"))=some false
 wTooMany:PySem.W.subIn K (.ref (C "TooMany")) (.type "ValueError")=some true
 bCutError:BaseI K (C "CutError")
section
variable {P:Program}{w:World}{K:PySem.W.Frag}{C:String→Addr}{mg:Str→Option Value}{base:Heap}{f:Addr}{fd:FuncData}
theorem initTooMany (F:Fun K "__init__" "TooMany.__init__" sTooMany_init f fd)(T:Txt mg K C):FnOk P w K mg base CX0 1 f fd ["self","most"] (spInit K "most") :=
 F.initX scTooMany_init fun _ _ _ _ _ _=>⟨_,pss_cons (ps_expr (pe_initX T.bCutError T.mCutError (pa_cons (pv 0) (pa_cons (qe_js (qj_cons qe_str (qj_cons (qe_fv ⟨pv 1⟩) qj_nil))).out pa_nil)))) (pss_one (ps_setX (pv 0) (pv 1) rfl rfl)),fun v i H R hl hR=>⟨_,rfl,by decide,⟨.int i,rfl,i,rfl,hl,fun y hy=>⟨y,rfl,hy,hR⟩⟩⟩⟩
theorem okspoilt (F:Fun K "spoilt" "spoilt" sspoilt f fd)(T:Txt mg K C):FnOk P w K mg base CX0 7 f fd ["roll","begin","end"] (spD K C 3 2 Dl.Zdw):=by
  refine F.okC scspoilt (Γ':=[]) (Δ':=[]) rfl fun cdv A outer s H E hr=>?_
  have sc:=scspoilt
  have hu:_+64<cLine:=hr.units
  exact ⟨_,(Zag [] [] (Zde (ct_w (cw_or (Zbr Zhq Zfu (Zai 1) Zae (nomark _)) (cw_or (Zbr op_gt Zgh (Zai 2) (Zbc (r:=rLenA K) Zbj Zch rfl T.len PySem.boot_len (Zac (Zai 0) Zah Zaa) (he:=Zaa)) (nomark _)) (cw_or1 (Zbr op_gt Zgh (Zai 1) (Zai 2) (nomark _)))))) (Zaj cs_never) Zbo)
      (Zaj (Zbe (Zbc (r:=rSum K) (Zhf rfl) gak_sum rfl T.sum PyProof.Rows.boot_sum (Zac (ce_sl K (Zai 0) (co_some (Zai 1)) (co_some (Zai 2))) Zah Zdc) (he:=Zdc)))))⟩
theorem ok_law_cell (F:Fun K "_law_cell" "_law_cell" Zen f fd)(T:Txt mg K C):FnOk P w K mg base CX0 7 f fd ["_law_script","_law_place"] (spD K C 2 2 Dl.Zci):=by
  refine F.okC Zfg (Γ':=[]) (Δ':=[]) rfl fun cdv A outer s H E hr=>?_
  have sc:=Zfg
  have hu:_+64<cLine:=hr.units
  exact ⟨_,(Zag [] [] (Zde (Zbr Zhq Zfu (Zai 1) (Zbc (r:=rLenA K) Zbj Zch rfl T.len PySem.boot_len (Zac (Zai 0) Zah Zaa) (he:=Zaa)) (nomark _)) (Zaj (Zbe (Zbd (Zat K (Zai 0) (Zai 1) Zav)))) Zbo)
      (Zag [2] [2] (Zao (i:=2) sc.nd rfl (Or.inl rfl) Zae)
      (Zag [2] [2] (Zdb [2] [2] PassesOwn.never rfl (ci_list (ce_sl K (Zai 0) co_none (co_some Zae))) (cg_name (i:=3) (hN:=sc.nd) (hi:=rfl) (hx:=Or.inl rfl)) (Zaj (Zao (i:=2) sc.nd rfl (Or.inl rfl) (Zan Zcx Zca (Zan Zas Zar (Zan Zas Zar (Zan Zbm Zbn (Zai 2) Zae) (Zan Zcx Zca (Zai 3) Zae)) Zae) Zae))))
      (Zaj (Zbe (Zan Zcx Zca (Zan Zas Zar (Zai 2) (Zan Zbm Zbn Zae (Zai 1))) Zae))))))⟩
theorem ok_law_mix (F:Fun K "_law_mix" "_law_mix" Zfh f fd)(T:Txt mg K C):FnOk P w K mg base CX0 7 f fd ["_law_cell_here","_law_k"] (spD K C 2 2 Dl.Zcu):=by
  refine F.okC Zfv (Γ':=[]) (Δ':=[]) rfl fun cdv A outer s H E hr=>?_
  have sc:=Zfv
  have hu:_+64<cLine:=hr.units
  exact ⟨_,(Zag [2] [2] (Zao (i:=2) sc.nd rfl (Or.inl rfl) (Zan Zcx Zca (Zan Zef Zdk (Zan Zas Zar (Zan Zas Zar (Zan Zcx Zca (Zai 0) Zae) (Zan Zbm Zbn Zae (Zai 1))) Zae) Zae) Zae))
      (Zag [2,3] [2,3] (Zao (i:=3) sc.nd rfl (Or.inl rfl) (Zan Zcx Zca (Zan Zas Zar (Zan Zas Zar (Zan Zbm Zbn (Zai 2) Zae) (Zan Zbm Zbn (Zan Zbm Zbn Zae (Zai 1)) (Zai 1))) Zae) Zae))
      (Zaj (Zbe (Zan Zhm gok_div (Zai 3) Zae)))))⟩
theorem ok_law_sums (F:Fun K "_law_sums" "_law_sums" Zek f fd)(T:Txt mg K C):FnOk P w K mg base CX0 7 f fd ["_law_roll_here"] (spD K C 1 2 Dl.Zbs):=by
  refine F.okC Zfn (Γ':=[]) (Δ':=[]) rfl fun cdv A outer s H E hr=>?_
  have sc:=Zfn
  have hu:_+64<cLine:=hr.units
  exact ⟨_,(Zag [1] [1] (Zao (i:=1) sc.nd rfl (Or.inl rfl) (Zbi (Zaf Zae Zah Zab)))
      (Zag [1] [1] (Zdb [1] [1] PassesOwn.never rfl (ci_list (Zai 0)) (cg_name (i:=2) (hN:=sc.nd) (hi:=rfl) (hx:=Or.inl rfl)) (Zaj (Zdn (i:=1) (he:=(Zan Zas Zar (Zat K (Zai 1) (Zer Zae) Zdi) (Zai 2))) (hse:=Zaq))))
      (Zaj (Zbe (Zgc 1)))))⟩
theorem ok_law_good (F:Fun K "_law_good" "_law_good" Zei f fd)(T:Txt mg K C):FnOk P w K mg base CX0 7 f fd ["_law_sums_here","_law_kind","_law_at"] (spD K C 3 2 Dl.Zcc):=by
  refine F.okC Zfp (Γ':=[]) (Δ':=[]) rfl fun cdv A outer s H E hr=>?_
  have sc:=Zfp
  have hu:_+64<cLine:=hr.units
  exact ⟨_,(Zag [3] [3] (Zao (i:=3) sc.nd rfl (Or.inl rfl) (Zan Zas Zar (Zai 2) (Zat K (Zai 1) Zae Zal)))
      (Zag [3] [3] (Zde (ct_w (cw_or (Zbr Zhq Zfu (Zai 2) Zae (nomark _)) (cw_or1 (Zbr op_ge gok_ge (Zai 3) (Zbc (r:=rLenA K) Zbj Zch rfl T.len PySem.boot_len (Zac (Zai 0) Zah Zaa) (he:=Zaa)) (nomark _))))) (Zaj (Zbe ce_bl)) Zbo)
      (Zaj (Zbe (ce_cmp op_le Zhl (Zan Zdt Zcv (Zat K (Zai 0) (Zai 3) Zav) (Zat K (Zai 0) (Zai 2) Zav)) (Zat K (Zai 1) Zae Zal) (nomark _))))))⟩
theorem ok_law_is_whole (F:Fun K "_law_is_whole" "_law_is_whole" Zcl f fd)(T:Txt mg K C):FnOk P w K mg base CX0 7 f fd ["_law_one"] (spD K C 1 2 Dl.Zbl):=by
 refine F.okC Zcf (Γ':=[]) (Δ':=[]) rfl fun cdv A outer s H E hr=>?_
 have sc:=Zcf
 have hu:_+64<cLine:=hr.units
 exact ⟨_,(Zaj (Zbe (ce_and (Zhj K (ty:="int") kit_int rfl T.isinstance rfl T.int PyProof.Rows.boot_int (Zai 0) Zaa) (ce_one (ce_not (Zhj K (ty:="bool") kit_bool rfl T.isinstance rfl T.bool PyProof.Rows.boot_bool (Zai 0) Zaa))))))⟩
theorem okH_law_is_whole (F:Fun K "_law_is_whole" "_law_is_whole" Zcl f fd)(T:Txt mg K C):FnOkH P w K mg base 7 f fd ["_law_one"] (spD K C 1 2 Dl.Zbl):=by
 refine F.okH Zcf (Γ':=[]) (Δ':=[]) rfl fun cdv A outer s H E hr=>?_
 have sc:=Zcf
 have hu:_+64<cLine:=hr.units
 exact ⟨_,(Zaj (Zbe (ce_and (Zhj K (ty:="int") kit_int rfl T.isinstance rfl T.int PyProof.Rows.boot_int (Zai 0) Zaa) (ce_one (ce_not (Zhj K (ty:="bool") kit_bool rfl T.isinstance rfl T.bool PyProof.Rows.boot_bool (Zai 0) Zaa))))))⟩
theorem okfits (F:Fun K "fits" "fits" sfits f fd)(T:Txt mg K C)(Dspoilt:Def P w K mg base CX0 7 "spoilt" ["roll","begin","end"] (spD K C 3 2 Dl.Zdw)):FnOk P w K mg base CX0 8 f fd ["roll","kind","place"] (spD K C 3 2 Dl.Zfr):=by
  refine F.okC scfits (Γ':=[]) (Δ':=[]) rfl fun cdv A outer s H E hr=>?_
  have sc:=scfits
  have hu:_+64<cLine:=hr.units
  exact ⟨_,(Zag [3] [3] (Zao (i:=3) sc.nd rfl (Or.inl rfl) (Zan Zas Zar (Zai 2) (Zat K (Zai 1) Zae Zal)))
      (Zag [3] [3] (Zde (ct_w (cw_or (Zbr Zhq Zfu (Zai 2) Zae (nomark _)) (cw_or1 (Zbr op_gt Zgh (Zai 3) (Zbc (r:=rLenA K) Zbj Zch rfl T.len PySem.boot_len (Zac (Zai 0) Zah Zaa) (he:=Zaa)) (nomark _))))) (Zaj (Zbe ce_bl)) Zbo)
      (Zaj (Zbe (ce_cmp op_le Zhl (Zax Dspoilt (hr.mono (by decide)) rfl pass0 (Zac (Zai 0) (Zac (Zai 2) (Zac (Zai 3) Zah Zaa) Zaa) Zaa) (he:=Zaa)) (Zat K (Zai 1) Zae Zal) (nomark _))))))⟩
theorem ok_law_row (F:Fun K "_law_row" "_law_row" Zfd f fd)(T:Txt mg K C)(D_law_cell:Def P w K mg base CX0 7 "_law_cell" ["_law_script","_law_place"] (spD K C 2 2 Dl.Zci))(D_law_mix:Def P w K mg base CX0 7 "_law_mix" ["_law_cell_here","_law_k"] (spD K C 2 2 Dl.Zcu)):FnOk P w K mg base CX0 8 f fd ["_law_script","_law_place","_law_sizes"] (spD K C 3 2 Dl.Zbg):=by
  refine F.okC Zfs (Γ':=[]) (Δ':=[]) rfl fun cdv A outer s H E hr=>?_
  have sc:=Zfs
  have hu:_+64<cLine:=hr.units
  exact ⟨_,(Zag [3] [3] (Zao (i:=3) sc.nd rfl (Or.inl rfl) (Zax D_law_cell (hr.mono (by decide)) rfl pass0 (Zac (Zai 0) (Zac (Zai 1) Zah Zaa) Zaa) (he:=Zaa)))
      (Zag [3,4] [3,4] (Zao (i:=4) sc.nd rfl (Or.inl rfl) (Zbd (Zai 3)))
      (Zag [3,4,5] [3,4,5] (Zao (i:=5) sc.nd rfl (Or.inl rfl) (Zbi Zah))
      (Zag [3,4,5] [3,4,5] (Zdb [3,4,5] [3,4,5] PassesOwn.never rfl (ci_rng1 rfl T.range (Zac (Zbc (r:=rLenA K) Zbj Zch rfl T.len PySem.boot_len (Zac (Zai 2) Zah Zaa) (he:=Zaa)) Zah Zba)) (cg_name (i:=6) (hN:=sc.nd) (hi:=rfl) (hx:=Or.inl rfl)) (Zaj (Zde (Zbr Zhq Zfu (Zai 3) (Zan Zef Zdk Zae Zae) (nomark _)) (Zaj (Zdn (i:=5) (he:=(Zan Zcx Zca (Zax D_law_mix (hr.mono (by decide)) rfl pass0 (Zac (Zai 3) (Zac (Zai 6) Zah Zaa) Zaa) (he:=Zaa)) (Zat K (Zai 2) (Zai 6) Zav))) (hse:=Zaq))) (Zaj (Zde (Zbr op_gt Zgh (Zai 4) Zae (nomark _)) (Zag [3,4,5] [3,4,5] (Zdn (i:=5) (he:=(Zan Zcx Zca (Zai 4) (Zat K (Zai 2) (Zai 6) Zav))) (hse:=Zaq))
      (Zaj (Zao (i:=4) sc.nd rfl (Or.inl rfl) (Zan Zhm gok_div (Zai 4) (Zat K (Zai 2) (Zai 6) Zav))))) (Zcr [3,4,5,7] [3,4,5,7] (Zag [3,4,5,7] [3,4,5,7] (Zao (i:=7) sc.nd rfl (Or.inl rfl) (Zax D_law_cell (hr.mono (by decide)) rfl pass0 (Zac (Zai 0) (Zac (Zan Zcx Zca (Zan Zas Zar (Zan Zas Zar (Zai 1) Zae) (Zai 6)) Zae) Zah Zaq) Zaa) (he:=Zaa)))
      (Zaj (Zdn (i:=5) (he:=(Zan Zcx Zca (Zax D_law_mix (hr.mono (by decide)) rfl pass0 (Zac (Zai 7) (Zac (Zai 6) Zah Zaa) Zaa) (he:=Zaa)) (Zat K (Zai 2) (Zai 6) Zav))) (hse:=Zaq))))))))))
      (Zaj (Zbe (Zgc 5)))))))⟩
theorem ok_law_heights (F:Fun K "_law_heights" "_law_heights" Zdj f fd)(T:Txt mg K C)(D_law_sums:Def P w K mg base CX0 7 "_law_sums" ["_law_roll_here"] (spD K C 1 2 Dl.Zbs))(D_law_good:Def P w K mg base CX0 7 "_law_good" ["_law_sums_here","_law_kind","_law_at"] (spD K C 3 2 Dl.Zcc)):FnOk P w K mg base CX0 8 f fd ["_law_roll_here","_law_table_here"] (spD K C 2 2 Dl.Zbx):=by
  refine F.okC Zdy (Γ':=[]) (Δ':=[]) rfl fun cdv A outer s H E hr=>?_
  have sc:=Zdy
  have hu:_+64<cLine:=hr.units
  exact ⟨_,(Zag [2] [2] (Zao (i:=2) sc.nd rfl (Or.inl rfl) (Zax D_law_sums (hr.mono (by decide)) rfl pass0 (Zac (Zai 0) Zah Zaa) (he:=Zaa)))
      (Zag [2,3] [2,3] (Zao (i:=3) sc.nd rfl (Or.inl rfl) (Zbi (Zaf Zae Zah Zab)))
      (Zag [2,3] [2,3] (Zdb [2,3] [2,3] PassesOwn.never rfl (ci_rng2 rfl T.range (Zac Zae (Zac (Zbc (r:=rLenA K) Zbj Zch rfl T.len PySem.boot_len (Zac (Zai 2) Zah Zaa) (he:=Zaa)) Zah Zba) Zab)) (cg_name (i:=4) (hN:=sc.nd) (hi:=rfl) (hx:=Or.inl rfl)) (Zcr [2,3,5] [2,3,5] (Zag [2,3,5] [2,3,5] (Zao (i:=5) sc.nd rfl (Or.inl rfl) (Zbd (Zat K (Zai 3) (Zer Zae) Zdi)))
      (Zag [2,3,5] [2,3,5] (Zdb [2,3,5] [2,3,5] PassesOwn.never rfl (ci_list (Zai 1)) (cg_name (i:=6) (hN:=sc.nd) (hi:=rfl) (hx:=Or.inl rfl)) (Zcr [2,3,5,7] [2,3,5,7] (Zag [2,3,5,7] [2,3,5,7] (Zao (i:=7) sc.nd rfl (Or.inl rfl) (Zan Zdt Zcv (Zai 4) (Zat K (Zai 6) Zae Zal)))
      (Zaj (Zde (Zes (Zax D_law_good (hr.mono (by decide)) rfl pass0 (Zac (Zai 2) (Zac (Zai 6) (Zac (Zai 7) Zah Zaa) Zaa) Zaa) (he:=Zaa))) (Zaj (Zao (i:=5) sc.nd rfl (Or.inl rfl) (Zbc (r:=rMaxA K) (Zgn rfl) gak_max rfl T.max PyProof.Rows.boot_max (Zac (Zai 5) (Zac (Zan Zas Zar (Zat K (Zai 3) (Zai 7) Zav) (Zat K (Zai 6) Zae Zal)) Zah Zaq) Zaa) (he:=Zaa)))) Zbo)))))
      (Zaj (Zdn (i:=3) (he:=(Zbd (Zai 5))) (hse:=Zaa)))))))
      (Zaj (Zbe (Zgc 3))))))⟩
theorem okending (F:Fun K "ending" "ending" sending f fd)(T:Txt mg K C)(Dfits:Def P w K mg base CX0 8 "fits" ["roll","kind","place"] (spD K C 3 2 Dl.Zfr)):FnOk P w K mg base CX0 9 f fd ["roll","table","end"] (spD K C 3 2 Dl.Zck):=by
 refine F.okC scending (Γ':=[]) (Δ':=[]) rfl fun cdv A outer s H E hr=>?_
 have sc:=scending
 have hu:_+64<cLine:=hr.units
 exact ⟨_,(Zaj (Zbe (Zgz (n:=3) (defScope sending) ["roll","table","end"] ["roll","table","end"] ["kind"] ⟨rfl,by decide +kernel,by decide +kernel,by decide +kernel,by decide +kernel,by decide +kernel,rfl,by decide +kernel⟩ (ci_list (Zai 1)) (fun _ _ _ _ _=>(cb_name 3 (hN:=(by decide +kernel:List.Nodup (["roll","table","end","kind"]:List Str))))) (fun _ _ _ _ _=>cif_one (Zes (Zax Dfits (hr.mono (by decide)) rfl pass0 (Zac (Zai 0 (hv:=Or.inr (Or.inl rfl))) (Zac (Zai 3 (hv:=Or.inl rfl)) (Zac (Zan Zdt Zcv (Zai 2 (hv:=Or.inr (Or.inl rfl))) (Zat K (Zai 3 (hv:=Or.inl rfl)) Zae Zal)) Zah Zaq) Zaa) Zaa) (he:=Zaa)))) (fun _ _ _ _ _=>(Zbd (Zai 3 (hv:=Or.inl rfl)))))))⟩
theorem ok_law_table (F:Fun K "_law_table" "_law_table" Zdz f fd)(T:Txt mg K C)(D_law_row:Def P w K mg base CX0 8 "_law_row" ["_law_script","_law_place","_law_sizes"] (spD K C 3 2 Dl.Zbg)):FnOk P w K mg base CX0 9 f fd ["_law_script","_law_place","_law_most"] (spD K C 3 2 Dl.Zcn):=by
  refine F.okC Zey (Γ':=[]) (Δ':=[]) rfl fun cdv A outer s H E hr=>?_
  have sc:=Zey
  have hu:_+64<cLine:=hr.units
  exact ⟨_,(Zag [3] [3] (Zao (i:=3) sc.nd rfl (Or.inl rfl) (Zbi (Zaf Zbv (Zaf Zbv (Zaf Zbv (Zaf Zbv (Zaf Zbv (Zaf Zbv (Zaf Zbv (Zaf Zbv (Zaf Zbv (Zaf Zbv Zah Zab) Zab) Zab) Zab) Zab) Zab) Zab) Zab) Zab) Zab)))
      (Zag [3] [3] (Zao (i:=3) sc.nd rfl (Or.inl rfl) (Zan Zas Zar (Zai 3) (Zbi (Zaf Zbv (Zaf Zbv (Zaf Zbv (Zaf Zbv (Zaf Zbv (Zaf Zbv Zah Zab) Zab) Zab) Zab) Zab) Zab))))
      (Zag [3,4] [3,4] (Zao (i:=4) sc.nd rfl (Or.inl rfl) (Zax D_law_row (hr.mono (by decide)) rfl pass0 (Zac (Zai 0) (Zac (Zai 1) (Zac (Zan Zas Zar (Zbi (Zaf (Zan Zas Zar (Zai 2) Zae) (Zaf Zae (Zaf Zae (Zaf Zae (Zaf Zae (Zaf Zae Zah Zab) Zab) Zab) Zab) Zab) Zaq)) (Zan Zbm Zbn (Zbi (Zaf Zae (Zaf Zae (Zaf Zae Zah Zab) Zab) Zab)) (Zai 2))) Zah Zaq) Zaa) Zaa) (he:=Zaa)))
      (Zag [3,4,5] [3,4,5] (Zao (i:=5) sc.nd rfl (Or.inl rfl) (Zbd (Zat K (Zbi (Zaf Zae (Zaf Zae (Zaf Zae (Zaf (Zan Zef Zdk Zae Zae) Zah Zaq) Zab) Zab) Zab)) (Zat K (Zai 4) Zae Zal) Zce)))
      (Zag [3,4,5,6] [3,4,5,6] (Zao (i:=6) sc.nd rfl (Or.inl rfl) (Zbd (Zat K (Zbi (Zaf Zae (Zaf Zae (Zaf (Zan Zef Zdk Zae Zae) (Zaf (Zan Zbm Zbn Zae (Zan Zef Zdk Zae Zae)) Zah Zaq) Zaq) Zab) Zab)) (Zat K (Zai 4) Zae Zal) Zce)))
      (Zag [3,4,5,6,7] [3,4,5,6,7] (Zao (i:=7) sc.nd rfl (Or.inl rfl) (Zbi Zah))
      (Zag [3,4,5,6,7] [3,4,5,6,7] (Zdb [3,4,5,6,7] [3,4,5,6,7] PassesOwn.never rfl (ci_rng1 rfl T.range (Zac (Zat K (Zai 4) Zae Zal) Zah Zdc)) (cg_name (i:=8) (hN:=sc.nd) (hi:=rfl) (hx:=Or.inl rfl)) (Zcr [3,4,5,6,7,9,10,11,12,13] [3,4,5,6,7,9,10,11,12,13] (Zag [3,4,5,6,7,9] [3,4,5,6,7,9] (Zao (i:=9) sc.nd rfl (Or.inl rfl) (Zan Zas Zar (Zan Zbm Zbn Zae (Zai 8)) Zae))
      (Zag [3,4,5,6,7,9,10] [3,4,5,6,7,9,10] (Zao (i:=10) sc.nd rfl (Or.inl rfl) (Zbd (Zat K (Zgy (Zac Zae (Zac Zae (Zac Zae (Zac Zae (Zac Zae (Zac Zae (Zac Zae (Zac Zae (Zac Zae (Zac Zae (Zac (Zat K (Zbi (Zaf Zae (Zaf Zae Zah Zab) Zab)) (Zan Zcx Zca (Zai 8) Zae) Zbw) Zah Zdc) Zab) Zab) Zab) Zab) Zab) Zab) Zab) Zab) Zab) Zab)) (Zat K (Zai 4) (Zai 9) Zav) Zce)))
      (Zag [3,4,5,6,7,9,10,11] [3,4,5,6,7,9,10,11] (Zao (i:=11) sc.nd rfl (Or.inl rfl) (Zan Zas Zar Zae (Zat K (Zai 4) (Zan Zas Zar (Zai 9) Zae) Zbw)))
      (Zag [3,4,5,6,7,9,10,11] [3,4,5,6,7,9,10,11] (Zde (Zbr (r:=rEqA K) (Zew hu) Zev (Zat K (Zai 4) Zae Zal) Zae (nomark _)) (Zaj (Zao (i:=11) sc.nd rfl (Or.inl rfl) (Zan Zas Zar (Zan Zbm Zbn Zae (Zai 10)) (Zan Zcx Zca (Zat K (Zai 4) (Zan Zas Zar (Zai 9) Zae) Zbw) Zae)))) Zbo)
      (Zag [3,4,5,6,7,9,10,11] [3,4,5,6,7,9,10,11] (Zde (Zbr (r:=rEqA K) (Zew hu) Zev (Zat K (Zai 4) Zae Zal) Zae (nomark _)) (Zaj (Zao (i:=11) sc.nd rfl (Or.inl rfl) (Zan Zas Zar Zae (Zan Zcx Zca (Zat K (Zai 4) (Zan Zas Zar (Zai 9) Zae) Zbw) Zae)))) Zbo)
      (Zag [3,4,5,6,7,9,10,11] [3,4,5,6,7,9,10,11] (Zde (Zbr (r:=rEqA K) (Zew hu) Zev (Zat K (Zai 4) Zae Zal) Zae (nomark _)) (Zaj (Zao (i:=11) sc.nd rfl (Or.inl rfl) (Zbd (Zai 10)))) Zbo)
      (Zag [3,4,5,6,7,9,10,11,12] [3,4,5,6,7,9,10,11,12] (Zao (i:=12) sc.nd rfl (Or.inl rfl) (Zbc (r:=rMin2) (Zfm rfl) Zgs rfl T.min PyProof.Rows.boot_min (Zac (Zan Zbm Zbn (Zat K (Zbi (Zaf Zae (Zaf Zae (Zaf Zae (Zaf Zae (Zaf Zae (Zaf Zae Zah Zab) Zab) Zab) Zab) Zab) Zab)) (Zat K (Zai 4) (Zan Zas Zar (Zai 9) Zae) Zbw) Zce) (Zai 5)) (Zac (Zan Zdt Zcv (Zan Zef Zdk Zae Zae) Zae) Zah Zaq) Zaq) (he:=Zaq)))
      (Zag [3,4,5,6,7,9,10,11,12,13] [3,4,5,6,7,9,10,11,12,13] (Zao (i:=13) sc.nd rfl (Or.inl rfl) (Zbd (Zat K (Zai 3) (Zan Zcx Zca (Zan Zas Zar (Zat K (Zai 4) Zae Zal) (Zan Zbm Zbn (Zan Zas Zar (Zan Zbm Zbn Zae (Zat K (Zai 4) Zae Zal)) Zae) (Zai 8))) Zae) Zbw)))
      (Zaj (Zdn (i:=7) (he:=(Zeg (Zaf (Zbd (Zai 13)) (Zaf (Zbd (Zai 10)) (Zaf (Zbc (r:=rMin2) (Zfm rfl) Zgs rfl T.min PyProof.Rows.boot_min (Zac (Zan Zbm Zbn (Zai 11) (Zai 6)) (Zac (Zan Zef Zdk Zae Zae) Zah Zaq) Zaq) (he:=Zaq)) (Zaf (Zbd (Zai 12)) Zah Zaa) Zba) Zaa) Zaa))) (hse:=Zfa)))))))))))))
      (Zaj (Zbe (Zgc 7))))))))))⟩
theorem ok_law_flaw (F:Fun K "_law_flaw" "_law_flaw" Zeq f fd)(T:Txt mg K C)(D_law_row:Def P w K mg base CX0 8 "_law_row" ["_law_script","_law_place","_law_sizes"] (spD K C 3 2 Dl.Zbg)):FnOk P w K mg base CX0 9 f fd ["_law_script","_law_place","_law_most"] (spD K C 3 2 Dl.Zda):=by
 refine F.okC Zfj (Γ':=[]) (Δ':=[]) rfl fun cdv A outer s H E hr=>?_
 have sc:=Zfj
 have hu:_+64<cLine:=hr.units
 exact ⟨_,(Zaj (Zbe (Zbd (Zat K (Zbi (Zaf Zae (Zaf Zae (Zaf Zae (Zaf (Zan Zef Zdk Zae Zae) Zah Zaq) Zab) Zab) Zab)) (Zat K (Zax D_law_row (hr.mono (by decide)) rfl pass0 (Zac (Zai 0) (Zac (Zai 1) (Zac (Zbi (Zaf (Zan Zas Zar (Zai 2) Zae) (Zaf Zae Zah Zab) Zaq)) Zah Zdu) Zaa) Zaa) (he:=Zaa)) Zae Zal) Zce))))⟩
theorem ok_law_roll (F:Fun K "_law_roll" "_law_roll" Zeo f fd)(T:Txt mg K C)(D_law_row:Def P w K mg base CX0 8 "_law_row" ["_law_script","_law_place","_law_sizes"] (spD K C 3 2 Dl.Zbg)):FnOk P w K mg base CX0 9 f fd ["_law_script","_law_place","_law_most","_law_flaw_here"] (spD K C 4 2 Dl.Zcz):=by
  refine F.okC Zfo (Γ':=[]) (Δ':=[]) rfl fun cdv A outer s H E hr=>?_
  have sc:=Zfo
  have hu:_+64<cLine:=hr.units
  exact ⟨_,(Zag [4] [4] (Zao (i:=4) sc.nd rfl (Or.inl rfl) (Zax D_law_row (hr.mono (by decide)) rfl pass0 (Zac (Zai 0) (Zac (Zai 1) (Zac (Zan Zas Zar (Zbi (Zaf (Zan Zas Zar (Zai 2) Zae) (Zaf Zae (Zaf Zae Zah Zab) Zab) Zaq)) (Zan Zbm Zbn (Zbi (Zaf Zae (Zaf Zae Zah Zab) Zab)) (Zai 2))) Zah Zaq) Zaa) Zaa) (he:=Zaa)))
      (Zag [4,5] [4,5] (Zao (i:=5) sc.nd rfl (Or.inl rfl) (Zan Zbm Zbn Zae (Zai 3)))
      (Zag [4,5] [4,5] (Zde (Zbr (r:=rEqA K) (Zew hu) Zev (Zat K (Zai 4) Zae Zal) Zae (nomark _)) (Zaj (Zao (i:=5) sc.nd rfl (Or.inl rfl) (Zan Zef Zdk Zae Zae))) Zbo)
      (Zag [4,5,6] [4,5,6] (Zao (i:=6) sc.nd rfl (Or.inl rfl) (Zbi Zah))
      (Zag [4,5,6] [4,5,6] (Zdb [4,5,6] [4,5,6] PassesOwn.never rfl (ci_rng1 rfl T.range (Zac (Zat K (Zai 4) Zae Zal) Zah Zdc)) (cg_name (i:=7) (hN:=sc.nd) (hi:=rfl) (hx:=Or.inl rfl)) (Zcr [4,5,6,8,9] [4,5,6,8,9] (Zag [4,5,6,8] [4,5,6,8] (Zao (i:=8) sc.nd rfl (Or.inl rfl) (Zan Zas Zar (Zan Zbm Zbn Zae (Zai 7)) Zae))
      (Zag [4,5,6,8,9] [4,5,6,8,9] (Zao (i:=9) sc.nd rfl (Or.inl rfl) Zae)
      (Zag [4,5,6,8,9] [4,5,6,8,9] (Zde (Zbr Zhq Zfu (Zat K (Zai 4) (Zai 8) Zav) (Zat K (Zbi (Zaf Zae (Zaf Zae (Zaf Zae (Zaf Zae Zah Zab) Zab) Zab) Zab)) (Zat K (Zai 4) Zae Zal) Zce) (nomark _)) (Zaj (Zao (i:=9) sc.nd rfl (Or.inl rfl) (Zbd (Zat K (Zgy (Zac (Zai 3) (Zac (Zai 3) (Zac (Zan Zbm Zbn Zae (Zai 3)) (Zac (Zan Zbm Zbn Zae (Zai 3)) (Zac (Zai 5) Zah Zaa) Zaq) Zaq) Zaa) Zaa)) (Zat K (Zai 4) (Zan Zas Zar (Zai 8) Zae) Zbw) Zce)))) Zbo)
      (Zaj (Zdn (i:=6) (he:=(Zbd (Zai 9))) (hse:=Zaa))))))))
      (Zaj (Zbe (Zgc 6))))))))⟩
theorem ok_law_best_count (F:Fun K "_law_best_count" "_law_best_count" Zcp f fd)(T:Txt mg K C)(D_law_sums:Def P w K mg base CX0 7 "_law_sums" ["_law_roll_here"] (spD K C 1 2 Dl.Zbs))(D_law_heights:Def P w K mg base CX0 8 "_law_heights" ["_law_roll_here","_law_table_here"] (spD K C 2 2 Dl.Zbx))(D_law_good:Def P w K mg base CX0 7 "_law_good" ["_law_sums_here","_law_kind","_law_at"] (spD K C 3 2 Dl.Zcc)):FnOk P w K mg base CX0 9 f fd ["_law_roll_here","_law_table_here"] (spD K C 2 2 Dl.Zbk):=by
  refine F.okC Zdh (Γ':=[]) (Δ':=[]) rfl fun cdv A outer s H E hr=>?_
  have sc:=Zdh
  have hu:_+64<cLine:=hr.units
  exact ⟨_,(Zag [2] [2] (Zao (i:=2) sc.nd rfl (Or.inl rfl) (Zax D_law_sums (hr.mono (by decide)) rfl pass0 (Zac (Zai 0) Zah Zaa) (he:=Zaa)))
      (Zag [2,3] [2,3] (Zao (i:=3) sc.nd rfl (Or.inl rfl) (Zax D_law_heights (hr.mono (by decide)) rfl pass0 (Zac (Zai 0) (Zac (Zai 1) Zah Zaa) Zaa) (he:=Zaa)))
      (Zag [2,3,4] [2,3,4] (Zao (i:=4) sc.nd rfl (Or.inl rfl) (Zbi (Zaf Zae Zah Zab)))
      (Zag [2,3,4] [2,3,4] (Zdb [2,3,4] [2,3,4] PassesOwn.never rfl (ci_rng2 rfl T.range (Zac Zae (Zac (Zbc (r:=rLenA K) Zbj Zch rfl T.len PySem.boot_len (Zac (Zai 2) Zah Zaa) (he:=Zaa)) Zah Zba) Zab)) (cg_name (i:=5) (hN:=sc.nd) (hi:=rfl) (hx:=Or.inl rfl)) (Zcr [2,3,4,6] [2,3,4,6] (Zag [2,3,4,6] [2,3,4,6] (Zao (i:=6) sc.nd rfl (Or.inl rfl) Zae)
      (Zag [2,3,4,6] [2,3,4,6] (Zde (Zbr (r:=rEqA K) (Zew hu) Zev (Zat K (Zai 3) (Zai 5) Zav) (Zat K (Zai 3) (Zan Zdt Zcv (Zai 5) Zae) Zbw) (nomark _)) (Zaj (Zao (i:=6) sc.nd rfl (Or.inl rfl) (Zbd (Zat K (Zai 4) (Zer Zae) Zdi)))) Zbo)
      (Zag [2,3,4,6] [2,3,4,6] (Zdb [2,3,4,6] [2,3,4,6] PassesOwn.never rfl (ci_list (Zai 1)) (cg_name (i:=7) (hN:=sc.nd) (hi:=rfl) (hx:=Or.inl rfl)) (Zcr [2,3,4,6,8] [2,3,4,6,8] (Zag [2,3,4,6,8] [2,3,4,6,8] (Zao (i:=8) sc.nd rfl (Or.inl rfl) (Zan Zdt Zcv (Zai 5) (Zat K (Zai 7) Zae Zal)))
      (Zaj (Zde (ct_w (cw_and (Zes (Zax D_law_good (hr.mono (by decide)) rfl pass0 (Zac (Zai 2) (Zac (Zai 7) (Zac (Zai 8) Zah Zaa) Zaa) Zaa) (he:=Zaa))) (cw_and1 (Zbr (r:=rEqA K) (Zew hu) Zev (Zan Zas Zar (Zat K (Zai 3) (Zai 8) Zav) (Zat K (Zai 7) Zae Zal)) (Zat K (Zai 3) (Zai 5) Zav) (nomark _))))) (Zaj (Zao (i:=6) sc.nd rfl (Or.inl rfl) (Zan Zas Zar (Zai 6) (Zat K (Zai 4) (Zai 8) Zav)))) Zbo)))))
      (Zaj (Zdn (i:=4) (he:=(Zbd (Zai 6))) (hse:=Zaa))))))))
      (Zaj (Zbe (Zbd (Zat K (Zai 4) (Zer Zae) Zdi))))))))⟩
theorem oknext_top (F:Fun K "next_top" "next_top" snext_top f fd)(T:Txt mg K C)(Dending:Def P w K mg base CX0 9 "ending" ["roll","table","end"] (spD K C 3 2 Dl.Zck)):FnOk P w K mg base CX0 10 f fd ["roll","table","tops"] (spD K C 3 2 Dl.Zdg):=by
  refine F.okC scnext_top (Γ':=[]) (Δ':=[]) rfl fun cdv A outer s H E hr=>?_
  have sc:=scnext_top
  have hu:_+64<cLine:=hr.units
  exact ⟨_,(Zag [3] [3] (Zao (i:=3) sc.nd rfl (Or.inr rfl) (Zbc (r:=rLenA K) Zbj Zch rfl T.len PySem.boot_len (Zac (Zai 2) Zah Zaa) (he:=Zaa)))
      (Zag [3,4] [3,4] (cs_setC (i:=4) (n:=5) (defScope snext_top) ["roll","table","tops","end","worths"] ["roll","table","tops","end","worths"] ["kind"] ⟨rfl,by decide +kernel,by decide +kernel,by decide +kernel,by decide +kernel,by decide +kernel,rfl,by decide +kernel⟩ rfl rfl (ci_list (Zax Dending (hr.mono (by decide)) rfl pass0 (Zac (Zai 0) (Zac (Zai 1) (Zac (Zai 3) Zah Zaa) Zaa) Zaa) (he:=Zaa))) (fun _ _ _ _ _=>(cb_name 5 (hN:=(by decide +kernel:List.Nodup (["roll","table","tops","end","worths","kind"]:List Str))))) (fun _ _ _ _ _=>cif_nil) (fun _ _ _ _ _=>(Zan Zas Zar (Zat K (Zai 2 (hv:=Or.inr (Or.inl rfl))) (Zan Zdt Zcv (Zai 3 (hv:=Or.inr (Or.inl rfl))) (Zat K (Zai 5 (hv:=Or.inl rfl)) Zae Zal)) Zbw) (Zat K (Zai 5 (hv:=Or.inl rfl)) Zae Zal))))
      (Zaj (Zbe (Zbc (r:=rMaxA K) (Zgn rfl) gak_max rfl T.max PyProof.Rows.boot_max (Zac (Zan Zas Zar (Zgy (Zac (Zat K (Zai 2) (Zer Zae) Zdi) Zah Zdc)) (Zai 4)) Zah Zaq) (he:=Zaq))))))⟩
theorem okbest_steps (F:Fun K "best_steps" "best_steps" sbest_steps f fd)(T:Txt mg K C)(Dending:Def P w K mg base CX0 9 "ending" ["roll","table","end"] (spD K C 3 2 Dl.Zck)):FnOk P w K mg base CX0 10 f fd ["roll","table","tops","end"] (spD K C 4 2 Dl.Zbt):=by
  refine F.okC scbest_steps (Γ':=[]) (Δ':=[]) rfl fun cdv A outer s H E hr=>?_
  have sc:=scbest_steps
  have hu:_+64<cLine:=hr.units
  exact ⟨_,(Zag [4] [4] (Zao (i:=4) sc.nd rfl (Or.inl rfl) (Zbi Zah))
      (Zag [4] [4] (Zde (Zbr (r:=rEqA K) (Zew hu) Zev (Zat K (Zai 2) (Zan Zdt Zcv (Zai 3) Zae) Zbw) (Zat K (Zai 2) (Zai 3) Zav) (nomark _)) (Zaj (Zdn (i:=4) (he:=(Zeg (Zaf (Zan Zdt Zcv (Zai 3) Zae) (Zaf (Zbi Zah) Zah Zdu) Zaq))) (hse:=Zfa))) Zbo)
      (Zag [4] [4] (Zdb [4] [4] PassesOwn.never rfl (ci_list (Zax Dending (hr.mono (by decide)) rfl pass0 (Zac (Zai 0) (Zac (Zai 1) (Zac (Zai 3) Zah Zaa) Zaa) Zaa) (he:=Zaa))) (cg_name (i:=5) (hN:=sc.nd) (hi:=rfl) (hx:=Or.inl rfl)) (Zcr [4,6] [4,6] (Zag [4,6] [4,6] (Zao (i:=6) sc.nd rfl (Or.inl rfl) (Zan Zdt Zcv (Zai 3) (Zat K (Zai 5) Zae Zal)))
      (Zaj (Zde (Zbr (r:=rEqA K) (Zew hu) Zev (Zan Zas Zar (Zat K (Zai 2) (Zai 6) Zav) (Zat K (Zai 5) Zae Zal)) (Zat K (Zai 2) (Zai 3) Zav) (nomark _)) (Zaj (Zdn (i:=4) (he:=(Zeg (Zaf (Zbd (Zai 6)) (Zaf (Zbi (Zaf (Zeg (Zaf (Zbd (Zai 6)) (Zaf (Zbd (Zat K (Zai 5) Zae Zal)) Zah Zdc) Zaa)) Zah Zfa)) Zah Zdu) Zaa))) (hse:=Zfa))) Zbo)))))
      (Zaj (Zbe (Zgc 4))))))⟩
theorem ok_law_drawn (F:Fun K "_law_drawn" "_law_drawn" Zea f fd)(T:Txt mg K C)(D_law_flaw:Def P w K mg base CX0 9 "_law_flaw" ["_law_script","_law_place","_law_most"] (spD K C 3 2 Dl.Zda))(D_law_roll:Def P w K mg base CX0 9 "_law_roll" ["_law_script","_law_place","_law_most","_law_flaw_here"] (spD K C 4 2 Dl.Zcz))(D_law_table:Def P w K mg base CX0 9 "_law_table" ["_law_script","_law_place","_law_most"] (spD K C 3 2 Dl.Zcn)):FnOk P w K mg base CX0 10 f fd ["_law_script","_law_place","_law_most","_law_kinds"] (spD K C 4 2 Dl.Zcm):=by
  refine F.okC Zeu (Γ':=[]) (Δ':=[]) rfl fun cdv A outer s H E hr=>?_
  have sc:=Zeu
  have hu:_+64<cLine:=hr.units
  exact ⟨_,(Zag [4] [4] (Zao (i:=4) sc.nd rfl (Or.inl rfl) (Zax D_law_flaw (hr.mono (by decide)) rfl pass0 (Zac (Zai 0) (Zac (Zai 1) (Zac (Zai 3) Zah Zaa) Zaa) Zaa) (he:=Zaa)))
      (Zaj (Zbe (Zeg (Zaf (Zax D_law_roll (hr.mono (by decide)) rfl pass0 (Zac (Zai 0) (Zac (Zan Zas Zar (Zai 1) Zae) (Zac (Zai 2) (Zac (Zai 4) Zah Zaa) Zaa) Zaq) Zaa) (he:=Zaa)) (Zaf (Zax D_law_table (hr.mono (by decide)) rfl pass0 (Zac (Zai 0) (Zac (Zai 1) (Zac (Zai 3) Zah Zaa) Zaa) Zaa) (he:=Zaa)) Zah Zba) Zba)))))⟩
theorem okheights (F:Fun K "heights" "heights" sheights f fd)(T:Txt mg K C)(Dnext_top:Def P w K mg base CX0 10 "next_top" ["roll","table","tops"] (spD K C 3 2 Dl.Zdg)):FnOk P w K mg base CX0 11 f fd ["roll","table"] (spD K C 2 2 Dl.Zco):=by
  refine F.okC scheights (Γ':=[]) (Δ':=[]) rfl fun cdv A outer s H E hr=>?_
  have sc:=scheights
  have hu:_+64<cLine:=hr.units
  exact ⟨_,(Zag [2] [2] (Zao (i:=2) sc.nd rfl (Or.inl rfl) (Zbi (Zaf Zae Zah Zab)))
      (Zag [2] [2] (cs_while 100000 PassesOwn.never (Zbr op_le Zhl (Zbc (r:=rLenA K) Zbj Zch rfl T.len PySem.boot_len (Zac (Zai 2) Zah Zaa) (he:=Zaa)) (Zbc (r:=rLenA K) Zbj Zch rfl T.len PySem.boot_len (Zac (Zai 0) Zah Zaa) (he:=Zaa)) (nomark _)) (Zaj (Zdn (i:=2) (he:=(Zax Dnext_top (hr.mono (by decide)) rfl pass0 (Zac (Zai 0) (Zac (Zai 1) (Zac (Zai 2) Zah Zaa) Zaa) Zaa) (he:=Zaa))) (hse:=Zba))))
      (Zaj (Zbe (Zgc 2)))))⟩
theorem okbest_counts (F:Fun K "best_counts" "best_counts" sbest_counts f fd)(T:Txt mg K C)(Dheights:Def P w K mg base CX0 11 "heights" ["roll","table"] (spD K C 2 2 Dl.Zco))(Dbest_steps:Def P w K mg base CX0 10 "best_steps" ["roll","table","tops","end"] (spD K C 4 2 Dl.Zbt)):FnOk P w K mg base CX0 12 f fd ["roll","table"] (spD K C 2 2 Dl.Zcg):=by
  refine F.okC scbest_counts (Γ':=[]) (Δ':=[]) rfl fun cdv A outer s H E hr=>?_
  have sc:=scbest_counts
  have hu:_+64<cLine:=hr.units
  exact ⟨_,(Zag [2] [2] (Zao (i:=2) sc.nd rfl (Or.inl rfl) (Zax Dheights (hr.mono (by decide)) rfl pass0 (Zac (Zai 0) (Zac (Zai 1) Zah Zaa) Zaa) (he:=Zaa)))
      (Zag [2,3] [2,3] (Zao (i:=3) sc.nd rfl (Or.inr rfl) (Zbi (Zaf Zae Zah Zab)))
      (Zag [2,3] [2,3] (Zdb [2,3] [2,3] PassesOwn.never rfl (ci_rng2 rfl T.range (Zac Zae (Zac (Zan Zas Zar (Zbc (r:=rLenA K) Zbj Zch rfl T.len PySem.boot_len (Zac (Zai 0) Zah Zaa) (he:=Zaa)) Zae) Zah Zaq) Zab)) (cg_name (i:=4) (hN:=sc.nd) (hi:=rfl) (hx:=Or.inl rfl)) (Zcr [2,3,5] [2,3,5] (Zag [2,3,5] [2,3,5] (Zao (i:=5) sc.nd rfl (Or.inl rfl) (Zax Dbest_steps (hr.mono (by decide)) rfl pass0 (Zac (Zai 0) (Zac (Zai 1) (Zac (Zai 2) (Zac (Zai 4) Zah Zaa) Zaa) Zaa) Zaa) (he:=Zaa)))
      (Zaj (Zdn (i:=3) (he:=(Zbc (r:=rSum K) (Zhf rfl) gak_sum rfl T.sum PyProof.Rows.boot_sum (Zac (Zgz (n:=6) (defScope sbest_counts) ["roll","table","tops","numbers","end","steps"] ["roll","table","tops","numbers","end","steps"] ["step"] ⟨rfl,by decide +kernel,by decide +kernel,by decide +kernel,by decide +kernel,by decide +kernel,rfl,by decide +kernel⟩ (ci_list (Zai 5)) (fun _ _ _ _ _=>(cb_name 6 (hN:=(by decide +kernel:List.Nodup (["roll","table","tops","numbers","end","steps","step"]:List Str))))) (fun _ _ _ _ _=>cif_nil) (fun _ _ _ _ _=>(Zbd (Zat K (Zai 3 (hv:=Or.inr (Or.inl rfl))) (Zat K (Zai 6 (hv:=Or.inl rfl)) Zae Zal) Zce)))) Zah Zfc) (he:=Zfc))) (hse:=Zba))))))
      (Zaj (Zbe (Zgc 3))))))⟩
theorem okbest_count (F:Fun K "best_count" "best_count" sbest_count f fd)(T:Txt mg K C)(Dbest_counts:Def P w K mg base CX0 12 "best_counts" ["roll","table"] (spD K C 2 2 Dl.Zcg)):FnOk P w K mg base CX0 13 f fd ["roll","table"] (spD K C 2 2 Dl.Zcd):=by
 refine F.okC scbest_count (Γ':=[]) (Δ':=[]) rfl fun cdv A outer s H E hr=>?_
 have sc:=scbest_count
 have hu:_+64<cLine:=hr.units
 exact ⟨_,(Zaj (Zbe (Zbd (Zat K (Zax Dbest_counts (hr.mono (by decide)) rfl pass0 (Zac (Zai 0) (Zac (Zai 1) Zah Zaa) Zaa) (he:=Zaa)) (Zer Zae) Zdi))))⟩
theorem okall_best (F:Fun K "all_best" "all_best" sall_best f fd)(T:Txt mg K C)(Dheights:Def P w K mg base CX0 11 "heights" ["roll","table"] (spD K C 2 2 Dl.Zco))(Dbest_count:Def P w K mg base CX0 13 "best_count" ["roll","table"] (spD K C 2 2 Dl.Zcd))(Dbest_steps:Def P w K mg base CX0 10 "best_steps" ["roll","table","tops","end"] (spD K C 4 2 Dl.Zbt))(ITooMany:IDef P w K mg base (C "TooMany") "most"):FnOk P w K mg base (CXE P w) 14 f fd ["roll","table","most"] (spD K C 3 0 Dl.Zbp):=by
  refine F.okCE scall_best (Γ':=[]) (Δ':=[]) rfl fun cdv A outer s H E hr=>?_
  have sc:=scall_best
  have hu:_+64<cLine:=hr.units
  exact ⟨_,(Zag [] [] (Zde (Zbr op_gt Zgh (Zax Dbest_count (hr.mono (by decide)) rfl pass0 (Zac (Zai 0) (Zac (Zai 1) Zah Zaa) Zaa) (he:=Zaa)) (Zai 2) (nomark _)) (Zaj (cs_raiseX ITooMany (hr.mono (by decide)) T.mTooMany (Zai 2) Zaa)) Zbo)
      (Zag [3] [3] (Zao (i:=3) sc.nd rfl (Or.inl rfl) (Zax Dheights (hr.mono (by decide)) rfl pass0 (Zac (Zai 0) (Zac (Zai 1) Zah Zaa) Zaa) (he:=Zaa)))
      (Zag [3,4] [3,4] (cs_setC (i:=4) (n:=8) (defScope sall_best) ["roll","table","most","tops","behind","end","begin","pieces"] ["roll","table","most","tops","behind","end","begin","pieces"] ["top"] ⟨rfl,by decide +kernel,by decide +kernel,by decide +kernel,by decide +kernel,by decide +kernel,rfl,by decide +kernel⟩ rfl rfl (ci_list (Zai 3)) (fun _ _ _ _ _=>(cb_name 8 (hN:=(by decide +kernel:List.Nodup (["roll","table","most","tops","behind","end","begin","pieces","top"]:List Str))))) (fun _ _ _ _ _=>cif_nil) (fun _ _ _ _ _=>(Zbi Zah)))
      (Zag [3,4] [3,4] (cs_path1 (i:=4) (Zer Zae) Zdi (Zbi Zah) Zdu)
      (Zag [3,4] [3,4] (cs_nox (Zdb [3,4] [3,4] PassesOwn.never rfl (ci_rng3 rfl T.range (Zac (Zbc (r:=rLenA K) Zbj Zch rfl T.len PySem.boot_len (Zac (Zai 0) Zah Zaa) (he:=Zaa)) (Zac Zae (Zac (Zer Zae) Zah star_un) Zab) Zba)) (cg_name (i:=5) (hN:=sc.nd) (hi:=rfl) (hx:=Or.inl rfl)) (Zaj (cs_nox (Zdb [3,4] [3,4] PassesOwn.never rfl (ci_list (Zax Dbest_steps (hr.mono (by decide)) rfl pass0 (Zac (Zai 0) (Zac (Zai 1) (Zac (Zai 3) (Zac (Zai 5) Zah Zaa) Zaa) Zaa) Zaa) (he:=Zaa))) (cg_tup rfl (cgs_cons (cg_name (i:=6) (hN:=sc.nd) (hi:=rfl) (hx:=Or.inl rfl)) (cgs_cons (cg_name (i:=7) (hN:=sc.nd) (hi:=rfl) (hx:=Or.inr rfl)) cgs_nil))) (Zaj (cs_pathX (i:=4) (Zai 6) Zav (Zgz (n:=8) (defScope sall_best) ["roll","table","most","tops","behind","end","begin","pieces"] ["roll","table","most","tops","behind","end","begin","pieces"] ["later"] ⟨rfl,by decide +kernel,by decide +kernel,by decide +kernel,by decide +kernel,by decide +kernel,rfl,by decide +kernel⟩ (ci_list (Zat K (Zai 4) (Zai 5) Zav)) (fun _ _ _ _ _=>(cb_name 8 (hN:=(by decide +kernel:List.Nodup (["roll","table","most","tops","behind","end","begin","pieces","later"]:List Str))))) (fun _ _ _ _ _=>cif_nil) (fun _ _ _ _ _=>(Zan Zas Zar (Zai 7 (hv:=Or.inr (Or.inl rfl))) (Zai 8 (hv:=Or.inl rfl))))) Zfc)))))))
      (Zaj (cs_ret0 (ce_sortC K hu rfl T.sorted (Zat K (Zai 4) Zae Zal) Zdc))))))))⟩
theorem ok_law_asked (F:Fun K "_law_asked" "_law_asked" Zeb f fd)(T:Txt mg K C)(Dall_best:Def P w K mg base (CXE P w) 14 "all_best" ["roll","table","most"] (spD K C 3 0 Dl.Zbp))(D_law_is_whole:DefH P w K mg base 7 "_law_is_whole" ["_law_one"] (spD K C 1 2 Dl.Zbl)):FnOk P w K mg base CX0 15 f fd ["_law_roll_here","_law_table_here","_law_most"] (spD K C 3 2 Dl.Zbh):=by
  refine F.okC Zex (Γ':=[]) (Δ':=[]) rfl fun cdv A outer s H E hr=>?_
  have sc:=Zex
  have hu:_+64<cLine:=hr.units
  exact ⟨_,(Zaj (cs_try (i:=3) (Γ1:=[]) (Δ1:=[]) (Γ2:=[]) (Δ2:=[]) ["TooMany"] T.mCutError (fun E pn=>(Zaj (Zbe (Zeg (Zaf Zbv (Zaf (Zbc (r:=rLenA K) Zbj Zch rfl T.len PySem.boot_len (Zac (Zax Dall_best (hr.mono (by decide)) rfl passE (Zac (Zai 0) (Zac (Zai 1) (Zac (Zai 2) Zah Zaa) Zaa) Zaa) (he:=Zaa)) Zah Zba) (he:=Zba)) Zah Zba) Zab)))))
      (fun ea=>(Zag [] [] (Zde (ct_w (cw_or (ct_not (Zes (ce_isX K (tb:=[("TooMany",true)]) rfl T.isinstance rfl T.mTooMany (all_cons ⟨T.kTooMany,T.kTooMany.kitO T.kTooMany.se⟩ all_nil) (Zai 3) Zaa))) (cw_or (Zes (ce_isX K (tb:=[("TooMany",false)]) rfl T.isinstance rfl T.mTooLong (all_cons ⟨T.kTooMany,T.eTooLong.cls.kitO T.sTooMany_TooLong⟩ all_nil) (Zai 3) Zaa)) (cw_or1 (Zes (ce_isX K (tb:=[("TooMany",false)]) rfl T.isinstance rfl T.mTooBig (all_cons ⟨T.kTooMany,T.eTooBig.cls.kitO T.sTooMany_TooBig⟩ all_nil) (Zai 3) Zaa)))))) (Zaj (Zbe (Zeg (Zaf Zbv (Zaf Zae Zah Zab) Zab)))) Zbo)
      (Zag [] [] (Zde (ct_w (cw_or (ct_not (Zes (ce_isV K (tb:=[("TooMany",true)]) rfl T.isinstance rfl T.ValueError boot_ValErr (all_cons ⟨T.kTooMany,kit_val T.wTooMany⟩ all_nil) (Zai 3) Zaa))) (cw_or1 (ct_not (Zes (ce_callH D_law_is_whole ((hr.mono (by decide)).mark _) rfl pass0 (Zac (ce_exF K (nm:="most") (cs:=["TooMany"]) (all_cons ⟨T.kTooMany,T.nTooMany,T.hTooMany,by decide⟩ all_nil) (Zai 3)) Zah Zff) (he:=Zff))))))) (Zaj (Zbe (Zeg (Zaf Zbv (Zaf Zae Zah Zab) Zab)))) Zbo)
      (Zaj (Zbe (Zeg (Zaf Zbv (Zaf (ce_exF K (nm:="most") (cs:=["TooMany"]) (all_cons ⟨T.kTooMany,T.nTooMany,T.hTooMany,by decide⟩ all_nil) (Zai 3)) Zah Zff) Zab))))))) (all_cons (T.eCutError.k.exm T.sTooMany_CutError) all_nil) sc.nd rfl rfl))⟩
theorem oklaw (F:Fun K "law" "law" slaw f fd)(T:Txt mg K C)(D_law_drawn:Def P w K mg base CX0 10 "_law_drawn" ["_law_script","_law_place","_law_most","_law_kinds"] (spD K C 4 2 Dl.Zcm))(D_law_best_count:Def P w K mg base CX0 9 "_law_best_count" ["_law_roll_here","_law_table_here"] (spD K C 2 2 Dl.Zbk))(D_law_row:Def P w K mg base CX0 8 "_law_row" ["_law_script","_law_place","_law_sizes"] (spD K C 3 2 Dl.Zbg))(D_law_asked:Def P w K mg base CX0 15 "_law_asked" ["_law_roll_here","_law_table_here","_law_most"] (spD K C 3 2 Dl.Zbh)):FnOk P w K mg base CX0 16 f fd ["_law_script"] (spD K C 1 2 Dl.F_law):=by
  refine F.okC sclaw (Γ':=[]) (Δ':=[]) rfl fun cdv A outer s H E hr=>?_
  have sc:=sclaw
  have hu:_+64<cLine:=hr.units
  exact ⟨_,(Zag [1,2] [1,2] (cs_unpack rfl (Zax D_law_drawn (hr.mono (by decide)) rfl pass0 (Zac (Zai 0) (Zac Zae (Zac Zae (Zac Zae Zah Zab) Zab) Zab) Zaa) (he:=Zaa)) (cn_cons (i:=1) sc.nd rfl (Or.inl rfl) (cn_cons (i:=2) sc.nd rfl (Or.inl rfl) cn_nil)))
      (Zag [1,2,3] [1,2,3] (Zao (i:=3) sc.nd rfl (Or.inl rfl) (Zax D_law_best_count (hr.mono (by decide)) rfl pass0 (Zac (Zai 1) (Zac (Zai 2) Zah Zaa) Zaa) (he:=Zaa)))
      (Zag [1,2,3,4] [1,2,3,4] (Zao (i:=4) sc.nd rfl (Or.inl rfl) (Zax D_law_row (hr.mono (by decide)) rfl pass0 (Zac (Zai 0) (Zac Zae (Zac (Zbi (Zaf Zae (Zaf Zae Zah Zab) Zab)) Zah Zdu) Zab) Zaa) (he:=Zaa)))
      (Zag [1,2,3,4,5] [1,2,3,4,5] (Zao (i:=5) sc.nd rfl (Or.inl rfl) (Zbd (Zat K (Zbi (Zaf (Zan Zdt Zcv (Zai 3) Zae) (Zaf (Zan Zcx Zca (Zat K (Zai 4) Zae Zal) (Zai 3)) (Zaf Zae Zah Zab) Zaq) Zaq)) (Zat K (Zai 4) Zae Zal) Zce)))
      (Zag [1,2,3,4,5] [1,2,3,4,5] (Zao (i:=5) sc.nd rfl (Or.inl rfl) (Zbc (r:=rMin2) (Zfm rfl) Zgs rfl T.min PyProof.Rows.boot_min (Zac (Zai 5) (Zac Zae Zah Zab) Zaa) (he:=Zaa)))
      (Zag [1,2,3,4,5] [1,2,3,4,5] (Zdb [1,2,3,4,5] [1,2,3,4,5] PassesOwn.never rfl (ci_rng1 rfl T.range (Zac Zae Zah Zab)) (cg_name (i:=6) (hN:=sc.nd) (hi:=rfl) (hx:=Or.inl rfl)) (Zag [1,2,3,4,5] [1,2,3,4,5] (Zde (Zbr (r:=rNeA K) (op_neA hu) gok_ne (Zax D_law_asked (hr.mono (by decide)) rfl pass0 (Zac (Zee (r:=rList K) (Zdv rfl) Zfb rfl T.list PyProof.Rows.boot_list (Zac (Zai 1) Zah Zaa) (he:=Zaa)) (Zac (Zee (r:=rList K) (Zdv rfl) Zfb rfl T.list PyProof.Rows.boot_list (Zac (Zai 2) Zah Zaa) (he:=Zaa)) (Zac (Zai 5) Zah Zaa) Zba) Zba) (he:=Zba)) (ce_tup0 (Zac Zbv (Zac (Zai 5) Zah Zaa) Zab)) (nomark _)) (Zaj (Zbe ce_bl)) Zbo)
      (Zaj (Zde (ct_w (cw_and (Zbr op_le Zhl (Zai 3) Zae (nomark _)) (cw_and1 (Zbr (r:=rNeA K) (op_neA hu) gok_ne (Zax D_law_asked (hr.mono (by decide)) rfl pass0 (Zac (Zee (r:=rList K) (Zdv rfl) Zfb rfl T.list PyProof.Rows.boot_list (Zac (Zai 1) Zah Zaa) (he:=Zaa)) (Zac (Zee (r:=rList K) (Zdv rfl) Zfb rfl T.list PyProof.Rows.boot_list (Zac (Zai 2) Zah Zaa) (he:=Zaa)) (Zac (Zai 3) Zah Zaa) Zba) Zba) (he:=Zba)) (ce_tup0 (Zac Zbv (Zac (Zai 3) Zah Zaa) Zab)) (nomark _))))) (Zaj (Zbe ce_bl)) Zbo))))
      (Zaj (Zbe ce_bl))))))))⟩
end
noncomputable def spLaw (K:PySem.W.Frag):Sp:=fun vs H Q _=>∃(a:Addr) (ns:List Int),vs=[.ref a]∧FzL K H a (ns.map V.int)∧ns.length≤63∧∀H',Q (.bl true) H'
theorem fz_of {K:PySem.W.Frag}{H:Hp}{a:Addr}{xs:List V}(hO:Only H)(h:SqL K H a xs):FzL K H a xs:=by
 rcases h with (h | h) | h
 ·rcases hO a with z | ⟨o,ys,z⟩
  ·rw [h] at z;cases z
  ·rw [h] at z;cases z
 ·exact .inl h
 ·exact .inr h
theorem law_true (ns:List Int)(h:ns.length≤63):Dl.F_law [.scr ns]=.ok (.bl true):=Dl.law33_true ns h
theorem all_mk {l:PySem.W.OpenLaw}{w:World}{K:PySem.W.Frag}{h:Heap}{mg:Str→Option Value}{fa f1 f2 f3 f4 f5 f6 f7 f8 f9 f10 f11 f12 f13 f14 f15 f16 f17 f18 f19 f20 f21 f22 f23:Addr}(X:K.In h)(G:h.Ns mainGlobals mg)(hfa:mg "law"=some (.ref fa))
  {fd1 fd2 fd3 fd4 fd5 fd6 fd7 fd8 fd9 fd10 fd11 fd12 fd13 fd14 fd15 fd16 fd17 fd18 fd19 fd20 fd21 fd22 fd23:FuncData}
  (a1:PySem.W.nsIn K mainGlobals "spoilt"=some (some (.ref f1))) (F1:Fun K "spoilt" "spoilt" sspoilt f1 fd1)
  (a2:PySem.W.nsIn K mainGlobals "fits"=some (some (.ref f2))) (F2:Fun K "fits" "fits" sfits f2 fd2)
  (a3:PySem.W.nsIn K mainGlobals "ending"=some (some (.ref f3))) (F3:Fun K "ending" "ending" sending f3 fd3)
  (a4:PySem.W.nsIn K mainGlobals "next_top"=some (some (.ref f4))) (F4:Fun K "next_top" "next_top" snext_top f4 fd4)
  (a5:PySem.W.nsIn K mainGlobals "heights"=some (some (.ref f5))) (F5:Fun K "heights" "heights" sheights f5 fd5)
  (a6:PySem.W.nsIn K mainGlobals "best_steps"=some (some (.ref f6))) (F6:Fun K "best_steps" "best_steps" sbest_steps f6 fd6)
  (a7:PySem.W.nsIn K mainGlobals "best_counts"=some (some (.ref f7))) (F7:Fun K "best_counts" "best_counts" sbest_counts f7 fd7)
  (a8:PySem.W.nsIn K mainGlobals "best_count"=some (some (.ref f8))) (F8:Fun K "best_count" "best_count" sbest_count f8 fd8)
  (a9:PySem.W.nsIn K mainGlobals "all_best"=some (some (.ref f9))) (F9:Fun K "all_best" "all_best" sall_best f9 fd9)
  (a10:PySem.W.nsIn K mainGlobals "_law_cell"=some (some (.ref f10))) (F10:Fun K "_law_cell" "_law_cell" Zen f10 fd10)
  (a11:PySem.W.nsIn K mainGlobals "_law_mix"=some (some (.ref f11))) (F11:Fun K "_law_mix" "_law_mix" Zfh f11 fd11)
  (a12:PySem.W.nsIn K mainGlobals "_law_row"=some (some (.ref f12))) (F12:Fun K "_law_row" "_law_row" Zfd f12 fd12)
  (a13:PySem.W.nsIn K mainGlobals "_law_table"=some (some (.ref f13))) (F13:Fun K "_law_table" "_law_table" Zdz f13 fd13)
  (a14:PySem.W.nsIn K mainGlobals "_law_flaw"=some (some (.ref f14))) (F14:Fun K "_law_flaw" "_law_flaw" Zeq f14 fd14)
  (a15:PySem.W.nsIn K mainGlobals "_law_roll"=some (some (.ref f15))) (F15:Fun K "_law_roll" "_law_roll" Zeo f15 fd15)
  (a16:PySem.W.nsIn K mainGlobals "_law_drawn"=some (some (.ref f16))) (F16:Fun K "_law_drawn" "_law_drawn" Zea f16 fd16)
  (a17:PySem.W.nsIn K mainGlobals "_law_sums"=some (some (.ref f17))) (F17:Fun K "_law_sums" "_law_sums" Zek f17 fd17)
  (a18:PySem.W.nsIn K mainGlobals "_law_good"=some (some (.ref f18))) (F18:Fun K "_law_good" "_law_good" Zei f18 fd18)
  (a19:PySem.W.nsIn K mainGlobals "_law_heights"=some (some (.ref f19))) (F19:Fun K "_law_heights" "_law_heights" Zdj f19 fd19)
  (a20:PySem.W.nsIn K mainGlobals "_law_is_whole"=some (some (.ref f20))) (F20:Fun K "_law_is_whole" "_law_is_whole" Zcl f20 fd20)
  (a21:PySem.W.nsIn K mainGlobals "_law_best_count"=some (some (.ref f21))) (F21:Fun K "_law_best_count" "_law_best_count" Zcp f21 fd21)
  (a22:PySem.W.nsIn K mainGlobals "_law_asked"=some (some (.ref f22))) (F22:Fun K "_law_asked" "_law_asked" Zeb f22 fd22)
  (a23:PySem.W.nsIn K mainGlobals "law"=some (some (.ref f23))) (F23:Fun K "law" "law" slaw f23 fd23)
  (z1:PySem.W.nsIn K mainGlobals "sum"=some none)
  (z2:PySem.W.nsIn K mainGlobals "len"=some none)
  (z3:PySem.W.nsIn K mainGlobals "max"=some none)
  (z4:PySem.W.nsIn K mainGlobals "range"=some none)
  (z5:PySem.W.nsIn K mainGlobals "sorted"=some none)
  (z6:PySem.W.nsIn K mainGlobals "min"=some none)
  (z7:PySem.W.nsIn K mainGlobals "isinstance"=some none)
  (z8:PySem.W.nsIn K mainGlobals "int"=some none)
  (z9:PySem.W.nsIn K mainGlobals "bool"=some none)
  (z10:PySem.W.nsIn K mainGlobals "ValueError"=some none)
  (z11:PySem.W.nsIn K mainGlobals "list"=some none)
  {cCutError cNoPlace cTooLong cTooMany cTooBig:Addr} {kCutError kNoPlace kTooLong kTooMany kTooBig:_}
  (gCutError:PySem.W.nsIn K mainGlobals "CutError"=some (some (.ref cCutError)))
  (xCutError:PySem.W.excIn K cCutError bmV "ValueError.__new__"=true)
  (tCutError:PySem.W.typeIn K (.ref cCutError)=some (.type "type"))
  (kCutError:PySem.W.clsIn K cCutError=some kCutError)
  (gaCutError:PySem.W.findIn K (.ref cCutError) "__getattribute__"=some (some (.builtin "BaseException.__getattribute__")))
  (geCutError:PySem.W.findIn K (.ref cCutError) "__getattr__"=some none)
  (lkCutError:PySem.W.findIn K (.ref cCutError) "__class__"=some (some (.builtin "object.__class__")))
  (soCutError:PySem.W.subIn K (.ref cCutError) (.type "object")=some true)
  (sbCutError:PySem.W.subIn K (.ref cCutError) (.type "BaseException")=some true)
  (seCutError:PySem.W.subIn K (.ref cCutError) (.ref cCutError)=some true)
  (gNoPlace:PySem.W.nsIn K mainGlobals "NoPlace"=some (some (.ref cNoPlace)))
  (xNoPlace:PySem.W.excIn K cNoPlace bmV "ValueError.__new__"=true)
  (tNoPlace:PySem.W.typeIn K (.ref cNoPlace)=some (.type "type"))
  (kNoPlace:PySem.W.clsIn K cNoPlace=some kNoPlace)
  (gaNoPlace:PySem.W.findIn K (.ref cNoPlace) "__getattribute__"=some (some (.builtin "BaseException.__getattribute__")))
  (geNoPlace:PySem.W.findIn K (.ref cNoPlace) "__getattr__"=some none)
  (lkNoPlace:PySem.W.findIn K (.ref cNoPlace) "__class__"=some (some (.builtin "object.__class__")))
  (soNoPlace:PySem.W.subIn K (.ref cNoPlace) (.type "object")=some true)
  (sbNoPlace:PySem.W.subIn K (.ref cNoPlace) (.type "BaseException")=some true)
  (seNoPlace:PySem.W.subIn K (.ref cNoPlace) (.ref cNoPlace)=some true)
  (gTooLong:PySem.W.nsIn K mainGlobals "TooLong"=some (some (.ref cTooLong)))
  (xTooLong:PySem.W.excIn K cTooLong bmV "ValueError.__new__"=true)
  (tTooLong:PySem.W.typeIn K (.ref cTooLong)=some (.type "type"))
  (kTooLong:PySem.W.clsIn K cTooLong=some kTooLong)
  (gaTooLong:PySem.W.findIn K (.ref cTooLong) "__getattribute__"=some (some (.builtin "BaseException.__getattribute__")))
  (geTooLong:PySem.W.findIn K (.ref cTooLong) "__getattr__"=some none)
  (lkTooLong:PySem.W.findIn K (.ref cTooLong) "__class__"=some (some (.builtin "object.__class__")))
  (soTooLong:PySem.W.subIn K (.ref cTooLong) (.type "object")=some true)
  (sbTooLong:PySem.W.subIn K (.ref cTooLong) (.type "BaseException")=some true)
  (seTooLong:PySem.W.subIn K (.ref cTooLong) (.ref cTooLong)=some true)
  (gTooMany:PySem.W.nsIn K mainGlobals "TooMany"=some (some (.ref cTooMany)))
  (tTooMany:PySem.W.typeIn K (.ref cTooMany)=some (.type "type"))
  (kTooMany:PySem.W.clsIn K cTooMany=some kTooMany)
  (gaTooMany:PySem.W.findIn K (.ref cTooMany) "__getattribute__"=some (some (.builtin "BaseException.__getattribute__")))
  (geTooMany:PySem.W.findIn K (.ref cTooMany) "__getattr__"=some none)
  (lkTooMany:PySem.W.findIn K (.ref cTooMany) "__class__"=some (some (.builtin "object.__class__")))
  (soTooMany:PySem.W.subIn K (.ref cTooMany) (.type "object")=some true)
  (sbTooMany:PySem.W.subIn K (.ref cTooMany) (.type "BaseException")=some true)
  (seTooMany:PySem.W.subIn K (.ref cTooMany) (.ref cTooMany)=some true)
  (gTooBig:PySem.W.nsIn K mainGlobals "TooBig"=some (some (.ref cTooBig)))
  (xTooBig:PySem.W.excIn K cTooBig bmV "ValueError.__new__"=true)
  (tTooBig:PySem.W.typeIn K (.ref cTooBig)=some (.type "type"))
  (kTooBig:PySem.W.clsIn K cTooBig=some kTooBig)
  (gaTooBig:PySem.W.findIn K (.ref cTooBig) "__getattribute__"=some (some (.builtin "BaseException.__getattribute__")))
  (geTooBig:PySem.W.findIn K (.ref cTooBig) "__getattr__"=some none)
  (lkTooBig:PySem.W.findIn K (.ref cTooBig) "__class__"=some (some (.builtin "object.__class__")))
  (soTooBig:PySem.W.subIn K (.ref cTooBig) (.type "object")=some true)
  (sbTooBig:PySem.W.subIn K (.ref cTooBig) (.type "BaseException")=some true)
  (seTooBig:PySem.W.subIn K (.ref cTooBig) (.ref cTooBig)=some true)
  (sTooMany_CutError:PySem.W.subIn K (.ref cTooMany) (.ref cCutError)=some true)
  (sTooMany_NoPlace:PySem.W.subIn K (.ref cTooMany) (.ref cNoPlace)=some false)
  (sTooMany_TooLong:PySem.W.subIn K (.ref cTooMany) (.ref cTooLong)=some false)
  (sTooMany_TooBig:PySem.W.subIn K (.ref cTooMany) (.ref cTooBig)=some false)
  (wTooMany:PySem.W.subIn K (.ref cTooMany) (.type "ValueError")=some true)
  {fiTooMany:Addr} {fdiTooMany:FuncData} (aiTooMany:PySem.W.findIn K (.ref cTooMany) "__init__"=some (some (.ref fiTooMany))) (xiTooMany:excInI K cTooMany bmV "ValueError.__new__" fiTooMany=true) (saTooMany:PySem.W.findIn K (.ref cTooMany) "__setattr__"=some (some (.builtin "object.__setattr__")))
  (nfTooMany:PySem.W.findIn K (.ref cTooMany) "most"=some none) (hdTooMany:PySem.W.hasDictIn K cTooMany=true) (tiTooMany:PySem.W.typeIn K (.ref fiTooMany)=some (.type "function")) (FiTooMany:Fun K "__init__" "TooMany.__init__" sTooMany_init fiTooMany fdiTooMany)
  (bsCutError:PySem.W.specialIn K (.ref cCutError) "__getattribute__"=some (some (.builtin "type.__getattribute__"))) (brCutError:PySem.W.readsIn K cCutError (.type "type")=true) (bfCutError:PySem.W.findCls K (.ref cCutError) (.type "type") "__init__"=some (.val (.builtin "ValueError.__init__")))
  : ∃fd:FuncData,(∀(s:Shared) (v:Value),BindsTo s fd ⟨[v],[]⟩ [("_law_script",v)])∧∀base:Heap,K.In base→base.Ns mainGlobals mg→FnOk l.prog w K mg base CX0 16 fa fd ["_law_script"] (spLaw K):=by
 have e:=hfa.symm.trans (PySem.W.mg_of X G a23)
 cases e
 obtain ⟨C,hCutError,hNoPlace,hTooLong,hTooMany,hTooBig⟩:∃C:String→Addr,C "CutError"=cCutError∧C "NoPlace"=cNoPlace∧C "TooLong"=cTooLong∧C "TooMany"=cTooMany∧C "TooBig"=cTooBig:=⟨fun x=>if x="CutError" then cCutError else if x="NoPlace" then cNoPlace else if x="TooLong" then cTooLong else if x="TooMany" then cTooMany else if x="TooBig" then cTooBig else 0,by simp,by simp,by simp,by simp,by simp⟩
 subst hCutError
 subst hNoPlace
 subst hTooLong
 subst hTooMany
 subst hTooBig
 have T:Txt mg K C:=⟨PySem.W.mg_none_of X G z1,PySem.W.mg_none_of X G z2,PySem.W.mg_none_of X G z3,PySem.W.mg_none_of X G z4,PySem.W.mg_none_of X G z5,PySem.W.mg_none_of X G z6,PySem.W.mg_none_of X G z7,PySem.W.mg_none_of X G z8,PySem.W.mg_none_of X G z9,PySem.W.mg_none_of X G z10,PySem.W.mg_none_of X G z11,PySem.W.mg_of X G gCutError,⟨xCutError,tCutError,⟨_,kCutError⟩,gaCutError,geCutError,lkCutError,soCutError,sbCutError,seCutError⟩,PySem.W.mg_of X G gNoPlace,⟨xNoPlace,tNoPlace,⟨_,kNoPlace⟩,gaNoPlace,geNoPlace,lkNoPlace,soNoPlace,sbNoPlace,seNoPlace⟩,PySem.W.mg_of X G gTooLong,⟨xTooLong,tTooLong,⟨_,kTooLong⟩,gaTooLong,geTooLong,lkTooLong,soTooLong,sbTooLong,seTooLong⟩,PySem.W.mg_of X G gTooMany,⟨excInI_ob xiTooMany,tTooMany,⟨_,kTooMany⟩,gaTooMany,geTooMany,lkTooMany,soTooMany,sbTooMany,seTooMany⟩,nfTooMany,hdTooMany,PySem.W.mg_of X G gTooBig,⟨xTooBig,tTooBig,⟨_,kTooBig⟩,gaTooBig,geTooBig,lkTooBig,soTooBig,sbTooBig,seTooBig⟩,sTooMany_CutError,sTooMany_NoPlace,sTooMany_TooLong,sTooMany_TooBig,wTooMany,⟨bsCutError,brCutError,bfCutError⟩⟩
 obtain ⟨oc,od,kV,doc,pm,an,cdv,ct,osl,rfl,lk,hcd⟩:=F23.ex
 refine ⟨PySem.W.fnOf "law" "law" (defArgs slaw) (defBody slaw) (defScope slaw) .none kV doc pm an cdv ct,fun s v=>.of_eq rfl,fun base _ _=>?_⟩
 have ITooMany:IDef l.prog w K mg base (C "TooMany") "most":=⟨fiTooMany,fdiTooMany,["self","most"],⟨xiTooMany,saTooMany,nfTooMany,hdTooMany⟩,tiTooMany,rfl,FiTooMany.binds (ps:=["self","most"]) fun _ _ _ _ _ _=>allN2 (fun _ _=>rfl),initTooMany FiTooMany T⟩
 have b1:=F1.binds (ps:=["roll","begin","end"]) fun _ _ _ _ _ _=>allN3 (fun _ _ _=>rfl)
 have Dspoilt:Def l.prog w K mg base CX0 7 "spoilt" ["roll","begin","end"] (spD K (C) 3 2 Dl.Zdw):=⟨f1,_,PySem.W.mg_of X G a1,F1.kp,b1,okspoilt F1 T⟩
 have b10:=F10.binds (ps:=["_law_script","_law_place"]) fun _ _ _ _ _ _=>allN2 (fun _ _=>rfl)
 have D_law_cell:Def l.prog w K mg base CX0 7 "_law_cell" ["_law_script","_law_place"] (spD K (C) 2 2 Dl.Zci):=⟨f10,_,PySem.W.mg_of X G a10,F10.kp,b10,ok_law_cell F10 T⟩
 have b11:=F11.binds (ps:=["_law_cell_here","_law_k"]) fun _ _ _ _ _ _=>allN2 (fun _ _=>rfl)
 have D_law_mix:Def l.prog w K mg base CX0 7 "_law_mix" ["_law_cell_here","_law_k"] (spD K (C) 2 2 Dl.Zcu):=⟨f11,_,PySem.W.mg_of X G a11,F11.kp,b11,ok_law_mix F11 T⟩
 have b17:=F17.binds (ps:=["_law_roll_here"]) fun _ _ _ _ _ _=>allN1 (fun _=>rfl)
 have D_law_sums:Def l.prog w K mg base CX0 7 "_law_sums" ["_law_roll_here"] (spD K (C) 1 2 Dl.Zbs):=⟨f17,_,PySem.W.mg_of X G a17,F17.kp,b17,ok_law_sums F17 T⟩
 have b18:=F18.binds (ps:=["_law_sums_here","_law_kind","_law_at"]) fun _ _ _ _ _ _=>allN3 (fun _ _ _=>rfl)
 have D_law_good:Def l.prog w K mg base CX0 7 "_law_good" ["_law_sums_here","_law_kind","_law_at"] (spD K (C) 3 2 Dl.Zcc):=⟨f18,_,PySem.W.mg_of X G a18,F18.kp,b18,ok_law_good F18 T⟩
 have b20:=F20.binds (ps:=["_law_one"]) fun _ _ _ _ _ _=>allN1 (fun _=>rfl)
 have D_law_is_whole:Def l.prog w K mg base CX0 7 "_law_is_whole" ["_law_one"] (spD K (C) 1 2 Dl.Zbl):=⟨f20,_,PySem.W.mg_of X G a20,F20.kp,b20,ok_law_is_whole F20 T⟩
 have D_law_is_wholeH:DefH l.prog w K mg base 7 "_law_is_whole" ["_law_one"] (spD K (C) 1 2 Dl.Zbl):=⟨f20,_,PySem.W.mg_of X G a20,F20.kp,b20,okH_law_is_whole F20 T⟩
 have b2:=F2.binds (ps:=["roll","kind","place"]) fun _ _ _ _ _ _=>allN3 (fun _ _ _=>rfl)
 have Dfits:Def l.prog w K mg base CX0 8 "fits" ["roll","kind","place"] (spD K (C) 3 2 Dl.Zfr):=⟨f2,_,PySem.W.mg_of X G a2,F2.kp,b2,okfits F2 T Dspoilt⟩
 have b12:=F12.binds (ps:=["_law_script","_law_place","_law_sizes"]) fun _ _ _ _ _ _=>allN3 (fun _ _ _=>rfl)
 have D_law_row:Def l.prog w K mg base CX0 8 "_law_row" ["_law_script","_law_place","_law_sizes"] (spD K (C) 3 2 Dl.Zbg):=⟨f12,_,PySem.W.mg_of X G a12,F12.kp,b12,ok_law_row F12 T D_law_cell D_law_mix⟩
 have b19:=F19.binds (ps:=["_law_roll_here","_law_table_here"]) fun _ _ _ _ _ _=>allN2 (fun _ _=>rfl)
 have D_law_heights:Def l.prog w K mg base CX0 8 "_law_heights" ["_law_roll_here","_law_table_here"] (spD K (C) 2 2 Dl.Zbx):=⟨f19,_,PySem.W.mg_of X G a19,F19.kp,b19,ok_law_heights F19 T D_law_sums D_law_good⟩
 have b3:=F3.binds (ps:=["roll","table","end"]) fun _ _ _ _ _ _=>allN3 (fun _ _ _=>rfl)
 have Dending:Def l.prog w K mg base CX0 9 "ending" ["roll","table","end"] (spD K (C) 3 2 Dl.Zck):=⟨f3,_,PySem.W.mg_of X G a3,F3.kp,b3,okending F3 T Dfits⟩
 have b13:=F13.binds (ps:=["_law_script","_law_place","_law_most"]) fun _ _ _ _ _ _=>allN3 (fun _ _ _=>rfl)
 have D_law_table:Def l.prog w K mg base CX0 9 "_law_table" ["_law_script","_law_place","_law_most"] (spD K (C) 3 2 Dl.Zcn):=⟨f13,_,PySem.W.mg_of X G a13,F13.kp,b13,ok_law_table F13 T D_law_row⟩
 have b14:=F14.binds (ps:=["_law_script","_law_place","_law_most"]) fun _ _ _ _ _ _=>allN3 (fun _ _ _=>rfl)
 have D_law_flaw:Def l.prog w K mg base CX0 9 "_law_flaw" ["_law_script","_law_place","_law_most"] (spD K (C) 3 2 Dl.Zda):=⟨f14,_,PySem.W.mg_of X G a14,F14.kp,b14,ok_law_flaw F14 T D_law_row⟩
 have b15:=F15.binds (ps:=["_law_script","_law_place","_law_most","_law_flaw_here"]) fun _ _ _ _ _ _=>allN4 (fun _ _ _ _=>rfl)
 have D_law_roll:Def l.prog w K mg base CX0 9 "_law_roll" ["_law_script","_law_place","_law_most","_law_flaw_here"] (spD K (C) 4 2 Dl.Zcz):=⟨f15,_,PySem.W.mg_of X G a15,F15.kp,b15,ok_law_roll F15 T D_law_row⟩
 have b21:=F21.binds (ps:=["_law_roll_here","_law_table_here"]) fun _ _ _ _ _ _=>allN2 (fun _ _=>rfl)
 have D_law_best_count:Def l.prog w K mg base CX0 9 "_law_best_count" ["_law_roll_here","_law_table_here"] (spD K (C) 2 2 Dl.Zbk):=⟨f21,_,PySem.W.mg_of X G a21,F21.kp,b21,ok_law_best_count F21 T D_law_sums D_law_heights D_law_good⟩
 have b4:=F4.binds (ps:=["roll","table","tops"]) fun _ _ _ _ _ _=>allN3 (fun _ _ _=>rfl)
 have Dnext_top:Def l.prog w K mg base CX0 10 "next_top" ["roll","table","tops"] (spD K (C) 3 2 Dl.Zdg):=⟨f4,_,PySem.W.mg_of X G a4,F4.kp,b4,oknext_top F4 T Dending⟩
 have b6:=F6.binds (ps:=["roll","table","tops","end"]) fun _ _ _ _ _ _=>allN4 (fun _ _ _ _=>rfl)
 have Dbest_steps:Def l.prog w K mg base CX0 10 "best_steps" ["roll","table","tops","end"] (spD K (C) 4 2 Dl.Zbt):=⟨f6,_,PySem.W.mg_of X G a6,F6.kp,b6,okbest_steps F6 T Dending⟩
 have b16:=F16.binds (ps:=["_law_script","_law_place","_law_most","_law_kinds"]) fun _ _ _ _ _ _=>allN4 (fun _ _ _ _=>rfl)
 have D_law_drawn:Def l.prog w K mg base CX0 10 "_law_drawn" ["_law_script","_law_place","_law_most","_law_kinds"] (spD K (C) 4 2 Dl.Zcm):=⟨f16,_,PySem.W.mg_of X G a16,F16.kp,b16,ok_law_drawn F16 T D_law_flaw D_law_roll D_law_table⟩
 have b5:=F5.binds (ps:=["roll","table"]) fun _ _ _ _ _ _=>allN2 (fun _ _=>rfl)
 have Dheights:Def l.prog w K mg base CX0 11 "heights" ["roll","table"] (spD K (C) 2 2 Dl.Zco):=⟨f5,_,PySem.W.mg_of X G a5,F5.kp,b5,okheights F5 T Dnext_top⟩
 have b7:=F7.binds (ps:=["roll","table"]) fun _ _ _ _ _ _=>allN2 (fun _ _=>rfl)
 have Dbest_counts:Def l.prog w K mg base CX0 12 "best_counts" ["roll","table"] (spD K (C) 2 2 Dl.Zcg):=⟨f7,_,PySem.W.mg_of X G a7,F7.kp,b7,okbest_counts F7 T Dheights Dbest_steps⟩
 have b8:=F8.binds (ps:=["roll","table"]) fun _ _ _ _ _ _=>allN2 (fun _ _=>rfl)
 have Dbest_count:Def l.prog w K mg base CX0 13 "best_count" ["roll","table"] (spD K (C) 2 2 Dl.Zcd):=⟨f8,_,PySem.W.mg_of X G a8,F8.kp,b8,okbest_count F8 T Dbest_counts⟩
 have b9:=F9.binds (ps:=["roll","table","most"]) fun _ _ _ _ _ _=>allN3 (fun _ _ _=>rfl)
 have Dall_best:Def l.prog w K mg base (CXE l.prog w) 14 "all_best" ["roll","table","most"] (spD K (C) 3 0 Dl.Zbp):=⟨f9,_,PySem.W.mg_of X G a9,F9.kp,b9,okall_best F9 T Dheights Dbest_count Dbest_steps ITooMany⟩
 have b22:=F22.binds (ps:=["_law_roll_here","_law_table_here","_law_most"]) fun _ _ _ _ _ _=>allN3 (fun _ _ _=>rfl)
 have D_law_asked:Def l.prog w K mg base CX0 15 "_law_asked" ["_law_roll_here","_law_table_here","_law_most"] (spD K (C) 3 2 Dl.Zbh):=⟨f22,_,PySem.W.mg_of X G a22,F22.kp,b22,ok_law_asked F22 T Dall_best D_law_is_wholeH⟩
 exact (oklaw (C:=C) F23 T D_law_drawn D_law_best_count D_law_row D_law_asked).imp fun vs H Q E h=>by
  obtain ⟨a,ns,rfl,hz,hl,q⟩:=h
  refine ⟨[.scr ns],[],rfl,⟨.ref a,[],[],[],rfl,⟨a,rfl,hz,rfl⟩,⟨rfl,rfl⟩,rfl⟩,?_⟩
  rw [law_true ns hl]
  rintro v H' _ ⟨B,r,_⟩
  obtain ⟨rfl,_⟩:=r
  exact q H'
theorem walk {l:PySem.W.OpenLaw}{q:Program}{loose:List Str}{XP:(Str→Option Value)→Heap→Prop}{YP:World→Heap→Prop}{d:DefRec}{K:Params→PySem.W.Frag}(hn:l.most=some 63)(hdf:d.params.defaults=[])
    (hY:∀(w:World) (h:Heap),YP w h→(K w.params).In h)
    (F:∀(w:World) (mg:Str→Option Value) (fa:Addr) (h:Heap),(K w.params).In h→h.Ns mainGlobals mg→mg d.name=some (.ref fa)→
      ∃fd:FuncData,(∀(s:Shared) (u:Value),BindsTo s fd ⟨[u],[]⟩ [("_law_script",u)])∧∀base:Heap,(K w.params).In base→base.Ns mainGlobals mg→FnOk l.prog w (K w.params) mg base CX0 16 fa fd ["_law_script"] (spLaw (K w.params))) :
    PySem.W.WalkO q loose XP YP l.row.toRowW d [] (fun f vs=>PySem.call f vs) :=
  L2.walk_of (n:=63) (k:=16) (x:="_law_script") (CX:=fun _=>CX0) (sp:=fun w=>spLaw (K w.params)) hn (by decide) hdf ⟨rfl,by decide,by decide,rfl⟩ hY F (fun _ H a ns hl hO hS=>⟨a,ns,rfl,fz_of hO hS,hl,fun _=>rfl⟩) fun _ _ _ _ _ z=>z
end K33
open PySem PySem.W PyProof.Rows
set_option maxRecDepth 100000 in
set_option maxHeartbeats 0 in
theorem PySem.Challenge.cw_selvage_k33_too_many_holds : PySem.Challenge.rw_selvage_k33_too_many.Holds := by
 w_on;o_law;z_head;(case hw=>w_witness2)
 k_fill
 refine L2.walkX_of (fun _=>by kernel_rfl) (K33.walk (l:=PySem.Challenge.rw_selvage_k33_too_many) rfl rfl (fun w h Y=>Y) ?F)
 case F =>
  intro w mg fa h KX G hmg
  refine' K33.all_mk KX G hmg ?a1 (L2.Zbq ?l1 ?c1 ?k1) ?a2 (L2.Zbq ?l2 ?c2 ?k2) ?a3 (L2.Zbq ?l3 ?c3 ?k3) ?a4 (L2.Zbq ?l4 ?c4 ?k4) ?a5 (L2.Zbq ?l5 ?c5 ?k5) ?a6 (L2.Zbq ?l6 ?c6 ?k6) ?a7 (L2.Zbq ?l7 ?c7 ?k7) ?a8 (L2.Zbq ?l8 ?c8 ?k8) ?a9 (L2.Zbq ?l9 ?c9 ?k9) ?a10 (L2.Zbq ?l10 ?c10 ?k10) ?a11 (L2.Zbq ?l11 ?c11 ?k11) ?a12 (L2.Zbq ?l12 ?c12 ?k12) ?a13 (L2.Zbq ?l13 ?c13 ?k13) ?a14 (L2.Zbq ?l14 ?c14 ?k14) ?a15 (L2.Zbq ?l15 ?c15 ?k15) ?a16 (L2.Zbq ?l16 ?c16 ?k16) ?a17 (L2.Zbq ?l17 ?c17 ?k17) ?a18 (L2.Zbq ?l18 ?c18 ?k18) ?a19 (L2.Zbq ?l19 ?c19 ?k19) ?a20 (L2.Zbq ?l20 ?c20 ?k20) ?a21 (L2.Zbq ?l21 ?c21 ?k21) ?a22 (L2.Zbq ?l22 ?c22 ?k22) ?a23 (L2.Zbq ?l23 ?c23 ?k23) ?z1 ?z2 ?z3 ?z4 ?z5 ?z6 ?z7 ?z8 ?z9 ?z10 ?z11 ?gCutError ?xCutError ?tCutError ?kCutError ?gaCutError ?geCutError ?lkCutError ?soCutError ?sbCutError ?seCutError ?gNoPlace ?xNoPlace ?tNoPlace ?kNoPlace ?gaNoPlace ?geNoPlace ?lkNoPlace ?soNoPlace ?sbNoPlace ?seNoPlace ?gTooLong ?xTooLong ?tTooLong ?kTooLong ?gaTooLong ?geTooLong ?lkTooLong ?soTooLong ?sbTooLong ?seTooLong ?gTooMany ?tTooMany ?kTooMany ?gaTooMany ?geTooMany ?lkTooMany ?soTooMany ?sbTooMany ?seTooMany ?gTooBig ?xTooBig ?tTooBig ?kTooBig ?gaTooBig ?geTooBig ?lkTooBig ?soTooBig ?sbTooBig ?seTooBig ?sTooMany_CutError ?sTooMany_NoPlace ?sTooMany_TooLong ?sTooMany_TooBig ?wTooMany ?aiTooMany ?xiTooMany ?saTooMany ?nfTooMany ?hdTooMany ?tiTooMany (L2.Zbq ?liTooMany ?ciTooMany ?kiTooMany) ?bsCutError ?brCutError ?bfCutError
  (case a1=>k_is)
  (case l1=>k_is)
  (case c1=>k_is)
  (case k1=>k_is)
  (case a2=>k_is)
  (case l2=>k_is)
  (case c2=>k_is)
  (case k2=>k_is)
  (case a3=>k_is)
  (case l3=>k_is)
  (case c3=>k_is)
  (case k3=>k_is)
  (case a4=>k_is)
  (case l4=>k_is)
  (case c4=>k_is)
  (case k4=>k_is)
  (case a5=>k_is)
  (case l5=>k_is)
  (case c5=>k_is)
  (case k5=>k_is)
  (case a6=>k_is)
  (case l6=>k_is)
  (case c6=>k_is)
  (case k6=>k_is)
  (case a7=>k_is)
  (case l7=>k_is)
  (case c7=>k_is)
  (case k7=>k_is)
  (case a8=>k_is)
  (case l8=>k_is)
  (case c8=>k_is)
  (case k8=>k_is)
  (case a9=>k_is)
  (case l9=>k_is)
  (case c9=>k_is)
  (case k9=>k_is)
  (case a10=>k_is)
  (case l10=>k_is)
  (case c10=>k_is)
  (case k10=>k_is)
  (case a11=>k_is)
  (case l11=>k_is)
  (case c11=>k_is)
  (case k11=>k_is)
  (case a12=>k_is)
  (case l12=>k_is)
  (case c12=>k_is)
  (case k12=>k_is)
  (case a13=>k_is)
  (case l13=>k_is)
  (case c13=>k_is)
  (case k13=>k_is)
  (case a14=>k_is)
  (case l14=>k_is)
  (case c14=>k_is)
  (case k14=>k_is)
  (case a15=>k_is)
  (case l15=>k_is)
  (case c15=>k_is)
  (case k15=>k_is)
  (case a16=>k_is)
  (case l16=>k_is)
  (case c16=>k_is)
  (case k16=>k_is)
  (case a17=>k_is)
  (case l17=>k_is)
  (case c17=>k_is)
  (case k17=>k_is)
  (case a18=>k_is)
  (case l18=>k_is)
  (case c18=>k_is)
  (case k18=>k_is)
  (case a19=>k_is)
  (case l19=>k_is)
  (case c19=>k_is)
  (case k19=>k_is)
  (case a20=>k_is)
  (case l20=>k_is)
  (case c20=>k_is)
  (case k20=>k_is)
  (case a21=>k_is)
  (case l21=>k_is)
  (case c21=>k_is)
  (case k21=>k_is)
  (case a22=>k_is)
  (case l22=>k_is)
  (case c22=>k_is)
  (case k22=>k_is)
  (case a23=>k_is)
  (case l23=>k_is)
  (case c23=>k_is)
  (case k23=>k_is)
  (case z1=>k_is)
  (case z2=>k_is)
  (case z3=>k_is)
  (case z4=>k_is)
  (case z5=>k_is)
  (case z6=>k_is)
  (case z7=>k_is)
  (case z8=>k_is)
  (case z9=>k_is)
  (case z10=>k_is)
  (case z11=>k_is)
  (case gCutError=>k_is)
  (case xCutError=>kernel_rfl)
  (case tCutError=>k_is)
  (case kCutError=>k_is)
  (case gaCutError=>k_is)
  (case geCutError=>k_is)
  (case lkCutError=>k_is)
  (case soCutError=>k_is)
  (case sbCutError=>k_is)
  (case seCutError=>k_is)
  (case gNoPlace=>k_is)
  (case xNoPlace=>kernel_rfl)
  (case tNoPlace=>k_is)
  (case kNoPlace=>k_is)
  (case gaNoPlace=>k_is)
  (case geNoPlace=>k_is)
  (case lkNoPlace=>k_is)
  (case soNoPlace=>k_is)
  (case sbNoPlace=>k_is)
  (case seNoPlace=>k_is)
  (case gTooLong=>k_is)
  (case xTooLong=>kernel_rfl)
  (case tTooLong=>k_is)
  (case kTooLong=>k_is)
  (case gaTooLong=>k_is)
  (case geTooLong=>k_is)
  (case lkTooLong=>k_is)
  (case soTooLong=>k_is)
  (case sbTooLong=>k_is)
  (case seTooLong=>k_is)
  (case gTooMany=>k_is)
  (case tTooMany=>k_is)
  (case kTooMany=>k_is)
  (case gaTooMany=>k_is)
  (case geTooMany=>k_is)
  (case lkTooMany=>k_is)
  (case soTooMany=>k_is)
  (case sbTooMany=>k_is)
  (case seTooMany=>k_is)
  (case gTooBig=>k_is)
  (case xTooBig=>kernel_rfl)
  (case tTooBig=>k_is)
  (case kTooBig=>k_is)
  (case gaTooBig=>k_is)
  (case geTooBig=>k_is)
  (case lkTooBig=>k_is)
  (case soTooBig=>k_is)
  (case sbTooBig=>k_is)
  (case seTooBig=>k_is)
  (case sTooMany_CutError=>k_is)
  (case sTooMany_NoPlace=>k_is)
  (case sTooMany_TooLong=>k_is)
  (case sTooMany_TooBig=>k_is)
  (case wTooMany=>k_is)
  (case aiTooMany=>k_is)
  (case xiTooMany=>kernel_rfl)
  (case saTooMany=>k_is)
  (case nfTooMany=>k_is)
  (case hdTooMany=>k_is)
  (case tiTooMany=>k_is)
  (case liTooMany=>k_is)
  (case ciTooMany=>k_is)
  (case kiTooMany=>k_is)
  (case bsCutError=>k_is)
  (case brCutError=>k_is)
  (case bfCutError=>k_is)
