import PyProof.Rows.All
import Wide.All
import OpenK.AllK
import Wide.FinOn
import Lean
import PyProof.EqAt
import PyProof.EqKinds
import PyProof.TupleCall
import PySem.Challenge.RW_selvage_k48_whole_turned_about
set_option Elab.async false
set_option linter.all false
set_option maxRecDepth 100000
set_option genSizeOfSpec false
set_option genInjectivity false
open PySem.W (CodeHd Frag clsIn codeHdIn codeIn envX exmOne findIn fnOf hideAll isFn kat_no kat_yes keepIn kla_fn kla_obj methodObj mg_none_of mg_of nsIn specialIn subIn tabObj typeIn)
open List (append_assoc append_nil ext_getElem flatten_cons foldl_cons getElem?_append_left getElem?_append_right getElem?_eq_getElem getElem?_map getElem?_set_ne getElem?_set_self getElem_mem length_append length_cons length_drop length_filter_le length_map length_range length_reverse length_set length_singleton length_take lookup_cons map_append map_congr_left map_cons map_drop map_id map_map map_reverse map_take mem_append_left mem_append_right mem_cons_of_mem mem_cons_self mem_of_getElem? mem_replicate mergeSort_perm nodup_nil of_mem_zip pairwise_map pairwise_mergeSort range_succ replicate_succ reverse_cons reverse_perm size_toArray sum_cons)
open Nat (add_assoc add_comm le_add_right le_of_eq le_of_lt le_refl le_succ le_trans lt_irrefl lt_of_lt_of_le min_eq_left ne_of_gt ne_of_lt sub_le sub_self sub_zero zero_add zero_le)
open Int (emod_lt_of_pos emod_nonneg le_antisymm mul_nonneg toNat_lt toNat_natCast)
open Array (getElem?_toList length_toList toList_map toList_reverse)
open PySem.Heap (get?_push_of_some get?_push_size lt_size size_update)
def PySem.W.Fast.tw8480589346444369950:=0
def PySem.W.Fast.tw8756286090562450804:=0
def PySem.W.Fast.tw12207312827167768641:=0
def PySem.W.Fast.tw4940488208521712232:=0
def PySem.W.Fast.tw11234259131261846991:=0
def PySem.W.Fast.tw261847461548312196:=0
def PySem.W.Fast.tw7001686877985075291:=0
def PySem.W.Fast.tw9656755322263290509:=0
def PySem.W.Fast.tw4797161826230289777:=0
def PySem.W.Fast.tw2013799978875252373:=0
def PySem.W.Fast.tw11615575825098122123:=0
def PySem.W.Fast.tw17526276687121701085:=0
theorem aT0 (h:True:=by first | exact .inl rfl | exact .inr rfl | assumption):True:=True.intro
theorem aT3 (h:True:=by first | exact Or.inl rfl | exact Or.inr (Or.inl rfl) | exact Or.inr (Or.inr rfl)):True:=True.intro
namespace L2
open PySem PySem.Spec PyProof.Rows
noncomputable abbrev Key:=Sum Int Str
noncomputable def Xmt:Key→Value→Bool
 | .inl k,v=>Value.isInt k v
 | .inr x,v=>Value.isStrOf x v
noncomputable def keyH (w:World):Key→Int
 | .inl k=>hashInt k
 | .inr x=>hashStr w x
theorem Yt:∀{k:Key} {v:Value},Xmt k v=true→(∃i t,k=Sum.inl i∧v=Value.int i t)∨(∃x t,k=Sum.inr x∧v=Value.str x t)
 | .inl i,v,h=>by
  obtain ⟨t,e⟩:=Value.isInt_shape (k:=i) (v:=v) h
  exact .inl ⟨i,t,rfl,e⟩
 | .inr x,v,h=>by
  obtain ⟨t,e⟩:=Value.isStrOf_shape (x:=x) (v:=v) h
  exact .inr ⟨x,t,rfl,e⟩
theorem Xql (a b:Int):decide ((Sum.inl a:Key)=Sum.inl b)=(a==b):=by
 by_cases e:a=b
 ·subst e;simp
 ·have h:¬(Sum.inl a:Key)=Sum.inl b:=fun q=>e (Sum.inl.inj q)
  rw [decide_eq_false h]
  exact (beq_eq_false_iff_ne.mpr e).symm
theorem Xqh (a b:Str):decide ((Sum.inr a:Key)=Sum.inr b)=decide (a=b):=by
 by_cases e:a=b
 ·subst e;simp
 ·have h:¬(Sum.inr a:Key)=Sum.inr b:=fun q=>e (Sum.inr.inj q)
  rw [decide_eq_false h,decide_eq_false e]
theorem Xqi (a:Int)(b:Str):decide ((Sum.inl a:Key)=Sum.inr b)=false:=decide_eq_false (fun q=>nomatch q)
theorem Xmz (a:Str)(b:Int):decide ((Sum.inr a:Key)=Sum.inl b)=false:=decide_eq_false (fun q=>nomatch q)
noncomputable def Zxe (prog:Program)(w:World):PySem.KeyKind prog w Key where
 is:=Xmt
 hash:=keyH w
 inj:=fun v a b ha hb=>by
  rcases Yt ha with ⟨i,t,rfl,rfl⟩ | ⟨x,t,rfl,rfl⟩
  ·rcases Yt hb with ⟨j,u,rfl,e⟩ | ⟨y,u,rfl,e⟩
   ·injection e with e1 _;rw [e1]
   ·exact nomatch e
  ·rcases Yt hb with ⟨j,u,rfl,e⟩ | ⟨y,u,rfl,e⟩
   ·exact nomatch e
   ·injection e with e1 _;rw [e1]
 byValue:=fun k v h=>by
  rcases Yt h with ⟨i,t,rfl,rfl⟩ | ⟨x,t,rfl,rfl⟩<;>rfl
 pyHash:=fun hv h=>by
  rcases Yt hv with ⟨i,t,rfl,rfl⟩ | ⟨x,t,rfl,rfl⟩
  ·exact wpAny_pyHash_int h
  ·exact wpAny_pyHash_str h
 eqBool:=fun hu hv h=>by
  rcases Yt hu with ⟨i,t,rfl,rfl⟩ | ⟨x,t,rfl,rfl⟩
  ·rcases Yt hv with ⟨j,u,rfl,rfl⟩ | ⟨y,u,rfl,rfl⟩
   ·rw [Xql] at h;exact wpAny_eqBool_int h
   ·rw [Xqi] at h;exact SeqAt.EqAt.int_str i t y u _ _ _ _ h
  ·rcases Yt hv with ⟨j,u,rfl,rfl⟩ | ⟨y,u,rfl,rfl⟩
   ·rw [Xmz] at h;exact SeqAt.EqAt.str_int x t j u _ _ _ _ h
   ·rw [Xqh] at h;exact wpAny_eqBool_str h
 «strs»:=fun k x t v h=>by
  rcases Yt h with ⟨i,u,rfl,e⟩ | ⟨y,u,rfl,e⟩
  ·exact nomatch e
  ·injection e with e1 _
   subst e1
   cases v<;>rfl
set_option genInjectivity true in
inductive V where
 | non | bl (b:Bool) | int (i:Int) | str (x:Str) | byt (b:Array UInt8) | flt (b:UInt64) | ref (a:Addr) | ty (n:String)
 deriving DecidableEq
noncomputable def RelV:V→Value→Prop
 | .non,u=>u=Value.none
 | .bl b,u=>u=Value.bool b
 | .int i,u=>∃t,u=Value.int i t
 | .str x,u=>∃t,u=Value.str x t
 | .byt b,u=>∃t,u=Value.bytes b t
 | .flt b,u=>∃t,u=Value.float b t
 | .ref a,u=>u=Value.ref a
 | .ty n,u=>u=Value.type n
noncomputable abbrev Yw:List V→List Value→Prop:=Paired RelV
theorem Yw.length {xs:List V}{us:List Value}(r:Yw xs us):xs.length=us.length:=Paired.length r
theorem Yw.get:∀{xs:List V} {us:List Value} {i:Nat} {x:V},Yw xs us→xs[i]?=some x→∃u,us[i]?=some u∧RelV x u
 | _,_,_,_,.nil,e=>by simp at e
 | _,_,0,_,.cons r _,e=>by simp at e;subst e;exact ⟨_,rfl,r⟩
 | _,_,i+1,x,.cons _ t,e=>by
  obtain ⟨u,h1,h2⟩:=Yw.get (i:=i) (x:=x) t (by simpa using e)
  exact ⟨u,by simpa using h1,h2⟩
theorem Yw.set {x:V}{u:Value}(r:RelV x u):∀{xs:List V} {us:List Value} (i:Nat),Yw xs us→Yw (xs.set i x) (us.set i u)
 | _,_,_,.nil=>.nil
 | _,_,0,.cons _ t=>.cons r t
 | _,_,i+1,.cons q t=>.cons q (Yw.set r i t)
theorem Yw.append:∀{xs ys:List V} {us ws:List Value},Yw xs us→Yw ys ws→Yw (xs++ys) (us++ws)
 | _,_,_,_,.nil,s=>s
 | _,_,_,_,.cons r t,s=>.cons r (Yw.append t s)
theorem Yw.take:∀{xs:List V} {us:List Value} (n:Nat),Yw xs us→Yw (xs.take n) (us.take n)
 | _,_,0,_=>.nil
 | _,_,_+1,.nil=>.nil
 | _,_,n+1,.cons r t=>.cons r (Yw.take n t)
theorem Yw.drop:∀{xs:List V} {us:List Value} (n:Nat),Yw xs us→Yw (xs.drop n) (us.drop n)
 | _,_,0,r=>r
 | _,_,_+1,.nil=>.nil
 | _,_,n+1,.cons _ t=>Yw.drop n t
noncomputable def RelO:Option V→Option Value→Prop
 | some v,some u=>RelV v u
 | none,none=>True
 | _,_=>False
def KV {κ:Type}:List (κ×V)→List (κ×Value)→Prop:=Paired fun (p:κ×V) (q:κ×Value)=>p.1=q.1∧RelV p.2 q.2
noncomputable def kV:Key→V
 | .inl i=>.int i
 | .inr x=>.str x
inductive HO where
 | lst (xs:List V)
 | tup (xs:List V)
 | dK (kvs:List (Key×V)) | dT (kvs:List (List Key×V))
 | set (S:Int→Bool) (n:Nat)
 | ins (C dx:Addr) (fs:List (Str×V))
 | own (x:Addr)
 | xd (fs:List (Str×V))
 | met (f x:Addr)
 | rng (lo hi:Int)
 | frz (o:Obj) (u:HO)
 | tbl (pos:Pos) (qual:Str)
 | ext (φ:Heap→Prop)
noncomputable abbrev Hp:=Addr→Option HO
noncomputable def upd (H:Hp)(a:Addr)(o:HO):Hp:=fun b=>if b=a then some o else H b
theorem Yb {H:Hp}{a:Addr}{o:HO}:upd H a o a=some o:=by unfold upd;rw [if_pos rfl]
theorem Xw {H:Hp}{a b:Addr}{o:HO}(h:b≠a):upd H a o b=H b:=by unfold upd;rw [if_neg h]
theorem Xn {H:Hp}{a b:Addr}{o:HO}(h:H a=some o)(h':H b=none):a≠b:=by
 intro e;subst e;rw [h] at h';cases h'
section
variable (P:Program)(w:World)
noncomputable def Zbx (H:Hp)(h:Heap)(a:Addr):HO→Prop
 | .lst xs=>xs.length≤sizeLine∧∃(its:List Value) (n:Nat),Yw xs its∧h.get? a=some {cls:=.type "list",data:=.seq its.toArray n}
 | .tup xs=>xs.length≤sizeLine∧∃its:List Value,Yw xs its∧IsTup h a its.toArray
 | .dK kvs=>kvs.length≤sizeLine∧(a==sysModules)=false∧∃vs,KV kvs vs∧h.DictOf (Zxe P w) a vs
 | .dT kvs=>kvs.length≤sizeLine∧(a==sysModules)=false∧∃xs:List (List Key×Addr×Value),
   Paired (fun (p:List Key×V) (q:List Key×Addr×Value)=>p.1=q.1∧H q.2.1=some (.tup (p.1.map kV))∧RelV p.2 q.2.2) kvs xs∧
   ∃o es ep,h.get? a=some o∧o.ExactDict∧o.data=.dict es ep∧es.toList=xs.map (entryOfKey (tupleKind (Zxe P w)))∧(xs.map (·.1)).Nodup
 | .set S n=>h.SetOf (intKind P w) a S n
 | .ins C dx fs=>H dx=some (.own a)∧fs.length≤1000∧dx≠a∧h.get? a=some (PySem.W.instObj C dx)∧
   ∃mA,h.Ns1 dx mA∧(∀f,RelO (fs.lookup f) (mA f))∧PySem.Within mA (fs.map (·.1))
 | .own _=>∃o,h.get? a=some o
 | .xd fs=>∃mA,h.Ns1 a mA∧∀f,RelO (fs.lookup f) (mA f)
 | .rng lo hi=>∃t u v,h.get? a=some {cls:=.type "range",data:=.fields #[.int lo t,.int hi u,.int 1 v]}
 | .frz o u=>h.get? a=some o∧Zbx H h a u
 | .tbl pos qual=>∃ps,h.get? a=some {cls:=.none,data:=.fields ps}∧TriplesOk ps.toList∧∀v,codeAmong pos ps.toList=some v→∃c o vs t,v=.ref c∧H c=some (.frz o (.own 0))∧o.data=.fields vs∧vs[1]?=some (.str qual t)
 | .met f x=>h.get? a=some (methodObj (.ref f) (.ref x))
 | .ext φ=>φ h∧(∃o,h.get? a=some o)∧∀h1 h2:Heap,φ h1→(∀o,h1.get? a=some o→h2.get? a=some o)→φ h2
def HOk (H:Hp)(h:Heap):Prop:=∀a o,H a=some o→Zbx P w H h a o
end
section
variable {P:Program}{w:World}{H H':Hp}{h h':Heap}{a:Addr}{o:HO}
theorem Zbx.lt (x:Zbx P w H h a o):a<h.objs.size:=by
 cases o with
 | lst xs=>obtain ⟨_,_,_,_,e⟩:=x;exact lt_size e
 | tup xs=>obtain ⟨_,_,_,p⟩:=x;exact p.lt
 | dK kvs=>obtain ⟨_,_,_,_,o,_,_,e,_⟩:=x;exact lt_size e
 | dT kvs=>obtain ⟨_,_,_,_,o,_,_,e,_⟩:=x;exact lt_size e
 | set S n=>obtain ⟨o,_,_,_,e,_⟩:=x;exact lt_size e
 | ins C dx fs=>obtain ⟨_,_,_,e,_⟩:=x;exact lt_size e
 | own y=>obtain ⟨_,e⟩:=x;exact lt_size e
 | xd fs=>obtain ⟨_,⟨_,_,_,e,_⟩,_⟩:=x;exact lt_size e
 | rng lo hi=>obtain ⟨_,_,_,e⟩:=x;exact lt_size e
 | frz ob u=>obtain ⟨e,_⟩:=x;exact lt_size e
 | tbl pos qual=>obtain ⟨_,e,_⟩:=x;exact lt_size e
 | met f y=>exact lt_size (show h.get? a=some _ from x)
 | ext φ=>obtain ⟨_,⟨_,e⟩,_⟩:=x;exact lt_size e
theorem Paired.mapP {α β:Type}{F G:α→β→Prop}:∀{l₁:List α} {l₂:List β},Paired F l₁ l₂→(∀a b,F a b→G a b)→Paired G l₁ l₂
 | _,_,.nil,_=>.nil
 | _,_,.cons r t,f=>.cons (f _ _ r) (Paired.mapP t f)
theorem Zbx.stay (x:Zbx P w H h a o)(k:∀b u,(b=a∨H b=some (.own a))→h.get? b=some u→h'.get? b=some u)
  (ho:∀b,H b=some (.own a)→H' b=some (.own a)) (ht:∀b xs,H b=some (.tup xs)→H' b=some (.tup xs)) (hf:∀b o u,H b=some (.frz o u)→H' b=some (.frz o u)):Zbx P w H' h' a o:=by
 induction o with
 | lst xs=>obtain ⟨z,its,n,r,e⟩:=x;exact ⟨z,its,n,r,k _ _ (.inl rfl) e⟩
 | tup xs=>obtain ⟨z,its,r,ob,e,c⟩:=x;exact ⟨z,its,r,ob,k _ _ (.inl rfl) e,c⟩
 | dK kvs=>obtain ⟨z,y,vs,r,ob,es,ep,e,c⟩:=x;exact ⟨z,y,vs,r,ob,es,ep,k _ _ (.inl rfl) e,c⟩
 | dT kvs =>
  obtain ⟨z,y,xs,r,ob,es,ep,e,c⟩:=x
  exact ⟨z,y,xs,Paired.mapP r fun p q z=>⟨z.1,ht _ _ z.2.1,z.2.2⟩,ob,es,ep,k _ _ (.inl rfl) e,c⟩
 | set S n=>obtain ⟨ob,es,ep,t,e,c⟩:=x;exact ⟨ob,es,ep,t,k _ _ (.inl rfl) e,c⟩
 | ins C dx fs =>
  obtain ⟨d,z,ne,e,mA,⟨od,es,ep,e2,c⟩,r⟩:=x
  exact ⟨ho _ d,z,ne,k _ _ (.inl rfl) e,mA,⟨od,es,ep,k _ _ (.inr d) e2,c⟩,r⟩
 | own y=>obtain ⟨ob,e⟩:=x;exact ⟨ob,k _ _ (.inl rfl) e⟩
 | xd fs=>obtain ⟨mA,⟨od,es,ep,e,c⟩,r⟩:=x;exact ⟨mA,⟨od,es,ep,k _ _ (.inl rfl) e,c⟩,r⟩
 | rng lo hi=>obtain ⟨t,u,v,e⟩:=x;exact ⟨t,u,v,k _ _ (.inl rfl) e⟩
 | frz ob u ih=>obtain ⟨e,q⟩:=x;exact ⟨k _ _ (.inl rfl) e,ih q⟩
 | tbl pos qual =>
  obtain ⟨ps,e,tr,hc⟩:=x
  refine ⟨ps,k a _ (.inl rfl) e,tr,fun v hv=>?_⟩
  obtain ⟨c,o,vs,t,e1,e2,e3⟩:=hc v hv
  exact ⟨c,o,vs,t,e1,hf _ _ _ e2,e3⟩
 | met f y =>
  have e:h.get? a=some (methodObj (.ref f) (.ref y)):=x
  show h'.get? a=some (methodObj (.ref f) (.ref y))
  exact k a _ (.inl rfl) e
 | ext φ=>obtain ⟨p,⟨o,e⟩,st⟩:=x;exact ⟨st _ _ p fun o q=>k _ _ (.inl rfl) q,⟨o,k _ _ (.inl rfl) e⟩,st⟩
theorem HOk.lt (x:HOk P w H h)(e:H a=some o):a<h.objs.size:=(x a o e).lt
theorem HOk.fresh (x:HOk P w H h)(e:h.objs.size≤a):H a=none:=by
 cases q:H a with
 | none=>rfl
 | some u=>exact absurd (lt_of_lt_of_le (x.lt q) e) (lt_irrefl _)
theorem HOk.kept (x:HOk P w H h)(k:∀b u,h.get? b=some u→h'.get? b=some u):HOk P w H h':=fun a o e =>
 (x a o e).stay (fun b u _ q=>k b u q) (fun _ q=>q) (fun _ _ q=>q) fun _ _ _ q=>q
theorem HOk.laid (x:HOk P w H h)(k:∀b u,h.get? b=some u→h'.get? b=some u)(hp:h.objs.size≤a)(new:Zbx P w (upd H a o) h' a o):HOk P w (upd H a o) h':=fun b u e=>by
 have hn:=x.fresh hp
 by_cases hb:b=a
 ·subst hb;rw [Yb] at e;cases e;exact new
 ·rw [Xw hb] at e
  exact (x b u e).stay (fun c v _ q=>k c v q) (fun c q=>by rw [Xw (Xn q hn)];exact q) (fun c xs q=>by rw [Xw (Xn q hn)];exact q) fun c ob u q=>by rw [Xw (Xn q hn)];exact q
end
def Rd (H:Hp)(a:Addr)(u:HO):Prop:=H a=some u∨∃o,H a=some (.frz o u)
theorem Rd.ok {P:Program}{w:World}{H:Hp}{h:Heap}{a:Addr}{u:HO}(r:Rd H a u)(x:HOk P w H h):Zbx P w H h a u:=by
 rcases r with r | ⟨o,r⟩
 ·exact x a u r
 ·obtain ⟨_,q⟩:=x a _ r
  exact q
noncomputable def Mut:Option HO→Prop
 | some (.lst _)=>True
 | some (.dK _)=>True
 | some (.dT _)=>True
 | some (.set _ _)=>True
 | some (.ins _ _ _)=>True
 | some (.ext _)=>True
 | _=>False
section
variable {P:Program}{w:World}{H:Hp}{h h':Heap}{x e:Addr}{o':HO}
theorem HOk.write (ok:HOk P w H h)(mu:Mut (H x))(he:e=x∨H e=some (.own x))(k:∀b u,b≠e→h.get? b=some u→h'.get? b=some u)(heo:∃u,h'.get? e=some u)
  (new:Zbx P w (upd H x o') h' x o'):HOk P w (upd H x o') h':=fun b u q=>by
 have nown:∀c y,H c=some (.own y)→c≠x:=fun c y r z=>by subst z;rw [r] at mu;exact mu
 have ntup:∀c xs,H c=some (.tup xs)→c≠x:=fun c xs r z=>by subst z;rw [r] at mu;exact mu
 have nfrz:∀c ob u,H c=some (.frz ob u)→c≠x:=fun c ob u r z=>by subst z;rw [r] at mu;exact mu
 by_cases hb:b=x
 ·subst hb;rw [Yb] at q;cases q;exact new
 ·rw [Xw hb] at q
  by_cases hbe:b=e
  ·have q':H b=some (.own x):=by
    rcases he with z | z
    ·exact absurd (hbe.trans z) hb
    ·rw [hbe];exact z
   rw [q] at q';cases q'
   obtain ⟨v,hv⟩:=heo
   exact ⟨v,by rw [hbe];exact hv⟩
  ·refine (ok b u q).stay (fun c v hc r=>k c v ?_ r) (fun c r=>by rw [Xw (nown c b r)];exact r) (fun c xs r=>by rw [Xw (ntup c xs r)];exact r) fun c ob u r=>by rw [Xw (nfrz c ob u r)];exact r
   rcases hc with rfl | hc
   ·exact hbe
   ·rintro rfl
    rcases he with z | z
    ·exact nown c b hc z
    ·rw [hc] at z;cases z;exact hb rfl
end
structure Un (fs ex:List Addr)(H H':Hp)(h h':Heap):Prop where
 keep:∀b o,h.get? b=some o→H b=none→b∉fs→b∉ex→h'.get? b=some o
 slot:∀b o,h.get? b=some o→H b=none→b∈fs→b∉ex→∃sl,h'.get? b=some {o with slots:=sl}
 free:∀b o,h.get? b=some o→H b=none→b∉ex→H' b=none
 there:∀b o,h.get? b=some o→b∉ex→∃o',h'.get? b=some o'
 tups:∀b xs,H b=some (.tup xs)→H' b=some (.tup xs)
 frzs:∀b o u,H b=some (.frz o u)→H' b=some (.frz o u)
 tbls:∀b p q,H b=some (.tbl p q)→H' b=some (.tbl p q)
section
variable {fs fs' ex ex':List Addr}{H H1 H2:Hp}{h h1 h2 h':Heap}{a x e:Addr}{o:HO}
theorem Un.any (u:Un fs ex H H1 h h1){b:Addr}{ob:Obj}(q:h.get? b=some ob)(n:H b=none)(hx:b∉ex):∃sl,h1.get? b=some {ob with slots:=sl}:=by
 by_cases hb:b∈fs
 ·exact u.slot b ob q n hb hx
 ·exact ⟨ob.slots,u.keep b ob q n hb hx⟩
theorem Un.kept (k:∀b u,h.get? b=some u→h'.get? b=some u):Un fs ex H H h h':=
 ⟨fun b ob q _ _ _=>k b ob q,fun b ob q _ _ _=>⟨ob.slots,k b ob q⟩,fun _ _ _ n _=>n,fun b ob q _=>⟨ob,k b ob q⟩,fun _ _ q=>q,fun _ _ _ q=>q,fun _ _ _ q=>q⟩
theorem Un.refl:Un fs ex H H h h:=Un.kept fun _ _ q=>q
theorem Un.laid (k:∀b u,h.get? b=some u→h'.get? b=some u)(hp:h.objs.size≤a)(hn:H a=none):Un fs ex H (upd H a o) h h' where
 keep:=fun b u q _ _ _=>k b u q
 slot:=fun b u q _ _ _=>⟨u.slots,k b u q⟩
 free:=fun b u q n _=>by rw [Xw (ne_of_lt (lt_of_lt_of_le (lt_size q) hp))];exact n
 there:=fun b u q _=>⟨u,k b u q⟩
 tups:=fun b xs q=>by rw [Xw (Xn q hn)];exact q
 frzs:=fun b u xs q=>by rw [Xw (Xn q hn)];exact q
 tbls:=fun b p n q=>by rw [Xw (Xn q hn)];exact q
theorem Un.write (mu:Mut (H x))(he:e=x∨H e=some (.own x))(k:∀b u,b≠e→h.get? b=some u→h'.get? b=some u)(heo:∃u,h'.get? e=some u):Un fs ex H (upd H x o) h h':=by
  have hx:∀b,H b=none→b≠x:=fun b n z=>by subst z;rw [n] at mu;exact mu
  have hb:∀b,H b=none→b≠e:=fun b n z=>by
    subst z
    rcases he with r | r
    · exact hx b n r
    · rw [n] at r;cases r
  have hm:∀b u,H b=some u→¬Mut (some u)→b≠x:=fun b u q nm z=>by subst z;rw [q] at mu;exact nm mu
  refine ⟨fun b u q n _ _=>k b u (hb b n) q,fun b u q n _ _=>⟨u.slots,k b u (hb b n) q⟩,fun b u q n _=>by rw [Xw (hx b n)];exact n,fun b u q _=>?_,
    fun b xs q=>by rw [Xw (hm b _ q fun z=>z)];exact q,fun b u xs q=>by rw [Xw (hm b _ q fun z=>z)];exact q,fun b p n q=>by rw [Xw (hm b _ q fun z=>z)];exact q⟩
  by_cases hbe:b=e
  · subst hbe;exact heo
  · exact ⟨u,k b u hbe q⟩
end
noncomputable def trk (h:Heap)(H:Hp):List Addr:=(List.range h.objs.size).filter fun a=>(H a).isSome
noncomputable def Zsd (h:Heap)(H:Hp):Heap:=hideAll h (trk h H)
theorem Zny (h:Heap)(H:Hp):(Zsd h H).objs.size=h.objs.size:=PySem.W.hideAll_size _ _
theorem Zqj {h:Heap}{H:Hp}{b:Addr}{o:Obj}(e:h.get? b=some o)(n:H b=none):(Zsd h H).get? b=some o:=
 PySem.W.hideAll_get _ e fun hm=>by
  have q:(H b).isSome=true:=(List.mem_filter.mp hm).2
  rw [n] at q;simp at q
theorem Zvq {h:Heap}{H:Hp}{b:Addr}{o:Obj}(e:(Zsd h H).get? b=some o):h.get? b=some o∧H b=none:=by
 have e':h.get? b=some o:=PySem.W.of_hideAll (trk h H) e
 refine ⟨e',?_⟩
 cases q:H b with
 | none=>rfl
 | some x =>
  have hm:b∈trk h H:=List.mem_filter.mpr ⟨List.mem_range.mpr (lt_size e'),by simp [q]⟩
  have z:(Zsd h H).get? b=none:=PySem.W.hideAll_none (trk h H) hm
  rw [z] at e;cases e
noncomputable def Xgw (g h:Heap)(L:Addr):List (Addr×Obj):=(List.range h.objs.size).filterMap fun a=>if a=L∨(g.get? a).isSome=true then none else (h.get? a).map fun o=>(a,o)
noncomputable def rest (g h:Heap)(L d:Addr):List (Addr×Obj):=(Xgw g h L).filter fun p=>decide (p.1≠d)
structure Mod (K:Frag)(mg:Str→Option Value)(base:Heap):Prop where
 kin:K.In base
 glob:base.Ns mainGlobals mg
 blt:∃mb,base.Ns builtinsNs mb∧∀x:Str,x≠"__name__"→mb x=bootBuiltins x
 nolimit:base.NoLimit
structure Cx where
 prog:Program
 w:World
 K:Frag
 mg:Str→Option Value
 base:Heap
 A:Around
 N:List Str
 s₀:Shared
 H₀:Hp
 env:Env
 outer:List Env
 stack:List Env
 ex:List Addr
 fn:Str→Bool
 calm:Bool
 pn:List (Addr×Obj)
 xe:Value→Shared→Prop
noncomputable def frs (l:List Env):List Addr:=l.filterMap (·.frame)
noncomputable abbrev Cx.fs (X:Cx):List Addr:=frs X.outer
def Vis (sc:Scope)(x:Str):Prop:=sc.names.lookup x=some .local∨sc.names.lookup x=some .cell∨sc.names.lookup x=some .free
def Loc (sc:Scope)(x:Str):Prop:=sc.names.lookup x=some .local∨sc.names.lookup x=some .cell
def Look (env:Env)(h:Heap)(m:Str→Option Value)(x:Str)(u:Value):Prop:=
 (env.kindOf x=some .local∧m x=some u)∨((env.kindOf x=some .cell∨env.kindOf x=some .free)∧∃c,env.cells.lookup x=some c∧h.IsCell c (some u))
structure Cx.Ok (X:Cx):Prop where
 mod:Mod X.K X.mg X.base
 kind:X.env.scope.kind=.function
 glob:X.env.globals=mainGlobals
 blt:X.env.builtins=builtinsNs
 above:X.s₀.heap.objs.size≤X.env.locals
 inj:∀x y c,X.env.cells.lookup x=some c→X.env.cells.lookup y=some c→x=y
 has:∀x,(X.env.kindOf x=some .cell∨X.env.kindOf x=some .free)→∃c,X.env.cells.lookup x=some c
 cab:∀x c,X.fn x=true→X.env.cells.lookup x=some c→X.s₀.heap.objs.size≤c
 hd:X.calm=true→X.A.handled=none
 frames:X.A.frames=some X.stack
 stk:X.stack=X.outer∨(X.stack=X.env::X.outer∧X.env.frame=some X.env.locals)
 exf:∀b∈X.ex,b≠X.env.locals∧∀x c,X.env.cells.lookup x=some c→c≠b
 bs:∀b o,X.base.get? b=some o→X.s₀.heap.get? b=some o∧X.H₀ b=none
 bsz:X.base.objs.size≤X.s₀.heap.objs.size
 noex:∀b o,X.base.get? b=some o→b∉X.ex
 exfs:∀b∈X.ex,b∉X.fs
 funs:X.s₀.heap.FunFrames X.base X.outer
 frf:∀b∈X.fs,X.H₀ b=none
structure Inv (X:Cx)(pins:List (Addr×Obj))(σ:List (Option V))(H:Hp)(s:Shared):Prop where
 ok:X.Ok
 os:s.os=X.s₀.os
 bare:AllBare s.gens
 base:Un X.fs X.ex X.H₀ H X.s₀.heap s.heap
 loc:∃m,s.heap.Ns X.env.locals m∧∀(i:Nat) (x:Str) (v:V),X.N[i]?=some x→σ[i]?=some (some v)→Vis X.env.scope x→∃u,RelV v u∧Look X.env s.heap m x u
 cell:∀x c,X.env.cells.lookup x=some c→∃v,s.heap.IsCell c v
 free:H X.env.locals=none
 freeC:∀x c,X.env.cells.lookup x=some c→H c=none
 pin:∀p∈X.pn++pins,s.heap.get? p.1=some p.2∧H p.1=none∧p.1≠X.env.locals∧p.1∉X.fs∧∀v,p.2.data≠.cell v
 hok:HOk X.prog X.w H s.heap
 len:σ.length=X.N.length
section
variable {X:Cx}{pins:List (Addr×Obj)}{σ:List (Option V)}{H H':Hp}{s:Shared}{h':Heap}
theorem Cx.Ok.nofr (ok:X.Ok){b:Addr}{o:Obj}(e:X.base.get? b=some o):b∉X.fs:=fun hb=>by
 have:=(ok.funs.mem hb).1
 rw [e] at this;cases this
theorem Inv.bs (I:Inv X pins σ H s):∀b o,X.base.get? b=some o→s.heap.get? b=some o∧H b=none:=fun b o e =>
 ⟨I.base.keep b o (I.ok.bs b o e).1 (I.ok.bs b o e).2 (I.ok.nofr e) (I.ok.noex b o e),I.base.free b o (I.ok.bs b o e).1 (I.ok.bs b o e).2 (I.ok.noex b o e)⟩
theorem Inv.bk (I:Inv X pins σ H s):∀b o,X.base.get? b=some o→s.heap.get? b=some o:=fun b o e=>(I.bs b o e).1
theorem Inv.mod (I:Inv X pins σ H s):Mod X.K X.mg X.base:=I.ok.mod
theorem Inv.kIn (I:Inv X pins σ H s):X.K.In s.heap:=I.ok.mod.kin.keeps I.bk
theorem Inv.nolimit (I:Inv X pins σ H s):s.heap.NoLimit:=I.ok.mod.nolimit.keeps I.bk
theorem Inv.lt (I:Inv X pins σ H s):X.env.locals<s.heap.objs.size:=let ⟨_,hn,_⟩:=I.loc;hn.lt
theorem Inv.sz (I:Inv X pins σ H s):X.s₀.heap.objs.size≤s.heap.objs.size:=le_trans I.ok.above (le_of_lt I.lt)
theorem Inv.nofs (I:Inv X pins σ H s){a:Addr}(h:s.heap.objs.size≤a):a∉X.fs:=fun hb=>by
 obtain ⟨_,o,ho,_⟩:=I.ok.funs.mem hb
 exact absurd (lt_of_lt_of_le (lt_size ho) (le_trans I.sz h)) (lt_irrefl _)
theorem Inv.cne (I:Inv X pins σ H s):∀x c,X.env.cells.lookup x=some c→c≠X.env.locals:=fun x c e z=>by
 obtain ⟨v,o,ho,hd⟩:=I.cell x c e
 obtain ⟨m,⟨o',es,ep,ho',hd',_⟩,_⟩:=I.loc
 rw [z,ho'] at ho;cases ho;rw [hd'] at hd;cases hd
theorem Inv.funs (I:Inv X pins σ H s):s.heap.FunFrames X.base X.outer:=by
 have all:∀(l:List Env),(∀b∈frs l,b∈X.fs)→X.s₀.heap.FunFrames X.base l→s.heap.FunFrames X.base l:=by
  intro l
  induction l with
  | nil=>intro _ _;trivial
  | cons env r ih =>
   intro hs hl
   obtain ⟨hk,⟨L,o,hf,hn,ho,hd⟩,hr⟩:=hl
   have hL:L∈X.fs:=hs L (by unfold frs;rw [List.filterMap_cons,hf];exact mem_cons_self)
   obtain ⟨sl,e⟩:=I.base.slot L o ho (I.ok.frf L hL) hL fun z=>I.ok.exfs L z hL
   exact ⟨hk,⟨L,_,hf,hn,e,hd⟩,ih (fun b hb=>hs b (by unfold frs;rw [List.filterMap_cons,hf];exact mem_cons_of_mem _ hb)) hr⟩
 exact all X.outer (fun _ hb=>hb) I.ok.funs
theorem Inv.stack (I:Inv X pins σ H s):s.heap.FunFrames X.base X.stack:=by
 rcases I.ok.stk with e | ⟨e,hf⟩
 ·rw [e];exact I.funs
 ·rw [e]
  obtain ⟨m,hn,_⟩:=I.loc
  refine .cons (by rw [I.ok.kind];decide) hf hn ?_ I.funs
  exact Heap.get?_none_of_le (le_trans I.ok.bsz I.ok.above)
theorem Inv.stkSub (I:Inv X pins σ H s):∀b∈frs X.stack,b∈X.env.locals::X.fs:=fun b hb=>by
 rcases I.ok.stk with e | ⟨e,hf⟩
 ·rw [e] at hb;exact mem_cons_of_mem _ hb
 ·rw [e] at hb
  unfold frs at hb
  rw [List.filterMap_cons,hf] at hb
  exact hb
theorem Inv.stkFree (I:Inv X pins σ H s):∀b∈frs X.stack,H b=none:=fun b hb=>by
 rcases List.mem_cons.mp (I.stkSub b hb) with e | hb
 ·rw [e];exact I.free
 ·obtain ⟨_,o,ho,_⟩:=I.ok.funs.mem hb
  exact I.base.free b o ho (I.ok.frf b hb) fun z=>I.ok.exfs b z hb
theorem Inv.step {g':Array GenState}{t':Nat}{d':Drawn}{ch:List Addr}(I:Inv X pins σ H s)
  (hch:∀b∈ch,(b∈X.ex∨X.s₀.heap.objs.size≤b)∧b≠X.env.locals∧(∀x c,X.env.cells.lookup x=some c→c≠b)∧∀p∈X.pn++pins,p.1≠b)
  (keep:∀b o,b≠X.env.locals→b∉X.fs→b∉ch→s.heap.get? b=some o→H b=none→h'.get? b=some o)
  (slot:∀b o,b≠X.env.locals→b∈X.fs→b∉ch→s.heap.get? b=some o→H b=none→∃sl,h'.get? b=some {o with slots:=sl}) (free:∀b o,b∉ch→s.heap.get? b=some o→H b=none→H' b=none)
  (there:∀b o,b∉ch→s.heap.get? b=some o→∃o',h'.get? b=some o')
  (tups:∀b xs,H b=some (.tup xs)→H' b=some (.tup xs)) (frzs:∀b o u,H b=some (.frz o u)→H' b=some (.frz o u)) (tbls:∀b p n,H b=some (.tbl p n)→H' b=some (.tbl p n))
  (ns:∀m,s.heap.Ns X.env.locals m→h'.Ns X.env.locals m) (hok:HOk X.prog X.w H' h') (hg:AllBare g') :
  Inv X pins σ H' {s with heap:=h',gens:=g',drawn:=d',toks:=t'}:=by
 have neL:∀b o,X.s₀.heap.get? b=some o→b≠X.env.locals:=fun b o e=>ne_of_lt (lt_of_lt_of_le (lt_size e) I.ok.above)
 have neC:∀b o,X.s₀.heap.get? b=some o→b∉X.ex→b∉ch:=fun b o e hx hb=>by
  rcases (hch b hb).1 with z | z
  ·exact hx z
  ·exact absurd (lt_of_lt_of_le (lt_size e) z) (lt_irrefl _)
 have cellK:∀x c,X.env.cells.lookup x=some c→∀v,s.heap.IsCell c v→h'.IsCell c v:=fun x c e v ⟨o,ho,hd⟩=>by
  have nch:c∉ch:=fun z=>(hch c z).2.2.1 x c e rfl
  by_cases hc:c∈X.fs
  ·obtain ⟨sl,q⟩:=slot c o (I.cne x c e) hc nch ho (I.freeC x c e)
   exact ⟨_,q,hd⟩
  ·exact ⟨o,keep c o (I.cne x c e) hc nch ho (I.freeC x c e),hd⟩
 refine ⟨I.ok,I.os,hg,⟨fun b o e n hb hx=>?_,fun b o e n hb hx=>?_,fun b o e n hx=>?_,fun b o e hx=>?_,fun b xs e=>tups b xs (I.base.tups b xs e),fun b o xs e=>frzs b o xs (I.base.frzs b o xs e),fun b p n e=>tbls b p n (I.base.tbls b p n e)⟩,?_,fun x c e=>?_,?_,fun x c e=>?_,fun p hp=>?_,hok,I.len⟩
 ·exact keep b o (neL b o e) hb (neC b o e hx) (I.base.keep b o e n hb hx) (I.base.free b o e n hx)
 ·obtain ⟨sl,e1⟩:=I.base.slot b o e n hb hx
  obtain ⟨sl',e2⟩:=slot b _ (neL b o e) hb (neC b o e hx) e1 (I.base.free b o e n hx)
  exact ⟨sl',e2⟩
 ·obtain ⟨o',e1⟩:=I.base.there b o e hx
  exact free b o' (neC b o e hx) e1 (I.base.free b o e n hx)
 ·obtain ⟨o',e1⟩:=I.base.there b o e hx
  exact there b o' (neC b o e hx) e1
 ·obtain ⟨m,hn,hl⟩:=I.loc
  refine ⟨m,ns m hn,fun i x v e1 e2 e3=>?_⟩
  obtain ⟨u,r,l⟩:=hl i x v e1 e2 e3
  refine ⟨u,r,?_⟩
  rcases l with l | ⟨k,c,e,z⟩
  ·exact .inl l
  ·exact .inr ⟨k,c,e,cellK x c e _ z⟩
 ·obtain ⟨v,z⟩:=I.cell x c e
  exact ⟨v,cellK x c e v z⟩
 ·obtain ⟨m,⟨o,_,_,ho,_⟩,_⟩:=I.loc
  exact free _ o (fun z=>(hch _ z).2.1 rfl) ho I.free
 ·obtain ⟨v,o,ho,hd⟩:=I.cell x c e
  exact free c o (fun z=>(hch c z).2.2.1 x c e rfl) ho (I.freeC x c e)
 ·obtain ⟨e,n,ne,nf,d⟩:=I.pin p hp
  have nch:p.1∉ch:=fun z=>(hch p.1 z).2.2.2 p hp rfl
  exact ⟨keep p.1 p.2 ne nf nch e n,free p.1 p.2 nch e n,ne,nf,d⟩
theorem Inv.un {t':Nat}(I:Inv X pins σ H s)(u:Un X.fs [] H H' s.heap h')(hok:HOk X.prog X.w H' h'):Inv X pins σ H' {s with heap:=h',toks:=t'}:=by
  obtain ⟨m,⟨o,es,ep,ho,r⟩,_⟩:=id I.loc
  obtain ⟨sl,hL⟩:=u.any ho I.free (by simp)
  exact I.step (g':=s.gens) (d':=s.drawn) (ch:=[]) (fun _ z=>nomatch z) (fun b o _ hb _ e n=>u.keep b o e n hb (by simp)) (fun b o _ hb _ e n=>u.slot b o e n hb (by simp)) (fun b o _ e n=>u.free b o e n (by simp)) (fun b o _ e=>u.there b o e (by simp)) u.tups u.frzs u.tbls (fun m' hm=>by
    obtain ⟨o',es',ep',ho',r'⟩:=hm
    rw [ho] at ho';cases ho'
    exact ⟨_,es',ep',hL,r'⟩) hok I.bare
theorem Inv.call {g':Array GenState}{t':Nat}{d':Drawn}{ch:List Addr}(I:Inv X pins σ H s)(u:Un (frs X.stack) ch H H' s.heap h')(hok:HOk X.prog X.w H' h')(hg:AllBare g')
    (hch:∀b∈ch,(b∈X.ex∨X.s₀.heap.objs.size≤b)∧b≠X.env.locals∧(∀x c,X.env.cells.lookup x=some c→c≠b)∧∀p∈X.pn++pins,p.1≠b) :
    Inv X pins σ H' {s with heap:=h',gens:=g',drawn:=d',toks:=t'}:=by
  obtain ⟨m,⟨o,es,ep,ho,r⟩,_⟩:=id I.loc
  obtain ⟨sl,hL⟩:=u.any ho I.free fun z=>(hch _ z).2.1 rfl
  exact I.step (ch:=ch) hch (fun b o hL hb hc e n=>u.keep b o e n (fun z=>(List.mem_cons.mp (I.stkSub b z)).elim hL hb) hc) (fun b o _ _ hc e n=>u.any e n hc) (fun b o hc e n=>u.free b o e n hc) (fun b o hc e=>u.there b o e hc) u.tups u.frzs u.tbls (fun m' hm=>by
    obtain ⟨o',es',ep',ho',r'⟩:=hm
    rw [ho] at ho';cases ho'
    exact ⟨_,es',ep',hL,r'⟩) hok hg
theorem Inv.turned {t':Nat}{it:Addr}(I:Inv X pins σ H s)(k:∀b o,b≠it→s.heap.get? b=some o→h'.get? b=some o)(hn:H it=none)(hL:it≠X.env.locals)
  (h1:it∈X.ex∨X.s₀.heap.objs.size≤it) (h2:∀x c,X.env.cells.lookup x=some c→c≠it) (h3:∀p∈X.pn++pins,p.1≠it):Inv X pins σ H {s with heap:=h',toks:=t'}:=by
 have nit:∀b u,H b=some u→b≠it:=fun b u e z=>by rw [z,hn] at e;cases e
 refine I.step (g':=s.gens) (d':=s.drawn) (ch:=[it]) (fun b hb=>?_) (fun b o _ _ hc e _=>k b o (fun z=>hc (by simp [z])) e) (fun b o _ _ hc e _=>⟨o.slots,k b o (fun z=>hc (by simp [z])) e⟩) (fun _ _ _ _ n=>n)
  (fun b o hc e=>⟨o,k b o (fun z=>hc (by simp [z])) e⟩) (fun _ _ e=>e) (fun _ _ _ e=>e) (fun _ _ _ e=>e) (fun m hm=>?_) (fun b u e=>?_) I.bare
 ·have e:b=it:=by simpa using hb
  subst e
  exact ⟨h1,hL,h2,h3⟩
 ·obtain ⟨o,es,ep,ho,r⟩:=hm
  exact ⟨o,es,ep,k _ o (Ne.symm hL) ho,r⟩
 ·refine (I.hok b u e).stay (fun c v hc q=>k c v ?_ q) (fun _ q=>q) (fun _ _ q=>q) fun _ _ _ q=>q
  rcases hc with z | z
  ·rw [z];exact nit b u e
  ·exact nit c _ z
theorem Inv.tok (I:Inv X pins σ H s)(t:Nat):Inv X pins σ H {s with toks:=t}:=I.un (h':=s.heap) (t':=t) Un.refl I.hok
theorem Inv.kept {t':Nat}(I:Inv X pins σ H s)(k:∀b u,s.heap.get? b=some u→h'.get? b=some u):Inv X pins σ H {s with heap:=h',toks:=t'}:=I.un (Un.kept k) (I.hok.kept k)
theorem Inv.laid {a:Addr}{o:HO}{t':Nat}(I:Inv X pins σ H s)(k:∀b u,s.heap.get? b=some u→h'.get? b=some u)(hp:s.heap.objs.size≤a)(new:Zbx X.prog X.w (upd H a o) h' a o) :
  Inv X pins σ (upd H a o) {s with heap:=h',toks:=t'}:=I.un (Un.laid k hp (I.hok.fresh hp)) (I.hok.laid k hp new)
theorem Inv.write {x e:Addr}{o:HO}{t':Nat}(I:Inv X pins σ H s)(mu:Mut (H x))(he:e=x∨H e=some (.own x))(k:∀b u,b≠e→s.heap.get? b=some u→h'.get? b=some u)(heo:∃u,h'.get? e=some u)
  (new:Zbx X.prog X.w (upd H x o) h' x o):Inv X pins σ (upd H x o) {s with heap:=h',toks:=t'}:=I.un (Un.write mu he k heo) (I.hok.write mu he k heo new)
theorem Inv.pins_of {pins':List (Addr×Obj)}(I:Inv X pins σ H s)(h:∀p∈pins',s.heap.get? p.1=some p.2∧H p.1=none∧p.1≠X.env.locals∧p.1∉X.fs∧∀v,p.2.data≠.cell v):Inv X pins' σ H s:=
 ⟨I.ok,I.os,I.bare,I.base,I.loc,I.cell,I.free,I.freeC,fun p hp=>(List.mem_append.mp hp).elim (fun z=>I.pin p (mem_append_left _ z)) (h p),I.hok,I.len⟩
theorem Zqr {N:List Str}(hN:N.Nodup){i j:Nat}{x:Str}(a:N[i]?=some x)(b:N[j]?=some x):i=j:=by
 obtain ⟨h1,e1⟩:=List.getElem?_eq_some_iff.mp a
 obtain ⟨h2,e2⟩:=List.getElem?_eq_some_iff.mp b
 exact (List.getElem_inj hN).mp (e1.trans e2.symm)
theorem Znx {M:Model}{A:Around}{E:Value→Shared→Prop}{i:Nat}{x:Str}{v:V}{u:Value}{Q:Unit→Shared→Prop}(I:Inv X pins σ H s)(hN:X.N.Nodup)(hi:X.N[i]?=some x)(hx:Loc X.env.scope x)(r:RelV v u)
  (h:∀s',Inv X pins (σ.set i (some v)) H s'→(∃a,Heap.SameBut a s.heap s'.heap∧(a=X.env.locals∨X.env.cells.lookup x=some a))→Q () s') (hf:autoParam (X.fn x=true∨X.env.scope.names.lookup x=some .local) aT0._auto_1):wpAny M A (storeName X.env x u) Q E s:=by
 obtain ⟨m,hn,hl⟩:=id I.loc
 have hcls:(X.env.scope.kind==.class||(X.env.scope.kind==.module&&X.env.locals != X.env.globals))=false:=by rw [I.ok.kind];rfl
 have hiσ:i<σ.length:=by rw [I.len];exact (List.getElem?_eq_some_iff.mp hi).1
 have cne:=I.cne
 have tracked:∀{a:Addr} {h':Heap},(∃o,s.heap.get? a=some o∧H a=none)→Heap.SameBut a s.heap h'→HOk X.prog X.w H h':=fun {a h'} ha hs b ob e=>by
  obtain ⟨_,_,hfree⟩:=ha
  refine (I.hok b ob e).stay (fun c w' hc q=>(hs.2 c ?_).trans q) (fun _ q=>q) (fun _ _ q=>q) fun _ _ _ q=>q
  rintro rfl
  rcases hc with rfl | hc
  ·rw [hfree] at e;cases e
  ·rw [hfree] at hc;cases hc
 rcases hx with hk | hk
 ·refine wpAny_storeName_local hk hn (fun h' hn' hs=>?_) hcls
  obtain ⟨oL,_,_,hoL,_⟩:=id hn
  refine h _ ⟨I.ok,I.os,I.bare,⟨fun b o e n hb hx=>?_,fun b o e n hb hx=>?_,I.base.free,fun b o e hx=>?_,I.base.tups,I.base.frzs,I.base.tbls⟩,⟨_,hn',fun j y v' e1 e2 e3=>?_⟩,fun y c e=>?_,I.free,I.freeC,fun p hp=>?_,tracked ⟨oL,hoL,I.free⟩ hs,by simpa using I.len⟩ ⟨_,hs,.inl rfl⟩
  ·exact (hs.2 b (ne_of_lt (lt_of_lt_of_le (lt_size e) I.ok.above))).trans (I.base.keep b o e n hb hx)
  ·obtain ⟨sl,e1⟩:=I.base.slot b o e n hb hx
   exact ⟨sl,(hs.2 b (ne_of_lt (lt_of_lt_of_le (lt_size e) I.ok.above))).trans e1⟩
  ·obtain ⟨o',e1⟩:=I.base.there b o e hx
   exact ⟨o',(hs.2 b (ne_of_lt (lt_of_lt_of_le (lt_size e) I.ok.above))).trans e1⟩
  ·by_cases hj:j=i
   ·subst hj
    rw [hi] at e1;cases e1
    rw [getElem?_set_self hiσ] at e2
    cases e2
    exact ⟨u,r,.inl ⟨hk,by simp⟩⟩
   ·rw [getElem?_set_ne (Ne.symm hj)] at e2
    obtain ⟨u',r',q⟩:=hl j y v' e1 e2 e3
    refine ⟨u',r',?_⟩
    rcases q with ⟨k,e⟩ | ⟨k,c,e,z⟩
    ·refine .inl ⟨k,?_⟩
     have:y≠x:=fun e=>hj (Zqr hN e1 (e▸hi))
     simp [this,e]
    ·exact .inr ⟨k,c,e,z.sameBut hs (cne y c e)⟩
  ·obtain ⟨w',z⟩:=I.cell y c e
   exact ⟨w',z.sameBut hs (cne y c e)⟩
  ·obtain ⟨e,n,ne,nf,d⟩:=I.pin p hp
   exact ⟨(hs.2 p.1 ne).trans e,n,ne,nf,d⟩
 ·have hfn:X.fn x=true:=by
   rcases hf with z | z
   ·exact z
   ·rw [z] at hk;cases hk
  obtain ⟨c,hc⟩:=I.ok.has x (.inl hk)
  obtain ⟨w',z⟩:=I.cell x c hc
  refine wpAny_storeName_cell I.ok.kind hk hc z (fun h' hc' hs=>?_)
  obtain ⟨oc,hoc,hocd⟩:=id z
  refine h {s with heap:=h'} ⟨I.ok,I.os,I.bare,⟨fun b o e n hb hx=>?_,fun b o e n hb hx=>?_,I.base.free,fun b o e hx=>?_,I.base.tups,I.base.frzs,I.base.tbls⟩,⟨m,hn.sameBut hs (Ne.symm (cne x c hc)),fun j y v' e1 e2 e3=>?_⟩,fun y c' e=>?_,I.free,I.freeC,fun p hp=>?_,tracked ⟨oc,hoc,I.freeC x c hc⟩ hs,by simpa using I.len⟩ ⟨c,hs,.inr hc⟩
  ·exact (hs.2 b (ne_of_lt (lt_of_lt_of_le (lt_size e) (I.ok.cab x c hfn hc)))).trans (I.base.keep b o e n hb hx)
  ·obtain ⟨sl,e1⟩:=I.base.slot b o e n hb hx
   exact ⟨sl,(hs.2 b (ne_of_lt (lt_of_lt_of_le (lt_size e) (I.ok.cab x c hfn hc)))).trans e1⟩
  ·obtain ⟨o',e1⟩:=I.base.there b o e hx
   exact ⟨o',(hs.2 b (ne_of_lt (lt_of_lt_of_le (lt_size e) (I.ok.cab x c hfn hc)))).trans e1⟩
  ·by_cases hj:j=i
   ·subst hj
    rw [hi] at e1;cases e1
    rw [getElem?_set_self hiσ] at e2
    cases e2
    exact ⟨u,r,.inr ⟨.inl hk,c,hc,hc'⟩⟩
   ·rw [getElem?_set_ne (Ne.symm hj)] at e2
    obtain ⟨u',r',q⟩:=hl j y v' e1 e2 e3
    refine ⟨u',r',?_⟩
    rcases q with q | ⟨k,c',e,z'⟩
    ·exact .inl q
    ·refine .inr ⟨k,c',e,z'.sameBut hs ?_⟩
     rintro rfl
     exact hj (Zqr hN e1 (I.ok.inj _ _ _ e hc▸hi))
  ·by_cases hcc:c'=c
   ·subst hcc;exact ⟨_,hc'⟩
   ·obtain ⟨w2,z2⟩:=I.cell y c' e
    exact ⟨w2,z2.sameBut hs hcc⟩
  ·obtain ⟨e,n,ne,nf,d⟩:=I.pin p hp
   refine ⟨(hs.2 p.1 ?_).trans e,n,ne,nf,d⟩
   intro q
   rw [q,hoc] at e
   have q':oc=p.2:=Option.some.inj e
   exact d w' (by rw [← q'];exact hocd)
theorem Zkq {M:Model}{A:Around}{E:Value→Shared→Prop}{i:Nat}{x:Str}{v:V}{u:Value}{Q:Unit→Shared→Prop}(I:Inv X pins σ H s)(hN:X.N.Nodup)(hi:X.N[i]?=some x)(hx:Loc X.env.scope x)(r:RelV v u)
  (h:∀s',Inv X pins (σ.set i (some v)) H s'→Q () s') (hf:autoParam (X.fn x=true∨X.env.scope.names.lookup x=some .local) aT0._auto_1):wpAny M A (storeName X.env x u) Q E s:=
 Znx I hN hi hx r (fun s' I' _=>h s' I') hf
theorem Inv.call' {s':Shared}{ch:List Addr}(I:Inv X pins σ H s)(ho:s'.os=s.os)(u:Un (frs X.stack) ch H H' s.heap s'.heap)(hok:HOk X.prog X.w H' s'.heap)(hg:AllBare s'.gens)
  (hch:∀b∈ch,(b∈X.ex∨X.s₀.heap.objs.size≤b)∧b≠X.env.locals∧(∀x c,X.env.cells.lookup x=some c→c≠b)∧∀p∈X.pn++pins,p.1≠b):Inv X pins σ H' s':=by
 obtain ⟨h',g',d',t',o'⟩:=s'
 have e:o'=s.os:=ho
 subst e
 exact I.call (g':=g') (t':=t') (d':=d') u hok hg hch
end
noncomputable abbrev XK:=Value→Option Addr→Hp→Prop
noncomputable abbrev St:=List (Option V)
noncomputable abbrev VK:=V→Hp→Prop
noncomputable abbrev TE:=St→Hp→VK→Prop
noncomputable abbrev TT:=St→Hp→(Bool→Hp→Prop)→Prop
noncomputable abbrev TA:=St→Hp→(List V→Hp→Prop)→Prop
structure Ends where
 nx:St→Hp→Prop
 rt:VK
 bk:St→Hp→Prop:=fun _ _=>False
 ct:St→Hp→Prop:=fun _ _=>False
noncomputable abbrev TS:=Ends→St→Hp→Prop
def EP (X:Cx)(pins:List (Addr×Obj))(σ:St)(Q:VK)(u:Value)(s':Shared):Prop:=∃v H',Inv X pins σ H' s'∧RelV v u∧Q v H'
def TP (X:Cx)(pins:List (Addr×Obj))(σ:St)(Q:Bool→Hp→Prop)(b:Bool)(s':Shared):Prop:=∃H',Inv X pins σ H' s'∧Q b H'
def AP (X:Cx)(pins:List (Addr×Obj))(σ:St)(Q:List V→Hp→Prop)(us:List Value)(s':Shared):Prop:=∃vs H',Inv X pins σ H' s'∧Yw vs us∧Q vs H'
def SP (X:Cx)(pins:List (Addr×Obj))(D:Ends)(f:Flow)(s':Shared):Prop:=
 match f with
 | .next=>∃σ' H',Inv X pins σ' H' s'∧D.nx σ' H'
 | .brk=>∃σ' H',Inv X pins σ' H' s'∧D.bk σ' H'
 | .cont=>∃σ' H',Inv X pins σ' H' s'∧D.ct σ' H'
 | .ret u=>∃v σ' H',Inv X pins σ' H' s'∧RelV v u∧D.rt v H'
def PE (X:Cx)(e:Expr)(t:TE):Prop:=
 ∀(pins:List (Addr×Obj)) (s:Shared) (σ:St) (H:Hp) (Q:VK),Inv X pins σ H s→t σ H Q→wpAny (model X.prog X.w) X.A (eval e X.env) (EP X pins σ Q) X.xe s
def PT (X:Cx)(e:Expr)(t:TT):Prop:=
 ∀(pins:List (Addr×Obj)) (s:Shared) (σ:St) (H:Hp) (Q:Bool→Hp→Prop),Inv X pins σ H s→t σ H Q→wpAny (model X.prog X.w) X.A (isTrue e X.env (eval e X.env)) (TP X pins σ Q) X.xe s
def PW (X:Cx)(e:Expr)(t:TT):Prop:=
 ∀(whole:Sem Value) (pins:List (Addr×Obj)) (s:Shared) (σ:St) (H:Hp) (Q:Bool→Hp→Prop),Inv X pins σ H s→t σ H Q→wpAny (model X.prog X.w) X.A (isTrue e X.env whole) (TP X pins σ Q) X.xe s
theorem PW.pt {X:Cx}{e:Expr}{t:TT}(h:PW X e t):PT X e t:=h _
def PA (X:Cx)(es:List Expr)(t:TA):Prop:=
 ∀(pos:Pos) (pins:List (Addr×Obj)) (s:Shared) (σ:St) (H:Hp) (Q:List V→Hp→Prop),Inv X pins σ H s→t σ H Q→wpAny (model X.prog X.w) X.A (spliced (backTo pos (starEach es X.env))) (AP X pins σ Q) X.xe s
def PS (X:Cx)(st:Stmt)(t:TS):Prop:=
 ∀(pins:List (Addr×Obj)) (s:Shared) (σ:St) (H:Hp) (D:Ends),Inv X pins σ H s→t D σ H→wpAny (model X.prog X.w) X.A (exec st X.env) (SP X pins D) X.xe s
def PSs (X:Cx)(st:List Stmt)(t:TS):Prop:=
 ∀(pins:List (Addr×Obj)) (s:Shared) (σ:St) (H:Hp) (D:Ends),Inv X pins σ H s→t D σ H→wpAny (model X.prog X.w) X.A (execs st X.env) (SP X pins D) X.xe s
theorem thn {α:Type}{t:Sem α}{Q Q':α→Shared→Prop}{M:Model}{A:Around}{E:Value→Shared→Prop}{s:Shared}(h:wpAny M A t Q E s)(hQ:∀a s,Q a s→Q' a s):wpAny M A t Q' E s:=wpAny_mono h hQ fun _ _ x=>x
section
variable {X:Cx}
def Zoc (i:Nat):TE:=fun σ H Q=>∃v,σ[i]?=some (some v)∧Q v H
def tC (v:V):TE:=fun _ H Q=>Q v H
theorem Xqw {i:Nat}{x:Str}{pos:Pos}(hN:X.N[i]?=some x)(hv:Vis X.env.scope x)(hd:(x==("__debug__":Str))=false:=by decide)(hcd:(x==("__classdict__":Str))=false:=by decide):PE X (.Name x pos) (Zoc i):=by
 intro pins s σ H Q I h
 obtain ⟨v,e,h⟩:=h
 obtain ⟨m,hn,hl⟩:=I.loc
 obtain ⟨u,r,l⟩:=hl i x v hN e hv
 have fin:EP X pins σ Q u s:=⟨v,H,I,r,h⟩
 rcases l with ⟨hk,hm⟩ | ⟨hk,c,hc,hcell⟩
 ·exact wpAny_Name (wpAny_loadName_local I.ok.kind hk hn hm fin) hd
 ·rcases hk with hk | hk
  ·exact wpAny_Name (wpAny_loadName_cell I.ok.kind hk hc hcell fin) hd
  ·exact wpAny_Name (wpAny_loadName_free I.ok.kind hk hc hcell fin hcd) hd
theorem Xqk {i j pos}:PE X (.Constant (.int i) j pos) (tC (.int i)):=fun _ _ _ H _ I h=>wpAny_Constant_int ⟨.int i,H,I.tok _,⟨_,rfl⟩,h⟩
theorem Xnn {b j pos}:PE X (.Constant (.bool b) j pos) (tC (.bl b)):=fun _ _ _ H _ I h=>Constant_bool ⟨.bl b,H,I,rfl,h⟩
theorem Xmw {j pos}:PE X (.Constant .none j pos) (tC .non):=fun _ _ _ H _ I h=>Constant_none ⟨.non,H,I,rfl,h⟩
theorem Xpg {x j pos}:PE X (.Constant (.str x) j pos) (tC (.str x)):=fun _ _ _ H _ I h=>Calls.Constant_str ⟨.str x,H,I.tok _,⟨_,rfl⟩,h⟩
def Gl (X:Cx)(x:Str):Prop:=X.env.kindOf x=some .globalImplicit
theorem Xgx {E:Value→Shared→Prop}{pins:List (Addr×Obj)}{s:Shared}{σ:St}{H:Hp}{x:Str}{u:Value}{pos:Pos}{Q:Value→Shared→Prop}(I:Inv X pins σ H s)(hg:Gl X x)(hm:X.mg x=some u)(h:Q u s)
  (hd:(x==("__debug__":Str))=false:=by decide):wpAny (model X.prog X.w) X.A (eval (.Name x pos) X.env) Q E s:=
 Calls.Name_function_global I.ok.kind hg (Calls.loadGlobal_global (by rw [I.ok.glob];exact I.mod.glob.keeps I.bk) hm h) hd
theorem Zgo {E:Value→Shared→Prop}{pins:List (Addr×Obj)}{s:Shared}{σ:St}{H:Hp}{x:Str}{u:Value}{pos:Pos}{Q:Value→Shared→Prop}(I:Inv X pins σ H s)(hg:Gl X x)(hm:X.mg x=none)(hv:bootBuiltins x=some u)(h:Q u s)
  (hn:x≠"__name__":=by decide) (hd:(x==("__debug__":Str))=false:=by decide):wpAny (model X.prog X.w) X.A (eval (.Name x pos) X.env) Q E s:=by
 obtain ⟨mb,h1,h2⟩:=I.mod.blt
 exact Calls.Name_function_global I.ok.kind hg (Calls.loadGlobal_builtin (by rw [I.ok.glob];exact I.mod.glob.keeps I.bk) hm (by rw [I.ok.blt];exact h1.keeps I.bk) ((h2 x hn).trans hv) h) hd
variable {a b:Expr}{ta tb:TE}{pos:Pos}
def tB (t:TE):TT:=fun σ H Q=>t σ H fun x H1=>∃c,x=.bl c∧Q c H1
theorem Xqq {e:Expr}{t:TE}(h:PE X e t)(he:∀whole,isTrue e X.env whole=(do let v ← whole;standAt e.pos;holding [v] (truthy v)):=by intro _;rfl):PT X e (tB t):=by
 intro pins s σ H Q I hw
 refine isTrue_plain (thn (h pins s σ H _ I hw) fun v s1 hz9=>?_) (he _)
 obtain ⟨x,H1,I1,r1,q1⟩:=hz9
 obtain ⟨d,rfl,q⟩:=q1
 cases r1
 exact wpAny_truthy_bool ⟨H1,I1,q⟩
variable {tA tB':TT}{rest:List Expr}
def tAnd (t u:TT):TT:=fun σ H Q=>t σ H fun c H1=>if c=true then u σ H1 Q else Q false H1
def tOr (t u:TT):TT:=fun σ H Q=>t σ H fun c H1=>if c=true then Q true H1 else u σ H1 Q
def tNot (t:TT):TT:=fun σ H Q=>t σ H fun c H1=>Q (!c) H1
theorem Xkq (ha:PT X a tA):PW X (.BoolOp .And [a] pos) tA:=by
 intro wh pins s σ H Q I h
 refine isTrue_and (thn (ha pins s σ H Q I h) fun c s1 e=>?_)
 cases c with
 | true=>exact isTrue_and_nil e
 | false=>exact e
theorem Xnd (ha:PT X a tA):PW X (.BoolOp .Or [a] pos) tA:=by
 intro wh pins s σ H Q I h
 refine isTrue_or (thn (ha pins s σ H Q I h) fun c s1 e=>?_)
 cases c with
 | false=>exact isTrue_or_nil e
 | true=>exact e
theorem Xne (ha:PT X a tA)(hb:PW X (.BoolOp .And (b::rest) pos) tB'):PW X (.BoolOp .And (a::b::rest) pos) (tAnd tA tB'):=by
 intro wh pins s σ H Q I h
 refine isTrue_and (thn (ha pins s σ H _ I h) fun c s1 ⟨H1,I1,q1⟩=>?_)
 cases c with
 | true=>exact hb wh pins s1 σ H1 Q I1 q1
 | false=>exact ⟨H1,I1,q1⟩
theorem pw_or (ha:PT X a tA)(hb:PW X (.BoolOp .Or (b::rest) pos) tB'):PW X (.BoolOp .Or (a::b::rest) pos) (tOr tA tB'):=by
 intro wh pins s σ H Q I h
 refine isTrue_or (thn (ha pins s σ H _ I h) fun c s1 ⟨H1,I1,q1⟩=>?_)
 cases c with
 | true=>exact ⟨H1,I1,q1⟩
 | false=>exact hb wh pins s1 σ H1 Q I1 q1
theorem Xnt (ha:PT X a tA):PT X (.UnaryOp .Not a pos) (tNot tA):=by
 intro pins s σ H Q I h
 exact isTrue_not (ha pins s σ H (fun c H1=>Q (!c) H1) I h)
end
def SqL (K:Frag)(H:Hp)(a:Addr)(xs:List V):Prop:=
 Rd H a (.lst xs)∨
  ∃(o:Obj) (its:Array Value) (n:Nat),K.lookup a=some o∧o.cls=.type "list"∧o.dict=none∧o.data=.seq its n∧its.size≤sizeLine∧Yw xs its.toList
def SqT (K:Frag)(H:Hp)(a:Addr)(xs:List V):Prop:=
 Rd H a (.tup xs)∨
  ∃(o:Obj) (its:Array Value) (n:Nat),K.lookup a=some o∧o.cls=.type "tuple"∧o.data=.seq its n∧its.size≤sizeLine∧Yw xs its.toList
noncomputable def absV:Value→Option V
 | .none=>some .non
 | .bool b=>some (.bl b)
 | .int i _=>some (.int i)
 | .str x _=>some (.str x)
 | .bytes b _=>some (.byt b)
 | .float b _=>some (.flt b)
 | .ref a=>some (.ref a)
 | .type n=>some (.ty n)
 | _=>none
theorem RelV.abs {x:V}{u:Value}(r:RelV x u):absV u=some x:=by
 cases x with
 | non=>cases r;rfl
 | bl _=>cases r;rfl
 | int _=>obtain ⟨t,rfl⟩:=r;rfl
 | str _=>obtain ⟨t,rfl⟩:=r;rfl
 | byt _=>obtain ⟨t,rfl⟩:=r;rfl
 | flt _=>obtain ⟨t,rfl⟩:=r;rfl
 | ref _=>cases r;rfl
 | ty _=>cases r;rfl
theorem RelV.inj {x y:V}{u:Value}(r:RelV x u)(q:RelV y u):x=y:=Option.some.inj (r.abs.symm.trans q.abs)
theorem Yw.inj:∀{xs ys:List V} {us:List Value},Yw xs us→Yw ys us→xs=ys
 | _,_,_,.nil,.nil=>rfl
 | _,_,_,.cons r t,.cons r' t'=>by rw [r.inj r',Yw.inj t t']
section
variable {X:Cx}{pins:List (Addr×Obj)}{σ:St}{H:Hp}{s:Shared}{a:Addr}{xs ys:List V}
theorem SqL.of {K:Frag}(h:H a=some (.lst xs)):SqL K H a xs:=.inl (.inl h)
theorem SqT.of {K:Frag}(h:H a=some (.tup xs)):SqT K H a xs:=.inl (.inl h)
theorem Inv.list (I:Inv X pins σ H s)(h:SqL X.K H a xs):∃its:List Value,Yw xs its∧PlainL s.heap a its.toArray∧xs.length≤sizeLine:=by
 rcases h with h | ⟨o,its,n,hk,hc,hd,hs,hz,r⟩
 ·obtain ⟨z,its,n,r,e⟩:=h.ok I.hok
  exact ⟨its,r,⟨_,n,e,rfl,rfl,rfl⟩,z⟩
 ·refine ⟨its.toList,r,⟨o,n,I.kIn a o hk,hc,hd,by simpa using hs⟩,?_⟩
  have e:=r.length
  simp only [length_toList] at e
  omega
theorem Inv.tuple (I:Inv X pins σ H s)(h:SqT X.K H a xs):∃its:List Value,Yw xs its∧IsTup s.heap a its.toArray∧xs.length≤sizeLine:=by
 rcases h with h | ⟨o,its,n,hk,hc,hs,hz,r⟩
 ·obtain ⟨z,its,r,p⟩:=h.ok I.hok
  exact ⟨its,r,p,z⟩
 ·refine ⟨its.toList,r,⟨o,I.kIn a o hk,hc,n,by simpa using hs⟩,?_⟩
  have e:=r.length
  simp only [length_toList] at e
  omega
theorem Inv.list_inj (I:Inv X pins σ H s)(h:SqL X.K H a xs)(h':SqL X.K H a ys):xs=ys:=by
 obtain ⟨its,r,⟨o,n,e,_,_,d⟩,_⟩:=I.list h
 obtain ⟨its',r',⟨o',n',e',_,_,d'⟩,_⟩:=I.list h'
 rw [e] at e';cases e'
 rw [d] at d'
 injection d' with d1 _
 have:its=its':=by simpa using congrArg Array.toList d1
 subst this
 exact r.inj r'
end
noncomputable abbrev Cx.wish (X:Cx)(E:Value→Shared→Prop):Cx:={X with xe:=E}
noncomputable abbrev Cx.nox (X:Cx):Cx:=X.wish fun _ _=>False
theorem Cx.Ok.wish {X:Cx}(ok:X.Ok)(E:Value→Shared→Prop):(X.wish E).Ok:=
 ⟨ok.mod,ok.kind,ok.glob,ok.blt,ok.above,ok.inj,ok.has,ok.cab,ok.hd,ok.frames,ok.stk,ok.exf,ok.bs,ok.bsz,ok.noex,ok.exfs,ok.funs,ok.frf⟩
theorem Cx.Ok.unwish {X:Cx}{E:Value→Shared→Prop}(ok:(X.wish E).Ok):X.Ok:=
 ⟨ok.mod,ok.kind,ok.glob,ok.blt,ok.above,ok.inj,ok.has,ok.cab,ok.hd,ok.frames,ok.stk,ok.exf,ok.bs,ok.bsz,ok.noex,ok.exfs,ok.funs,ok.frf⟩
section
variable {X:Cx}{pins:List (Addr×Obj)}{σ:St}{H:Hp}{s:Shared}{E:Value→Shared→Prop}
theorem Inv.wish (I:Inv X pins σ H s)(E:Value→Shared→Prop):Inv (X.wish E) pins σ H s:=⟨I.ok.wish E,I.os,I.bare,I.base,I.loc,I.cell,I.free,I.freeC,I.pin,I.hok,I.len⟩
theorem Inv.unwish (I:Inv (X.wish E) pins σ H s):Inv X pins σ H s:=⟨I.ok.unwish,I.os,I.bare,I.base,I.loc,I.cell,I.free,I.freeC,I.pin,I.hok,I.len⟩
theorem SP.unwish {D:Ends}{f:Flow}{s':Shared}(h:SP (X.wish E) pins D f s'):SP X pins D f s':=by
 cases f with
 | next=>obtain ⟨σ',H',I,q⟩:=h;exact ⟨σ',H',I.unwish,q⟩
 | brk=>obtain ⟨σ',H',I,q⟩:=h;exact ⟨σ',H',I.unwish,q⟩
 | cont=>obtain ⟨σ',H',I,q⟩:=h;exact ⟨σ',H',I.unwish,q⟩
 | ret u=>obtain ⟨v,σ',H',I,r,q⟩:=h;exact ⟨v,σ',H',I.unwish,r,q⟩
theorem PSs.nox {st:List Stmt}{t:TS}(h:PSs X.nox st t):PSs X st t:=fun pins s σ H D I hw =>
 wpAny_mono (h pins s σ H D (I.wish _) hw) (fun _ _ q=>q.unwish) fun _ _ z=>False.elim z
end
section
variable {X:Cx}{st:Stmt}{rest:List Stmt}{t u:TS}{e:Expr}{te:TE}{pos:Pos}
def Zuj:TS:=fun D σ H=>D.nx σ H
def Xly (t u:TS):TS:=fun D σ H=>t {D with nx:=u D} σ H
theorem Xhk:PSs X [] Zuj:=fun _ _ σ H _ I h=>wpAny_execs_nil ⟨σ,H,I,h⟩
theorem Xct (h1:PS X st t)(h2:PSs X rest u):PSs X (st::rest) (Xly t u):=by
 intro pins s σ H D I h
 refine wpAny_execs_cons (thn (h1 pins s σ H {D with nx:=u D} I h) fun f s1 q=>?_)
 cases f with
 | next =>
  obtain ⟨σ',H',I',q⟩:=q
  exact h2 pins s1 σ' H' D I' q
 | ret v=>exact q
 | brk=>exact q
 | cont=>exact q
theorem Xlk (h1:PS X st t):PSs X [st] t:=by
 intro pins s σ H D I h
 refine wpAny_execs_cons (thn (h1 pins s σ H D I h) fun f s1 q=>?_)
 cases f with
 | next=>exact wpAny_execs_nil q
 | ret v=>exact q
 | brk=>exact q
 | cont=>exact q
def Zyz:TS:=fun D σ H=>D.bk σ H
theorem Xdh:PS X (.Break pos) Zyz:=fun _ _ σ H _ I h=>wpAny_Break ⟨σ,H,I,h⟩
theorem Inv.quiet {pins:List (Addr×Obj)}{σ:St}{H:Hp}{s:Shared}(I:Inv X pins σ H s):interactive X.env=false:=by simp [interactive,I.ok.kind]
def Zmc (te:TE):TS:=fun D σ H=>te σ H fun _ H1=>D.nx σ H1
theorem Xhj (he:PE X e te)(hs:swapsWith e none pos.line X.env=pure false:=by rfl):PS X (.Expr e pos) (Zmc te):=by
 intro pins s σ H D I h
 exact wpAny_Expr_any (thn (he pins s σ H _ I h) fun v s1 ⟨x,H1,I1,r1,q1⟩=>⟨σ,H1,I1,q1⟩) I.quiet hs
def Xme (te:TE):TS:=fun D σ H=>te σ H D.rt
theorem Xos (he:PE X e te):PS X (.Return (some e) pos) (Xme te):=by
 intro pins s σ H D I h
 exact wpAny_Return_some (thn (he pins s σ H _ I h) fun v s1 ⟨x,H1,I1,r1,q1⟩=>⟨x,σ,H1,I1,r1,q1⟩)
def Xmg (c:TT)(t u:TS):TS:=fun D σ H=>c σ H fun b H1=>if b=true then t D σ H1 else u D σ H1
theorem ps_if {c:Expr}{a b:List Stmt}{tc:TT}(hc:PT X c tc)(ha:PSs X a t)(hb:PSs X b u):PS X (.If c a b pos) (Xmg tc t u):=by
 intro pins s σ H D I h
 refine wpAny_If (thn (hc pins s σ H _ I h) fun d s1 ⟨H1,I1,q1⟩=>?_)
 cases d with
 | true=>exact ha pins s1 σ H1 D I1 q1
 | false=>exact hb pins s1 σ H1 D I1 q1
def Zrm:TS:=fun _ _ _=>False
theorem Xds:PS X st Zrm:=fun _ _ _ _ _ _ h=>h.elim
end
noncomputable abbrev TG:=V→St→Hp→(St→Hp→Prop)→Prop
noncomputable abbrev TGs:=List V→St→Hp→(St→Hp→Prop)→Prop
def PG (X:Cx)(target:Expr)(t:TG):Prop:=
 ∀(pins:List (Addr×Obj)) (s:Shared) (σ:St) (H:Hp) (v:V) (u:Value) (Q:St→Hp→Prop),Inv X pins σ H s→RelV v u→t v σ H Q→
  wpAny (model X.prog X.w) X.A (assign target X.env u) (fun _ s'=>∃σ' H',Inv X pins σ' H' s'∧Q σ' H') X.xe s
def PGs (X:Cx)(ts:List Expr)(t:TGs):Prop:=
 ∀(pins:List (Addr×Obj)) (s:Shared) (σ:St) (H:Hp) (vs:List V) (us:List Value) (Q:St→Hp→Prop),Inv X pins σ H s→Yw vs us→t vs σ H Q→
  wpAny (model X.prog X.w) X.A (assignInOrder ((assignEach ts X.env).map (·.2)) us) (fun _ s'=>∃σ' H',Inv X pins σ' H' s'∧Q σ' H') X.xe s
noncomputable abbrev TSet:=V→V→V→Hp→(Hp→Prop)→Prop
def PSet (X:Cx)(t:TSet):Prop:=
 ∀(pins:List (Addr×Obj)) (s:Shared) (σ:St) (H:Hp) (o i v:V) (ov iv u:Value) (Q:Hp→Prop),Inv X pins σ H s→RelV o ov→RelV i iv→RelV v u→t o i v H Q→
  wpAny (model X.prog X.w) X.A (setItem ov iv u) (fun _ s'=>∃H',Inv X pins σ H' s'∧Q H') X.xe s
noncomputable abbrev TIp:=V→V→Hp→VK→Prop
def PIp (X:Cx)(op:Operator)(t:TIp):Prop:=
 ∀(pins:List (Addr×Obj)) (s:Shared) (σ:St) (H:Hp) (x y:V) (v u:Value) (Q:VK),Inv X pins σ H s→RelV x v→RelV y u→t x y H Q→
  wpAny (model X.prog X.w) X.A (inplaceOp op v u) (EP X pins σ Q) X.xe s
section
variable {X:Cx}{pos:Pos}
noncomputable def Zap (i:Nat):TG:=fun v σ H Q=>Q (σ.set i (some v)) H
theorem Xlt {i:Nat}{x:Str}(hN:X.N.Nodup)(hi:X.N[i]?=some x)(hx:Loc X.env.scope x)(hf:autoParam (X.fn x=true∨X.env.scope.names.lookup x=some .local) aT0._auto_1):PG X (.Name x pos) (Zap i):=by
 intro pins s σ H v u Q I r h
 exact wpAny_assign_Name (Zkq I hN hi hx r (fun s' I'=>⟨_,H,I',h⟩) hf)
noncomputable def Xmh:TGs:=fun vs σ H Q=>vs=[]∧Q σ H
noncomputable def Zuf (t:TG)(u:TGs):TGs:=fun vs σ H Q=>∃v r,vs=v::r∧t v σ H fun σ' H'=>u r σ' H' Q
theorem Xhl:PGs X [] Xmh:=by
 intro pins s σ H vs us Q I r h
 obtain ⟨e,h⟩:=h
 subst e
 cases r
 exact assignInOrder_nil ⟨σ,H,I,h⟩
theorem Xce {e:Expr}{es:List Expr}{t:TG}{u:TGs}(h1:PG X e t)(h2:PGs X es u)
  (hs:(assignEach (e::es) X.env).map (·.2)=assign e X.env::(assignEach es X.env).map (·.2):=by rfl):PGs X (e::es) (Zuf t u):=by
 intro pins s σ H vs us Q I r h
 obtain ⟨v,vr,e1,h⟩:=h
 subst e1
 cases r with
 | cons r rr =>
  rw [hs]
  refine assignInOrder_cons (thn (h1 pins s σ H _ _ _ I r h) fun _ s1 hz9=>?_)
  obtain ⟨σ1,H1,I1,q1⟩:=hz9
  exact h2 pins s1 σ1 H1 _ _ Q I1 rr q1
noncomputable def Ziz (K:Frag)(n:Nat)(t:TGs):TG:=fun v σ H Q=>∃a xs,v=.ref a∧SqT K H a xs∧xs.length=n∧t xs σ H Q
theorem Xoa {es:List Expr}{k:Nat}{t:TGs}{n:Nat}(hc:X.calm=true)(h:PGs X es t)
  (hn:(assignEach es X.env).length=n:=by rfl) (hst:(assignEach es X.env).findIdx? (·.1)=none:=by rfl):PG X (.Tuple es k pos) (Ziz X.K n t):=by
 intro pins s σ H v u Q I r hw
 obtain ⟨a,xs,e1,hq,hl,hw⟩:=hw
 subst e1
 cases r
 obtain ⟨its,rv,ht,hz⟩:=I.tuple hq
 refine assign_Tuple_tuple (I.ok.hd hc) ht (by simp [hn,← hl,rv.length]) hst fun h' hx=>?_
 have I1:Inv X pins σ H {s with heap:=h'}:=I.kept (t':=s.toks) fun b o e=>hx b o (ne_of_lt (lt_size e)) e
 exact h pins _ σ H xs _ Q I1 (by simpa using rv) hw
noncomputable def Zbh (to ti:TE)(t:TSet):TG:=fun v σ H Q=>to σ H fun o H1=>ti σ H1 fun i H2=>t o i v H2 fun H3=>Q σ H3
theorem Xrk {o i:Expr}{to ti:TE}{t:TSet}(ho:PE X o to)(hi:PE X i ti)(hs:PSet X t)
    (ha:∀v,assign (.Subscript o i pos) X.env v=(do
      let ov ← holding [v] (eval o X.env)
      let iv ← holding [v,ov] (eval i X.env)
      standAt pos
      holding [v,ov,iv] (setItem ov iv v)
      release [v,ov,iv] []):=by intro _;rfl):PG X (.Subscript o i pos) (Zbh to ti t):=by
  intro pins s σ H v u Q I r h
  rw [ha]
  refine wpAny_bind (wpAny_holding (thn (ho pins s σ H _ I h) fun ov s1 hz9=>?_))
  obtain ⟨x,H1,I1,r1,q1⟩:=hz9
  refine wpAny_bind (wpAny_holding (thn (hi pins s1 σ H1 _ I1 q1) fun iv s2 hz9=>?_))
  obtain ⟨y,H2,I2,r2,q2⟩:=hz9
  refine wpAny_bind (wpAny_standAt (wpAny_bind (wpAny_holding (thn (hs pins s2 σ H2 x y v ov iv u _ I2 r1 r2 r q2) fun _ s3 ⟨H3,I3,q3⟩=>?_))))
  exact wpAny_release ⟨σ,H3,I3,q3⟩
def Zjd (te:TE)(g:TG):TS:=fun D σ H=>te σ H fun x H1=>g x σ H1 D.nx
theorem Xnp {tg e:Expr}{te:TE}{g:TG}(he:PE X e te)(hg:PG X tg g)(hs:swapsWithSole [tg] e pos.line X.env=pure false:=by rfl)(hw:swappedStores [tg] e X.env=pure none:=by rfl)
  (h1:(assignEach [tg] X.env).map (·.2)=[assign tg X.env]:=by rfl):PS X (.Assign [tg] e pos) (Zjd te g):=by
 intro pins s σ H D I h
 refine wpAny_Assign_stores (thn (he pins s σ H _ I h) fun v s1 hz9=>?_) hs hw
 obtain ⟨x,H1,I1,r1,q1⟩:=hz9
 rw [h1]
 exact thn (hg pins s1 σ H1 x v _ I1 r1 q1) fun _ s2 q=>q
theorem Xrm {i:Nat}{x:Str}{e:Expr}{te:TE}{pos':Pos}(hN:X.N.Nodup)(hi:X.N[i]?=some x)(hx:Loc X.env.scope x)(he:PE X e te)(hs:swapsWith e (some (.Name x pos')) pos.line X.env=pure false:=by rfl)(hf:autoParam (X.fn x=true∨X.env.scope.names.lookup x=some .local) aT0._auto_1) :
  PS X (.Assign [.Name x pos'] e pos) (Zjd te (Zap i)):=by
 intro pins s σ H D I h
 refine wpAny_Assign_Name (thn (he pins s σ H _ I h) fun v s1 hz9=>?_) hs
 obtain ⟨y,H1,I1,r1,q1⟩:=hz9
 exact Zkq I1 hN hi hx r1 (fun s2 I2=>⟨_,H1,I2,q1⟩) hf
def Xmc (i:Nat)(te:TE)(ti:TIp):TS:=fun D σ H=>∃x,σ[i]?=some (some x)∧te σ H fun y H1=>ti x y H1 fun z H2=>D.nx (σ.set i (some z)) H2
theorem Xrd {i:Nat}{x:Str}{e:Expr}{te:TE}{op:Operator}{ti:TIp}{pos':Pos}(hN:X.N.Nodup)(hi:X.N[i]?=some x)(hx:Loc X.env.scope x)(he:PE X e te)(ho:PIp X op ti)(hf:autoParam (X.fn x=true∨X.env.scope.names.lookup x=some .local) aT0._auto_1) :
  PS X (.AugAssign (.Name x pos') op e pos) (Xmc i te ti):=by
 intro pins s σ H D I h
 obtain ⟨v,e1,h⟩:=h
 obtain ⟨m,hn,hl⟩:=I.loc
 have vis:Vis X.env.scope x:=by rcases hx with k | k;exact .inl k;exact .inr (.inl k)
 obtain ⟨u,r,l⟩:=hl i x v hi e1 vis
 refine wpAny_AugAssign_Name ?_
 have go:wpAny (model X.prog X.w) X.A (eval e X.env) (fun w s₂=>wpAny (model X.prog X.w) X.A (inplaceOp op u w) (fun r s₃=>wpAny (model X.prog X.w) X.A (storeName X.env x r) (fun _=>SP X pins D .next) X.xe s₃) X.xe s₂) X.xe s:=by
  refine thn (he pins s σ H _ I h) fun w s1 hz9=>?_
  obtain ⟨y,H1,I1,r1,q1⟩:=hz9
  refine thn (ho pins s1 σ H1 v y u w _ I1 r r1 q1) fun z s2 hz9=>?_
  obtain ⟨zv,H2,I2,r2,q2⟩:=hz9
  exact Zkq I2 hN hi hx r2 (fun s3 I3=>⟨_,H2,I3,q2⟩) hf
 rcases l with ⟨hk,hm⟩ | ⟨hk,c,hc,hcell⟩
 ·exact wpAny_loadName_local I.ok.kind hk hn hm go
 ·rcases hk with hk | hk
  ·exact wpAny_loadName_cell I.ok.kind hk hc hcell go
  ·rcases hx with k | k
   ·have:X.env.scope.names.lookup x=some .free:=hk
    rw [k] at this;cases this
   ·have:X.env.scope.names.lookup x=some .free:=hk
    rw [k] at this;cases this
noncomputable def ipI (f:Int→Int→Int):TIp:=fun x y H Q=>∃i j,x=.int i∧y=.int j∧Q (.int (f i j)) H
theorem Xoe:PIp X .Add (ipI fun i j=>i+j):=by
 intro pins s σ H x y v u Q I r1 r2 h
 obtain ⟨i,j,e1,e2,q⟩:=h
 subst e1;subst e2
 obtain ⟨t,rfl⟩:=r1
 obtain ⟨t',rfl⟩:=r2
 exact iadd_int ⟨.int _,H,I.tok _,⟨_,rfl⟩,q⟩
theorem Znv:PIp X .Sub (ipI fun i j=>i - j):=by
 intro pins s σ H x y v u Q I r1 r2 h
 obtain ⟨i,j,e1,e2,q⟩:=h
 subst e1;subst e2
 obtain ⟨t,rfl⟩:=r1
 obtain ⟨t',rfl⟩:=r2
 exact isub_int ⟨.int _,H,I.tok _,⟨_,rfl⟩,q⟩
def Zkc (c:TT)(tb:TS):TS:=fun D σ H=>∃W:Nat→St→Hp→Prop,(∃m,W m σ H)∧∀m σ H,W m σ H→
 c σ H fun b H1=>if b=true then ∃N:St→Hp→Prop,(∀σ' H',N σ' H'→∃m',m'<m∧W m' σ' H')∧tb {D with nx:=N,ct:=N,bk:=D.nx} σ H1 else D.nx σ H1
theorem Xed {c:Expr}{body:List Stmt}{tc:TT}{tb:TS}(hp:PassesOwn (model X.prog X.w) X.A X.env X.xe)(hc:PT X c tc)(hb:PSs X body tb):PS X (.While c body [] pos) (Zkc tc tb):=by
 intro pins s σ H D I h
 obtain ⟨W,⟨m0,w0⟩,turn⟩:=h
 refine wpAny_While (codeAny_whileLoop (fun n s'=>∃σ' H',Inv X pins σ' H' s'∧W n σ' H') ?_ m0 ⟨σ,H,I,w0⟩)
 rintro n s1 ⟨σ1,H1,I1,w1⟩
 refine wpAny_passesOwn hp (thn (hc pins s1 σ1 H1 _ I1 (turn n σ1 H1 w1)) fun b s2 ⟨H2,I2,q2⟩=>?_)
 cases b with
 | true =>
  obtain ⟨N,hN,q2⟩:=q2
  rw [if_pos rfl]
  refine wpAny_passesOwn hp (thn (hb pins s2 σ1 H2 _ I2 q2) fun f s3 q3=>?_)
  cases f with
  | next =>
   obtain ⟨σ3,H3,I3,n3⟩:=q3
   obtain ⟨m',hm,w3⟩:=hN σ3 H3 n3
   exact ⟨m',hm,σ3,H3,I3,w3⟩
  | cont =>
   obtain ⟨σ3,H3,I3,n3⟩:=q3
   obtain ⟨m',hm,w3⟩:=hN σ3 H3 n3
   exact ⟨m',hm,σ3,H3,I3,w3⟩
  | brk=>exact q3
  | ret v=>exact q3
 | false =>
  rw [if_neg Bool.false_ne_true]
  exact wpAny_execs_nil ⟨σ1,H2,I2,q2⟩
end
structure It where
 go:Nat→Hp→Prop
 yld:Nat→Hp→V→Hp→Prop
 stop:Nat→Hp→Prop
def Zor (X:Cx)(pins:List (Addr×Obj))(H:Hp)(b:Addr):Prop:=
 H b=none∧b≠X.env.locals∧b∉X.fs∧(b∈X.ex∨X.s₀.heap.objs.size≤b)∧(∀x c,X.env.cells.lookup x=some c→c≠b)∧∀p∈X.pn++pins,p.1≠b
theorem Inv.fpOk {X:Cx}{pins:List (Addr×Obj)}{σ:St}{H H':Hp}{s:Shared}{b:Addr}(I:Inv X pins σ H s)(hb:s.heap.objs.size≤b)(hn:H' b=none):Zor X pins H' b:=by
 refine ⟨hn,ne_of_gt (lt_of_lt_of_le I.lt hb),I.nofs hb,.inr (le_trans I.sz hb),fun x c e z=>?_,fun p hp z=>?_⟩
 ·obtain ⟨v,q⟩:=I.cell x c e
  exact absurd (lt_of_lt_of_le q.lt (by rw [z];exact hb)) (lt_irrefl _)
 ·exact absurd (lt_of_lt_of_le (lt_size (I.pin p hp).1) (by rw [z];exact hb)) (lt_irrefl _)
structure Turn (P:Program)(w:World)(K:Frag)(tg:Expr)(J:It)(fp:List Addr)(it:Addr)(tn:Nat→Heap→Prop):Prop where
  mem:it∈fp
  obj:∀i h,tn i h→∀b∈fp,∃o,h.get? b=some o∧∀v,o.data≠.cell v
  keep:∀i h h',tn i h→(∀b∈fp,∀o,h.get? b=some o→h'.get? b=some o)→tn i h'
  item:∀(X:Cx),X.prog=P→X.w=w→X.K=K→X.calm=true→∀(i:Nat) (pins:List (Addr×Obj)) (s:Shared) (σ:St) (H:Hp) (E:Value→Shared→Prop),Inv X pins σ H s→(∀b∈fp,Zor X pins H b)→tn i s.heap→J.go i H→
    wpAny (model P w) X.A (pyNext (.ref it)) (fun r s1=>∃u,r=some u∧
      wpAny (model P w) X.A (letOwnedTupleGo tg (.ref it) u) (fun _ s2=>∃x H',Inv X pins σ H' s2∧RelV x u∧J.yld i H x H'∧tn (i+1) s2.heap∧∀b∈fp,H' b=none) E s1) E s
  done:∀(X:Cx),X.prog=P→X.w=w→X.K=K→X.calm=true→∀(i:Nat) (pins:List (Addr×Obj)) (s:Shared) (σ:St) (H:Hp) (E:Value→Shared→Prop),Inv X pins σ H s→(∀b∈fp,Zor X pins H b)→tn i s.heap→J.stop i H→
    wpAny (model P w) X.A (pyNext (.ref it)) (fun r s1=>r=none∧Inv X pins σ H s1) E s
  self:∀(A:Around) (i:Nat) (s:Shared) (Q:Value→Shared→Prop) (E:Value→Shared→Prop),tn i s.heap→Q (.ref it) s→wpAny (model P w) A (pyIter (.ref it)) Q E s
noncomputable abbrev TI:=St→Hp→(It→Hp→Prop)→Prop
def PIE (X:Cx)(pins:List (Addr×Obj))(σ:St)(tg:Expr)(R:It→Hp→Prop)(itv:Value)(s2:Shared):Prop:=
 ∃(it:Addr) (fp:List Addr) (tn:Nat→Heap→Prop) (J:It) (H':Hp),itv=.ref it∧Inv X pins σ H' s2∧Turn X.prog X.w X.K tg J fp it tn∧tn 0 s2.heap∧(∀b∈fp,Zor X pins H' b)∧R J H'
def PI (X:Cx)(tg iter:Expr)(wi:TI):Prop:=
 ∀(pins:List (Addr×Obj)) (s:Shared) (σ:St) (H:Hp) (R:It→Hp→Prop),Inv X pins σ H s→wi σ H R→
  wpAny (model X.prog X.w) X.A (eval iter X.env) (fun v s1=>wpAny (model X.prog X.w) X.A (pyIter v) (PIE X pins σ tg R) X.xe s1) X.xe s
theorem Xki {M:Model}{A:Around}{E:Value→Shared→Prop}{s:Shared}{tg:Expr}{it:Addr}{u:Value}{o:Obj}{n:String}{vs:Array Value}{Q:Unit→Shared→Prop}(ho:s.heap.get? it=some o)(hc:o.cls=.type n)(hd:o.data=.fields vs)
    (hn:["enumerate","zip","dict_itemiterator","dict_reverseitemiterator","odict_iterator","itertools.zip_longest","itertools.pairwise"].contains n=false) (hQ:Q () s):wpAny M A (letOwnedTupleGo tg (.ref it) u) Q E s:=by
  unfold letOwnedTupleGo
  cases tg<;>first
    | exact wpAny_pure hQ
    | (cases u<;>first
        | exact wpAny_pure hQ
        | (refine wpAny_bind (wpAny_load ho ?_)
           rw [hc,hd]
           show wpAny M A (if (["enumerate","zip","dict_itemiterator","dict_reverseitemiterator","odict_iterator","itertools.zip_longest","itertools.pairwise"].contains n&&vs[0]?==some (rawInt _))=true then _ else _) Q E s
           rw [if_neg (by intro h;rw [hn,Bool.false_and] at h;cases h)]
           exact wpAny_pure hQ))
noncomputable def Itl (K:Frag)(a:Addr):It:=
 ⟨fun i H=>∃xs x,SqL K H a xs∧xs[i]?=some x,fun i H x H'=>H'=H∧∀xs,SqL K H a xs→xs[i]?=some x,fun i H=>∃xs,SqL K H a xs∧xs.length≤i⟩
noncomputable def Itr (lo:Int)(n:Nat):It:=⟨fun i _=>i<n,fun i H x H'=>H'=H∧x=.int (lo+i),fun i _=>n≤i⟩
theorem Zxy {P:Program}{w:World}{K:Frag}{tg:Expr}(a it:Addr):Turn P w K tg (Itl K a) [it] it (fun i h=>h.IsListIter it a i) where
 mem:=by simp
 obj:=fun i h st b hb=>by
  have e:b=it:=by simpa using hb
  subst e
  obtain ⟨o,e,c,d⟩:=st
  exact ⟨o,e,fun v z=>by rw [d] at z;cases z⟩
 keep:=fun i h h' st k=>st.at fun o e=>k it (by simp) o e
 item:=by
  intro X hP hw hK hc i pins s σ H E I hf st hg
  subst hP hw hK
  obtain ⟨xs,x,hq,hx⟩:=hg
  obtain ⟨its,rv,p,hz⟩:=I.list hq
  obtain ⟨u,hu,ru⟩:=rv.get hx
  obtain ⟨f0,f1,f2,f3,f4,f5⟩:=hf it (by simp)
  refine wpAny_pyNext_list_item st p.isList (x:=u) (by simpa using hu) fun h' st' sb=>?_
  have I1:Inv X pins σ H {s with heap:=h'}:=I.turned (t':=s.toks) (fun b o hb e=>(sb.2 b hb).trans e) f0 f1 f3 f4 f5
  obtain ⟨o,e,c,d⟩:=id st'
  exact ⟨u,rfl,Xki (s:={s with heap:=h'}) e c d (by decide) ⟨x,H,I1,ru,⟨rfl,fun ys hy=>by rw [I.list_inj hy hq];exact hx⟩,st',fun b hb=>(hf b hb).1⟩⟩
 done:=by
  intro X hP hw hK hc i pins s σ H E I hf st hg
  subst hP hw hK
  obtain ⟨xs,hq,hx⟩:=hg
  obtain ⟨its,rv,p,hz⟩:=I.list hq
  obtain ⟨f0,f1,f2,f3,f4,f5⟩:=hf it (by simp)
  have hl:=rv.length
  exact wpAny_pyNext_list_end (I.ok.hd hc) st p.isList (by simp;omega) fun h' eb=>⟨rfl,I.turned (t':=s.toks) (fun b o hb e=>eb b o hb e) f0 f1 f3 f4 f5⟩
 self:=fun _ _ _ _ _ st h=>wpAny_pyIter_listiter st h
theorem Zsy {P:Program}{w:World}{K:Frag}{tg:Expr}(it:Addr)(lo:Int)(n:Nat):Turn P w K tg (Itr lo n) [it] it (fun i h=>IsRangeIter h it (lo+(i:Nat)*1) ((n:Int) - (i:Nat)) 1) where
  mem:=by simp
  obj:=fun i h st b hb=>by
    have e:b=it:=by simpa using hb
    subst e
    exact ⟨_,st,fun v z=>by
      have z':Data.fields _=Data.cell v:=z
      cases z'⟩
  keep:=fun i h h' st k=>k it (by simp) _ st
  item:=by
    intro X hP hw hK hc i pins s σ H E I hf st hg
    subst hP hw hK
    obtain ⟨f0,f1,f2,f3,f4,f5⟩:=hf it (by simp)
    have W:=Walks.range (prog:=X.prog) (w:=X.w) (I.ok.hd hc) it lo 1 n
    refine W.item i s _ _ hg st fun v h' tk hv st' kk=>?_
    obtain ⟨t,rfl⟩:=hv
    have I1:Inv X pins σ H {s with heap:=h',toks:=tk}:=I.turned (fun b o hb e=>kk b o (by simpa using hb) e) f0 f1 f3 f4 f5
    refine ⟨_,rfl,Xki (s:={s with heap:=h',toks:=tk}) (n:="range_iterator") st' rfl rfl (by decide) ⟨.int (lo+i),H,I1,⟨t,?_⟩,⟨rfl,rfl⟩,st',fun b hb=>(hf b hb).1⟩⟩
    rw [Int.mul_one]
  done:=by
    intro X hP hw hK hc i pins s σ H E I hf st hg
    subst hP hw hK
    obtain ⟨f0,f1,f2,f3,f4,f5⟩:=hf it (by simp)
    exact wpAny_pyNext_range_end (I.ok.hd hc) st (by have:n≤i:=hg;omega) fun h' eb=>⟨rfl,I.turned (t':=s.toks) (fun b o hb e=>eb b o hb e) f0 f1 f3 f4 f5⟩
  self:=fun _ _ _ _ _ st h=>wpAny_pyIter_rangeiter st h
section
variable {X:Cx}{tg:Expr}
noncomputable def Xcu (K:Frag)(tl:TE):TI:=fun σ H R=>tl σ H fun x H1=>∃a,x=.ref a∧(∃xs,SqL K H1 a xs)∧R (Itl K a) H1
theorem Xit {l:Expr}{tl:TE}(hl:PE X l tl):PI X tg l (Xcu X.K tl):=by
 intro pins s σ H R I h
 refine thn (hl pins s σ H _ I h) fun v s1 hz9=>?_
 obtain ⟨x,H1,I1,r1,q1⟩:=hz9
 obtain ⟨a,e,⟨xs,hq⟩,q⟩:=q1
 subst e
 cases r1
 obtain ⟨its,rv,p,hz⟩:=I1.list hq
 refine wpAny_pyIter_list p.isList ?_
 refine ⟨s1.heap.objs.size,[s1.heap.objs.size],_,_,H1,rfl,I1.kept (t':=s1.toks) fun b o e=>get?_push_of_some _ e,Zxy a _,⟨_,get?_push_size _ rfl,rfl,rfl⟩,fun b hb=>?_,q⟩
 have e:b=s1.heap.objs.size:=by simpa using hb
 subst e
 exact I1.fpOk (le_refl _) (I1.hok.fresh (le_refl _))
theorem Zsp {pins:List (Addr×Obj)}{σ:St}{H:Hp}{s:Shared}{R:It→Hp→Prop}{E:Value→Shared→Prop}{lo hi:Int}{t u v:Tok}{tk:Nat}(I:Inv X pins σ H s)(h1:-(2 ^ 62)≤lo)(h2:lo<2 ^ 62)(h3:-(2 ^ 62)≤hi)(h4:hi<2 ^ 62)
    (q:R (Itr lo (hi - lo).toNat) H):wpAny (model X.prog X.w) X.A (pyIter (.ref s.heap.objs.size)) (PIE X pins σ tg R) E {s with heap:=s.heap.push {cls:=.type "range",data:=.fields #[.int lo t,.int hi u,.int 1 v]},toks:=tk}:=by
  refine wpAny_pyIter_range (IsRange.new ..) (small_one h1 h2 h3 h4) ?_
  have I1:Inv X pins σ H {s with heap:=s.heap.push {cls:=.type "range",data:=.fields #[.int lo t,.int hi u,.int 1 v]},toks:=tk}:=I.kept fun b o e=>get?_push_of_some _ e
  refine ⟨(s.heap.push {cls:=.type "range",data:=.fields #[.int lo t,.int hi u,.int 1 v]}).objs.size,[(s.heap.push {cls:=.type "range",data:=.fields #[.int lo t,.int hi u,.int 1 v]}).objs.size],_,_,H,rfl,
    I1.kept (t':=tk) fun b o e=>get?_push_of_some _ e,Zsy _ lo (hi - lo).toNat,?_,fun b hb=>?_,q⟩
  · have e1:lo+((0:Nat):Int)*1=lo:=by simp
    have e2:(((hi - lo).toNat:Nat):Int) - ((0:Nat):Int)=Builtin.Range.rangeSize lo hi 1:=by rw [rangeSize_one];split<;>omega
    show IsRangeIter _ _ (lo+((0:Nat):Int)*1) ((((hi - lo).toNat:Nat):Int) - ((0:Nat):Int)) 1
    rw [e1,e2]
    exact get?_push_size _ rfl
  · have e:b=(s.heap.push {cls:=.type "range",data:=.fields #[.int lo t,.int hi u,.int 1 v]}).objs.size:=by simpa using hb
    subst e
    exact I1.fpOk (le_refl _) (I1.hok.fresh (le_refl _))
noncomputable def Xbb (ta:TA):TI:=fun σ H R=>ta σ H fun vs H1=>∃j:Int,vs=[.int j]∧-(2 ^ 62)≤j∧j<2 ^ 62∧R (Itr 0 j.toNat) H1
noncomputable def Xaj (ta:TA):TI:=fun σ H R=>ta σ H fun vs H1=>∃i j:Int,vs=[.int i,.int j]∧(-(2 ^ 62)≤i∧i<2 ^ 62∧-(2 ^ 62)≤j∧j<2 ^ 62)∧R (Itr i (j - i).toNat) H1
theorem Zxt {a:Expr}{ta:TA}{p pos:Pos}(hg:Gl X "range")(hm:X.mg "range"=none)(ha:PA X [a] ta)(hs:starEach [a] X.env=[(false,eval a X.env)]:=by rfl):PI X tg (.Call (.Name "range" p) [a] [] pos) (Xbb ta):=by
 intro pins s σ H R I h
 refine Call_ (Zgo I hg hm boot_range (PyProof.Rows.callWith_type1 (thn (ha pos pins s σ H _ I h) fun us s1 hz9=>?_) hs rfl))
 obtain ⟨vs,H1,I1,r1,q1⟩:=hz9
 obtain ⟨j,e,q1,q2,q⟩:=q1
 subst e
 cases r1 with
 | cons r rr =>
  cases rr
  obtain ⟨t,rfl⟩:=r
  exact call_range_1 (Zsp I1 (by omega) (by omega) q1 q2 (by simpa using q))
theorem Zva {a b:Expr}{ta:TA}{p pos:Pos}(hg:Gl X "range")(hm:X.mg "range"=none)(ha:PA X [a,b] ta)(hs:starEach [a,b] X.env=[(false,eval a X.env),(false,eval b X.env)]:=by rfl)(hs2:starEach [b] X.env=[(false,eval b X.env)]:=by rfl) :
  PI X tg (.Call (.Name "range" p) [a,b] [] pos) (Xaj ta):=by
 intro pins s σ H R I h
 refine Call_ (Zgo I hg hm boot_range (PyProof.Rows.callWith_type1 (thn (ha pos pins s σ H _ I h) fun us s1 hz9=>?_) (by rw [hs,hs2]) (by rw [hs2];rfl)))
 obtain ⟨vs,H1,I1,r1,q1⟩:=hz9
 obtain ⟨i,j,e,⟨q1,q2,q3,q4⟩,q⟩:=q1
 subst e
 cases r1 with
 | cons r rr =>
  cases rr with
  | cons r' rr =>
   cases rr
   obtain ⟨t,rfl⟩:=r
   obtain ⟨t',rfl⟩:=r'
   exact call_range_2 (Zsp I1 q1 q2 q3 q4 q)
def Xmj (wi:TI)(g:TG)(tb:TS):TS:=fun D σ H=>wi σ H fun J H1=>∃W:Nat→Nat→St→Hp→Prop,(∃m,W 0 m σ H1)∧∀i m σ H,W i m σ H→
 (J.stop i H∧D.nx σ H)∨(J.go i H∧∃N:St→Hp→Prop,(∀σ' H',N σ' H'→∃m',m'<m∧W (i+1) m' σ' H')∧∀x H',J.yld i H x H'→g x σ H' fun σ2 H2=>tb {D with nx:=N,ct:=N,bk:=D.nx} σ2 H2)
noncomputable def Zmk (fp:List Addr)(h:Heap):List (Addr×Obj):=fp.filterMap fun b=>(h.get? b).map fun o=>(b,o)
theorem Zdv {fp:List Addr}{h:Heap}{b:Addr}{o:Obj}(hb:b∈fp)(e:h.get? b=some o):(b,o)∈Zmk fp h:=List.mem_filterMap.mpr ⟨b,hb,by rw [e];rfl⟩
theorem Zys {fp:List Addr}{h:Heap}{p:Addr×Obj}(hp:p∈Zmk fp h):p.1∈fp∧h.get? p.1=some p.2:=by
 obtain ⟨b,hb,e⟩:=List.mem_filterMap.mp hp
 cases q:h.get? b with
 | none=>rw [q] at e;cases e
 | some o =>
  rw [q] at e
  have e':(b,o)=p:=Option.some.inj e
  subst e'
  exact ⟨hb,q⟩
theorem Inv.pinned {pins:List (Addr×Obj)}{σ:St}{H:Hp}{s:Shared}{fp:List Addr}(I:Inv X pins σ H s)(hf:∀b∈fp,Zor X pins H b)(ho:∀b∈fp,∃o,s.heap.get? b=some o∧∀v,o.data≠.cell v):Inv X (pins++Zmk fp s.heap) σ H s:=
 I.pins_of fun p hp=>(List.mem_append.mp hp).elim (fun z=>I.pin p (mem_append_right _ z)) fun z=>by
  obtain ⟨hb,e⟩:=Zys z
  obtain ⟨f0,f1,f2,_⟩:=hf p.1 hb
  obtain ⟨o,e',d⟩:=ho p.1 hb
  rw [e] at e';cases e'
  exact ⟨e,f0,f1,f2,d⟩
theorem Inv.unpinned {pins pl:List (Addr×Obj)}{σ:St}{H:Hp}{s:Shared}(I:Inv X (pins++pl) σ H s):Inv X pins σ H s:=I.pins_of fun p hp=>I.pin p (mem_append_right _ (mem_append_left _ hp))
theorem Xqm {iter:Expr}{body:List Stmt}{wi:TI}{g:TG}{tb:TS}{pos:Pos}(hp:PassesOwn (model X.prog X.w) X.A X.env X.xe)(hc:X.calm=true)(hi:PI X tg iter wi)(hg:PG X tg g)(hb:PSs X body tb)
  (hs:∀x,foldedSetIterable iter X.env x=pure x:=by intro _;rfl):PS X (.For tg iter body [] pos) (Xmj wi g tb):=by
 intro pins s σ H D I h
 refine wpAny_For (thn (hi pins s σ H _ I h) fun v s1 h1=>thn h1 fun itv s2 h2=>?_) hs
 obtain ⟨it,fp,tn,J,H2,e,I2,T,st2,f2,W,⟨m0,w0⟩,turn⟩:=h2
 subst e
 have stat:∀{H':Hp},(∀b∈fp,H' b=none)→∀b∈fp,Zor X pins H' b:=fun hn b hb=>⟨hn b hb,(f2 b hb).2⟩
 refine codeAny_forLoop_any (fun n s'=>∃i σ' H',Inv X pins σ' H' s'∧tn i s'.heap∧(∀b∈fp,H' b=none)∧W i n σ' H') ?_ m0 ⟨0,σ,H2,I2,st2,fun b hb=>(f2 b hb).1,w0⟩
 rintro n s3 ⟨i,σ3,H3,I3,st3,fr3,w3⟩
 rcases turn i n σ3 H3 w3 with ⟨stop,qn⟩ | ⟨go,N,hN,step⟩
 ·refine wpAny_passesOwn hp (thn (T.done X rfl rfl rfl hc i pins s3 σ3 H3 X.xe I3 (stat fr3) st3 stop) fun r s4 ⟨hr,I4⟩=>?_)
  subst hr
  exact wpAny_execs_nil ⟨σ3,H3,I4,qn⟩
 ·refine wpAny_passesOwn hp (thn (T.item X rfl rfl rfl hc i pins s3 σ3 H3 X.xe I3 (stat fr3) st3 go) fun r s4 ⟨u,hr,h4⟩=>?_)
  subst hr
  refine wpAny_passesOwn hp (thn h4 fun _ s5 hz9=>?_)
  obtain ⟨x,H5,I5,r5,y5,st5,fr5⟩:=hz9
  have I5':=I5.pinned (stat fr5) (T.obj _ _ st5)
  refine wpAny_passesOwn hp (thn (hg _ s5 σ3 H5 x u _ I5' r5 (step x H5 y5)) fun _ s6 hz9=>?_)
  obtain ⟨σ6,H6,I6,q6⟩:=hz9
  refine wpAny_passesOwn hp (thn (hb _ s6 σ6 H6 _ I6 q6) fun f s7 q7=>?_)
  have again:∀{σ7:St} {H7:Hp},Inv X (pins++Zmk fp s5.heap) σ7 H7 s7→N σ7 H7→∃m,m<n∧∃i σ' H',Inv X pins σ' H' s7∧tn i s7.heap∧(∀b∈fp,H' b=none)∧W i m σ' H':=fun {σ7 H7} I7 n7=>by
   obtain ⟨m',hm,w7⟩:=hN σ7 H7 n7
   refine ⟨m',hm,i+1,σ7,H7,I7.unpinned,T.keep _ _ _ st5 fun b hb o e=>(I7.pin (b,o) (mem_append_right _ (mem_append_right _ (Zdv hb e)))).1,fun b hb=>?_,w7⟩
   obtain ⟨o,e,d⟩:=T.obj _ _ st5 b hb
   exact (I7.pin (b,o) (mem_append_right _ (mem_append_right _ (Zdv hb e)))).2.1
  cases f with
  | next=>obtain ⟨σ7,H7,I7,n7⟩:=q7;exact again I7 n7
  | cont=>obtain ⟨σ7,H7,I7,n7⟩:=q7;exact again I7 n7
  | brk=>obtain ⟨σ7,H7,I7,q7⟩:=q7;exact ⟨σ7,H7,I7.unpinned,q7⟩
  | ret v=>obtain ⟨x7,σ7,H7,I7,r7,q7⟩:=q7;exact ⟨x7,σ7,H7,I7.unpinned,r7,q7⟩
end
noncomputable abbrev R2:=V→V→Hp→VK→Prop
def OpR (X:Cx)(f:Value→Value→Sem Value)(r:R2):Prop:=
 ∀(pins:List (Addr×Obj)) (s:Shared) (σ:St) (H:Hp) (x y:V) (v u:Value) (Q:VK),Inv X pins σ H s→RelV x v→RelV y u→r x y H Q→
  wpAny (model X.prog X.w) X.A (f v u) (EP X pins σ Q) X.xe s
def UnR (X:Cx)(f:Value→Sem Value)(r:V→Hp→VK→Prop):Prop:=
 ∀(pins:List (Addr×Obj)) (s:Shared) (σ:St) (H:Hp) (x:V) (v:Value) (Q:VK),Inv X pins σ H s→RelV x v→r x H Q→
  wpAny (model X.prog X.w) X.A (f v) (EP X pins σ Q) X.xe s
def Zav (X:Cx)(f:Value)(r:List V→Hp→VK→Prop):Prop:=
 ∀(pins:List (Addr×Obj)) (s:Shared) (σ:St) (H:Hp) (xs:List V) (us:List Value) (Q:VK),Inv X pins σ H s→Yw xs us→r xs H Q→
  wpAny (model X.prog X.w) X.A (call f us) (EP X pins σ Q) X.xe s
def tOp (r:R2)(ta tb:TE):TE:=fun σ H Q=>ta σ H fun x H1=>tb σ H1 fun y H2=>r x y H2 Q
def tUn (r:V→Hp→VK→Prop)(ta:TE):TE:=fun σ H Q=>ta σ H fun x H1=>r x H1 Q
noncomputable def rI (C:Int→Int→Prop)(g:Int→Int→V):R2:=fun x y H Q=>∃i j,x=.int i∧y=.int j∧C i j∧Q (g i j) H
noncomputable def rI0 (g:Int→Int→V):R2:=fun x y H Q=>∃i j,x=.int i∧y=.int j∧Q (g i j) H
def rU (g:Int→V):V→Hp→VK→Prop:=fun x H Q=>∃i,x=.int i∧Q (g i) H
section
variable {X:Cx}{a b c:Expr}{ta tb tc:TE}{pos:Pos}
theorem binT (ha:PE X a ta)(hb:PE X b tb){pins:List (Addr×Obj)}{s:Shared}{σ:St}{H:Hp}{R:V→V→Hp→Prop}(I:Inv X pins σ H s)
  (h:ta σ H fun x H1=>tb σ H1 fun y H2=>R x y H2) {Q:Value→Shared→Prop} {f:Value→Value→Sem Value}
  (hf:∀v u s2 x y H2,Inv X pins σ H2 s2→RelV x v→RelV y u→R x y H2→wpAny (model X.prog X.w) X.A (f v u) Q X.xe s2) :
  wpAny (model X.prog X.w) X.A (eval a X.env) (fun v s₁=>wpAny (model X.prog X.w) X.A (eval b X.env) (fun u s₂=>wpAny (model X.prog X.w) X.A (f v u) Q X.xe s₂) X.xe s₁) X.xe s:=by
 refine thn (ha pins s σ H _ I h) fun v s1 hz9=>?_
 obtain ⟨x,H1,I1,r1,q1⟩:=hz9
 refine thn (hb pins s1 σ H1 _ I1 q1) fun u s2 hz9=>?_
 obtain ⟨y,H2,I2,r2,q2⟩:=hz9
 exact hf v u s2 x y H2 I2 r1 r2 q2
theorem pe_op {op:Operator}{r:R2}(ho:OpR X (binaryOp op) r)(ha:PE X a ta)(hb:PE X b tb):PE X (.BinOp a op b pos) (tOp r ta tb):=by
 intro pins s σ H Q I h
 exact wpAny_BinOp (binT ha hb I h fun v u s2 x y H2 I2 rx ry q=>ho pins s2 σ H2 x y v u Q I2 rx ry q)
theorem pe_un {op:UnaryOp}{r:V→Hp→VK→Prop}(ho:UnR X (unaryOp op) r)(ha:PE X a ta):PE X (.UnaryOp op a pos) (tUn r ta):=by
 intro pins s σ H Q I h
 exact UnaryOp_ (thn (ha pins s σ H _ I h) fun v s1 ⟨x,H1,I1,r1,q1⟩=>ho pins s1 σ H1 x v Q I1 r1 q1)
theorem opI {f:Value→Value→Sem Value}{C:Int→Int→Prop}{g:Int→Int→Int}
  (rule:∀(i j:Int) (t u:Tok) (s:Shared) (Q:Value→Shared→Prop) (E:Value→Shared→Prop),C i j→Q (.int (g i j) s.toks) {s with toks:=s.toks+1}→wpAny (model X.prog X.w) X.A (f (.int i t) (.int j u)) Q E s) :
  OpR X f (rI C fun i j=>.int (g i j)):=by
 intro pins s σ H x y v u Q I rx ry h
 obtain ⟨i,j,rfl,rfl,hc,q⟩:=h
 obtain ⟨t,rfl⟩:=rx
 obtain ⟨t',rfl⟩:=ry
 exact rule i j t t' s _ _ hc ⟨.int (g i j),H,I.tok _,⟨_,rfl⟩,q⟩
theorem opI0 {f:Value→Value→Sem Value}{g:Int→Int→Int}
  (rule:∀(i j:Int) (t u:Tok) (s:Shared) (Q:Value→Shared→Prop) (E:Value→Shared→Prop),Q (.int (g i j) s.toks) {s with toks:=s.toks+1}→wpAny (model X.prog X.w) X.A (f (.int i t) (.int j u)) Q E s) :
  OpR X f (rI0 fun i j=>.int (g i j)):=by
 intro pins s σ H x y v u Q I rx ry h
 obtain ⟨i,j,rfl,rfl,q⟩:=h
 obtain ⟨t,rfl⟩:=rx
 obtain ⟨t',rfl⟩:=ry
 exact rule i j t t' s _ _ ⟨.int (g i j),H,I.tok _,⟨_,rfl⟩,q⟩
theorem opB0 {f:Value→Value→Sem Value}{g:Int→Int→Bool}
  (rule:∀(i j:Int) (t u:Tok) (s:Shared) (Q:Value→Shared→Prop) (E:Value→Shared→Prop),Q (.bool (g i j)) s→wpAny (model X.prog X.w) X.A (f (.int i t) (.int j u)) Q E s) :
  OpR X f (rI0 fun i j=>.bl (g i j)):=by
 intro pins s σ H x y v u Q I rx ry h
 obtain ⟨i,j,rfl,rfl,q⟩:=h
 obtain ⟨t,rfl⟩:=rx
 obtain ⟨t',rfl⟩:=ry
 exact rule i j t t' s _ _ ⟨.bl (g i j),H,I,rfl,q⟩
def CPow (i j:Int):Prop:=0≤j∧j≤1000000∧i.natAbs<2 ^ 64
def Xma (i j:Int):Prop:=(-(2 ^ 64)<i∧i<2 ^ 64)∨(-(2 ^ 64)<j∧j<2 ^ 64)
theorem Xma.ok {i j:Int}(h:Xma i j):IntMulOk i j:=by
 rcases h with ⟨h1,h2⟩ | ⟨h1,h2⟩
 ·exact .of_left (intBits_le_64 h1 h2)
 ·exact .of_right (intBits_le_64 h1 h2)
theorem Xnf:OpR X (binaryOp .Add) (rI0 fun i j=>.int (i+j)):=opI0 fun _ _ _ _ _ _ _ q=>add_int q
theorem Jz:OpR X (binaryOp .Sub) (rI0 fun i j=>.int (i - j)):=opI0 fun _ _ _ _ _ _ _ q=>sub_int q
theorem Xqp:OpR X (binaryOp .Mult) (rI Xma fun i j=>.int (i*j)):=opI fun _ _ _ _ _ _ _ hc q=>mul_int q hc.ok
theorem Zbf:OpR X (binaryOp .Mod) (rI (fun _ j=>0<j) fun i j=>.int (i % j)):=opI fun i j _ _ _ _ _ hc q=>by
 have h1:(0:Int)<j:=hc
 exact mod_int' (by omega) (by rw [Int.fmod_eq_emod_of_nonneg i (by omega)];exact q)
theorem Zfo:OpR X (binaryOp .Pow) (rI CPow fun i j=>.int (i ^ j.toNat)):=opI fun _ _ _ _ _ _ _ hc q=>pow_int_small hc.1 hc.2.1 hc.2.2 q
theorem unI {f:Value→Sem Value}{g:Int→Int}
  (rule:∀(i:Int) (t:Tok) (s:Shared) (Q:Value→Shared→Prop) (E:Value→Shared→Prop),Q (.int (g i) s.toks) {s with toks:=s.toks+1}→wpAny (model X.prog X.w) X.A (f (.int i t)) Q E s) :
  UnR X f (rU fun i=>.int (g i)):=by
 intro pins s σ H x v Q I rx h
 obtain ⟨i,rfl,q⟩:=h
 obtain ⟨t,rfl⟩:=rx
 exact rule i t s _ _ ⟨.int (g i),H,I.tok _,⟨_,rfl⟩,q⟩
theorem Xod:UnR X (unaryOp .USub) (rU fun i=>.int (-i)):=unI fun _ _ _ _ _ q=>neg_int q
end
noncomputable def scal:V→V→Bool
 | .non,.non=>true | .non,.int _=>true | .int _,.non=>true | .non,.bl _=>true | .bl _,.non=>true | .non,.str _=>true | .str _,.non=>true
 | .int _,.int _=>true | .bl _,.bl _=>true | .str _,.str _=>true | .byt _,.byt _=>true
 | .int _,.str _=>true | .str _,.int _=>true | .bl _,.str _=>true | .str _,.bl _=>true
 | _,_=>false
noncomputable def rEq:R2:=fun x y H Q=>scal x y=true∧Q (.bl (decide (x=y))) H
noncomputable def rNe:R2:=fun x y H Q=>scal x y=true∧Q (.bl (!decide (x=y))) H
theorem Zzf {i j:Int}:decide (V.int i=V.int j)=(i==j):=by
 rw [Bool.eq_iff_iff]
 simp
theorem Xfu {i j:Bool}:decide (V.bl i=V.bl j)=(i==j):=by
 rw [Bool.eq_iff_iff]
 simp
theorem Zws {i j:Str}:decide (V.str i=V.str j)=(i==j):=by
 rw [Bool.eq_iff_iff]
 simp
theorem Zvg {i j:Array UInt8}:decide (V.byt i=V.byt j)=(i.toList==j.toList):=by
 rw [Bool.eq_iff_iff]
 cases i
 cases j
 simp
section
variable {X:Cx}{a b c:Expr}{ta tb tc:TE}{pos:Pos}
theorem Yh {pins:List (Addr×Obj)}{σ:St}{H:Hp}{s:Shared}{Q:VK}{k k':Bool}(I:Inv X pins σ H s)(q:Q (.bl k) H)(e:k=k'):EP X pins σ Q (.bool k') s:=by
 subst e
 exact ⟨.bl k,H,I,rfl,q⟩
theorem op_eq:OpR X (compareOp .Eq) rEq:=by
 intro pins s σ H x y v u Q I rx ry h
 obtain ⟨hs,q⟩:=h
 cases x with
 | non =>
  cases rx
  cases y with
  | non=>cases ry;exact PySem.EqNone.eq_none_none (Yh I q (by simp))
  | bl j=>cases ry;exact PySem.EqNone.eq_none_bool (Yh I q (by simp))
  | int j=>obtain ⟨t',rfl⟩:=ry;exact PySem.EqNone.eq_none_int (Yh I q (by simp))
  | str j=>obtain ⟨t',rfl⟩:=ry;exact PySem.EqNone.eq_none_str (Yh I q (by simp))
  | _=>exact absurd (show false=true from hs) Bool.false_ne_true
 | bl i =>
  cases rx
  cases y with
  | non=>cases ry;exact PySem.EqNone.eq_bool_none (Yh I q (by simp))
  | bl j=>cases ry;exact eq_bool (Yh I q Xfu)
  | str j=>obtain ⟨t',rfl⟩:=ry;exact PySem.EqMixed.eq_bool_str (Yh I q (by simp))
  | _=>exact absurd (show false=true from hs) Bool.false_ne_true
 | int i =>
  obtain ⟨t,rfl⟩:=rx
  cases y with
  | non=>cases ry;exact PySem.EqNone.eq_int_none (Yh I q (by simp))
  | int j=>obtain ⟨t',rfl⟩:=ry;exact eq_int (Yh I q Zzf)
  | str j=>obtain ⟨t',rfl⟩:=ry;exact PySem.EqMixed.eq_int_str (Yh I q (by simp))
  | _=>exact absurd (show false=true from hs) Bool.false_ne_true
 | str i =>
  obtain ⟨t,rfl⟩:=rx
  cases y with
  | non=>cases ry;exact PySem.EqNone.eq_str_none (Yh I q (by simp))
  | bl j=>cases ry;exact PySem.EqMixed.eq_str_bool (Yh I q (by simp))
  | int j=>obtain ⟨t',rfl⟩:=ry;exact PySem.EqMixed.eq_str_int (Yh I q (by simp))
  | str j=>obtain ⟨t',rfl⟩:=ry;exact eq_str (Yh I q Zws)
  | _=>exact absurd (show false=true from hs) Bool.false_ne_true
 | byt i =>
  obtain ⟨t,rfl⟩:=rx
  cases y with
  | byt j=>obtain ⟨t',rfl⟩:=ry;exact PySem.W.eq_bytes (Yh I q Zvg)
  | _=>exact absurd (show false=true from hs) Bool.false_ne_true
 | _=>cases y<;>exact absurd (show false=true from hs) Bool.false_ne_true
theorem op_ne:OpR X (compareOp .NotEq) rNe:=by
 intro pins s σ H x y v u Q I rx ry h
 obtain ⟨hs,q⟩:=h
 cases x with
 | non =>
  cases rx
  cases y with
  | non=>cases ry;exact PySem.EqNone.ne_none_none (Yh I q (by simp))
  | bl j=>cases ry;exact PySem.EqNone.ne_none_bool (Yh I q (by simp))
  | int j=>obtain ⟨t',rfl⟩:=ry;exact PySem.EqNone.ne_none_int (Yh I q (by simp))
  | str j=>obtain ⟨t',rfl⟩:=ry;exact PySem.EqNone.ne_none_str (Yh I q (by simp))
  | _=>exact absurd (show false=true from hs) Bool.false_ne_true
 | bl i =>
  cases rx
  cases y with
  | non=>cases ry;exact PySem.EqNone.ne_bool_none (Yh I q (by simp))
  | bl j=>cases ry;exact ne_bool (Yh I q (congrArg not Xfu))
  | str j=>obtain ⟨t',rfl⟩:=ry;exact PySem.EqMixed.ne_bool_str (Yh I q (by simp))
  | _=>exact absurd (show false=true from hs) Bool.false_ne_true
 | int i =>
  obtain ⟨t,rfl⟩:=rx
  cases y with
  | non=>cases ry;exact PySem.EqNone.ne_int_none (Yh I q (by simp))
  | int j=>obtain ⟨t',rfl⟩:=ry;exact ne_int (Yh I q (congrArg not Zzf))
  | str j=>obtain ⟨t',rfl⟩:=ry;exact PySem.EqMixed.ne_int_str (Yh I q (by simp))
  | _=>exact absurd (show false=true from hs) Bool.false_ne_true
 | str i =>
  obtain ⟨t,rfl⟩:=rx
  cases y with
  | non=>cases ry;exact PySem.EqNone.ne_str_none (Yh I q (by simp))
  | bl j=>cases ry;exact PySem.EqMixed.ne_str_bool (Yh I q (by simp))
  | int j=>obtain ⟨t',rfl⟩:=ry;exact PySem.EqMixed.ne_str_int (Yh I q (by simp))
  | str j=>obtain ⟨t',rfl⟩:=ry;exact ne_str (Yh I q (congrArg not Zws))
  | _=>exact absurd (show false=true from hs) Bool.false_ne_true
 | byt i =>
  obtain ⟨t,rfl⟩:=rx
  cases y with
  | byt j=>obtain ⟨t',rfl⟩:=ry;exact PySem.W.ne_bytes (Yh I q (congrArg not Zvg))
  | _=>exact absurd (show false=true from hs) Bool.false_ne_true
 | _=>cases y<;>exact absurd (show false=true from hs) Bool.false_ne_true
theorem Zlw:OpR X (compareOp .Lt) (rI0 fun i j=>.bl (decide (i<j))):=opB0 fun _ _ _ _ _ _ _ q=>lt_int q
theorem Zmw:OpR X (compareOp .LtE) (rI0 fun i j=>.bl (decide (i≤j))):=opB0 fun _ _ _ _ _ _ _ q=>le_int q
theorem Zoo:OpR X (compareOp .Gt) (rI0 fun i j=>.bl (decide (j<i))):=opB0 fun _ _ _ _ _ _ _ q=>gt_int q
theorem Xmp:OpR X (compareOp .GtE) (rI0 fun i j=>.bl (decide (j≤i))):=opB0 fun _ _ _ _ _ _ _ q=>ge_int q
theorem Xqa:OpR X (compareOp .Is) (fun x y H Q=>y=.non∧Q (.bl (decide (x=.non))) H):=by
 intro pins s σ H x y v u Q I rx ry h
 obtain ⟨rfl,q⟩:=h
 cases ry
 refine is_none_gen (Yh I q ?_)
 cases x<;>first
  | (cases rx;rfl)
  | (obtain ⟨t,rfl⟩:=rx;rfl)
theorem OpR.or {f:Value→Value→Sem Value}{r r':R2}(h:OpR X f r)(h':OpR X f r'):OpR X f (fun x y H Q=>r x y H Q∨r' x y H Q):=by
 intro pins s σ H x y v u Q I rx ry q
 rcases q with q | q
 ·exact h pins s σ H x y v u Q I rx ry q
 ·exact h' pins s σ H x y v u Q I rx ry q
theorem Xv (b:Expr){op:CmpOp}(h:op≠.In:=by decide)(h2:op≠.NotIn:=by decide):behindInMarks op b=false:=by
 have e1:(op==CmpOp.In)=false:=by cases op<;>first | rfl | exact absurd rfl h
 have e2:(op==CmpOp.NotIn)=false:=by cases op<;>first | rfl | exact absurd rfl h2
 cases b<;>simp [behindInMarks,e1,e2]
theorem Xjt {op:CmpOp}{r:R2}(ho:OpR X (compareOp op) r)(ha:PE X a ta)(hb:PE X b tb)(hm:behindInMarks op b=false):PE X (.Compare a [op] [b] pos) (tOp r ta tb):=by
 intro pins s σ H Q I h
 exact wpAny_Compare1 (binT ha hb I h fun v u s2 x y H2 I2 rx ry q=>ho pins s2 σ H2 x y v u Q I2 rx ry q) hm
def Zot (t:TE):TT:=fun σ H Q=>t σ H fun x H'=>∃k,x=.bl k∧Q k H'
theorem Xhq {op:CmpOp}{r:R2}(ho:OpR X (compareOp op) r)(ha:PE X a ta)(hb:PE X b tb)(hm:behindInMarks op b=false):PT X (.Compare a [op] [b] pos) (Zot (tOp r ta tb)):=by
  intro pins s σ H Q I h
  refine wpAny_isTrue_Compare1 (thn (ha pins s σ H _ I h) fun v s1 ⟨x,H1,I1,r1,q1⟩=>thn (hb pins s1 σ H1 _ I1 q1) fun u s2 ⟨y,H2,I2,r2,q2⟩ =>
    thn (ho pins s2 σ H2 x y v u _ I2 r1 r2 q2) fun c s3 ⟨z,H3,I3,r3,k,e,q3⟩=>?_) hm
  subst e
  cases r3
  exact wpAny_truthy_bool ⟨H3,I3,q3⟩
def Zqb (r r':R2)(ta tb tc:TE):TE:=fun σ H Q=>ta σ H fun x H1=>tb σ H1 fun y H2=>r x y H2 fun z H3=>∃k,z=.bl k∧
 (if k=true then tc σ H3 fun w' H4=>r' y w' H4 Q else Q (.bl false) H3)
theorem Xdk {op op':CmpOp}{r r':R2}(ho:OpR X (compareOp op) r)(ho':OpR X (compareOp op') r')(ha:PE X a ta)(hb:PE X b tb)(hc:PE X c tc)
    (hm:lastMarks [op,op'] [b,c]=false:=by with_unfolding_all rfl):PT X (.Compare a [op,op'] [b,c] pos) (Zot (Zqb r r' ta tb tc)):=by
  intro pins s σ H Q I h
  refine isTrue_chain (thn (ha pins s σ H _ I h) fun v s1 ⟨x,H1,I1,r1,q1⟩=>test_link (thn (hb pins s1 σ H1 _ I1 q1) fun u s2 ⟨y,H2,I2,r2,q2⟩ =>
    thn (ho pins s2 σ H2 x y v u _ I2 r1 r2 q2) fun d s3 ⟨z,H3,I3,r3,k,e,q3⟩=>?_)) hm
  subst e
  cases r3
  refine wpAny_truthy_bool ?_
  cases k with
  | false =>
    obtain ⟨k',e',q'⟩:=q3
    cases e'
    exact ite_ff ⟨H3,I3,q'⟩
  | true =>
    refine ite_tt (test_last (thn (hc pins s3 σ H3 _ I3 q3) fun w' s4 ⟨z',H4,I4,r4,q4⟩=>thn (ho' pins s4 σ H4 y z' u w' _ I4 r2 r4 q4) fun d' s5 ⟨z2,H5,I5,r5,k2,e2,q5⟩=>?_))
    subst e2
    cases r5
    exact wpAny_truthy_bool ⟨H5,I5,q5⟩
theorem Zhx:(sizeLine:Nat)<2 ^ 63:=by rw [sizeLine_eq];decide
theorem Zsw:OpR X (binaryOp .Add) (fun x y H Q=>∃i j,x=.str i∧y=.str j∧i.length+j.length≤sizeLine∧Q (.str (i++j)) H):=by
 intro pins s σ H x y v u Q I rx ry h
 obtain ⟨i,j,rfl,rfl,hz,q⟩:=h
 obtain ⟨t,rfl⟩:=rx
 obtain ⟨t',rfl⟩:=ry
 exact add_str (fun t' tk=>⟨.str (i++j),H,I.tok _,⟨_,rfl⟩,q⟩) hz
theorem vals1 {x:V}{us:List Value}(r:Yw [x] us):∃u,us=[u]∧RelV x u:=by
 cases r with
 | cons r1 r2=>cases r2;exact ⟨_,rfl,r1⟩
theorem vals2 {x y:V}{us:List Value}(r:Yw [x,y] us):∃u w',us=[u,w']∧RelV x u∧RelV y w':=by
 cases r with
 | cons r1 r2 =>
  cases r2 with
  | cons r3 r4=>cases r4;exact ⟨_,_,rfl,r1,r3⟩
theorem Zwm (hc:X.calm=true):Zav X (.builtin "max") (fun xs H Q=>∃i j,xs=[.int i,.int j]∧Q (.int (if j > i then j else i)) H):=by
 intro pins s σ H xs us Q I r h
 obtain ⟨i,j,rfl,q⟩:=h
 obtain ⟨u,w',rfl,⟨t,rfl⟩,⟨t',rfl⟩⟩:=vals2 r
 refine max_two_ints (I.ok.hd hc) fun h' tk k=>⟨_,H,I.kept k,?_,q⟩
 by_cases hj:j > i
 ·rw [if_pos hj,if_pos hj];exact ⟨_,rfl⟩
 ·rw [if_neg hj,if_neg hj];exact ⟨_,rfl⟩
theorem Zym (hc:X.calm=true):Zav X (.builtin "min") (fun xs H Q=>∃i j,xs=[.int i,.int j]∧Q (.int (if j<i then j else i)) H):=by
 intro pins s σ H xs us Q I r h
 obtain ⟨i,j,rfl,q⟩:=h
 obtain ⟨u,w',rfl,⟨t,rfl⟩,⟨t',rfl⟩⟩:=vals2 r
 refine min_two_ints (I.ok.hd hc) fun h' tk k=>⟨_,H,I.kept k,?_,q⟩
 by_cases hj:j<i
 ·rw [if_pos hj,if_pos hj];exact ⟨_,rfl⟩
 ·rw [if_neg hj,if_neg hj];exact ⟨_,rfl⟩
end
structure ObjM (h:Heap)(x dx C:Addr)(mA:Str→Option Value):Prop where
 obj:h.get? x=some (PySem.W.instObj C dx)
 ns:h.Ns1 dx mA
 ne:dx≠x
section
variable {prog:Program}{w:World}{A:Around}{E:Value→Shared→Prop}{s:Shared}{K:Frag}{x dx C f:Addr}{mA:Str→Option Value}{name:Str}{v:Value}
end
noncomputable def putF (f:Str)(v:V):List (Str×V)→List (Str×V)
 | []=>[(f,v)]
 | (g,x)::r=>if g=f then (g,v)::r else (g,x)::putF f v r
section
variable {P:Program}{w:World}{H H':Hp}{h h':Heap}{a C dx:Addr}{fs fs':List (Str×V)}
end
structure Cls (K:Frag)(C:Addr):Prop where
 pg:PySem.W.plainGet K C Str.empty=true
 hd:PySem.W.hasDictIn K C=true
 po:PySem.W.plainOver K C=true
 sa:findIn K (.ref C) "__setattr__"=some (some (.builtin "object.__setattr__"))
def Xpf (K:Frag)(C:Addr)(f:Str):Prop:=findIn K (.ref C) f=some none
structure Con (K:Frag)(C:Addr)(f:Str)(v:V)(u:Value):Prop where
 at_:findIn K (.ref C) f=some (some u)
 rel:RelV v u
 get:specialIn K u "__get__"=some none
 cp:PySem.W.copiedNames.contains f=false
structure Meth (K:Frag)(C:Addr)(m:Str)(f:Addr):Prop where
 at_:findIn K (.ref C) m=some (some (.ref f))
 fn:isFn K (.ref f)=true
 kp:keepIn K (.ref f)=true
section
variable {X:Cx}{pins:List (Addr×Obj)}{σ:St}{H:Hp}{s:Shared}{a C dx:Addr}{fs:List (Str×V)}{f:Str}{v:V}{A:Around}{E:Value→Shared→Prop}
end
def sFld (K:Frag)(ta tv:TE)(f:Str):TS:=fun D σ H=>tv σ H fun y H1=>ta σ H1 fun x H2=>∃a C dx fs,x=.ref a∧H2 a=some (.ins C dx fs)∧Cls K C∧Xpf K C f∧fs.length<1000∧
 D.nx σ (upd H2 a (.ins C dx (putF f y fs)))
section
variable {X:Cx}{o e value:Expr}{f:Str}{pos pos' tpos:Pos}{ta tv:TE}
end
section
variable {X:Cx}{pins:List (Addr×Obj)}{σ:St}{H:Hp}{s:Shared}{A:Around}{E:Value→Shared→Prop}{Q:Value→Shared→Prop}{c:Value}{b:Bool}
inductive TyOf (K:Frag)(H:Hp):V→Value→Prop where
 | non:TyOf K H .non (.type "NoneType")
 | bl (x:Bool):TyOf K H (.bl x) (.type "bool")
 | int (i:Int):TyOf K H (.int i) (.type "int")
 | str (x:Str):TyOf K H (.str x) (.type "str")
 | flt (x:UInt64):TyOf K H (.flt x) (.type "float")
 | lst {a:Addr} {xs:List V} (e:H a=some (.lst xs)):TyOf K H (.ref a) (.type "list")
 | frz {a:Addr} {o:Obj} {xs:List V} (e:H a=some (.frz o (.lst xs))):TyOf K H (.ref a) (.type "list")
 | tup {a:Addr} {xs:List V} (e:H a=some (.tup xs)):TyOf K H (.ref a) (.type "tuple")
 | dK {a:Addr} {kvs:List (Key×V)} (e:H a=some (.dK kvs)):TyOf K H (.ref a) (.type "dict")
 | dT {a:Addr} {kvs:List (List Key×V)} (e:H a=some (.dT kvs)):TyOf K H (.ref a) (.type "dict")
 | ins {a C dx:Addr} {fs:List (Str×V)} (e:H a=some (.ins C dx fs)) (cl:Cls K C) (ha:findIn K (.ref C) "__class__"=some (some (.builtin "object.__class__")))
   (hn:specialIn K (.builtin "object.__class__") "__get__"=some (some (.builtin "getset_descriptor.__get__"))) (htk:PySem.W.takesIn K (.builtin "object.__class__")=some true)
   (hm:PySem.W.mroIn K C (.type "object")=some true):TyOf K H (.ref a) (.ref C)
end
structure Zdy (k:Nat)(A:Around):Prop where
 hd:A.handled=none
 dp:A.depth+3*k+5<recursionLimit
 un:A.units+16*k+200<cLine
 gd:A.guards=some []
theorem Zdy.mono {j k:Nat}{A:Around}(r:Zdy k A)(h:j≤k):Zdy j A:=⟨r.hd,by have:=r.dp;omega,by have:=r.un;omega,r.gd⟩
theorem Zdy.deeper {k:Nat}{A:Around}(r:Zdy (k+1) A)(env:Env):Zdy k (A.deeper env):=
 ⟨r.hd,by have:=r.dp;show A.depth+1+3*k+5<_;omega,by have:=r.un;show A.units+3+16*k+200<_;omega,r.gd⟩
theorem Zdy.in1 {k:Nat}{A:Around}(r:Zdy (k+1) A):Zdy k A.in1:=
 ⟨r.hd,by have:=r.dp;show A.depth+3*k+5<_;omega,by have:=r.un;show A.units+1+16*k+200<_;omega,r.gd⟩
theorem Zdy.depth {k:Nat}{A:Around}(r:Zdy k A):A.depth<recursionLimit:=by have:=r.dp;omega
theorem Zdy.units {k:Nat}{A:Around}(r:Zdy k A):A.units+64<cLine:=by have:=r.un;omega
def Zqa:TA:=fun _ H Q=>Q [] H
def Zdn (ta:TE)(tr:TA):TA:=fun σ H Q=>ta σ H fun x H1=>tr σ H1 fun xs H2=>Q (x::xs) H2
section
variable {X:Cx}{e:Expr}{es:List Expr}{te:TE}{t:TA}{pos:Pos}
theorem Zqd:PA X [] Zqa:=fun _ _ _ _ H Q I h=>Calls.spliced_nil ⟨[],H,I,.nil,h⟩
theorem Zku (ha:PE X e te)(hr:PA X es t)(hs:starEach (e::es) X.env=(false,eval e X.env)::starEach es X.env:=by rfl):PA X (e::es) (Zdn te t):=by
 intro pos pins s σ H Q I h
 rw [hs]
 show wpAny _ _ (spliced ((false,eval e X.env)::backTo pos (starEach es X.env))) _ _ s
 refine Calls.spliced_cons (thn (ha pins s σ H _ I h) fun u s1 hz9=>?_)
 obtain ⟨x,H1,I1,r1,q1⟩:=hz9
 exact thn (hr pos pins s1 σ H1 _ I1 q1) fun us s2 ⟨xs,H2,I2,r2,q2⟩=>⟨x::xs,H2,I2,.cons r1 r2,q2⟩
def tTup (t:TA):TE:=fun σ H Q=>t σ H fun xs H1=>xs.length≤sizeLine∧∀p,H1 p=none→Q (.ref p) (upd H1 p (.tup xs))
def Xlx (t:TA):TE:=fun σ H Q=>t σ H fun xs H1=>xs.length≤sizeLine∧∀p,H1 p=none→Q (.ref p) (upd H1 p (.lst xs))
theorem Xog {x1}(h:PA X es t):PE X (.Tuple es x1 pos) (tTup t):=by
 intro pins s σ H Q I hq
 refine wpAny_Tuple_spliced (thn (h pos pins s σ H _ I hq) fun us s1 ⟨xs,H1,I1,r,z,q⟩=>⟨by rw [← r.length];exact z,?_⟩)
 have hf:H1 s1.heap.objs.size=none:=I1.hok.fresh (le_refl _)
 refine ⟨.ref s1.heap.objs.size,upd H1 s1.heap.objs.size (.tup xs),I1.laid (t':=s1.toks) (fun b u e=>get?_push_of_some _ e) (le_refl _) ?_,rfl,q _ hf⟩
 exact ⟨z,us,r,⟨_,get?_push_size _ rfl,rfl,_,rfl⟩⟩
theorem Xqv (h:PA X es t):PE X (.List es pos) (Xlx t):=by
 intro pins s σ H Q I hq
 refine wpAny_List_spliced (thn (h pos pins s σ H _ I hq) fun us s1 ⟨xs,H1,I1,r,z,q⟩=>⟨by rw [← r.length];exact z,?_⟩)
 have hf:H1 s1.heap.objs.size=none:=I1.hok.fresh (le_refl _)
 refine ⟨.ref s1.heap.objs.size,upd H1 s1.heap.objs.size (.lst xs),I1.laid (t':=s1.toks) (fun b u e=>get?_push_of_some _ e) (le_refl _) ?_,rfl,q _ hf⟩
 exact ⟨z,us,0,r,get?_push_size _ rfl⟩
end
noncomputable abbrev Sp:=List V→Hp→VK→XK→Prop
noncomputable abbrev CXT:=List Env→Hp→Shared→XK→Value→Shared→Prop
structure Xmi (P:Program)(w:World)(K:Frag)(mg:Str→Option Value)(base:Heap)(A:Around)(outer:List Env)(s:Shared)(H:Hp):Prop where
 frames:A.frames=some outer
 mod:Mod K mg base
 bs:∀b o,base.get? b=some o→s.heap.get? b=some o∧H b=none
 bsz:base.objs.size≤s.heap.objs.size
 funs:s.heap.FunFrames base outer
 frf:∀b∈frs outer,H b=none
 hok:HOk P w H s.heap
 bare:AllBare s.gens
def CE (outer:List Env)(P:Program)(w:World)(H:Hp)(s:Shared)(Q:VK)(u:Value)(s':Shared):Prop:=
 ∃v H',s'.os=s.os∧AllBare s'.gens∧Un (frs outer) [] H H' s.heap s'.heap∧HOk P w H' s'.heap∧RelV v u∧Q v H'
def CR (CX:CXT)(outer:List Env)(P:Program)(w:World)(H:Hp)(s:Shared)(Q:VK)(E:XK)(r:Result)(s':Shared):Prop:=
 match r with
 | .ok (.ret u)=>CE outer P w H s Q u s'
 | .ok _=>False
 | .error e=>CX outer H s E e s'
structure Zam (P:Program)(w:World)(K:Frag)(mg:Str→Option Value)(base:Heap)(CX:CXT)(k:Nat)(f:Addr)(fd:FuncData)(ps:List Str)(sp:Sp):Prop where
 len:∀vs H Q E,sp vs H Q E→vs.length=ps.length
 run:∀(A:Around) (outer:List Env) (s:Shared) (H:Hp) (args:Args) (us:List Value) (vs:List V) (Q:VK) (E:XK),Zdy k A→Xmi P w K mg base A outer s H→BindsTo s fd args (ps.zip us)→Yw vs us→sp vs H Q E→
  codeAny (model P w) A (.call (.ref f) args) (CR CX outer P w H s Q E) s
theorem Zam.imp {P:Program}{w:World}{K:Frag}{mg:Str→Option Value}{base:Heap}{CX:CXT}{k:Nat}{f:Addr}{fd:FuncData}{ps:List Str}{sp sp':Sp}(F:Zam P w K mg base CX k f fd ps sp)
  (h:∀vs H Q E,sp' vs H Q E→sp vs H Q E):Zam P w K mg base CX k f fd ps sp':=
 ⟨fun vs H Q E q=>F.len vs H Q E (h _ _ _ _ q),fun A outer s H args us vs Q E hr he hb hv hs=>F.run A outer s H args us vs Q E hr he hb hv (h _ _ _ _ hs)⟩
section
variable {X:Cx}{pins:List (Addr×Obj)}{σ:St}{H:Hp}{s s':Shared}
theorem Inv.env0 (I:Inv X pins σ H s):Xmi X.prog X.w X.K X.mg X.base X.A X.stack s H:=
 ⟨I.ok.frames,I.ok.mod,I.bs,le_trans I.ok.bsz I.sz,I.stack,I.stkFree,I.hok,I.bare⟩
theorem Inv.after {Q:VK}{u:Value}(I:Inv X pins σ H s)(h:CE X.stack X.prog X.w H s Q u s'):EP X pins σ Q u s':=by
 obtain ⟨v,H',os,bare,un,hok,r,q⟩:=h
 obtain ⟨hh,g,d,t,os'⟩:=s'
 obtain rfl:os'=s.os:=os
 exact ⟨v,H',I.call (h':=hh) (g':=g) (d':=d) (t':=t) (ch:=[]) un hok bare (fun b z=>absurd z (by simp)),r,q⟩
end
def Zks (sp:Sp)(dvs:List V)(E:XK)(t:TA):TE:=fun σ H Q=>t σ H fun vs H1=>sp (vs++dvs) H1 Q E
def Binds (K:Frag)(fd:FuncData)(ps:List Str)(ds:List Value):Prop:=
 ∀(s:Shared) (us:List Value),K.In s.heap→(us++ds).length=ps.length→BindsTo s fd ⟨us,[]⟩ (ps.zip (us++ds))
theorem Binds.all {K:Frag}{fd:FuncData}{ps:List Str}(h:∀us:List Value,us.length=ps.length→bindArgs fd ⟨us,[]⟩=pure (ps.zip us)):Binds K fd ps []:=fun s us _ hl=>by
 rw [append_nil] at hl ⊢
 exact .of_eq (h us hl)
def Zgi (CX:CXT)(X:Cx)(E:XK):Prop:=∀(pins:List (Addr×Obj)) (σ:St) (H:Hp) (s:Shared) (e:Value) (s':Shared),Inv X pins σ H s→CX X.stack H s E e s'→X.xe e s'
section
variable {X:Cx}{CX:CXT}{k:Nat}{f C:Addr}{fd:FuncData}{ps:List Str}{sp:Sp}{dvs:List V}{ds:List Value}{E:XK}{x m:Str}{p pos apos:Pos}{e o:Expr}{es:List Expr}{ta:TE}{t:TA}
theorem Xni {pins:List (Addr×Obj)}{σ:St}{H:Hp}{s:Shared}{Q:VK}{us:List Value}{vs:List V}(F:Zam X.prog X.w X.K X.mg X.base CX k f fd ps sp)(hr:Zdy k X.A)(hb:Binds X.K fd ps ds)(hd:Yw dvs ds)(hx:Zgi CX X E)
  (I:Inv X pins σ H s) (r:Yw vs us) (h:sp (vs++dvs) H Q E):wpAny (model X.prog X.w) X.A (call (.ref f) us) (EP X pins σ Q) X.xe s:=by
 have r2:Yw (vs++dvs) (us++ds):=r.append hd
 have hl:(us++ds).length=ps.length:=by rw [← r2.length];exact F.len _ _ _ _ h
 refine wpAny_call (codeAny_mono (F.run X.A X.stack s H ⟨us,[]⟩ (us++ds) (vs++dvs) Q E hr I.env0 (hb s us I.kIn hl) r2 h) fun r s' hq=>?_)
 cases r with
 | error e=>exact hx pins σ H s e s' I hq
 | ok fl =>
  cases fl with
  | ret u=>exact I.after hq
  | next=>exact False.elim hq
  | brk=>exact False.elim hq
  | cont=>exact False.elim hq
theorem Xhr (F:Zam X.prog X.w X.K X.mg X.base CX k f fd ps sp)(hr:Zdy k X.A)(hg:Gl X x)(hm:X.mg x=some (.ref f))(hk:keepIn X.K (.ref f)=true)(hb:Binds X.K fd ps ds)(hd:Yw dvs ds)(hx:Zgi CX X E)
  (ha:PA X (e::es) t) (hdb:(x==("__debug__":Str))=false:=by decide) (he:starEach (e::es) X.env=(false,eval e X.env)::starEach es X.env:=by rfl) (hpl:(backTo pos (starEach es X.env)).any (·.1)=false:=by rfl) :
  PE X (.Call (.Name x p) (e::es) [] pos) (Zks sp dvs E t):=by
 intro pins s σ H Q I h
 refine wpAny_Call_Name_kw (Xgx I hg hm ?_ hdb)
 refine PySem.W.callWith_K (h₀:=X.base) I.ok.mod.kin hk (thn (ha pos pins s σ H _ I h) fun us s1 ⟨vs,H1,I1,r,q⟩=>⟨I1.kIn,?_⟩) he hpl
 exact Xni F hr hb hd hx I1 r q
structure Mk (K:Frag)(C f:Addr):Prop where
 makes:PySem.W.makesIn K C=true
 init:findIn K (.ref C) "__init__"=some (some (.ref f))
 fn:isFn K (.ref f)=true
 kp:keepIn K (.ref C)=true
end
section
variable {X:Cx}{CX:CXT}{k:Nat}{f C:Addr}{fd:FuncData}{ps ks:List Str}{sp:Sp}{E:XK}{x m:Str}{p pos apos kpos:Pos}{e o:Expr}{es:List Expr}{kws:List Keyword}{te ta:TE}{t tk:TA}{nm:Option Str}
structure KBinds (K:Frag)(fd:FuncData)(ps ks:List Str)(g:List Value→List Value→List Value)(gV:List V→List V→List V):Prop where
 to:∀(s:Shared) (us ws:List Value),K.In s.heap→(g us ws).length=ps.length→BindsTo s fd ⟨us,ks.zip ws⟩ (ps.zip (g us ws))
 rel:∀{vs:List V} {us:List Value} {zs:List V} {ws:List Value},Yw vs us→Yw zs ws→Yw (gV vs zs) (g us ws)
variable {g:List Value→List Value→List Value}{gV:List V→List V→List V}
end
structure Xg (N P:List Str)(sc:Scope):Prop where
 kind:sc.kind=.function
 co:sc.isCoroutine=false
 gen:sc.isGenerator=false
 nd:N.Nodup
 pre:N.take P.length=P
 par:∀x∈P,sc.names.lookup x=some .local∨sc.names.lookup x=some .cell
 nofree:∀y∈sc.names,y.2≠.free
theorem Zne {kindOf:Str→Option NameKind}{x:Str}:∀{binds:List (Str×Value)} {m:Str→Option Value},(∀v,(x,v)∉binds)→bindL kindOf binds m x=m x
 | [],_,_=>rfl
 | (n,v)::r,m,h=>by
  unfold bindL
  rw [Zne fun w hw=>h w (mem_cons_of_mem _ hw)]
  split
  ·have:x≠n:=by rintro rfl;exact h v mem_cons_self
   simp [this]
  ·rfl
theorem Zmm {kindOf:Str→Option NameKind}{x:Str}:∀{binds:List (Str×Value)} {m:Str→Option Value},(∀v,(x,v)∉binds)→bindC kindOf binds m x=m x
 | [],_,_=>rfl
 | (n,v)::r,m,h=>by
  unfold bindC
  rw [Zmm fun w hw=>h w (mem_cons_of_mem _ hw)]
  split
  ·rfl
  ·have:x≠n:=by rintro rfl;exact h v mem_cons_self
   simp [this]
theorem Zno {kindOf:Str→Option NameKind}{x:Str}{v:Value}:∀{P:List Str} {vs:List Value} {i:Nat} {m:Str→Option Value},P.Nodup→P[i]?=some x→vs[i]?=some v→kindOf x=some .local→
  bindL kindOf (P.zip vs) m x=some v
 | [],_,_,_,_,h,_,_=>by simp at h
 | _::_,[],_,_,_,_,h,_=>by simp at h
 | p::P,w::vs,0,m,nd,h1,h2,hk=>by
  simp at h1 h2;subst h1;subst h2
  show bindL kindOf ((p,w)::P.zip vs) m p=_
  unfold bindL
  rw [Zne fun v hv=>(List.nodup_cons.mp nd).1 (of_mem_zip hv).1,if_pos hk]
  simp
 | p::P,w::vs,i+1,m,nd,h1,h2,hk=>by
  show bindL kindOf ((p,w)::P.zip vs) m x=_
  unfold bindL
  exact Zno (i:=i) (List.nodup_cons.mp nd).2 (by simpa using h1) (by simpa using h2) hk
theorem Zmd {kindOf:Str→Option NameKind}{x:Str}{v:Value}:∀{P:List Str} {vs:List Value} {i:Nat} {m:Str→Option Value},P.Nodup→P[i]?=some x→vs[i]?=some v→kindOf x≠some .local→
  bindC kindOf (P.zip vs) m x=some v
 | [],_,_,_,_,h,_,_=>by simp at h
 | _::_,[],_,_,_,_,h,_=>by simp at h
 | p::P,w::vs,0,m,nd,h1,h2,hk=>by
  simp at h1 h2;subst h1;subst h2
  show bindC kindOf ((p,w)::P.zip vs) m p=_
  unfold bindC
  rw [Zmm fun v hv=>(List.nodup_cons.mp nd).1 (of_mem_zip hv).1,if_neg hk]
  simp
 | p::P,w::vs,i+1,m,nd,h1,h2,hk=>by
  show bindC kindOf ((p,w)::P.zip vs) m x=_
  unfold bindC
  exact Zmd (i:=i) (List.nodup_cons.mp nd).2 (by simpa using h1) (by simpa using h2) hk
noncomputable def start (N:List Str)(vs:List V):St:=vs.map some++List.replicate (N.length - vs.length) none
noncomputable def Zyy (CX:CXT)(P:Program)(w:World)(K:Frag)(mg:Str→Option Value)(base:Heap)(N:List Str)(qual:Str)(scope:Scope)(f:Addr)(cd:Value)(A:Around)(outer:List Env)(s:Shared)(H:Hp)(E:XK):Cx where
 prog:=P
 w:=w
 K:=K
 mg:=mg
 base:=base
 A:=A.deeper (envOfC qual scope s.heap.objs.size f cd)
 N:=N
 s₀:=s
 H₀:=H
 env:=envOfC qual scope s.heap.objs.size f cd
 outer:=outer
 stack:=envOfC qual scope s.heap.objs.size f cd::outer
 ex:=[]
 calm:=true
 fn:=fun _=>true
 pn:=[]
 xe:=fun e s'=>wpAny (model P w) (A.deeper (envOfC qual scope s.heap.objs.size f cd)) (leaving (envOfC qual scope s.heap.objs.size f cd) e) (fun _ s''=>CX outer H s E e s'') (fun e' s''=>CX outer H s E e' s'') s'
theorem Zrr {sc:Scope}{n:Nat}{x:Str}(h:sc.names.lookup x=some .cell):∃c,(cellsFrom n sc.names []).lookup x=some c:=by
 have q:=PySem.W.cellsFrom_some sc.names n [] (.inl h)
 exact Option.isSome_iff_exists.mp q
theorem Zwt {CX:CXT}{P:Program}{w:World}{K:Frag}{mg:Str→Option Value}{base:Heap}{N ps:List Str}{qual:Str}{scope:Scope}{f:Addr}{cd:Value}{A:Around}{outer:List Env}{s s1:Shared}{H:Hp}{E:XK}{us:List Value}{vs:List V}
    (S:Xg N ps scope) (hd:A.handled=none) (e0:Xmi P w K mg base A outer s H) (hl:vs.length=ps.length) (r:Yw vs us)
    (x:InCallC s s.heap.objs.size (bindL (envOfC qual scope s.heap.objs.size f cd).kindOf (ps.zip us) fun _=>none) (cellsFrom (s.heap.objs.size+1) scope.names []) (bindC (envOfC qual scope s.heap.objs.size f cd).kindOf (ps.zip us) fun _=>none) s1) :
    Inv (Zyy CX P w K mg base N qual scope f cd A outer s H E) [] (start N vs) H s1:=by
  have hpl:ps.length≤N.length:=by have:=congrArg List.length S.pre;rw [length_take] at this;omega
  obtain ⟨h1,tk,rfl,hk⟩:=x.done
  have noA:∀b:Addr,b∉(Zyy CX P w K mg base N qual scope f cd A outer s H E).ex:=fun b z=>absurd (show b∈([]:List Addr) from z) (by simp)
  refine ⟨⟨e0.mod,S.kind,rfl,rfl,le_refl _,fun y z c h1 h2=>?_,fun y hy=>?_,fun y c _ h=>?_,fun _=>hd,Around.frames_deeper e0.frames,.inr ⟨rfl,rfl⟩,fun b z=>absurd z (noA b),e0.bs,e0.bsz,fun b _ _=>noA b,fun b z=>absurd z (noA b),e0.funs,e0.frf⟩,
    rfl,e0.bare,Un.kept hk,⟨_,x.toInCall.ns,fun i y v h1 h2 h3=>?_⟩,fun y c h=>⟨_,x.cell y c h⟩,e0.hok.fresh (le_refl _),fun y c h=>?_,fun p hp=>absurd (show p∈([]:List (Addr×Obj)) from hp) (by simp),e0.hok.kept hk,?_⟩
  · exact name_of_addr x.apart (PySem.mem_of_lookup h1) (PySem.mem_of_lookup h2)
  · have hy:scope.names.lookup y=some .cell∨scope.names.lookup y=some .free:=hy
    rcases hy with hy | hy
    · exact Zrr hy
    · exact absurd rfl (S.nofree _ (PySem.mem_of_lookup hy))
  · exact le_of_lt (x.above y c (PySem.mem_of_lookup h))
  · have hi:i<vs.length:=by
      unfold start at h2
      by_cases hi:i<vs.length
      · exact hi
      · rw [getElem?_append_right (by simpa using hi)] at h2
        rw [List.getElem?_replicate] at h2
        split at h2<;>cases h2
    have ha:vs[i]?=some v:=by
      unfold start at h2
      rw [getElem?_append_left (by simpa using hi),getElem?_map] at h2
      cases e:vs[i]? with
      | none=>rw [e] at h2;cases h2
      | some a=>rw [e] at h2;cases h2;rfl
    obtain ⟨u,hu,rv⟩:=r.get ha
    have hp:ps[i]?=some y:=by
      rw [← S.pre,List.getElem?_take_of_lt (by omega)];exact h1
    have ndP:ps.Nodup:=by rw [← S.pre];exact S.nd.sublist (List.take_sublist _ _)
    refine ⟨u,rv,?_⟩
    rcases S.par y (mem_of_getElem? hp) with k | k
    · exact .inl ⟨k,Zno ndP hp hu k⟩
    · obtain ⟨c,e⟩:=Zrr (n:=s.heap.objs.size+1) k
      refine .inr ⟨.inl k,c,e,?_⟩
      have q:=x.cell y c e
      rw [Zmd ndP hp hu (by show scope.names.lookup y≠_;rw [k];decide)] at q
      exact q
  · exact e0.hok.fresh (le_of_lt (x.above y c (PySem.mem_of_lookup h)))
  · unfold start
    show _=N.length
    rw [length_append,length_map,List.length_replicate]
    omega
theorem Xoy {CX:CXT}{P:Program}{w:World}{K:Frag}{mg:Str→Option Value}{base:Heap}{k:Nat}{f:Addr}{name qual:Str}{params:Arguments}{body:List Stmt}{scope:Scope}{dV kV doc pm cdv ct oc:Value}{an od:Option Addr}
    {osl:Array (Option Value)} {N ps:List Str} {sp:Sp} (lk:K.lookup f=some ⟨oc,od,.func (fnOf name qual params body scope dV kV doc pm an cdv ct),osl⟩) (hcd:codeIn K cdv qual=true) (S:Xg N ps scope)
    (len:∀vs H Q E,sp vs H Q E→vs.length=ps.length)
    (hbody:∀(A:Around) (outer:List Env) (s:Shared) (H:Hp) (vs:List V) (Q:VK) (E:XK),Zdy k (A.deeper (envOfC qual scope s.heap.objs.size f cdv))→sp vs H Q E→
      ∃t,PSs (Zyy CX P w K mg base N qual scope f cdv A outer s H E) body t∧t {nx:=fun _ H'=>Q .non H',rt:=Q} (start N vs) H) :
    Zam P w K mg base CX (k+1) f (fnOf name qual params body scope dV kV doc pm an cdv ct) ps sp:=by
  refine ⟨len,fun A outer s H args us vs Q E hr e0 hb r hsp=>?_⟩
  have hl:=len _ _ _ _ hsp
  have KX:K.In s.heap:=e0.mod.kin.keeps fun b o e=>(e0.bs b o e).1
  have lim:s.heap.NoLimit:=e0.mod.nolimit.keeps fun b o e=>(e0.bs b o e).1
  have hkind:∀y∈ps.zip us,scope.names.lookup y.1=some .local∨(scope.names.lookup y.1=some .cell∧((cellsFrom (s.heap.objs.size+1) scope.names []).lookup y.1).isSome=true):=fun ⟨n,v⟩ hy=>by
    rcases S.par n (of_mem_zip hy).1 with q | q
    · exact .inl q
    · exact .inr ⟨q,PySem.W.cellsFrom_some _ _ _ (.inl q)⟩
  refine codeAny_call_function hr.depth (KX _ _ lk) rfl S.co S.gen rfl (PySem.W.codeRec_of KX hcd) (hb _ _ _ _ ?_)
  refine wpAny_newFunctionEnv_cells S.kind hkind fun env he s1 x=>?_
  subst he
  refine ⟨lim.keeps x.toInCall.keep,codeAny_func ?_⟩
  obtain ⟨t,ht,hq⟩:=hbody A outer s H vs Q E (hr.deeper _) hsp
  have I:Inv (Zyy CX P w K mg base N qual scope f cdv A outer s H E) [] (start N vs) H s1:=Zwt S hr.hd e0 hl r x
  refine wpAny_mono (ht [] s1 (start N vs) H _ I hq) (fun fl s' hs=>?_) fun e s' hs=>hs
  have fin:∀{σ':St} {H':Hp} {v:V} {u:Value},Inv (Zyy CX P w K mg base N qual scope f cdv A outer s H E) [] σ' H' s'→RelV v u→Q v H'→CE outer P w H s Q u s':=
    fun {σ' H' v u} J rv q=>⟨v,H',J.os,J.bare,J.base,J.hok,rv,q⟩
  cases fl with
  | ret u =>
    obtain ⟨v,σ',H',J,rv,q⟩:=hs
    exact fin J rv q
  | next =>
    obtain ⟨σ',H',J,q⟩:=hs
    exact fin (v:=V.non) (u:=Value.none) J rfl q
  | brk =>
    obtain ⟨_,_,_,q⟩:=hs
    exact False.elim q
  | cont =>
    obtain ⟨_,_,_,q⟩:=hs
    exact False.elim q
section
variable {X:Cx}{x:Str}{p pos:Pos}{e:Expr}{es:List Expr}{t:TA}{id T:String}{r:List V→Hp→VK→Prop}
def tCB (r:List V→Hp→VK→Prop)(t:TA):TE:=fun σ H Q=>t σ H fun vs H1=>r vs H1 Q
theorem Xbi (hc:Zav X (.builtin id) r)(hg:Gl X x)(hm:X.mg x=none)(hv:bootBuiltins x=some (.builtin id))(ha:PA X (e::es) t)(hn:x≠"__name__":=by decide)(hdb:(x==("__debug__":Str))=false:=by decide)
  (he:starEach (e::es) X.env=(false,eval e X.env)::starEach es X.env:=by rfl) (hpl:(backTo pos (starEach es X.env)).any (·.1)=false:=by rfl):PE X (.Call (.Name x p) (e::es) [] pos) (tCB r t):=by
 intro pins s σ H Q I h
 refine wpAny_Call_Name_kw (Zgo I hg hm hv ?_ hn hdb)
 exact PyProof.Rows.callWith_builtin1 (thn (ha pos pins s σ H _ I h) fun us s1 ⟨vs,H1,I1,r1,q1⟩=>hc pins s1 σ H1 vs us Q I1 r1 q1) he hpl
theorem Zvr (hc:Zav X (.type T) r)(hg:Gl X x)(hm:X.mg x=none)(hv:bootBuiltins x=some (.type T))(ha:PA X (e::es) t)(hn:x≠"__name__":=by decide)(hdb:(x==("__debug__":Str))=false:=by decide)
  (he:starEach (e::es) X.env=(false,eval e X.env)::starEach es X.env:=by rfl) (hpl:(backTo pos (starEach es X.env)).any (·.1)=false:=by rfl):PE X (.Call (.Name x p) (e::es) [] pos) (tCB r t):=by
 intro pins s σ H Q I h
 refine wpAny_Call_Name_kw (Zgo I hg hm hv ?_ hn hdb)
 exact PyProof.Rows.callWith_type1 (thn (ha pos pins s σ H _ I h) fun us s1 ⟨vs,H1,I1,r1,q1⟩=>hc pins s1 σ H1 vs us Q I1 r1 q1) he hpl
end
end L2
namespace HT
open PySem PyProof.Rows
noncomputable def lexLt:List Int→List Int→Bool
 | [],[]=>false
 | [],_::_=>true
 | _::_,[]=>false
 | x::xs,y::ys=>if x=y then lexLt xs ys else decide (x<y)
section
open PySem.SeqAt
open PySem.AutoSeq1 (wpAny_loadPart')
open PySem.MeetsSeq PySem.MeetsSeq2 PySem.MeetsSeq3
variable {prog:Program}{w:World}{A:Around}{E:Value→Shared→Prop}{s:Shared}
noncomputable def sIx (n d:Nat):Option Int→Nat
 | none=>d
 | some v=>if v<0 then (v+(n:Int)).toNat else min v.toNat n
theorem clip_eq (v:Int)(n d:Nat):(if v<0 then max (v+(n:Int)) 0 else min v (n:Int))=((sIx n d (some v):Nat):Int):=by
 show (if v<0 then max (v+(n:Int)) 0 else min v (n:Int))=(((if v<0 then (v+(n:Int)).toNat else min v.toNat n):Nat):Int)
 by_cases hv:v<0
 ·simp only [if_pos hv];omega
 ·simp only [if_neg hv];omega
end
end HT
namespace L2
open PySem PySem.Spec PyProof.Rows
noncomputable abbrev TO:=St→Hp→(Option Int→Hp→Prop)→Prop
def PO (X:Cx)(e:Option Expr)(t:TO):Prop:=
 ∀(pins:List (Addr×Obj)) (s:Shared) (σ:St) (H:Hp) (Q:Option Int→Hp→Prop),Inv X pins σ H s→t σ H Q→
  wpAny (model X.prog X.w) X.A (evalPart e X.env) (fun u s'=>∃o H',Inv X pins σ H' s'∧IsPart u o∧Q o H') X.xe s
noncomputable def Zkm:TO:=fun _ H Q=>Q none H
noncomputable def Xdo (t:TE):TO:=fun σ H Q=>t σ H fun x H1=>∃i,x=.int i∧Q (some i) H1
theorem intsAre_of {ns:List Int}:∀{us:List Value},Yw (ns.map V.int) us→IntsAre us ns:=by
 induction ns with
 | nil=>intro us r;rw [List.map_nil] at r;cases r;exact .nil
 | cons n ns ih =>
  intro us r
  rw [map_cons] at r
  cases r with
  | cons r1 r2 =>
   obtain ⟨t,e⟩:=r1
   subst e
   exact .cons n t (ih r2)
section
variable {X:Cx}{e:Expr}{te:TE}{lo hi:Option Expr}{tl th:TO}{pos p2:Pos}
theorem Xih:PO X none Zkm:=by
 intro pins s σ H Q I h
 rw [evalPart_none]
 exact wpAny_pure ⟨none,H,I,.none,h⟩
theorem Xif (h:PE X e te):PO X (some e) (Xdo te):=by
 intro pins s σ H Q I hw
 rw [evalPart_some]
 refine thn (h pins s σ H _ I hw) fun u s1 hz9=>?_
 obtain ⟨x,H1,I1,r1,q1⟩:=hz9
 obtain ⟨i,rfl,q⟩:=q1
 obtain ⟨t,rfl⟩:=r1
 exact ⟨some i,H1,I1,.int i t,q⟩
def SlR (X:Cx)(r:V→Option Int→Option Int→Hp→VK→Prop):Prop:=
 ∀(pins:List (Addr×Obj)) (s:Shared) (σ:St) (H:Hp) (x:V) (v vl vu:Value) (lo hi:Option Int) (sl:Addr) (Q:VK),Inv X pins σ H s→RelV x v→s.heap.IsSliceOf sl vl vu .none→IsPart vl lo→IsPart vu hi→r x lo hi H Q→
  ∃T id,typeLookup (.type T) "__getitem__"=pure (some (.builtin id))∧s.TypeIs v T∧wpAny (model X.prog X.w) X.A (getItem v (.ref sl)) (EP X pins σ Q) X.xe s
def tSl (r:V→Option Int→Option Int→Hp→VK→Prop)(te:TE)(tl th:TO):TE:=fun σ H Q=>te σ H fun x H1=>tl σ H1 fun l H2=>th σ H2 fun u H3=>r x l u H3 Q
theorem Xdi {r:V→Option Int→Option Int→Hp→VK→Prop}(hr:SlR X r)(he:PE X e te)(hl:PO X lo tl)(hu:PO X hi th):PE X (.Subscript e (.Slice lo hi none p2) pos) (tSl r te tl th):=by
 intro pins s σ H Q I h
 refine Subscript_ (thn (he pins s σ H _ I h) fun v s1 hz9=>?_)
 obtain ⟨x,H1,I1,r1,q1⟩:=hz9
 refine wpAny_Slice (thn (hl pins s1 σ H1 _ I1 q1) fun vl s2 ⟨l,H2,I2,pl,q2⟩=>thn (hu pins s2 σ H2 _ I2 q2) fun vu s3 ⟨u,H3,I3,pu,q3⟩=>?_)
 rw [evalPart_none]
 refine wpAny_pure ?_
 have I4:Inv X pins σ H3 {s3 with heap:=s3.heap.push {cls:=.type "slice",data:=.fields #[vl,vu,.none]}}:=I3.kept (t':=s3.toks) fun b ob q=>get?_push_of_some _ q
 obtain ⟨T,id,hT,ht,hg⟩:=hr pins {s3 with heap:=s3.heap.push {cls:=.type "slice",data:=.fields #[vl,vu,.none]}} σ H3 x v vl vu l u s3.heap.objs.size Q I4 r1 (Heap.IsSliceOf.new ..) pl pu q3
 show wpAny (model X.prog X.w) X.A (subscriptTail e (.Slice lo hi none p2) v (.ref s3.heap.objs.size)) (EP X pins σ Q) X.xe {s3 with heap:=s3.heap.push {cls:=.type "slice",data:=.fields #[vl,vu,.none]}}
 exact tail_any (ops:=[.ref s3.heap.objs.size,v]) ht hT hg (by with_unfolding_all rfl)
noncomputable def cutV (xs:List V)(lo hi:Option Int):List V:=(xs.drop (HT.sIx xs.length 0 lo)).take (HT.sIx xs.length xs.length hi - HT.sIx xs.length 0 lo)
theorem Zov (xs:List V)(lo hi:Option Int):(cutV xs lo hi).length≤xs.length:=by
 unfold cutV
 rw [length_take,length_drop]
 omega
end
noncomputable def ixN (n:Nat)(i:Int):Option Nat:=if 0≤i then (if i<n then some i.toNat else none) else if -(n:Int)≤i then some (i+n).toNat else none
noncomputable def atI {α:Type}(xs:List α)(i:Int):Option α:=(ixN xs.length i).bind fun j=>xs[j]?
theorem Zon {n:Nat}{i:Int}{j:Nat}(h:ixN n i=some j):seqIndex? i n=some j∧j<n∧-(n:Int)≤i∧i<n:=by
 unfold ixN at h
 by_cases h0:0≤i
 ·rw [if_pos h0] at h
  by_cases h1:i<n
  ·rw [if_pos h1] at h
   have e:i.toNat=j:=Option.some.inj h
   exact ⟨by rw [seqIndex_of h0 h1,e],by omega,by omega,h1⟩
  ·rw [if_neg h1] at h;cases h
 ·rw [if_neg h0] at h
  by_cases h1:-(n:Int)≤i
  ·rw [if_pos h1] at h
   have e:(i+n).toNat=j:=Option.some.inj h
   exact ⟨by rw [seqIndex_neg (by omega) h1,e],by omega,h1,by omega⟩
  ·rw [if_neg h1] at h;cases h
theorem Zeo {α:Type}{xs:List α}{i:Int}{v:α}(h:atI xs i=some v):∃j,seqIndex? i xs.length=some j∧xs[j]?=some v∧j<xs.length∧-(xs.length:Int)≤i∧i<xs.length:=by
 unfold atI at h
 cases e:ixN xs.length i with
 | none=>rw [e] at h;cases h
 | some j =>
  rw [e] at h
  obtain ⟨h1,h2,h3,h4⟩:=Zon e
  exact ⟨j,h1,h,h2,h3,h4⟩
def Zck (b:Expr):Prop:=∀o i,subscripted b false o i=operate [o,i] (getItem o i)
def IxR (X:Cx)(r:R2):Prop:=
 ∀(value slice:Expr) (pins:List (Addr×Obj)) (s:Shared) (σ:St) (H:Hp) (x y:V) (v u:Value) (Q:VK),Inv X pins σ H s→RelV x v→RelV y u→r x y H Q→
  subscripted slice false v u=operate [v,u] (getItem v u)→wpAny (model X.prog X.w) X.A (subscriptTail value slice v u) (EP X pins σ Q) X.xe s
def MtR (X:Cx)(id:String)(r:V→List V→Hp→VK→Prop):Prop:=
 ∀(pins:List (Addr×Obj)) (s:Shared) (σ:St) (H:Hp) (x:V) (xs:List V) (v:Value) (us:List Value) (Q:VK),Inv X pins σ H s→RelV x v→Yw xs us→r x xs H Q→
  wpAny (model X.prog X.w) X.A (call (.builtin id) (v::us)) (EP X pins σ Q) X.xe s
section
variable {X:Cx}{a b:Expr}{ta tb:TE}{pos:Pos}
theorem IxR.or {r r':R2}(h:IxR X r)(h':IxR X r'):IxR X (fun x y H Q=>r x y H Q∨r' x y H Q):=by
 intro value slice pins s σ H x y v u Q I rx ry q hs
 rcases q with q | q
 ·exact h value slice pins s σ H x y v u Q I rx ry q hs
 ·exact h' value slice pins s σ H x y v u Q I rx ry q hs
theorem pe_ix {r:R2}(hr:IxR X r)(ha:PE X a ta)(hb:PE X b tb)(hs:Zck b):PE X (.Subscript a b pos) (tOp r ta tb):=by
 intro pins s σ H Q I h
 exact Subscript_ (binT ha hb I h fun v u s2 x y H2 I2 rx ry q=>hr a b pins s2 σ H2 x y v u Q I2 rx ry q (hs _ _))
noncomputable def rIxL (K:Frag):R2:=fun x y H Q=>∃p xs i v,x=.ref p∧y=.int i∧SqL K H p xs∧atI xs i=some v∧Q v H
noncomputable def rIxT (K:Frag):R2:=fun x y H Q=>∃p xs i v,x=.ref p∧y=.int i∧SqT K H p xs∧atI xs i=some v∧Q v H
noncomputable def rIxS:R2:=fun x y H Q=>∃z i c,x=.str z∧y=.int i∧z.length≤sizeLine∧atI z.cps.toList i=some c∧Q (.str ⟨#[c]⟩) H
theorem Xja:IxR X (rIxL X.K):=by
 intro value slice pins s σ H x y v u Q I rx ry h hs
 obtain ⟨p,xs,i,z,rfl,rfl,hq,he,q⟩:=h
 cases rx
 obtain ⟨t,rfl⟩:=ry
 obtain ⟨its,r,pl,hz⟩:=I.list hq
 obtain ⟨j,h1,h2,h3,h4,h5⟩:=Zeo he
 obtain ⟨w,ew,rw'⟩:=r.get h2
 have hl:=r.length
 have hn:=Zhx
 have fin:EP X pins σ Q w s:=⟨z,H,I,rw',q⟩
 by_cases h0:0≤i
 ·have hj:i.toNat=j:=by
   rw [seqIndex_of h0 h5] at h1
   exact Option.some.inj h1
  exact item_listR pl.isList h0 (by omega) (by rw [hj];simpa using ew) fin hs
 ·have hj:(i+(its.toArray.size:Int)).toNat=j:=by
   rw [seqIndex_neg (by omega) h4] at h1
   rw [size_toArray,← hl]
   exact Option.some.inj h1
  exact subscriptTail_builtinR (x:=w) pl.isList.typeIs slot_list_getitem.lookup
   (wpAny_getItem_list_neg (Q:=fun r s'=>r=w∧EP X pins σ Q r s') pl.isList (by omega) (by rw [size_toArray]<;>omega) (by omega) (by rw [hj];simpa using ew) ⟨rfl,fin⟩) hs
theorem Xop:IxR X (rIxT X.K):=by
 intro value slice pins s σ H x y v u Q I rx ry h hs
 obtain ⟨p,xs,i,z,rfl,rfl,hq,he,q⟩:=h
 cases rx
 obtain ⟨t,rfl⟩:=ry
 obtain ⟨its,r,pl,hz⟩:=I.tuple hq
 obtain ⟨j,h1,h2,h3,h4,h5⟩:=Zeo he
 obtain ⟨w,ew,rw'⟩:=r.get h2
 have hl:=r.length
 have hn:=Zhx
 have fin:EP X pins σ Q w s:=⟨z,H,I,rw',q⟩
 exact subscriptTail_builtinR (x:=w) pl.typeIs slot_tuple_getitem.lookup
  (getItem_tuple (j:=j) (Q:=fun r s'=>r=w∧EP X pins σ Q r s') pl (by omega) (by omega) (by rw [size_toArray,← hl];exact h1) (by simpa using ew) ⟨rfl,fin⟩) hs
theorem Xnw:IxR X rIxS:=by
  intro value slice pins s σ H x y v u Q I rx ry h hs
  obtain ⟨z,i,c,rfl,rfl,hz,he,q⟩:=h
  obtain ⟨t,rfl⟩:=rx
  obtain ⟨t',rfl⟩:=ry
  obtain ⟨j,h1,h2,h3,h4,h5⟩:=Zeo he
  have hl:z.cps.toList.length=z.length:=by simp [Str.length]
  rw [hl] at h1 h4 h5
  have hn:=Zhx
  exact tail_any (typeIs_str s z t) slot_str_getitem.lookup (getItem_str (c:=c) (by
    have e1:decide (i < -(2 ^ 63:Int))=false:=decide_eq_false (by omega)
    have e2:decide (i≥2 ^ 63)=false:=decide_eq_false (by omega)
    rw [e1,e2,Bool.or_false]) (by rw [h1];simpa using h2) ⟨.str ⟨#[c]⟩,H,I.tok _,⟨_,rfl⟩,q⟩) hs
noncomputable def rIx (K:Frag):R2:=fun x y H Q=>rIxL K x y H Q∨rIxT K x y H Q∨rIxS x y H Q
theorem Xfn:IxR X (rIx X.K):=Xja.or (Xop.or Xnw)
theorem Ztn (its:List Value)(n j:Nat)(u:Value):Obj.mapSeq (·.setIfInBounds j u) {cls:=.type "list",data:=.seq its.toArray n}={cls:=.type "list",data:=.seq (its.set j u).toArray n}:=by
 simp [Obj.mapSeq]
theorem Inv.lst {pins:List (Addr×Obj)}{σ:St}{H:Hp}{s:Shared}{p:Addr}{xs:List V}(I:Inv X pins σ H s)(h:H p=some (.lst xs)) :
  ∃(its:List Value) (n:Nat),Yw xs its∧s.heap.get? p=some {cls:=.type "list",data:=.seq its.toArray n}∧xs.length≤sizeLine:=by
 obtain ⟨z,its,n,r,e⟩:=I.hok p _ h
 exact ⟨its,n,r,e,z⟩
theorem Inv.lstUpd {pins:List (Addr×Obj)}{σ:St}{H:Hp}{s:Shared}{p:Addr}{xs ys:List V}{its its':List Value}{n n':Nat}{f:Obj→Obj}(I:Inv X pins σ H s)(h:H p=some (.lst xs))
  (ho:s.heap.get? p=some {cls:=.type "list",data:=.seq its.toArray n}) (hf:f {cls:=.type "list",data:=.seq its.toArray n}={cls:=.type "list",data:=.seq its'.toArray n'}) (r:Yw ys its') (hz:ys.length≤sizeLine) (t:Nat) :
  Inv X pins σ (upd H p (.lst ys)) {s with heap:=s.heap.update p f,toks:=t}:=by
 have e:(s.heap.update p f).get? p=some {cls:=.type "list",data:=.seq its'.toArray n'}:=by
  rw [Heap.get?_update_self f ho (by rw [hf]<;>rfl),hf]
 refine I.write (x:=p) (e:=p) (by rw [h];trivial) (.inl rfl) (fun b u hb q=>(Heap.get?_update_other _ _ (Ne.symm hb)).trans q) ⟨_,e⟩ ?_
 exact ⟨hz,its',n',r,e⟩
def Xjc:V→V→V→Hp→(Hp→Prop)→Prop:=fun o i v H Q=>∃p xs k j,o=.ref p∧i=.int k∧H p=some (.lst xs)∧ixN xs.length k=some j∧Q (upd H p (.lst (xs.set j v)))
theorem set_list:PSet X Xjc:=by
 intro pins s σ H o i v ov iv u Q I ro ri rv h
 obtain ⟨p,xs,k,j,rfl,rfl,hp,hj,q⟩:=h
 cases ro
 obtain ⟨t,rfl⟩:=ri
 obtain ⟨its,n,r,ho,hz⟩:=I.lst hp
 obtain ⟨h1,h2,h3,h4⟩:=Zon hj
 have hl:=r.length
 have hn:=Zhx
 have I':Inv X pins σ (upd H p (.lst (xs.set j v))) {s with heap:=s.heap.update p (Obj.mapSeq (·.setIfInBounds j u))}:=
  I.lstUpd hp ho (Ztn its n j u) (r.set rv j) (by rw [length_set];exact hz) s.toks
 by_cases h0:0≤k
 ·have hk:k.toNat=j:=by
   rw [seqIndex_of h0 h4] at h1
   exact Option.some.inj h1
  exact PySem.W.ki_setAt ho h0 (by omega) (by rw [size_toArray,← hl];exact h4) (by rw [hk];exact ⟨_,I',q⟩)
 ·have hk:(k+(its.toArray.size:Int)).toNat=j:=by
   rw [seqIndex_neg (by omega) h3] at h1
   rw [size_toArray,← hl]
   exact Option.some.inj h1
  exact PySem.W.ki_setBack ho (by omega) (by rw [size_toArray,← hl];exact h3) (by omega) (by rw [hk];exact ⟨_,I',q⟩)
theorem Zml (lo hi:Option Int)(n:Nat):(sliceBounds lo hi none n).1=((HT.sIx n 0 lo:Nat):Int)∧(sliceBounds lo hi none n).2.1=((HT.sIx n n hi:Nat):Int)∧(sliceBounds lo hi none n).2.2=1:=by
 refine ⟨?_,?_,rfl⟩
 ·cases lo with
  | none=>simp [sliceBounds,HT.sIx]
  | some i =>
   simp only [sliceBounds,HT.sIx,Option.getD_none,show (1:Int) > 0 by decide,if_true]
   by_cases h:i<0
   ·simp only [h,if_true]<;>omega
   ·simp only [h,if_false]<;>omega
 ·cases hi with
  | none=>simp [sliceBounds,HT.sIx]
  | some i =>
   simp only [sliceBounds,HT.sIx,Option.getD_none,show (1:Int) > 0 by decide,if_true]
   by_cases h:i<0
   ·simp only [h,if_true]<;>omega
   ·simp only [h,if_false]<;>omega
theorem Zlp (its:List Value)(lo hi:Option Int):slicePick its.toArray lo hi none=((its.drop (HT.sIx its.length 0 lo)).take (HT.sIx its.length its.length hi - HT.sIx its.length 0 lo)).toArray:=by
 obtain ⟨h1,h2,h3⟩:=Zml lo hi its.toArray.size
 unfold slicePick
 rw [h1,h2,h3]
 simp only [sliceRange_one,pick_run,size_toArray]<;>rfl
def Xml (K:Frag):V→Option Int→Option Int→Hp→VK→Prop:=fun x lo hi H Q=>∃a xs,x=.ref a∧SqL K H a xs∧∀p,H p=none→Q (.ref p) (upd H p (.lst (cutV xs lo hi)))
theorem Zxk:SlR X (Xml X.K):=by
 intro pins s σ H x v vl vu lo hi sl Q I rx hs pl pu h
 obtain ⟨a,xs,rfl,hx,q⟩:=h
 cases rx
 obtain ⟨its,r,ht,hz⟩:=I.list hx
 have hlen:=r.length
 refine ⟨"list",_,slot_list_getitem.lookup,ht.isList.typeIs,?_⟩
 refine wpAny_getItem_list_slice ht.isList hs pl pu .none (by simp) ?_ (by rw [size_toArray]<;>omega)
 rw [Zlp,← hlen]
 refine ⟨.ref s.heap.objs.size,_,I.laid (t':=s.toks) (o:=.lst (cutV xs lo hi)) (fun b ob q=>get?_push_of_some _ q) (le_refl _) ?_,rfl,q _ (I.hok.fresh (le_refl _))⟩
 exact ⟨le_trans (Zov xs lo hi) hz,_,0,(r.drop (HT.sIx xs.length 0 lo)).take (HT.sIx xs.length xs.length hi - HT.sIx xs.length 0 lo),get?_push_size _ rfl⟩
theorem Zng:Zav X (.builtin "len") (fun xs H Q=>∃p ys,xs=[.ref p]∧(SqL X.K H p ys∨SqT X.K H p ys)∧Q (.int ys.length) H):=by
 intro pins s σ H xs us Q I r h
 obtain ⟨p,ys,rfl,hq,q⟩:=h
 obtain ⟨u,rfl,rx⟩:=vals1 r
 cases rx
 have hn:=Zhx
 rcases hq with hq | hq
 ·obtain ⟨its,r',pl,hz⟩:=I.list hq
  have hlen:=r'.length
  exact Calls.call_len_list pl.isList (by simp only [size_toArray]<;>omega) ⟨.int ys.length,H,I.tok _,⟨s.toks+1,by rw [size_toArray,hlen]⟩,q⟩
 ·obtain ⟨its,r',pl,hz⟩:=I.tuple hq
  have hlen:=r'.length
  exact len_tuple pl (by simp only [size_toArray]<;>omega) ⟨.int ys.length,H,I.tok _,⟨s.toks+1,by rw [size_toArray,hlen]⟩,q⟩
theorem Zmv:Zav X (.builtin "len") (fun xs H Q=>∃z,xs=[.str z]∧z.length≤sizeLine∧Q (.int z.length) H):=by
 intro pins s σ H xs us Q I r h
 obtain ⟨z,rfl,hz,q⟩:=h
 obtain ⟨u,rfl,t,rfl⟩:=vals1 r
 have hn:=Zhx
 exact len_str (by omega) ⟨.int z.length,H,I.tok _,⟨_,rfl⟩,q⟩
theorem Zav.or {f:Value}{r r':List V→Hp→VK→Prop}(h:Zav X f r)(h':Zav X f r'):Zav X f (fun xs H Q=>r xs H Q∨r' xs H Q):=by
 intro pins s σ H xs us Q I rs q
 rcases q with q | q
 ·exact h pins s σ H xs us Q I rs q
 ·exact h' pins s σ H xs us Q I rs q
theorem Zmy:Zav X (.type "list") (fun xs H Q=>∃p ys,xs=[.ref p]∧(SqL X.K H p ys∨SqT X.K H p ys)∧∀l,H l=none→Q (.ref l) (upd H l (.lst ys))):=by
 intro pins s σ H xs us Q I r h
 obtain ⟨p,ys,rfl,hq,q⟩:=h
 obtain ⟨u,rfl,rx⟩:=vals1 r
 cases rx
 have fin:∀(its:List Value),Yw ys its→ys.length≤sizeLine→∀(h':Heap) (c':Nat),(∀b o',s.heap.get? b=some o'→h'.get? b=some o')→
   h'.get? s.heap.objs.size=some {cls:=.type "list",dict:=none,data:=.seq its.toArray c',slots:=#[]}→EP X pins σ Q (.ref s.heap.objs.size) {s with heap:=h'}:=fun its r' hz h' c' kp e =>
  ⟨.ref s.heap.objs.size,_,I.laid (t':=s.toks) kp (le_refl _) (show Zbx X.prog X.w _ h' _ (.lst ys) from ⟨hz,its,c',r',e⟩),rfl,q _ (I.hok.fresh (le_refl _))⟩
 rcases hq with hq | hq
 ·obtain ⟨its,r',pl,hz⟩:=I.list hq
  have hlen:=r'.length
  obtain ⟨o,ho,hc,n,hd⟩:=pl.isList
  exact call_list_seq p (.inl rfl) ho hc hd (fun h' c' kp e=>fin its r' hz h' c' kp e) (by simp only [size_toArray]<;>omega)
 ·obtain ⟨its,r',pl,hz⟩:=I.tuple hq
  have hlen:=r'.length
  obtain ⟨o,ho,hc,n,hd⟩:=pl
  exact call_list_seq p (.inr rfl) ho hc hd (fun h' c' kp e=>fin its r' hz h' c' kp e) (by simp only [size_toArray]<;>omega)
def tyV (K:Frag)(T:String)(x:V)(H:Hp):Prop:=match x with
 | .str _=>T="str"
 | .int _=>T="int"
 | .ref p=>(T="list"∧∃xs,SqL K H p xs)∨(T="tuple"∧∃o,K.lookup p=some o∧o.cls=.type "tuple"∧o.dict=none)∨
   (T="dict"∧((∃kvs,H p=some (.dK kvs))∨∃kvs,H p=some (.dT kvs)))∨(T="set"∧∃S n,H p=some (.set S n))
 | _=>False
theorem Xnu {pins:List (Addr×Obj)}{σ:St}{H:Hp}{s:Shared}{T:String}{x:V}{v:Value}(I:Inv X pins σ H s)(r:RelV x v)(ty:tyV X.K T x H) :
  s.TypeIs v T∧∀a,v=.ref a→∃ob,s.heap.get? a=some ob∧ob.dict=none:=by
 cases x with
 | str z =>
  obtain ⟨t,rfl⟩:=r
  cases (show T="str" from ty)
  exact ⟨typeIs_str s z t,fun _ e=>nomatch e⟩
 | int i =>
  obtain ⟨t,rfl⟩:=r
  cases (show T="int" from ty)
  exact ⟨typeIs_int s i t,fun _ e=>nomatch e⟩
 | ref p =>
  cases r
  rcases ty with ⟨rfl,xs,hq⟩ | ⟨rfl,o,hk,hc,hd⟩ | ⟨rfl,hk⟩ | ⟨rfl,S,n,hk⟩
  ·obtain ⟨its,_,pl,_⟩:=I.list hq
   refine ⟨pl.isList.typeIs,fun a e=>?_⟩
   cases e
   obtain ⟨o,n,e,c,hd,_⟩:=pl
   exact ⟨o,e,hd⟩
  ·refine ⟨⟨o,I.kIn p o hk,hc⟩,fun a e=>?_⟩
   cases e
   exact ⟨o,I.kIn _ o hk,hd⟩
  ·have z:∃o,s.heap.get? p=some o∧o.ExactDict:=by
    rcases hk with ⟨kvs,hk⟩ | ⟨kvs,hk⟩
    ·obtain ⟨_,_,_,_,o,_,_,e,ex,_⟩:=I.hok p _ hk
     exact ⟨o,e,ex⟩
    ·obtain ⟨_,_,_,_,o,_,_,e,ex,_⟩:=I.hok p _ hk
     exact ⟨o,e,ex⟩
   obtain ⟨o,e,ex⟩:=z
   refine ⟨⟨o,e,ex.1⟩,fun a e2=>?_⟩
   cases e2
   exact ⟨o,e,ex.2.1⟩
  ·obtain ⟨o,_,_,_,e,ex,_⟩:=I.hok p _ hk
   refine ⟨⟨o,e,ex.1⟩,fun a e2=>?_⟩
   cases e2
   exact ⟨o,e,ex.2.1⟩
 | _=>exact False.elim ty
def tBM (K:Frag)(T:String)(r:V→List V→Hp→VK→Prop)(to:TE)(t:TA):TE:=fun σ H Q=>to σ H fun x H1=>tyV K T x H1∧t σ H1 fun xs H2=>r x xs H2 Q
variable {o e:Expr}{es:List Expr}{to:TE}{t:TA}{name:Str}{apos cpos:Pos}{T id:String}{r:V→List V→Hp→VK→Prop}
theorem pe_bm (pa:PlainAttrs T)(slot:Slot T name id)(hty:typeOf (.builtin id)=pure (.type "method_descriptor"))(hm:MtR X id r)(ho:PE X o to)(ha:PA X (e::es) t)
    (hbase:attributeBase o name X.env (eval o X.env)=eval o X.env:=by rfl)
    (hfew:((backTo cpos (starEach (e::es) X.env)).all (fun x=>!x.1)&&(backToKw cpos (keywordEach [] X.env)).all (fun x=>x.1.isSome)
      && decide ((e::es).length+([]:List Keyword).length+(if ([]:List Keyword).isEmpty then 0 else 1)<30))=true:=by rfl)
    (hline:(apos.endLine==cpos.line)=true:=by rfl) (hs:starEach (e::es) X.env=(false,eval e X.env)::starEach es X.env:=by rfl) (hplain:(backTo cpos (starEach es X.env)).any (·.1)=false:=by rfl) :
    PE X (.Call (.Attribute o name apos) (e::es) [] cpos) (tBM X.K T r to t):=by
  intro pins s σ H Q I h
  refine wpAny_Call_method_late hbase hfew hline rfl (thn (ho pins s σ H _ I h) fun v s1 hz9=>?_)
  obtain ⟨x,H1,I1,r1,ty,q1⟩:=hz9
  obtain ⟨h1,h2⟩:=Xnu I1 r1 ty
  refine ⟨T,id,pa,slot,hty,h1,h2,?_⟩
  have hA:=ha cpos pins s1 σ H1 _ I1 q1
  rw [hs] at hA ⊢
  refine Calls.callWith_builtin (by show (false||(backTo cpos (starEach es X.env)).any (·.1))=false;rw [hplain]<;>rfl) (Calls.evalArgs_plain ?_)
  exact thn hA fun us s2 ⟨vs,H2,I2,r2,q2⟩=>hm pins s2 σ H2 x vs v us Q I2 r1 r2 q2
end
def MtM (X:Cx)(id:String)(r:V→List V→Hp→VK→Prop):Prop:=
 ∀(pins:List (Addr×Obj)) (s:Shared) (σ:St) (H:Hp) (x:V) (xs:List V) (v:Value) (us:List Value) (Q:VK),Inv X pins σ H s→RelV x v→Yw xs us→r x xs H Q→
  wpAny (model X.prog X.w) X.A (call (.builtin id) (v::us)) (EP X pins σ Q) X.xe s
theorem Yw.one:∀{x:V} {us:List Value},Yw [x] us→∃u,us=[u]∧RelV x u
 | _,_,.cons r .nil=>⟨_,rfl,r⟩
theorem Yw.zero:∀{us:List Value},Yw [] us→us=[]
 | _,.nil=>rfl
theorem Yw.reverse {xs:List V}{us:List Value}(h:Yw xs us):Yw xs.reverse us.reverse:=by
 induction h with
 | nil=>exact .nil
 | cons r t ih=>rw [reverse_cons,reverse_cons];exact Yw.append ih (.cons r .nil)
theorem Yw.rep {xs:List V}{us:List Value}(h:Yw xs us):∀k:Nat,Yw (List.replicate k xs).flatten (List.replicate k us).flatten
 | 0=>.nil
 | k+1=>by
  rw [replicate_succ,replicate_succ,flatten_cons,flatten_cons]
  exact Yw.append h (Yw.rep h k)
theorem foldl_rep (its:List Value):∀(k:Nat) (acc:List Value),
  List.foldl (fun x1 x2=>x1++x2) acc.toArray (List.replicate k its.toArray)=(acc++(List.replicate k its).flatten).toArray
 | 0,acc=>by simp
 | k+1,acc=>by
  have e:acc.toArray++its.toArray=(acc++its).toArray:=by simp
  have e2:(acc++its)++(List.replicate k its).flatten=acc++(List.replicate (k+1) its).flatten:=by
   rw [replicate_succ,flatten_cons,append_assoc]
  rw [← e2,← foldl_rep its k (acc++its),← e,replicate_succ,foldl_cons]
section
variable {X:Cx}{pins:List (Addr×Obj)}{σ:St}{H:Hp}{s:Shared}{l b:Addr}{xs ys zs:List V}
theorem Inv.lset {its its':List Value}{n:Nat}{f:Array Value→Array Value}{t':Nat}(I:Inv X pins σ H s)(hH:H l=some (.lst xs))
  (e:s.heap.get? l=some {cls:=.type "list",data:=.seq its.toArray n}) (hf:f its.toArray=its'.toArray) (hv:Yw ys its') (hz:ys.length≤sizeLine) :
  Inv X pins σ (upd H l (.lst ys)) {s with heap:=s.heap.update l (Obj.mapSeq f),toks:=t'}:=by
 have q:=PySem.IsL.update e f
 rw [hf] at q
 refine I.write (x:=l) (e:=l) (by rw [hH];exact trivial) (.inl rfl) (fun b' u hb hu=>(Heap.get?_update_other s.heap (Obj.mapSeq f) (Ne.symm hb)).trans hu) ⟨_,q⟩ ?_
 exact ⟨hz,its',_,hv,q⟩
theorem Inv.lnew {its:List Value}{t':Nat}(I:Inv X pins σ H s)(hv:Yw ys its)(hz:ys.length≤sizeLine) :
  Inv X pins σ (upd H s.heap.objs.size (.lst ys)) {s with heap:=s.heap.push {cls:=.type "list",data:=.seq its.toArray},toks:=t'}:=
 I.laid (fun _ _ q=>get?_push_of_some _ q) (le_refl _) ⟨hz,its,0,hv,get?_push_size _ rfl⟩
theorem Inv.fresh (I:Inv X pins σ H s):H s.heap.objs.size=none:=I.hok.fresh (le_refl _)
theorem Inv.lstM (I:Inv X pins σ H s)(hH:H l=some (.lst xs)):xs.length≤sizeLine∧∃(its:List Value) (n:Nat),Yw xs its∧xs.length=its.length∧s.heap.get? l=some {cls:=.type "list",data:=.seq its.toArray n}:=by
 obtain ⟨z,its,n,r,e⟩:=I.hok l _ hH
 exact ⟨z,its,n,r,r.length,e⟩
theorem Zsi {n:Nat}(h:n≤sizeLine):Builtin.List.listTooLong n=false:=by
 unfold Builtin.List.listTooLong
 exact decide_eq_false (by omega)
end
section
variable {X:Cx}
def Zdf:V→List V→Hp→VK→Prop:=fun x vs H Q=>∃l xs y,x=.ref l∧vs=[y]∧H l=some (.lst xs)∧xs.length<sizeLine∧Q .non (upd H l (.lst (xs++[y])))
theorem Zio:MtM X "list.append" Zdf:=by
 intro pins s σ H x vs v us Q I rx rv h
 obtain ⟨l,xs,y,rfl,rfl,hH,hz,q⟩:=h
 cases rx
 obtain ⟨u,rfl,ru⟩:=rv.one
 obtain ⟨z,its,n,r,hl,e⟩:=I.lstM hH
 refine call_meets F.slot_list_append ⟨_,e,rfl⟩ F.entry_list_append (F.args_list_append_2 _ _) (PySem.list_append l its.toArray n u (by rw [size_toArray];omega)) ⟨e,?_⟩
 refine ⟨.non,_,I.lset (its':=its++[u]) hH e (by simp) (r.append (.cons ru .nil)) ?_,rfl,q⟩
 rw [length_append,length_singleton]
 omega
def Zlc:V→List V→Hp→VK→Prop:=fun x vs H Q=>∃l b xs zs,x=.ref l∧vs=[.ref b]∧H l=some (.lst xs)∧H b=some (.lst zs)∧xs.length+zs.length≤sizeLine∧Q .non (upd H l (.lst (xs++zs)))
theorem Zwz:MtM X "list.extend" Zlc:=by
 intro pins s σ H x vs v us Q I rx rv h
 obtain ⟨l,b,xs,zs,rfl,rfl,hH,hB,hz,q⟩:=h
 cases rx
 obtain ⟨u,rfl,ru⟩:=rv.one
 cases ru
 obtain ⟨z,its,n,r,hl,e⟩:=I.lstM hH
 obtain ⟨z2,its2,n2,r2,hl2,e2⟩:=I.lstM hB
 have hsz:its.toArray.size+its2.toArray.size≤sizeLine:=by rw [size_toArray,size_toArray];omega
 have hlong:¬(!its.toArray.isEmpty&&Builtin.List.listTooLong (its.toArray.size+its2.toArray.size))=true:=by
  rw [Zsi hsz,Bool.and_false]
  exact Bool.false_ne_true
 refine call_meets F.slot_list_extend ⟨_,e,rfl⟩ F.entry_list_extend (F.args_list_extend_2 _ _)
  (AutoSeq1.list_extend_list_list_0 l its.toArray n b its2.toArray n2 hlong (by rw [size_toArray];omega) (by omega)) ⟨e,e2,?_⟩
 refine ⟨.non,_,I.lset (its':=its++its2) hH e (by simp) (r.append r2) ?_,rfl,q⟩
 rw [length_append]
 omega
noncomputable def rCat:R2:=fun x y H Q=>∃l b xs zs,x=.ref l∧y=.ref b∧H l=some (.lst xs)∧H b=some (.lst zs)∧xs.length+zs.length≤sizeLine∧∀p,H p=none→Q (.ref p) (upd H p (.lst (xs++zs)))
theorem Xpd:OpR X (binaryOp .Add) rCat:=by
 intro pins s σ H x y v u Q I rx ry h
 obtain ⟨l,b,xs,zs,rfl,rfl,hH,hB,hz,q⟩:=h
 cases rx
 cases ry
 obtain ⟨z,its,n,r,hl,e⟩:=I.lstM hH
 obtain ⟨z2,its2,n2,r2,hl2,e2⟩:=I.lstM hB
 refine PySem.P.add_list e e2 ?_ (by rw [size_toArray,size_toArray];omega)
 have ea:its.toArray++its2.toArray=(its++its2).toArray:=by simp
 rw [ea]
 exact ⟨.ref _,_,I.lnew (t':=s.toks) (r.append r2) (by rw [length_append];omega),rfl,q _ I.fresh⟩
noncomputable def rRep:R2:=fun x y H Q=>∃l k xs,x=.ref l∧y=.int k∧H l=some (.lst xs)∧-(2 ^ 63)≤k∧k<2 ^ 63∧xs.length*k.toNat≤sizeLine∧
 ∀p,H p=none→Q (.ref p) (upd H p (.lst (List.replicate k.toNat xs).flatten))
theorem len_rep {α:Type}(xs:List α)(k:Nat):(List.replicate k xs).flatten.length=k*xs.length:=by
 induction k with
 | zero=>simp
 | succ k ih=>rw [replicate_succ,flatten_cons,length_append,ih,Nat.succ_mul,add_comm]
theorem Xnl:OpR X (binaryOp .Mult) rRep:=by
  intro pins s σ H x y v u Q I rx ry h
  obtain ⟨l,k,xs,rfl,rfl,hH,h1,h2,hz,q⟩:=h
  cases rx
  obtain ⟨t,rfl⟩:=ry
  obtain ⟨z,its,n,r,hl,e⟩:=I.lstM hH
  have hlen:its.toArray.size*k.toNat≤sizeLine:=by rw [size_toArray,← hl];exact hz
  have hcap:¬its.toArray.size*k.toNat > (2 ^ 63 - 1) / 8:=by
    have:(sizeLine:Nat)≤(2 ^ 63 - 1) / 8:=by decide
    omega
  have hfit:¬(!Builtin.List.listFitsIndex k)=true:=by
    rw [fitsIndex_both h1 h2]
    exact Bool.false_ne_true
  have hlong:¬Builtin.List.listTooLong (its.toArray.size*k.toNat)=true:=by
    rw [Zsi hlen]
    exact Bool.false_ne_true
  have hnew:List.foldl (fun x1 x2=>x1++x2) #[] (List.replicate (if its.toArray.isEmpty=true then 0 else k.toNat) its.toArray)=(List.replicate k.toNat its).flatten.toArray:=by
    have f0:∀m:Nat,List.foldl (fun x1 x2=>x1++x2) #[] (List.replicate m its.toArray)=(List.replicate m its).flatten.toArray:=fun m=>by
      have:=foldl_rep its m []
      rw [List.nil_append] at this
      exact this
    rw [f0]
    cases its with
    | nil=>simp
    | cons a r'=>rw [if_neg (by simp)]
  refine wpAny_binaryOp_repeat_ref (T:="list") (U:="int") (by decide) ⟨_,e,rfl⟩ (fun s'=>typeIs_int s' k t) noFill_list_mul F.fills_int_mul F.slot_int_rmul repeat_list F.slot_int_index.lookup
    (call_meets F.slot_int_rmul (typeIs_int s k t) F.entry_int_rmul (F.args_int_rmul_2 _ _) (int___rmul___int_list k t l its.toArray n)
      ⟨e,rfl,⟨_,e,rfl⟩,call_meets F.slot_list_mul ⟨_,e,rfl⟩ F.entry_list_mul (F.args_list_mul_2 _ _) (AutoListH.list___mul___list_int_3 l its.toArray n k t hfit hcap hlong) ⟨e,?_⟩⟩)
  rw [hnew]
  exact ⟨.ref _,_,I.lnew (t':=s.toks) (r.rep k.toNat) (by rw [len_rep,Nat.mul_comm];exact hz),rfl,q _ I.fresh⟩
variable {prog:Program}{w:World}{A:Around}{E:Value→Shared→Prop}{s:Shared}
set_option maxRecDepth 100000 in
end
end L2
namespace Att
open PySem PySem.W PySem.Calls PyProof.Rows
theorem Zhp {P:Params}{h:Heap}:∀(ns:List Int) (vs:List Value),WellAll P h vs (ns.map WData.int)→IntsAre vs ns:=by
 intro ns
 induction ns with
 | nil =>
  intro vs w
  rw [List.map_nil] at w
  cases w
  exact .nil
 | cons n ns ih =>
  intro vs w
  rw [map_cons] at w
  cases w with
  | cons a b =>
   cases a
   exact .cons _ _ (ih _ b)
theorem Zwl {l:OpenLaw}{n:Nat}(hn:l.most=some n){P:Params}{h:Heap}{args:List WData}{vals:List Value}
  (hpre:l.row.toRowW.claim.pre args=true) (hwl:WellAll P h vals args) :
  ∃a vs ns,vals=[Value.ref a]∧args=[WData.list (ns.map WData.int)]∧h.get? a=some {cls:=.type "list",data:=.seq vs.toArray}∧IntsAre vs ns∧ns.length≤n:=by
 have hsh:WShape.hasAll [] args [.list .int]=true:=(pre_splitW hpre).1
 have hc:l.pre.holds [] {args:=args}=true:=(pre_splitW hpre).2
 obtain ⟨d,r,rfl,h1,h2⟩:=hasAllW_cons hsh
 obtain rfl:=hasAllW_nil h2
 obtain ⟨xs,rfl,h3⟩:=hasW_list h1
 obtain ⟨ns,rfl⟩:=items_int h3
 have hlen:ns.length≤n:=by
  unfold OpenLaw.pre at hc
  have h4:(WTm.not (.lt (.lit (.int (n:Int))) (.len (.arg 0)))).holds [] {args:=[.list (ns.map .int)]}=true:=by
   have h4:=(holds_andW hc).1
   rw [hn] at h4
   exact h4
  have h5:=condW_of h4 (w_not (w_lt w_lit (w_len_list (w_arg rfl))))
  rw [length_map] at h5
  refine Nat.le_of_not_lt fun q=>?_
  have q':(n:Int)<((ns.length:Nat):Int):=by omega
  first
   | (rw [decide_eq_true q'] at h5;exact absurd h5 (by decide))
   | (simp at h5;omega)
 cases hwl with
 | cons w1 w2 =>
  cases w2
  cases w1 with
  | list ho hall=>exact ⟨_,_,ns,rfl,rfl,ho,Zhp ns _ hall,hlen⟩
theorem Zxl (l:OpenLaw)(args:List WData):l.row.toRowW.claim.post args (.bool true) args=true:=
 postW_of (r:=l.row.toRowW) (X:=(true==true))
  (show WShape.has [] (.bool true) .bool=true by first | rfl | decide | simp [WShape.has,WShape.arms,WShape.armsAll])
  (show (WTm.eq .res (.lit (.bool true))).value [] {args:=args,res:=some (.bool true),after:=args}=some (.bool (true==true)) from w_eq_bool (w_res rfl) w_lit) rfl
theorem attach_call {l:OpenLaw}{n:Nat}{q:Program}{loose:List Str}{XP:(Str→Option Value)→Heap→Prop}{YP:World→Heap→Prop}{d:DefRec}
    (hn:l.most=some n) (hdf:d.params.defaults=[])
    (call:∀(w:World) (s₀ s₁:Shared) (mg mb:Str→Option Value) (fa:Addr) (o:Obj) (pm cd doc:Value) (a:Addr) (vs:List Value) (ns:List Int),
      Ground q loose [] XP w s₀ mg mb s₁.heap→YP w s₁.heap→
      s₁.heap.get? fa=some o→o.data=.func (docDef d.name d.params d.body d.scope pm cd doc)→s₁.heap.CodeRec cd d.name→mg d.name=some (.ref fa)→
      s₁.heap.get? a=some {cls:=.type "list",data:=.seq vs.toArray}→IntsAre vs ns→ns.length≤n→s₁.gens=#[]→
      codeAny (model l.prog w) callerA (.call (.ref fa) ⟨[.ref a],[]⟩) (fun r s'=>r=.ok (.ret (.bool true))∧OldK s₁.heap s'.heap∧s'.os=s₁.os∧AllBare s'.gens) s₁) :
    WalkO q loose XP YP l.row.toRowW d [] (fun f vs=>PySem.call f vs):=by
  intro w s₀ s₁ mg mb G Y fa o pm cd doc dV kV ho hd hcd hD hmg hg args vals as hpre hlay hrd hwl hlo
  obtain rfl:dV=.none:=Dflts.none hD hdf
  obtain rfl:kV=.none:=Dflts.noKw hD
  obtain ⟨a,vs,ns,rfl,rfl,hobj,hints,hlen⟩:=Zwl hn hpre hwl
  refine enter_call (codeAny_mono (call w s₀ s₁ mg mb fa o pm cd doc a vs ns G Y ho (fd_plain hd) hcd hmg hobj hints hlen hg) fun r s' hq=>?_)
  obtain ⟨rfl,h2,h3,h4⟩:=hq
  exact ⟨.inl ⟨.bool true,.bool true,[],rfl,fun _=>rfl,.bool true,Zxl l _,fun _=>⟨List.Pairwise.nil,fun _ hm=>(nomatch hm)⟩⟩,h2,h3,h4⟩
section
variable {prog:Program}{w:World}{A:Around}{E:Value→Shared→Prop}{s:Shared}{K:Frag}
end
end Att
namespace L2
open PySem PySem.Spec PyProof.Rows
theorem Zdh:∀{vs:List Value} {ns:List Int},IntsAre vs ns→Yw (ns.map V.int) vs
 | _,_,.nil=>.nil
 | _,_,.cons n t h=>.cons ⟨t,rfl⟩ (Zdh h)
def Only (H:Hp):Prop:=∀b,H b=none∨∃o xs,H b=some (.frz o (.lst xs))
theorem Xdg {P:Program}{w:World}{K:Frag}{mg mb:Str→Option Value}{CX:CXT}{k:Nat}{fa a:Addr}{fd:FuncData}{x:Str}{sp:Sp}{s₁:Shared}{vs:List Value}{ns:List Int}
    (KX:K.In s₁.heap) (hns:s₁.heap.Ns mainGlobals mg) (hb:s₁.heap.Ns builtinsNs mb) (hbb:∀x:Str,x≠"__name__"→mb x=bootBuiltins x) (hlim:s₁.heap.NoLimit) (hg:s₁.gens=#[])
    (ha:s₁.heap.get? a=some {cls:=.type "list",data:=.seq vs.toArray}) (hi:IntsAre vs ns) (hl:ns.length≤sizeLine) (hr:Zdy k callerA)
    (F:∀base:Heap,K.In base→base.Ns mainGlobals mg→Zam P w K mg base CX k fa fd [x] sp) (hbind:∀(s:Shared) (u:Value),BindsTo s fd ⟨[u],[]⟩ [(x,u)])
    (hsp:∀H:Hp,Only H→SqL K H a (ns.map V.int)→sp [.ref a] H (fun v _=>v=.bl true) fun _ _ _=>False)
    (hCX:∀H e s',CX [] H s₁ (fun _ _ _=>False) e s'→False) :
    codeAny (model P w) callerA (.call (.ref fa) ⟨[.ref a],[]⟩) (fun r s'=>r=.ok (.ret (.bool true))∧OldK s₁.heap s'.heap∧s'.os=s₁.os∧AllBare s'.gens) s₁:=by
  have rv:=Zdh hi
  have lenV:=hi.length
  have core:∀H:Hp,Only H→SqL K H a (ns.map V.int)→HOk P w H s₁.heap→(∀b,H b≠none→b=a)→(H a≠none→K.lookup a=none)→
      codeAny (model P w) callerA (.call (.ref fa) ⟨[.ref a],[]⟩) (fun r s'=>r=.ok (.ret (.bool true))∧OldK s₁.heap s'.heap∧s'.os=s₁.os∧AllBare s'.gens) s₁:=by
    intro H hO hS hok hA hK
    have base_of:∀{b:Addr} {o:Obj},s₁.heap.get? b=some o→H b=none→(Zsd s₁.heap H).get? b=some o:=fun e n=>Zqj e n
    have noA:∀{b:Addr} {o:Obj} {es:Array DictEntry} {ep:Nat},s₁.heap.get? b=some o→o.data=.dict es ep→H b=none:=fun {b o es ep} e d=>by
      cases q:H b with
      | none=>rfl
      | some u =>
        have e':b=a:=hA b (by rw [q];simp)
        subst e'
        rw [ha] at e;cases e
        have d':Data.seq vs.toArray _=Data.dict es ep:=d
        cases d'
    have nsK:∀{b:Addr} {m:Str→Option Value},s₁.heap.Ns b m→(Zsd s₁.heap H).Ns b m:=fun {b m} ⟨o,es,ep,e,d,r⟩=>⟨o,es,ep,base_of e (noA e d),d,r⟩
    have hKb:K.In (Zsd s₁.heap H):=fun b o e=>base_of (KX b o e) (by
      cases q:H b with
      | none=>rfl
      | some u =>
        have e':b=a:=hA b (by rw [q];simp)
        subst e'
        rw [hK (by rw [q];simp)] at e;cases e)
    have hM:Mod K mg (Zsd s₁.heap H):=⟨hKb,nsK hns,⟨mb,nsK hb,hbb⟩,let ⟨mc,h1,h2⟩:=hlim;⟨mc,nsK h1,h2⟩⟩
    have e0:Xmi P w K mg (Zsd s₁.heap H) callerA [] s₁ H:=⟨rfl,hM,fun b o e=>Zvq e,le_of_eq (Zny _ _),trivial,fun b hb=>absurd (show b∈([]:List Addr) from hb) (by simp),hok,.of_eq hg⟩
    refine codeAny_mono ((F _ hKb (nsK hns)).run callerA [] s₁ H ⟨[.ref a],[]⟩ [.ref a] [.ref a] _ _ hr e0 (hbind s₁ (.ref a)) (.cons rfl .nil) (hsp H hO hS)) fun r s' h=>?_
    cases r with
    | error e=>exact (hCX H e s' h).elim
    | ok fl =>
      cases fl with
      | next=>exact False.elim h
      | brk=>exact False.elim h
      | cont=>exact False.elim h
      | ret u =>
        obtain ⟨v,H',os,bare,un,hok',r',q⟩:=h
        have q':v=.bl true:=q
        subst q'
        obtain rfl:u=Value.bool true:=r'
        refine ⟨rfl,OldK.of_keep fun b o e=>?_,os,bare⟩
        cases q:H b with
        | none=>exact un.keep b o e q (by intro z;exact absurd (show b∈([]:List Addr) from z) (by simp)) (by simp)
        | some u =>
          rcases hO b with z | ⟨ob,xs,z⟩
          · rw [q] at z;cases z
          · have z2:=un.frzs b ob _ z
            obtain ⟨e1,_⟩:=hok b _ z
            obtain ⟨e2,_⟩:=hok' b _ z2
            rw [e] at e1;cases e1
            exact e2
  cases hk:K.lookup a with
  | some o =>
    have e:=KX a o hk
    rw [ha] at e
    cases e
    refine core (fun _=>none) (fun _=>.inl rfl) (.inr ⟨_,vs.toArray,_,hk,rfl,rfl,rfl,by rw [size_toArray,lenV];exact hl,by simpa using rv⟩) (fun b u z=>by have z':(none:Option HO)=some u:=z;cases z') (fun b z=>absurd rfl z) fun z=>absurd rfl z
  | none =>
    refine core (fun b=>if b=a then some (.frz {cls:=.type "list",data:=.seq vs.toArray} (.lst (ns.map V.int))) else none) (fun b=>?_) (.inl (.inr ⟨{cls:=.type "list",data:=.seq vs.toArray},if_pos rfl⟩)) (fun b u z=>?_) (fun b z=>?_) fun _=>hk
    · by_cases hb:b=a
      · exact .inr ⟨_,_,if_pos hb⟩
      · exact .inl (if_neg hb)
    · by_cases hb:b=a
      · have z':=(if_pos hb).symm.trans z
        cases z'
        subst hb
        exact ⟨ha,by rw [length_map];exact hl,vs,_,rv,ha⟩
      · have z':=(if_neg hb).symm.trans z
        cases z'
    · by_cases hb:b=a
      · exact hb
      · exact absurd (if_neg hb) z
noncomputable abbrev KOf {K:Frag}{h:Heap}(_:K.In h):Frag:=K
theorem walk_of {l:PySem.W.OpenLaw}{n k:Nat}{q:Program}{loose:List Str}{XP:(Str→Option Value)→Heap→Prop}{YP:World→Heap→Prop}{d:DefRec}{K:Params→Frag}{CX:World→CXT}{sp:World→Sp}{x:Str}
    (hn:l.most=some n) (hn2:n≤sizeLine) (hdf:d.params.defaults=[]) (hr:Zdy k callerA)
    (hY:∀(w:World) (h:Heap),YP w h→(K w.params).In h)
    (F:∀(w:World) (mg:Str→Option Value) (fa:Addr) (h:Heap),(K w.params).In h→h.Ns mainGlobals mg→mg d.name=some (.ref fa)→
      ∃fd:FuncData,(∀(s:Shared) (u:Value),BindsTo s fd ⟨[u],[]⟩ [(x,u)])∧
        ∀base:Heap,(K w.params).In base→base.Ns mainGlobals mg→Zam l.prog w (K w.params) mg base (CX w) k fa fd [x] (sp w))
    (hsp:∀(w:World) (H:Hp) (a:Addr) (ns:List Int),ns.length≤n→Only H→SqL (K w.params) H a (ns.map V.int)→sp w [.ref a] H (fun v _=>v=.bl true) fun _ _ _=>False)
    (hCX:∀(w:World) (H:Hp) (s:Shared) (e:Value) (s':Shared),CX w [] H s (fun _ _ _=>False) e s'→False) :
    PySem.W.WalkO q loose XP YP l.row.toRowW d [] (fun f vs=>PySem.call f vs):=by
  refine Att.attach_call hn hdf fun w s₀ s₁ mg mb fa o pm cd doc a vs ns G Y ho hd hcd hmg hobj hints hlen hg=>?_
  have KX:=hY w _ Y
  obtain ⟨fd,hb,hF⟩:=F w mg fa _ KX G.T.g hmg
  exact Xdg KX G.T.g G.T.b G.T.builtins G.T.nolimit hg hobj hints (le_trans hlen hn2) hr hF hb (fun H hO hS=>hsp w H a ns hlen hO hS) fun H e s'=>hCX w H s₁ e s'
noncomputable def Zgc (s:Stmt):Arguments:=match s with
 | .FunctionDef _ a _ _ _ _ _ _ _ _=>a
 | _=>{posonlyargs:=[],args:=[],vararg:=none,kwonlyargs:=[],kw_defaults:=[],kwarg:=none,defaults:=[]}
noncomputable def Zau (s:Stmt):List Stmt:=match s with
 | .FunctionDef _ _ b _ _ _ _ _ _ _=>b
 | _=>[]
noncomputable def Zm (s:Stmt):Scope:=match s with
 | .FunctionDef _ _ _ _ _ _ sc _ _ _=>sc
 | _=>{kind:=.function,names:=[],isGenerator:=false,isCoroutine:=false}
noncomputable abbrev CX0:CXT:=fun _ _ _ _ _ _=>False
noncomputable abbrev E0:XK:=fun _ _ _=>False
theorem Ya {X:Cx}:Zgi CX0 X E0:=fun _ _ _ _ _ _ _ h=>h.elim
structure Fun (K:Frag)(x qual:Str)(st:Stmt)(f:Addr)(fd:FuncData):Prop where
 ex:∃(oc:Value) (od:Option Addr) (kV doc pm:Value) (an:Option Addr) (cdv ct:Value) (osl:Array (Option Value)),
  fd=fnOf x qual (Zgc st) (Zau st) (Zm st) .none kV doc pm an cdv ct∧K.lookup f=some ⟨oc,od,.func fd,osl⟩∧codeIn K cdv qual=true
 kp:keepIn K (.ref f)=true
section
variable {P:Program}{w:World}{K:Frag}{mg:Str→Option Value}{base:Heap}
theorem Fun.ok {x qual:Str}{st:Stmt}{f:Addr}{fd:FuncData}{N ps:List Str}{k:Nat}{sp:Sp}(F:Fun K x qual st f fd)(S:Xg N ps (Zm st))(len:∀vs H Q E,sp vs H Q E→vs.length=ps.length)
    (hbody:∀(cdv:Value) (A:Around) (outer:List Env) (s:Shared) (H:Hp) (vs:List V) (Q:VK) (E:XK),Zdy k (A.deeper (envOfC qual (Zm st) s.heap.objs.size f cdv))→sp vs H Q E→
      ∃t,PSs (Zyy CX0 P w K mg base N qual (Zm st) f cdv A outer s H E).nox (Zau st) t∧t {nx:=fun _ H'=>Q .non H',rt:=Q} (start N vs) H):Zam P w K mg base CX0 (k+1) f fd ps sp:=by
  obtain ⟨oc,od,kV,doc,pm,an,cdv,ct,osl,rfl,lk,hcd⟩:=F.ex
  refine Xoy lk hcd S len fun A outer s H vs Q E hr hsp=>?_
  obtain ⟨t,h,q⟩:=hbody cdv A outer s H vs Q E hr hsp
  exact ⟨t,h.nox,q⟩
theorem Fun.binds {x qual:Str}{st:Stmt}{f:Addr}{fd:FuncData}{ps:List Str}(F:Fun K x qual st f fd)
  (h:∀(kV doc pm:Value) (an:Option Addr) (cdv ct:Value) (us:List Value),us.length=ps.length→bindArgs (fnOf x qual (Zgc st) (Zau st) (Zm st) .none kV doc pm an cdv ct) ⟨us,[]⟩=pure (ps.zip us)):Binds K fd ps []:=by
 obtain ⟨oc,od,kV,doc,pm,an,cdv,ct,osl,rfl,lk,hcd⟩:=F.ex
 exact .all (h kV doc pm an cdv ct)
variable {X:Cx}
theorem pv (i:Nat){x:Str}{pos:Pos}(hN:X.N[i]?=some x:=by rfl)(hv:autoParam (Vis X.env.scope x) aT3._auto_1)(hd:(x==("__debug__":Str))=false:=by decide)
  (hcd:(x==("__classdict__":Str))=false:=by decide):PE X (.Name x pos) (Zoc i):=Xqw hN hv hd hcd
end
def Xx (H H':Hp):Prop:=∀b o,H b=some o→H' b=some o
theorem Xx.refl (H:Hp):Xx H H:=fun _ _ h=>h
theorem Xx.trans {H H1 H2:Hp}(a:Xx H H1)(b:Xx H1 H2):Xx H H2:=fun c o h=>b c o (a c o h)
theorem Xx.free {H H':Hp}(e:Xx H H'){l:Addr}(h:H' l=Option.none):H l=Option.none:=by
 cases q:H l with
 | none=>rfl
 | some o =>
  rw [e l o q] at h
  cases h
theorem Zu {a b:Expr}{op:Operator}{pos:Pos}{es:List Expr}{env:Env}:starEach (.BinOp a op b pos::es) env=(false,eval (.BinOp a op b pos) env)::starEach es env:=rfl
theorem Zh {c:Const}{k:Nat}{pos:Pos}{es:List Expr}{env:Env}:starEach (.Constant c k pos::es) env=(false,eval (.Constant c k pos) env)::starEach es env:=rfl
theorem Za {x:Str}{pos:Pos}{es:List Expr}{env:Env}:starEach (.Name x pos::es) env=(false,eval (.Name x pos) env)::starEach es env:=rfl
theorem Xd {a b:Expr}{pos:Pos}{es:List Expr}{env:Env}:starEach (.Subscript a b pos::es) env=(false,eval (.Subscript a b pos) env)::starEach es env:=rfl
theorem Zi {a:Expr}{as:List Expr}{ks:List Keyword}{pos:Pos}{es:List Expr}{env:Env}:starEach (.Call a as ks pos::es) env=(false,eval (.Call a as ks pos) env)::starEach es env:=rfl
theorem Ziv {as:List Expr}{pos:Pos}{es:List Expr}{env:Env}:starEach (.List as pos::es) env=(false,eval (.List as pos) env)::starEach es env:=rfl
theorem Zkt {as:List Expr}{k:Nat}{pos:Pos}{es:List Expr}{env:Env}:starEach (.Tuple as k pos::es) env=(false,eval (.Tuple as k pos) env)::starEach es env:=rfl
theorem Zex {a:Expr}{gs:List Comprehension}{sc:Scope}{pos:Pos}{es:List Expr}{env:Env}:starEach (.ListComp a gs sc pos::es) env=(false,eval (.ListComp a gs sc pos) env)::starEach es env:=rfl
theorem Zah {a b:Expr}{pos:Pos}:Zck (.Subscript a b pos):=fun _ _=>rfl
theorem Zx {x:Str}{pos:Pos}:Zck (.Name x pos):=fun _ _=>rfl
theorem Zj {c:Const}{k:Nat}{pos:Pos}:Zck (.Constant c k pos):=fun _ _=>rfl
theorem plain_bin {a b:Expr}{op:Operator}{pos:Pos}:Zck (.BinOp a op b pos):=fun _ _=>rfl
theorem Zay {a:Expr}{op:UnaryOp}{pos:Pos}:Zck (.UnaryOp op a pos):=fun _ _=>rfl
noncomputable def Xeb:R2:=fun x y H Q=>rI0 (fun i j=>.int (i+j)) x y H Q∨(∃i j,x=.str i∧y=.str j∧i.length+j.length≤sizeLine∧Q (.str (i++j)) H)∨rCat x y H Q
noncomputable def Xag:R2:=fun x y H Q=>rI Xma (fun i j=>.int (i*j)) x y H Q∨rRep x y H Q
def Xoi (_ j:Int):Prop:=0<j∧j<2 ^ 200
section
variable {X:Cx}
theorem Xa:OpR X (binaryOp .Add) Xeb:=Xnf.or (Zsw.or Xpd)
theorem Yq:OpR X (binaryOp .Mult) Xag:=Xqp.or Xnl
theorem log2_small {j:Int}(h1:0<j)(h2:j<2 ^ 200):j.natAbs.log2<9000:=by
 have h3:j.natAbs<2 ^ 200:=by omega
 exact Nat.lt_trans ((Nat.log2_lt (by omega)).mpr h3) (by decide)
theorem Zrf:OpR X (binaryOp .FloorDiv) (rI Xoi fun i j=>.int (i / j)):=opI fun i j _ _ _ _ _ hc q=>by
 have h1:(0:Int)<j:=hc.1
 have h2:j<2 ^ 200:=hc.2
 exact floordiv_int (by omega) (by rw [Int.fdiv_eq_ediv_of_nonneg i (by omega)];exact q) (.inl (PyProof.noPylong_of_log2 (log2_small h1 h2)))
end
mutual
inductive Dn (K:Frag)(H:Hp):V→PyData→Prop
 | non:Dn K H .non .none
 | bl (b:Bool):Dn K H (.bl b) (.bool b)
 | int (i:Int):Dn K H (.int i) (.int i)
 | str (x:Str):Dn K H (.str x) (.str x)
 | lst {a:Addr} {xs:List V} {ds:List PyData}:SqL K H a xs→DnA K H xs ds→Dn K H (.ref a) (.list ds)
 | tup {a:Addr} {xs:List V} {ds:List PyData}:SqT K H a xs→DnA K H xs ds→Dn K H (.ref a) (.tuple ds)
inductive DnA (K:Frag)(H:Hp):List V→List PyData→Prop
 | nil:DnA K H [] []
 | cons {x:V} {d:PyData} {xs:List V} {ds:List PyData}:Dn K H x d→DnA K H xs ds→DnA K H (x::xs) (d::ds)
end
section
variable {X:Cx}{pins:List (Addr×Obj)}{σ:St}{H:Hp}{s:Shared}
mutual
theorem Dn.reads (I:Inv X pins σ H s):∀{x:V} {d:PyData} {u:Value},Dn X.K H x d→RelV x u→∃as,Reads s.heap u d as
 | _,_,_,.non,r=>by cases (show _=Value.none from r);exact ⟨_,.none⟩
 | _,_,_,.bl b,r=>by cases (show _=Value.bool b from r);exact ⟨_,.bool b⟩
 | _,_,_,.int i,r=>by obtain ⟨t,q⟩:=(show ∃t,_=Value.int i t from r);cases q;exact ⟨_,.int i t⟩
 | _,_,_,.str x,r=>by obtain ⟨t,q⟩:=(show ∃t,_=Value.str x t from r);cases q;exact ⟨_,.str x t⟩
 | _,_,_,.lst (a:=a) h ra,r=>by
  cases (show _=Value.ref a from r)
  obtain ⟨its,rv,pl,_⟩:=I.list h
  obtain ⟨as,q⟩:=DnA.reads I ra rv
  obtain ⟨o,ho,hc,n,hd⟩:=pl.isList
  exact ⟨_,.list ho hc hd q⟩
 | _,_,_,.tup (a:=a) h ra,r=>by
  cases (show _=Value.ref a from r)
  obtain ⟨its,rv,pl,_⟩:=I.tuple h
  obtain ⟨as,q⟩:=DnA.reads I ra rv
  obtain ⟨o,ho,hc,n,hd⟩:=pl
  exact ⟨_,.tuple ho hc hd q⟩
theorem DnA.reads (I:Inv X pins σ H s):∀{xs:List V} {ds:List PyData} {us:List Value},DnA X.K H xs ds→Yw xs us→∃as,ReadsAll s.heap us ds as
 | _,_,_,.nil,.nil=>⟨_,.nil⟩
 | _,_,_,.cons h ra,.cons r rs=>by
  obtain ⟨as,q⟩:=Dn.reads I h r
  obtain ⟨bs,q'⟩:=DnA.reads I ra rs
  exact ⟨_,.cons q q'⟩
end
end
noncomputable def rEqD (K:Frag):R2:=fun x y H Q=>∃dx dy,Dn K H x dx∧Dn K H y dy∧SeqAt.shaped dx=true∧SeqAt.shaped dy=true∧Q (.bl (PyData.eqv dx dy)) H
noncomputable def rNeD (K:Frag):R2:=fun x y H Q=>∃dx dy,Dn K H x dx∧Dn K H y dy∧SeqAt.shaped dx=true∧SeqAt.shaped dy=true∧Q (.bl (!PyData.eqv dx dy)) H
noncomputable def Zzc (K:Frag):R2:=fun x y H Q=>rEq x y H Q∨rEqD K x y H Q
noncomputable def Xfv (K:Frag):R2:=fun x y H Q=>rNe x y H Q∨rNeD K x y H Q
section
variable {X:Cx}
theorem Xoz (hu:X.A.units+64<cLine):OpR X (compareOp .Eq) (rEqD X.K):=by
 intro pins s σ H x y v u Q I rx ry h
 obtain ⟨dx,dy,h1,h2,s1,s2,q⟩:=h
 obtain ⟨as,ra⟩:=h1.reads I rx
 obtain ⟨bs,rb⟩:=h2.reads I ry
 exact eq_dataH ra rb s1 s2 hu ⟨.bl _,H,I,rfl,q⟩
theorem Xov (hu:X.A.units+64<cLine):OpR X (compareOp .NotEq) (rNeD X.K):=by
 intro pins s σ H x y v u Q I rx ry h
 obtain ⟨dx,dy,h1,h2,s1,s2,q⟩:=h
 obtain ⟨as,ra⟩:=h1.reads I rx
 obtain ⟨bs,rb⟩:=h2.reads I ry
 exact ne_dataH ra rb s1 s2 hu ⟨.bl _,H,I,rfl,q⟩
theorem Zfl (hu:X.A.units+64<cLine):OpR X (compareOp .Eq) (Zzc X.K):=op_eq.or (Xoz hu)
theorem Zjn (hu:X.A.units+64<cLine):OpR X (compareOp .NotEq) (Xfv X.K):=op_ne.or (Xov hu)
end
def Jj (K:Frag):List V→Hp→VK→Prop:=fun xs H Q=>(∃p ys,xs=[.ref p]∧(SqL K H p ys∨SqT K H p ys)∧Q (.int ys.length) H)∨∃z,xs=[.str z]∧z.length≤sizeLine∧Q (.int z.length) H
def rSum (K:Frag):List V→Hp→VK→Prop:=fun xs H Q=>∃(p:Addr) (ns:List Int),xs=[.ref p]∧SqL K H p (ns.map V.int)∧Q (.int ns.sum) H
def Zns:List V→Hp→VK→Prop:=fun xs H Q=>(∃j,xs=[.int j]∧∀p,H p=none→Q (.ref p) (upd H p (.rng 0 j)))∨∃i j,xs=[.int i,.int j]∧∀p,H p=none→Q (.ref p) (upd H p (.rng i j))
noncomputable def Zpb (lo:Int)(n:Nat):List V:=(List.range n).map fun (k:Nat)=>V.int (lo+(k:Int))
def Jk (K:Frag):List V→Hp→VK→Prop:=fun xs H Q=>(∃p ys,xs=[.ref p]∧(SqL K H p ys∨SqT K H p ys)∧∀l,H l=none→Q (.ref l) (upd H l (.lst ys)))∨
 ∃p i j,xs=[.ref p]∧H p=some (.rng i j)∧-(2 ^ 62)≤i∧i<2 ^ 62∧-(2 ^ 62)≤j∧j<2 ^ 62∧(j - i).toNat≤1000000∧∀l,H l=none→Q (.ref l) (upd H l (.lst (Zpb i (j - i).toNat)))
section
variable {X:Cx}
theorem Xe:Zav X (.builtin "len") (Jj X.K):=Zng.or Zmv
theorem Xam (hc:X.calm=true):Zav X (.builtin "sum") (rSum X.K):=by
 intro pins s σ H xs us Q I r h
 obtain ⟨p,ns,rfl,hq,q⟩:=h
 obtain ⟨u,rfl,rx⟩:=vals1 r
 cases rx
 obtain ⟨its,rv,pl,hz⟩:=I.list hq
 have hi:IntsAre its ns:=intsAre_of rv
 obtain ⟨xs,hxs⟩:=hi.allInts.items
 have hn:numsOf its.toArray.toList=ns:=by rw [show its.toArray.toList=its from rfl,hi.numsOf]
 have hl:=pl.isList
 rw [hxs] at hl hn
 rw [nums_intItems] at hn
 refine sum_intListG (I.ok.hd hc) hl fun h' tk t' hk=>⟨.int ns.sum,H,I.kept hk,⟨t',?_⟩,q⟩
 rw [preSum_eq,List.take_of_length_le (by simp),hn]
theorem Zud:Zav X (.type "range") Zns:=by
 intro pins s σ H xs us Q I r h
 rcases h with ⟨j,rfl,q⟩ | ⟨i,j,rfl,q⟩
 ·obtain ⟨u,rfl,t,rfl⟩:=vals1 r
  refine call_range_1 ⟨.ref s.heap.objs.size,_,I.laid (o:=.rng 0 j) (fun b o e=>get?_push_of_some _ e) (le_refl _) ?_,rfl,q _ I.fresh⟩
  exact ⟨_,_,_,get?_push_size _ rfl⟩
 ·obtain ⟨u,w',rfl,⟨t,rfl⟩,⟨t',rfl⟩⟩:=vals2 r
  refine call_range_2 ⟨.ref s.heap.objs.size,_,I.laid (o:=.rng i j) (fun b o e=>get?_push_of_some _ e) (le_refl _) ?_,rfl,q _ I.fresh⟩
  exact ⟨_,_,_,get?_push_size _ rfl⟩
theorem Zkl (hc:X.calm=true):Zav X (.type "list") (fun xs H Q=>∃p i j,xs=[.ref p]∧H p=some (.rng i j)∧-(2 ^ 62)≤i∧i<2 ^ 62∧-(2 ^ 62)≤j∧j<2 ^ 62∧(j - i).toNat≤1000000∧
    ∀l,H l=none→Q (.ref l) (upd H l (.lst (Zpb i (j - i).toNat)))):=by
  intro pins s σ H xs us Q I r h
  obtain ⟨p,i,j,rfl,hH,h1,h2,h3,h4,h5,q⟩:=h
  obtain ⟨u,rfl,rx⟩:=vals1 r
  cases rx
  obtain ⟨t,u,v,e⟩:=I.hok p _ hH
  have en:Builtin.Range.rangeSize i j 1=(((j - i).toNat:Nat):Int):=by rw [rangeSize_one];split<;>omega
  refine call_list_range (n:=(j - i).toNat) (I.ok.hd hc) e (small_one h1 h2 h3 h4) en (le_trans h5 (by decide)) fun h' tk acc' c' hk hg hit=>?_
  refine ⟨.ref s.heap.objs.size,_,I.laid (t':=tk) hk (le_refl _) (show Zbx X.prog X.w _ h' _ (.lst (Zpb i (j - i).toNat)) from ⟨?_,acc'.toList,c',?_,?_⟩),rfl,q _ I.fresh⟩
  · unfold Zpb
    rw [length_map,length_range]
    exact le_trans h5 (by decide)
  · obtain ⟨hsz,hv⟩:=hit
    have key:∀(k:Nat) (l:List Value) (lo:Int),l.length=k→(∀(m:Nat) (v:Value),l[m]?=some v→∃t,v=Value.int (lo+(m:Int)) t)→Yw (Zpb lo k) l:=by
      intro k
      induction k with
      | zero =>
        intro l lo hl _
        rw [List.length_eq_zero_iff.mp hl]
        exact .nil
      | succ k ih =>
        intro l lo hl hv
        cases l with
        | nil=>simp at hl
        | cons x l =>
          obtain ⟨t,e⟩:=hv 0 x (by simp)
          have er:Zpb lo (k+1)=V.int lo::Zpb (lo+1) k:=by
            unfold Zpb
            rw [List.range_succ_eq_map,map_cons,map_map]
            congr 1
            · simp
            · apply map_congr_left
              intro m _
              show V.int (lo+((m+1:Nat):Int))=V.int (lo+1+(m:Int))
              congr 1
              omega
          rw [er]
          refine .cons ⟨t,?_⟩ (ih l (lo+1) (by simpa using hl) fun m v hm=>?_)
          · rw [e]
            congr 1
            simp
          · obtain ⟨t',e'⟩:=hv (m+1) v (by simpa using hm)
            refine ⟨t',?_⟩
            rw [e']
            congr 1
            omega
    refine key _ _ i (by simpa using hsz) fun m v hm=>?_
    obtain ⟨t,e⟩:=hv m v (by simpa using hm)
    exact ⟨t,by rw [e];congr 1;omega⟩
  · simpa using hg
theorem Zt (hc:X.calm=true):Zav X (.type "list") (Jk X.K):=Zmy.or (Zkl hc)
def tRev (K:Frag)(te ts:TE):TE:=fun σ H Q=>te σ H fun x H1=>ts σ H1 fun y H2=>∃a xs,x=.ref a∧y=.int (-1)∧SqL K H2 a xs∧∀p,H2 p=none→Q (.ref p) (upd H2 p (.lst xs.reverse))
theorem Xpa {e st:Expr}{te ts:TE}{pos p2:Pos}(he:PE X e te)(hst:PE X st ts):PE X (.Subscript e (.Slice none none (some st) p2) pos) (tRev X.K te ts):=by
 intro pins s σ H Q I h
 refine Subscript_ (thn (he pins s σ H _ I h) fun v s1 hz9=>?_)
 obtain ⟨x,H1,I1,r1,q1⟩:=hz9
 refine wpAny_Slice ?_
 rw [evalPart_none]
 refine wpAny_pure (wpAny_pure ?_)
 rw [evalPart_some]
 refine thn (hst pins s1 σ H1 _ I1 q1) fun vk s3 hz9=>?_
 obtain ⟨y,H3,I3,r3,a,xs,ex,ey,hx,q3⟩:=hz9
 subst ex ey
 obtain ⟨tk,rfl⟩:=r3
 cases r1
 have I4:Inv X pins σ H3 {s3 with heap:=s3.heap.push {cls:=.type "slice",data:=.fields #[.none,.none,.int (-1) tk]}}:=I3.kept (t':=s3.toks) fun b ob q=>get?_push_of_some _ q
 obtain ⟨its,r,ht,hz⟩:=I4.list hx
 have hlen:=r.length
 show wpAny (model X.prog X.w) X.A (subscriptTail e (.Slice none none (some st) p2) (.ref a) (.ref s3.heap.objs.size)) (EP X pins σ Q) X.xe {s3 with heap:=s3.heap.push {cls:=.type "slice",data:=.fields #[.none,.none,.int (-1) tk]}}
 refine tail_any (ops:=[.ref a,.ref s3.heap.objs.size]) ht.isList.typeIs slot_list_getitem.lookup ?_ (by with_unfolding_all rfl)
 refine wpAny_getItem_list_slice ht.isList (Heap.IsSliceOf.new ..) .none .none (.int (-1) tk) (by simp) ?_ (by rw [size_toArray]<;>omega)
 rw [PySem.W.krv_pick]
 refine ⟨.ref _,_,I4.laid (t':=s3.toks) (o:=.lst xs.reverse) (fun b ob q=>get?_push_of_some _ q) (le_refl _) ?_,rfl,q3 _ (I4.hok.fresh (le_refl _))⟩
 exact ⟨by rw [length_reverse];exact hz,_,0,r.reverse,get?_push_size _ rfl⟩
end
structure Def (P:Program)(w:World)(K:Frag)(mg:Str→Option Value)(base:Heap)(CX:CXT)(k:Nat)(x:Str)(ps:List Str)(sp:Sp):Prop where
 ex:∃f fd,mg x=some (.ref f)∧keepIn K (.ref f)=true∧Binds K fd ps []∧Zam P w K mg base CX k f fd ps sp
theorem Zrb {X:Cx}{CX:CXT}{k:Nat}{ps:List Str}{sp:Sp}{E:XK}{x:Str}{p pos:Pos}{e:Expr}{es:List Expr}{t:TA}(D:Def X.prog X.w X.K X.mg X.base CX k x ps sp)(hr:Zdy k X.A)(hg:Gl X x)(hx:Zgi CX X E)
  (ha:PA X (e::es) t) (hdb:(x==("__debug__":Str))=false:=by decide) (he:starEach (e::es) X.env=(false,eval e X.env)::starEach es X.env:=by rfl) (hpl:(backTo pos (starEach es X.env)).any (·.1)=false:=by rfl) :
  PE X (.Call (.Name x p) (e::es) [] pos) (Zks sp [] E t):=by
 obtain ⟨f,fd,m,kp,b,F⟩:=D.ex
 exact Xhr F hr hg m kp b .nil hx ha hdb he hpl
section
variable {σ:St}{H:Hp}{Q:VK}{D:Ends}{K:Frag}
theorem rd_I {C:Int→Int→Prop}{g:Int→Int→V}{i j:Int}(c:C i j)(q:Q (g i j) H):rI C g (.int i) (.int j) H Q:=⟨i,j,rfl,rfl,c,q⟩
theorem rd_I0 {g:Int→Int→V}{i j:Int}(q:Q (g i j) H):rI0 g (.int i) (.int j) H Q:=⟨i,j,rfl,rfl,q⟩
theorem rd_U {g:Int→V}{i:Int}(q:Q (g i) H):rU g (.int i) H Q:=⟨i,rfl,q⟩
theorem Xnb {i j:Int}(q:Q (.int (i+j)) H):Xeb (.int i) (.int j) H Q:=.inl ⟨i,j,rfl,rfl,q⟩
theorem Xqu {i j:Int}(c:Xma i j)(q:Q (.int (i*j)) H):Xag (.int i) (.int j) H Q:=.inl ⟨i,j,rfl,rfl,c,q⟩
theorem Zxb {sp:Sp}{E:XK}{t:TA}(q:t σ H fun vs H1=>sp vs H1 Q E):Zks sp [] E t σ H Q:=by
 show t σ H fun vs H1=>sp (vs++[]) H1 Q E
 have e:(fun vs H1=>sp (vs++[]) H1 Q E)=fun vs H1=>sp vs H1 Q E:=by
  funext vs H1
  rw [append_nil]
 rw [e]
 exact q
theorem Xrl {p:Addr}{xs:List V}{i:Int}{v:V}(h:SqL K H p xs)(e:atI xs i=some v)(q:Q v H):rIx K (.ref p) (.int i) H Q:=.inl ⟨p,xs,i,v,rfl,rfl,h,e,q⟩
theorem Xpq {p:Addr}{xs:List V}{i:Int}{v:V}(h:SqT K H p xs)(e:atI xs i=some v)(q:Q v H):rIx K (.ref p) (.int i) H Q:=.inr (.inl ⟨p,xs,i,v,rfl,rfl,h,e,q⟩)
theorem Zwh {p:Addr}{ys:List V}(h:SqL K H p ys)(q:Q (.int ys.length) H):Jj K [.ref p] H Q:=.inl ⟨p,ys,rfl,.inl h,q⟩
theorem Xjx {p:Addr}{ys:List V}(h:SqT K H p ys)(q:Q (.int ys.length) H):Jj K [.ref p] H Q:=.inl ⟨p,ys,rfl,.inr h,q⟩
theorem Xje {z:Str}(h:z.length≤sizeLine)(q:Q (.int z.length) H):Jj K [.str z] H Q:=.inr ⟨z,rfl,h,q⟩
theorem Xfx {l:Addr}{xs:List V}{y:V}(h:H l=some (.lst xs))(hz:xs.length<sizeLine)(q:Q .non (upd H l (.lst (xs++[y])))):Zdf (.ref l) [y] H Q:=⟨l,xs,y,rfl,rfl,h,hz,q⟩
theorem Zzh {a:Addr}{xs:List V}{lo hi:Option Int}(h:SqL K H a xs)(q:∀p,H p=none→Q (.ref p) (upd H p (.lst (cutV xs lo hi)))):Xml K (.ref a) lo hi H Q:=⟨a,xs,rfl,h,q⟩
theorem Xny {a b:Addr}{xs zs:List V}(h1:H a=some (.lst xs))(h2:H b=some (.lst zs))(hz:xs.length+zs.length≤sizeLine)(q:∀p,H p=none→Q (.ref p) (upd H p (.lst (xs++zs)))):Xeb (.ref a) (.ref b) H Q:=
 .inr (.inr ⟨a,b,xs,zs,rfl,rfl,h1,h2,hz,q⟩)
theorem Xpz {l:Addr}{k:Int}{xs:List V}(h:H l=some (.lst xs))(h1:-(2 ^ 63)≤k)(h2:k<2 ^ 63)(hz:xs.length*k.toNat≤sizeLine)(q:∀p,H p=none→Q (.ref p) (upd H p (.lst (List.replicate k.toNat xs).flatten))):Xag (.ref l) (.int k) H Q:=
 .inr ⟨l,k,xs,rfl,rfl,h,h1,h2,hz,q⟩
theorem Xrc {p:Addr}{ns:List Int}(h:SqL K H p (ns.map V.int))(q:Q (.int ns.sum) H):rSum K [.ref p] H Q:=⟨p,ns,rfl,h,q⟩
theorem Xab {p:Addr}{ys:List V}(h:SqL K H p ys)(q:∀l,H l=none→Q (.ref l) (upd H l (.lst ys))):Jk K [.ref p] H Q:=.inl ⟨p,ys,rfl,.inl h,q⟩
theorem Xdq {p:Addr}{i j:Int}(h:H p=some (.rng i j))(h1:-(2 ^ 62)≤i)(h2:i<2 ^ 62)(h3:-(2 ^ 62)≤j)(h4:j<2 ^ 62)(h5:(j - i).toNat≤1000000)(q:∀l,H l=none→Q (.ref l) (upd H l (.lst (Zpb i (j - i).toNat)))):Jk K [.ref p] H Q:=
 .inr ⟨p,i,j,rfl,h,h1,h2,h3,h4,h5,q⟩
theorem Zwe {i j:Int}(q:∀p,H p=none→Q (.ref p) (upd H p (.rng i j))):Zns [.int i,.int j] H Q:=.inr ⟨i,j,rfl,q⟩
theorem Zut {j:Int}(q:∀p,H p=none→Q (.ref p) (upd H p (.rng 0 j))):Zns [.int j] H Q:=.inl ⟨j,rfl,q⟩
end
structure QE (X:Cx)(e:Expr)(t:TE):Prop where
 out:PE X e t
structure QT (X:Cx)(e:Expr)(t:TT):Prop where
 out:PT X e t
structure QW (X:Cx)(e:Expr)(t:TT):Prop where
 out:PW X e t
structure QA (X:Cx)(es:List Expr)(t:TA):Prop where
 out:PA X es t
structure QO (X:Cx)(e:Option Expr)(t:TO):Prop where
 out:PO X e t
structure QG (X:Cx)(e:Expr)(t:TG):Prop where
 out:PG X e t
structure QGs (X:Cx)(es:List Expr)(t:TGs):Prop where
 out:PGs X es t
structure QI (X:Cx)(tg iter:Expr)(wi:TI):Prop where
 out:PI X tg iter wi
structure QS (X:Cx)(st:Stmt)(t:TS):Prop where
 out:PS X st t
structure QSs (X:Cx)(st:List Stmt)(t:TS):Prop where
 out:PSs X st t
section
variable {X:Cx}{a b c e st o tg iter:Expr}{rest es:List Expr}{ta tb tc te ts to:TE}{tA tB':TT}{t:TA}{pos p p2 apos cpos:Pos}
theorem Xpw {i:Int}{j:Nat}:QE X (.Constant (.int i) j pos) (tC (.int i)):=⟨Xqk⟩
theorem qe_bl {i:Bool}{j:Nat}:QE X (.Constant (.bool i) j pos) (tC (.bl i)):=⟨Xnn⟩
theorem Xqs {j:Nat}:QE X (.Constant .none j pos) (tC .non):=⟨Xmw⟩
theorem Xol {x:Str}{j:Nat}:QE X (.Constant (.str x) j pos) (tC (.str x)):=⟨Xpg⟩
theorem qv (i:Nat){x:Str}(hN:X.N[i]?=some x:=by rfl)(hv:autoParam (Vis X.env.scope x) aT3._auto_1)(hd:(x==("__debug__":Str))=false:=by decide)
  (hcd:(x==("__classdict__":Str))=false:=by decide):QE X (.Name x pos) (Zoc i):=⟨pv i hN hv hd hcd⟩
theorem qe_op {op:Operator}{r:R2}(ho:OpR X (binaryOp op) r)(ha:QE X a ta)(hb:QE X b tb):QE X (.BinOp a op b pos) (tOp r ta tb):=⟨pe_op ho ha.out hb.out⟩
theorem qe_un {op:UnaryOp}{r:V→Hp→VK→Prop}(ho:UnR X (unaryOp op) r)(ha:QE X a ta):QE X (.UnaryOp op a pos) (tUn r ta):=⟨pe_un ho ha.out⟩
theorem Xks {op:CmpOp}{r:R2}(ho:OpR X (compareOp op) r)(ha:QE X a ta)(hb:QE X b tb)(hm:behindInMarks op b=false):QE X (.Compare a [op] [b] pos) (tOp r ta tb):=⟨Xjt ho ha.out hb.out hm⟩
theorem Xhm {op:CmpOp}{r:R2}(ho:OpR X (compareOp op) r)(ha:QE X a ta)(hb:QE X b tb)(hm:behindInMarks op b=false):QT X (.Compare a [op] [b] pos) (Zot (tOp r ta tb)):=⟨Xhq ho ha.out hb.out hm⟩
theorem Xbx {op op':CmpOp}{r r':R2}(ho:OpR X (compareOp op) r)(ho':OpR X (compareOp op') r')(ha:QE X a ta)(hb:QE X b tb)(hc:QE X c tc)(hm:lastMarks [op,op'] [b,c]=false:=by with_unfolding_all rfl):QT X (.Compare a [op,op'] [b,c] pos) (Zot (Zqb r r' ta tb tc)):=⟨Xdk ho ho' ha.out hb.out hc.out hm⟩
theorem Xnq (h:QE X e te)(he:∀whole,isTrue e X.env whole=(do let v ← whole;standAt e.pos;holding [v] (truthy v)):=by intro _;rfl):QT X e (tB te):=⟨Xqq h.out he⟩
theorem Xrh (ha:QT X a tA):QT X (.UnaryOp .Not a pos) (tNot tA):=⟨Xnt ha.out⟩
theorem Xkd (ha:QT X a tA):QW X (.BoolOp .And [a] pos) tA:=⟨Xkq ha.out⟩
theorem Xpt (ha:QT X a tA):QW X (.BoolOp .Or [a] pos) tA:=⟨Xnd ha.out⟩
theorem Xoo (ha:QT X a tA)(hb:QW X (.BoolOp .And (b::rest) pos) tB'):QW X (.BoolOp .And (a::b::rest) pos) (tAnd tA tB'):=⟨Xne ha.out hb.out⟩
theorem qw_or (ha:QT X a tA)(hb:QW X (.BoolOp .Or (b::rest) pos) tB'):QW X (.BoolOp .Or (a::b::rest) pos) (tOr tA tB'):=⟨pw_or ha.out hb.out⟩
theorem qt_w (h:QW X a tA):QT X a tA:=⟨h.out.pt⟩
theorem Znr:QA X [] Zqa:=⟨Zqd⟩
theorem Zfv (ha:QE X e te)(hr:QA X es t)(hs:starEach (e::es) X.env=(false,eval e X.env)::starEach es X.env):QA X (e::es) (Zdn te t):=⟨Zku ha.out hr.out hs⟩
theorem Xok {x1:Nat}(h:QA X es t):QE X (.Tuple es x1 pos) (tTup t):=⟨Xog h.out⟩
theorem Xga (h:QA X es t):QE X (.List es pos) (Xlx t):=⟨Xqv h.out⟩
theorem Xpr {r:R2}(hr:IxR X r)(ha:QE X a ta)(hb:QE X b tb)(hs:Zck b):QE X (.Subscript a b pos) (tOp r ta tb):=⟨pe_ix hr ha.out hb.out hs⟩
theorem Xkr:QO X none Zkm:=⟨Xih⟩
theorem Xgu (h:QE X e te):QO X (some e) (Xdo te):=⟨Xif h.out⟩
theorem Zsq {r:V→Option Int→Option Int→Hp→VK→Prop}{lo hi:Option Expr}{tl th:TO}(hr:SlR X r)(he:QE X e te)(hl:QO X lo tl)(hu:QO X hi th):QE X (.Subscript e (.Slice lo hi none p2) pos) (tSl r te tl th):=⟨Xdi hr he.out hl.out hu.out⟩
theorem Xra (he:QE X e te)(hst:QE X st ts):QE X (.Subscript e (.Slice none none (some st) p2) pos) (tRev X.K te ts):=⟨Xpa he.out hst.out⟩
theorem Zsf {CX:CXT}{k:Nat}{ps:List Str}{sp:Sp}{E:XK}{x:Str}(D:Def X.prog X.w X.K X.mg X.base CX k x ps sp)(hr:Zdy k X.A)(hg:Gl X x)(hx:Zgi CX X E)
  (ha:QA X (e::es) t) (hdb:(x==("__debug__":Str))=false:=by decide) (he:starEach (e::es) X.env=(false,eval e X.env)::starEach es X.env:=by rfl) (hpl:(backTo pos (starEach es X.env)).any (·.1)=false:=by rfl) :
  QE X (.Call (.Name x p) (e::es) [] pos) (Zks sp [] E t):=⟨Zrb D hr hg hx ha.out hdb he hpl⟩
theorem Xca {x:Str}{id:String}{r:List V→Hp→VK→Prop}(hc:Zav X (.builtin id) r)(hg:Gl X x)(hm:X.mg x=none)(hv:bootBuiltins x=some (.builtin id))(ha:QA X (e::es) t)(hn:x≠"__name__":=by decide)(hdb:(x==("__debug__":Str))=false:=by decide)
  (he:starEach (e::es) X.env=(false,eval e X.env)::starEach es X.env:=by rfl) (hpl:(backTo pos (starEach es X.env)).any (·.1)=false:=by rfl):QE X (.Call (.Name x p) (e::es) [] pos) (tCB r t):=⟨Xbi hc hg hm hv ha.out hn hdb he hpl⟩
theorem Zwv {x:Str}{T:String}{r:List V→Hp→VK→Prop}(hc:Zav X (.type T) r)(hg:Gl X x)(hm:X.mg x=none)(hv:bootBuiltins x=some (.type T))(ha:QA X (e::es) t)(hn:x≠"__name__":=by decide)(hdb:(x==("__debug__":Str))=false:=by decide)
  (he:starEach (e::es) X.env=(false,eval e X.env)::starEach es X.env:=by rfl) (hpl:(backTo pos (starEach es X.env)).any (·.1)=false:=by rfl):QE X (.Call (.Name x p) (e::es) [] pos) (tCB r t):=⟨Zvr hc hg hm hv ha.out hn hdb he hpl⟩
theorem Zzy {name:Str}{T id:String}{r:V→List V→Hp→VK→Prop}(pa:PlainAttrs T)(slot:Slot T name id)(hty:typeOf (.builtin id)=pure (.type "method_descriptor"))(hm:MtR X id r)(ho:QE X o to)(ha:QA X (e::es) t)
    (hbase:attributeBase o name X.env (eval o X.env)=eval o X.env:=by rfl)
    (hfew:((backTo cpos (starEach (e::es) X.env)).all (fun x=>!x.1)&&(backToKw cpos (keywordEach [] X.env)).all (fun x=>x.1.isSome)
      && decide ((e::es).length+([]:List Keyword).length+(if ([]:List Keyword).isEmpty then 0 else 1)<30))=true:=by rfl)
    (hline:(apos.endLine==cpos.line)=true:=by rfl) (hs:starEach (e::es) X.env=(false,eval e X.env)::starEach es X.env:=by rfl) (hplain:(backTo cpos (starEach es X.env)).any (·.1)=false:=by rfl) :
    QE X (.Call (.Attribute o name apos) (e::es) [] cpos) (tBM X.K T r to t):=⟨pe_bm pa slot hty hm ho.out ha.out hbase hfew hline hs hplain⟩
theorem Zkr {i:Nat}{x:Str}(hN:X.N.Nodup)(hi:X.N[i]?=some x)(hx:Loc X.env.scope x)(hf:autoParam (X.fn x=true∨X.env.scope.names.lookup x=some .local) aT0._auto_1):QG X (.Name x pos) (Zap i):=⟨Xlt hN hi hx hf⟩
theorem Xgc {k:Nat}{tt:TGs}{n:Nat}(hc:X.calm=true)(h:QGs X es tt)(hn:(assignEach es X.env).length=n:=by rfl)(hst:(assignEach es X.env).findIdx? (·.1)=none:=by rfl):QG X (.Tuple es k pos) (Ziz X.K n tt):=⟨Xoa hc h.out hn hst⟩
theorem Zvc:QGs X [] Xmh:=⟨Xhl⟩
theorem Zqo {tt:TG}{u:TGs}(h1:QG X e tt)(h2:QGs X es u)(hs:(assignEach (e::es) X.env).map (·.2)=assign e X.env::(assignEach es X.env).map (·.2):=by rfl):QGs X (e::es) (Zuf tt u):=⟨Xce h1.out h2.out hs⟩
theorem Xhx (hl:QE X e te):QI X tg e (Xcu X.K te):=⟨Xit hl.out⟩
theorem Zvk (hg:Gl X "range")(hm:X.mg "range"=none)(ha:QA X [a] t)(hs:starEach [a] X.env=[(false,eval a X.env)]:=by rfl):QI X tg (.Call (.Name "range" p) [a] [] pos) (Xbb t):=⟨Zxt hg hm ha.out hs⟩
theorem Zxf (hg:Gl X "range")(hm:X.mg "range"=none)(ha:QA X [a,b] t)(hs:starEach [a,b] X.env=[(false,eval a X.env),(false,eval b X.env)]:=by rfl)(hs2:starEach [b] X.env=[(false,eval b X.env)]:=by rfl):QI X tg (.Call (.Name "range" p) [a,b] [] pos) (Xaj t):=⟨Zva hg hm ha.out hs hs2⟩
variable {s1:Stmt}{ss body other:List Stmt}{u v:TS}{pos':Pos}
theorem Zyf:QSs X [] Zuj:=⟨Xhk⟩
theorem Zsr (h1:QS X s1 u)(h2:QSs X ss v):QSs X (s1::ss) (Xly u v):=⟨Xct h1.out h2.out⟩
theorem Zwj (h1:QS X s1 u):QSs X [s1] u:=⟨Xlk h1.out⟩
theorem Xcd:QS X s1 Zrm:=⟨Xds⟩
theorem Zpw (he:QE X e te)(hs:swapsWith e none pos.line X.env=pure false:=by rfl):QS X (.Expr e pos) (Zmc te):=⟨Xhj he.out hs⟩
theorem Xft (he:QE X e te):QS X (.Return (some e) pos) (Xme te):=⟨Xos he.out⟩
theorem Xqy (hc:QT X c tA)(ha:QSs X body u)(hb:QSs X other v):QS X (.If c body other pos) (Xmg tA u v):=⟨ps_if hc.out ha.out hb.out⟩
theorem Xff {g:TG}(he:QE X e te)(hg:QG X tg g)(hs:swapsWithSole [tg] e pos.line X.env=pure false:=by rfl)(hw:swappedStores [tg] e X.env=pure none:=by rfl)(h1:(assignEach [tg] X.env).map (·.2)=[assign tg X.env]:=by rfl):QS X (.Assign [tg] e pos) (Zjd te g):=⟨Xnp he.out hg.out hs hw h1⟩
theorem Zro {i:Nat}{x:Str}(hN:X.N.Nodup)(hi:X.N[i]?=some x)(hx:Loc X.env.scope x)(he:QE X e te)(hs:swapsWith e (some (.Name x pos')) pos.line X.env=pure false:=by rfl)(hf:autoParam (X.fn x=true∨X.env.scope.names.lookup x=some .local) aT0._auto_1) :
  QS X (.Assign [.Name x pos'] e pos) (Zjd te (Zap i)):=⟨Xrm hN hi hx he.out hs hf⟩
theorem Xfw {wi:TI}{g:TG}(hp:PassesOwn (model X.prog X.w) X.A X.env X.xe)(hc:X.calm=true)(hi:QI X tg iter wi)(hg:QG X tg g)(hb:QSs X body u)(hs:∀x,foldedSetIterable iter X.env x=pure x:=by intro _;rfl):QS X (.For tg iter body [] pos) (Xmj wi g u):=⟨Xqm hp hc hi.out hg.out hb.out hs⟩
end
theorem Fun.okQ {P:Program}{w:World}{K:Frag}{mg:Str→Option Value}{base:Heap}{x qual:Str}{st:Stmt}{f:Addr}{fd:FuncData}{N ps:List Str}{k:Nat}{sp:Sp}(F:Fun K x qual st f fd)(S:Xg N ps (Zm st))(len:∀vs H Q E,sp vs H Q E→vs.length=ps.length)
    (hbody:∀(cdv:Value) (A:Around) (outer:List Env) (s:Shared) (H:Hp) (vs:List V) (Q:VK) (E:XK),Zdy k (A.deeper (envOfC qual (Zm st) s.heap.objs.size f cdv))→sp vs H Q E→
      ∃t,QSs (Zyy CX0 P w K mg base N qual (Zm st) f cdv A outer s H E).nox (Zau st) t∧t {nx:=fun _ H'=>Q .non H',rt:=Q} (start N vs) H):Zam P w K mg base CX0 (k+1) f fd ps sp:=
  F.ok S len fun cdv A outer s H vs Q E hr h=>by
    obtain ⟨t,ht,q⟩:=hbody cdv A outer s H vs Q E hr h
    exact ⟨t,ht.out,q⟩
@[reducible] noncomputable def Cx.blk (X:Cx)(N2:List Str)(x:Str)(sc:Scope)(cl:List (Str×Addr))(C:Addr)(s0:Shared)(H0:Hp)(fp:List Addr):Cx:=
 {X with N:=N2++[x],s₀:=s0,H₀:=H0,env:=compEnvC sc cl C X.env,outer:=X.stack,ex:=fp,fn:=fun _=>false,pn:=[],xe:=fun _ _=>False}
structure BlkOk (sc esc:Scope)(x:Str)(N N2:List Str):Prop where
 kind:sc.kind=.function
 cell:∀y∈sc.names,y.2≠.cell
 loc:∀y∈sc.names,y.2=.local→sc.names.lookup y.1=some .local
 own:sc.names.lookup x=some .local
 free:∀y∈sc.names,y.2=.free→esc.names.lookup y.1=some .cell∨esc.names.lookup y.1=some .free
 out:∀y∈N2,sc.names.lookup y≠some .local
 nd:N.Nodup
 nd2:N2.Nodup
 len:N2.length=N.length
 ren:∀p∈N.zip N2,p.2=p.1∨sc.names.lookup p.2=none
theorem lookup_mem {l:List (Str×NameKind)}{y:Str}{k:NameKind}(h:(y,k)∈l):l.lookup y≠none:=by
 induction l with
 | nil=>simp at h
 | cons p r ih =>
  obtain ⟨n,k'⟩:=p
  cases hy:y==n with
  | true=>rw [lookup_cons,hy];simp
  | false =>
   rw [lookup_cons,hy]
   rcases List.mem_cons.mp h with e | e
   ·cases e
    simp at hy
   ·exact ih e
noncomputable def Ji (cells:List (Str×Addr)):List (Str×NameKind)→List (Str×Addr)→List (Str×Addr)
 | [],cs=>cs
 | (n,k)::r,cs=>Ji cells r (if k=.free then (n,(cells.lookup n).getD 0)::cs else cs)
theorem Zeg {sc:Scope}{env:Env}(h:∀y∈sc.names,y.2=.free→∃c,env.cells.lookup y.1=some c):closureFor sc env=pure (Ji env.cells sc.names []):=by
  unfold closureFor
  generalize sc.names=l at h ⊢
  have key:∀(l:List (Str×NameKind)) (cs:List (Str×Addr)),(∀y∈l,y.2=.free→∃c,env.cells.lookup y.1=some c)→
      (forIn l cs fun (y:Str×NameKind) (r:List (Str×Addr))=>(do
        let (name,kind):=y
        if kind==.free then
          let c ← cellOf env name
          pure (ForInStep.yield ((name,c)::r))
        else pure (ForInStep.yield r):Sem (ForInStep (List (Str×Addr)))))=pure (Ji env.cells l cs):=by
    intro l
    induction l with
    | nil=>intro cs _;rfl
    | cons y r ih =>
      intro cs hy
      obtain ⟨n,k⟩:=y
      rw [List.forIn_cons]
      have hr:∀y∈r,y.2=.free→∃c,env.cells.lookup y.1=some c:=fun y h'=>hy y (mem_cons_of_mem _ h')
      by_cases hk:k=.free
      · subst hk
        obtain ⟨c,hc⟩:=hy _ mem_cons_self rfl
        have e:cellOf env n=pure c:=by unfold cellOf;rw [show env.cells.lookup n=some c from hc]
        simp only [beq_self_eq_true,if_true,e]
        rw [Ji,if_pos rfl,show env.cells.lookup n=some c from hc]
        exact ih _ hr
      · have hb:(k==NameKind.free)=false:=by simpa using hk
        rw [Ji,if_neg hk]
        simp only [hb,if_false,Bool.false_eq_true]
        exact ih _ hr
  have q:=key l [] h
  exact (congrArg (fun z:Sem (List (Str×Addr))=>z >>= fun r=>pure r) q).trans rfl
theorem Znn {cells:List (Str×Addr)}:∀{l:List (Str×NameKind)} {cs:List (Str×Addr)} {y:Str} {c:Addr},(∀z∈l,z.2=.free→∃c,cells.lookup z.1=some c)→(∀c,cs.lookup y=some c→cells.lookup y=some c)→
  (Ji cells l cs).lookup y=some c→cells.lookup y=some c
 | [],_,_,_,_,h0,h=>h0 _ h
 | (n,k)::r,cs,y,c,hl,h0,h=>by
  rw [Ji] at h
  refine Znn (l:=r) (fun z hz=>hl z (mem_cons_of_mem _ hz)) (fun c' hc'=>?_) h
  by_cases hk:k=.free
  ·rw [if_pos hk] at hc'
   obtain ⟨c0,e0⟩:=hl _ mem_cons_self hk
   cases hy:y==n with
   | true =>
    have e:y=n:=by simpa using hy
    subst e
    rw [lookup_cons,hy] at hc'
    have e1:(cells.lookup y).getD 0=c':=by simpa using hc'
    have e2:cells.lookup y=some c0:=e0
    rw [e2] at e1 ⊢
    simpa using e1
   | false =>
    rw [lookup_cons,hy] at hc'
    exact h0 _ hc'
  ·rw [if_neg hk] at hc'
   exact h0 _ hc'
theorem Zmx {cells:List (Str×Addr)}:∀{l:List (Str×NameKind)} {cs:List (Str×Addr)} {y:Str},(∃c,cs.lookup y=some c)→∃c,(Ji cells l cs).lookup y=some c
 | [],_,_,h=>h
 | (n,k)::r,cs,y,h=>by
  rw [Ji]
  refine Zmx ?_
  split
  ·cases hy:y==n with
   | true=>exact ⟨_,by rw [lookup_cons,hy]⟩
   | false=>rw [lookup_cons,hy];exact h
  ·exact h
theorem Zle {cells:List (Str×Addr)}:∀{l:List (Str×NameKind)} {cs:List (Str×Addr)} {y:Str},(y,NameKind.free)∈l→∃c,(Ji cells l cs).lookup y=some c
 | (n,k)::r,cs,y,h=>by
  rw [Ji]
  rcases List.mem_cons.mp h with e | e
  ·cases e
   refine Zmx ?_
   rw [if_pos rfl]
   exact ⟨_,by rw [lookup_cons,beq_self_eq_true]⟩
  ·exact Zle e
theorem Zdm {env:Env}:∀{names:List (Str×NameKind)} {y:Str} {k:NameKind},(∀z∈names,z.2≠.cell)→(k=.cell∨k=.free)→
  (names.map fun (n,k)=>if (k==NameKind.free&&env.scope.kind==.function&&env.kindOf n==some .cell) then (n,NameKind.cell) else (n,k)).lookup y=some k→(y,NameKind.free)∈names
 | [],_,_,_,_,hz=>by simp at hz
 | (n,k0)::r,y,k,hc,hk,h=>by
  rw [map_cons] at h
  cases hy:y==n with
  | true =>
   have e:y=n:=by simpa using hy
   subst e
   by_cases hf:k0=.free
   ·subst hf;exact mem_cons_self
   ·have hb:(k0==NameKind.free)=false:=by simpa using hf
    simp only [hb,Bool.false_and,Bool.false_eq_true,if_false,lookup_cons,beq_self_eq_true] at h
    have e1:k0=k:=by simpa using h
    subst e1
    rcases hk with z | z
    ·exact absurd z (hc _ mem_cons_self)
    ·exact absurd z hf
  | false =>
   refine mem_cons_of_mem _ (Zdm (env:=env) (k:=k) (fun z hz=>hc z (mem_cons_of_mem _ hz)) hk ?_)
   by_cases hc':(k0==NameKind.free&&env.scope.kind==.function&&env.kindOf n==some .cell)=true
   ·simp only [hc',if_true,lookup_cons,hy] at h
    exact h
   ·simp only [hc',Bool.false_eq_true,if_false,lookup_cons,hy] at h
    exact h
theorem Zhr {env:Env}:∀{names:List (Str×NameKind)} {y:Str},
  (names.map fun (n,k)=>if (k==NameKind.free&&env.scope.kind==.function&&env.kindOf n==some .cell) then (n,NameKind.cell) else (n,k)).lookup y=some .local→names.lookup y=some .local
 | [],_,h=>by simp at h
 | (n,kn)::r,y,h=>by
  rw [map_cons] at h
  cases hy:y==n with
  | true =>
   rw [lookup_cons,hy]
   by_cases hc:(kn==NameKind.free&&env.scope.kind==.function&&env.kindOf n==some .cell)=true
   ·simp only [hc,if_true,lookup_cons,hy] at h
    cases h
   ·simp only [hc,Bool.false_eq_true,if_false,lookup_cons,hy] at h
    exact h
  | false =>
   rw [lookup_cons,hy]
   refine Zhr (env:=env) ?_
   by_cases hc:(kn==NameKind.free&&env.scope.kind==.function&&env.kindOf n==some .cell)=true
   ·simp only [hc,if_true,lookup_cons,hy] at h
    exact h
   ·simp only [hc,Bool.false_eq_true,if_false,lookup_cons,hy] at h
    exact h
section
variable {s:Shared}{R:Result→Shared→Prop}{A:Around}{P:Program}{w:World}
noncomputable def Zxu (ifs:List Expr)(env:Env):Sem Bool:=forIn ifs true fun c r=>if r=true then do let ok ← isTrue c env (eval c env);pure (ForInStep.yield ok) else pure (ForInStep.yield r)
theorem Zts {elt tg iter:Expr}{ifs:List Expr}{scope:Scope}{pos:Pos}{it ac:Value}{env:Env}(W:Nat→Shared→Prop)
    (turn:∀n s,W n s→wpAny (model P w) A (pyNext it) (fun r s₁=>match r with
      | none=>R (.ok .next) s₁
      | some v=>wpAny (model P w) A (letOwnedTupleGo tg it v) (fun _ s₁'=>wpAny (model P w) A (assign tg env v) (fun _ s₂ =>
          wpAny (model P w) A (Zxu ifs env) (fun ok s₃ =>
            if ok=true then wpAny (model P w) A (eval elt env) (fun z s₄ =>
              wpAny (model P w) A (call (.builtin "list.append") [ac,z]) (fun _ s₅=>∃m,m<n∧W m s₅) (fun _ _=>False) s₄) (fun _ _=>False) s₃
            else ∃m,m<n∧W m s₃) (fun _ _=>False) s₂) (fun _ _=>False) s₁') (fun _ _=>False) s₁) (fun _ _=>False) s)
    (n:Nat) (h:W n s) :
    codeAny (model P w) A (.compLoop (.ListComp elt [⟨tg,iter,ifs,0⟩] scope pos) 0 it ac env) R s:=by
  refine codeAny_loop rfl W (fun n s hI=>?_) n h
  show wpAny _ A ((compTurn (.ListComp elt [⟨tg,iter,ifs,0⟩] scope pos) 0 it ac env).onRaise (fun z=>do noteFrame z env;theTreesLotGoes z)) _ _ s
  refine wpAny_noted ?_
  rw [compTurn_list]
  refine wpAny_bind (wpAny_standAt (wpAny_bind (wpAny_mono (turn n s hI) (fun r s₁ h₁=>?_) fun _ _ h'=>h'.elim)))
  cases r with
  | none=>exact wpAny_pure h₁
  | some v =>
    refine wpAny_bind (wpAny_mono h₁ (fun _ s₁' h₁'=>?_) fun _ _ h'=>h'.elim)
    refine wpAny_bind (wpAny_mono h₁' (fun _ s₂ h₂=>wpAny_bind (wpAny_mono h₂ (fun ok s₃ h₃=>?_) fun _ _ h'=>h'.elim)) fun _ _ h'=>h'.elim)
    cases ok with
    | false=>exact wpAny_pure (And.intro rfl h₃)
    | true =>
      exact wpAny_bind (wpAny_bind (wpAny_mono h₃ (fun x s₄ h₄=>wpAny_bind (wpAny_mono h₄ (fun _ s₅ h₅=>wpAny_pure (wpAny_pure ⟨rfl,h₅⟩)) fun _ _ h'=>h'.elim)) fun _ _ h'=>h'.elim))
end
def PIf (X:Cx)(ifs:List Expr)(t:TT):Prop:=
 ∀(pins:List (Addr×Obj)) (s:Shared) (σ:St) (H:Hp) (Q:Bool→Hp→Prop),Inv X pins σ H s→t σ H Q→wpAny (model X.prog X.w) X.A (Zxu ifs X.env) (TP X pins σ Q) X.xe s
def tYes:TT:=fun _ H Q=>Q true H
theorem Xli {X:Cx}:PIf X [] tYes:=fun _ _ _ H _ I h=>wpAny_pure ⟨H,I,h⟩
theorem Xkm {X:Cx}{c:Expr}{t:TT}(h:PT X c t):PIf X [c] t:=fun pins s σ H Q I hw=>wpAny_tests_one (h pins s σ H Q I hw)
section
variable {X:Cx}{elt iter:Expr}{x:Str}{px pos:Pos}{ifs:List Expr}{sc:Scope}{N2:List Str}{wi:TI}{tc:TT}{te:TE}
end
structure QIf (X:Cx)(ifs:List Expr)(t:TT):Prop where
 out:PIf X ifs t
section
variable {X:Cx}{elt iter c:Expr}{x:Str}{px pos:Pos}{ifs:List Expr}{sc esc:Scope}{N N2:List Str}{wi:TI}{tc:TT}{te:TE}
theorem Xkz:QIf X [] tYes:=⟨Xli⟩
theorem Xgv (h:QT X c tc):QIf X [c] tc:=⟨Xkm h.out⟩
end
section
variable {K:Frag}{a D:Addr}{xs:List V}{tc:TT}{te:TE}{σ:St}{H:Hp}{Q:VK}{R:Hp→Prop}
end
@[reducible] noncomputable def Cx.blkN (X:Cx)(N2 xs:List Str)(sc:Scope)(cl:List (Str×Addr))(C:Addr)(s0:Shared)(H0:Hp)(fp:List Addr):Cx:=
 {X with N:=N2++xs,s₀:=s0,H₀:=H0,env:=compEnvC sc cl C X.env,outer:=X.stack,ex:=fp,fn:=fun _=>false,pn:=[],xe:=fun _ _=>False}
structure Zul (sc esc:Scope)(xs N N2:List Str):Prop where
 kind:sc.kind=.function
 cell:∀y∈sc.names,y.2≠.cell
 loc:∀y∈sc.names,y.2=.local→sc.names.lookup y.1=some .local
 free:∀y∈sc.names,y.2=.free→esc.names.lookup y.1=some .cell∨esc.names.lookup y.1=some .free
 out:∀y∈N2,sc.names.lookup y≠some .local
 nd:N.Nodup
 len:N2.length=N.length
 ren:∀p∈N.zip N2,p.2=p.1∨sc.names.lookup p.2=none
def Zdt (k:Nat)(g:TG)(wi:TI)(tc:TT)(te:TE):TE:=fun σ H Q=>wi σ H fun J H1=>∀D,H1 D=none→∃W:Nat→Nat→Hp→Prop,(∃m,W 0 m (upd H1 D (.lst [])))∧∀i m H,W i m H→
  (J.stop i H∧Q (.ref D) H)∨(J.go i H∧∃N:Hp→Prop,(∀H',N H'→∃m',m'<m∧W (i+1) m' H')∧∀x H',J.yld i H x H'→∀os:St,os.length=k→g x (σ++os) H' fun σ' Hg=>(∃os',os'.length=k∧σ'=σ++os')∧tc σ' Hg fun b H2 =>
    if b=true then te σ' H2 fun v H3=>∃ys,H3 D=some (.lst ys)∧ys.length<sizeLine∧N (upd H3 D (.lst (ys++[v])))
    else N H2)
section
variable {X:Cx}{elt iter tg:Expr}{xs:List Str}{pos:Pos}{g:TG}{ifs:List Expr}{sc:Scope}{N2:List Str}{wi:TI}{tc:TT}{te:TE}
theorem Zto {pins:List (Addr×Obj)}{σ:St}{H:Hp}{s s1:Shared}{fp:List Addr}{h':Heap}{m:Str→Option Value}{tk:Nat}(B:Zul sc X.env.scope xs X.N N2)(I:Inv X pins σ H s)(hf:∀b∈fp,Zor X pins H b)
    (hfl:∀b∈fp,b<s.heap.objs.size) (hn:h'.Ns s.heap.objs.size m) (hk:∀b o,s.heap.get? b=some o→h'.get? b=some o) (e1:s1={s with heap:=h',toks:=tk}) :
    Inv (X.blkN N2 xs sc (Ji X.env.cells sc.names []) s.heap.objs.size s H fp) [] (σ++List.replicate xs.length none) H s1:=by
  subst e1
  have hcl:∀y∈sc.names,y.2=.free→∃c,X.env.cells.lookup y.1=some c:=fun y hy hf=>I.ok.has y.1 (B.free y hy hf)
  have look:∀y c,(Ji X.env.cells sc.names []).lookup y=some c→X.env.cells.lookup y=some c:=fun y c h=>Znn hcl (fun _ z=>by simp at z) h
  have isfree:∀y,(relabel sc X.env).names.lookup y=some .cell∨(relabel sc X.env).names.lookup y=some .free→(y,NameKind.free)∈sc.names:=fun y hy=>by
    rcases hy with hy | hy
    · exact Zdm (env:=X.env) B.cell (.inl rfl) hy
    · exact Zdm (env:=X.env) B.cell (.inr rfl) hy
  refine ⟨⟨I.ok.mod,B.kind,I.ok.glob,I.ok.blt,le_refl _,fun y z c h1 h2=>I.ok.inj y z c (look y c h1) (look z c h2),fun y hy=>Zle (isfree y hy),fun _ _ h=>(by cases h),I.ok.hd,I.ok.frames,.inl rfl,fun b hb=>?_,fun b o e=>?_,le_trans I.ok.bsz I.sz,fun b o e hb=>?_,fun b hb hs=>?_,I.stack,I.stkFree⟩,
    rfl,I.bare,Un.kept hk,⟨_,hn,fun i y v h1 h2 h3=>?_⟩,fun y c h=>?_,I.hok.fresh (le_refl _),fun y c h=>I.freeC y c (look y c h),fun p hp=>absurd (show p∈([]:List (Addr×Obj)) from hp) (by simp),I.hok.kept hk,?_⟩
  · exact ⟨ne_of_lt (hfl b hb),fun y c h=>(hf b hb).2.2.2.2.1 y c (look y c h)⟩
  · exact I.bs b o e
  · rcases (hf b hb).2.2.2.1 with z | z
    · exact I.ok.noex b o e z
    · exact absurd (lt_of_lt_of_le (lt_size e) (le_trans I.ok.bsz z)) (lt_irrefl _)
  · rcases List.mem_cons.mp (I.stkSub b hs) with z | z
    · exact (hf b hb).2.1 z
    · exact (hf b hb).2.2.1 z
  · have hlen:=I.len
    have hl2:=B.len
    have h1:(N2++xs)[i]?=some y:=h1
    have h2:(σ++List.replicate xs.length none)[i]?=some (some v):=h2
    have hi:i<X.N.length:=by
      by_cases hi:i<X.N.length
      · exact hi
      · rw [getElem?_append_right (by omega)] at h2
        have hm:=mem_of_getElem? h2
        rw [mem_replicate] at hm
        exact absurd hm.2 (by intro z;cases z)
    rw [getElem?_append_left (by omega)] at h1
    rw [getElem?_append_left (by omega)] at h2
    have h3':(relabel sc X.env).names.lookup y=some .cell∨(relabel sc X.env).names.lookup y=some .free:=by
      rcases h3 with z | z
      · exact absurd (Zhr (env:=X.env) z) (B.out y (mem_of_getElem? h1))
      · exact z
    have hfr:=isfree y h3'
    have h1:X.N[i]?=some y:=by
      obtain ⟨z,hz⟩:∃z,X.N[i]?=some z:=⟨X.N[i],getElem?_eq_getElem hi⟩
      rcases B.ren (z,y) (mem_of_getElem? (List.getElem?_zip_eq_some.mpr ⟨hz,h1⟩)) with e | e
      · rw [hz,show y=z from e]
      · exact absurd e (lookup_mem hfr)
    obtain ⟨m3,hn3,hl3⟩:=I.loc
    have hv:X.env.scope.names.lookup y=some .cell∨X.env.scope.names.lookup y=some .free:=B.free (y,.free) hfr rfl
    obtain ⟨u,ru,lk⟩:=hl3 i y v h1 h2 (.inr hv)
    refine ⟨u,ru,.inr ⟨h3',?_⟩⟩
    rcases lk with ⟨k1,_⟩ | ⟨k1,c,ec,zc⟩
    · rcases hv with q | q
      · rw [show X.env.kindOf y=X.env.scope.names.lookup y from rfl,q] at k1
        cases k1
      · rw [show X.env.kindOf y=X.env.scope.names.lookup y from rfl,q] at k1
        cases k1
    · obtain ⟨c',e'⟩:=Zle (cells:=X.env.cells) (cs:=[]) hfr
      have e2:=look y c' e'
      rw [ec] at e2
      cases e2
      obtain ⟨o,ho,hd⟩:=zc
      exact ⟨c,e',o,hk _ _ ho,hd⟩
  · obtain ⟨v,o,ho,hd⟩:=I.cell y c (look y c h)
    exact ⟨v,o,hk _ _ ho,hd⟩
  · show (σ++List.replicate xs.length none).length=(N2++xs).length
    rw [length_append,length_append,I.len,B.len,List.length_replicate]
def Tk (H H':Hp):Prop:=∀b p q,H b=some (.tbl p q)→H' b=some (.tbl p q)
theorem Tk.refl (H:Hp):Tk H H:=fun _ _ _ h=>h
theorem Zqc {pins:List (Addr×Obj)}{σ:St}{H2:Hp}{s2:Shared}{it:Addr}{fp:List Addr}{tn:Nat→Heap→Prop}{J:It}{Q:VK}{E:Value→Shared→Prop}{RR:Value→Addr→Result→Shared→Prop}(hc:X.calm=true)(B:Zul sc X.env.scope xs X.N N2)
    (hg:∀cl C s0 H0 fp,Tk X.H₀ H0→PG (X.blkN N2 xs sc cl C s0 H0 fp) tg g) (ht:∀cl C s0 H0 fp,Tk X.H₀ H0→PIf (X.blkN N2 xs sc cl C s0 H0 fp) ifs tc) (he:∀cl C s0 H0 fp,Tk X.H₀ H0→PE (X.blkN N2 xs sc cl C s0 H0 fp) elt te)
    (I2:Inv X pins σ H2 s2) (T:Turn X.prog X.w X.K tg J fp it tn) (st2:tn 0 s2.heap) (f2:∀b∈fp,Zor X pins H2 b)
    (hw:∀D,H2 D=none→∃W:Nat→Nat→Hp→Prop,(∃m,W 0 m (upd H2 D (.lst [])))∧∀i m H,W i m H→
      (J.stop i H∧Q (.ref D) H)∨(J.go i H∧∃N:Hp→Prop,(∀H',N H'→∃m',m'<m∧W (i+1) m' H')∧∀x H',J.yld i H x H'→∀os:St,os.length=xs.length→g x (σ++os) H' fun σ' Hg=>(∃os',os'.length=xs.length∧σ'=σ++os')∧tc σ' Hg fun b H2 =>
        if b=true then te σ' H2 fun v H3=>∃ys,H3 D=some (.lst ys)∧ys.length<sizeLine∧N (upd H3 D (.lst (ys++[v])))
        else N H2))
    (fin:∀(D C:Addr) (H':Hp) (s':Shared) (m:Str→Option Value),Inv X pins σ H' s'→s'.heap.Ns C m→Zor X pins H' C→Q (.ref D) H'→RR (.ref D) C (.ok .next) s') :
    wpAny (model X.prog X.w) X.A (newList []) (fun acc s₃=>wpAny (model X.prog X.w) X.A (newFunctionEnv sc X.env.globals (Ji X.env.cells sc.names []) [] X.env.qual none .none (some X.env)) (fun cenv s₄ =>
      codeAny (model X.prog X.w) X.A (.compStart (.ListComp elt [⟨tg,iter,ifs,0⟩] sc pos) 0 (.ref it) acc {cenv with scope:=relabel sc X.env}) (RR acc cenv.locals) s₄) E s₃) E s2:=by
  refine wpAny_newObj_type (wpAny_newFunctionEnv B.cell (by intro y hy;simp at hy) (fun h₁ hns₁ hsb₁=>?_) B.kind)
  have hD:H2 s2.heap.objs.size=none:=I2.fresh
  obtain ⟨W,⟨m0,w0⟩,turn⟩:=hw _ hD
  have I3:Inv X pins σ (upd H2 s2.heap.objs.size (.lst [])) {s2 with heap:=s2.heap.push {cls:=.type "list",data:=.seq ([]:List Value).toArray}}:=I2.lnew (its:=[]) (t':=s2.toks) .nil (zero_le _)
  have fne:∀b∈fp,b<s2.heap.objs.size:=fun b hb=>by
    obtain ⟨o,ho,_⟩:=T.obj _ _ st2 b hb
    exact lt_size ho
  generalize hs3:({s2 with heap:=s2.heap.push {cls:=.type "list",data:=.seq ([]:List Value).toArray}}:Shared)=s3 at I3
  have hs3h:s3.heap=s2.heap.push {cls:=.type "list",data:=.seq ([]:List Value).toArray}:=by rw [← hs3]
  have f3:∀b∈fp,Zor X pins (upd H2 s2.heap.objs.size (.lst [])) b:=fun b hb=>⟨by rw [Xw (ne_of_lt (fne b hb))];exact (f2 b hb).1,(f2 b hb).2⟩
  have fl3:∀b∈fp,b<s3.heap.objs.size:=fun b hb=>by
    rw [hs3h,Heap.size_push]
    exact Nat.lt_succ_of_lt (fne b hb)
  have keep3:∀b o,s3.heap.get? b=some o→h₁.get? b=some o:=fun b o e=>by
    rw [hs3h] at e
    refine hsb₁.extBut b o ?_ (get?_push_of_some _ e)
    exact ne_of_lt (lt_size e)
  have hns3:h₁.Ns s3.heap.objs.size (fun z=>([]:List (Str×Value)).reverse.lookup z):=by
    rw [hs3h]
    exact hns₁
  have I4:=Zto (xs:=xs) (sc:=sc) (s1:={s3 with heap:=h₁,toks:=s3.toks+([]:List (Str×Value)).length}) B I3 f3 fl3 hns3 keep3 rfl
  have st4:tn 0 h₁:=T.keep _ _ _ st2 fun b hb o e=>keep3 b o (by rw [hs3h];exact get?_push_of_some _ e)
  have stat:∀{H':Hp},(∀b∈fp,H' b=none)→∀b∈fp,Zor (X.blkN N2 xs sc (Ji X.env.cells sc.names []) s3.heap.objs.size s3 (upd H2 s2.heap.objs.size (.lst [])) fp) [] H' b:=fun hn b hb =>
    ⟨hn b hb,(I4.ok.exf b hb).1,I4.ok.exfs b hb,.inl hb,(I4.ok.exf b hb).2,fun p hp=>absurd (show p∈([]:List (Addr×Obj)) from hp) (by simp)⟩
  have tk:Tk X.H₀ (upd H2 s2.heap.objs.size (.lst [])):=fun b p q h=>I3.base.tbls b p q h
  have loop:∀s4:Shared,s4={s3 with heap:=h₁,toks:=s3.toks+([]:List (Str×Value)).length}→
      codeAny (model X.prog X.w) X.A (.compLoop (.ListComp elt [⟨tg,iter,ifs,0⟩] sc pos) 0 (.ref it) (.ref s2.heap.objs.size) (compEnvC sc (Ji X.env.cells sc.names []) s3.heap.objs.size X.env)) (RR (.ref s2.heap.objs.size) s3.heap.objs.size) s4:=by
    rintro s4 rfl
    refine Zts (fun n s'=>∃(i:Nat) (o:St) (H':Hp),o.length=xs.length∧Inv (X.blkN N2 xs sc (Ji X.env.cells sc.names []) s3.heap.objs.size s3 (upd H2 s2.heap.objs.size (.lst [])) fp) [] (σ++o) H' s'∧tn i s'.heap∧(∀b∈fp,H' b=none)∧W i n H') ?_ m0
      ⟨0,List.replicate xs.length none,_,by simp,I4,st4,fun b hb=>(f3 b hb).1,w0⟩
    rintro n s5 ⟨i,o,H5,ol5,I5,st5,fr5,w5⟩
    rcases turn i n H5 w5 with ⟨stop,qn⟩ | ⟨go,N,hN,step⟩
    · refine thn (T.done (X.blkN N2 xs sc (Ji X.env.cells sc.names []) s3.heap.objs.size s3 (upd H2 s2.heap.objs.size (.lst [])) fp) rfl rfl rfl hc i [] s5 (σ++o) H5 _ I5 (stat fr5) st5 stop) fun r s6 ⟨hr,I6⟩=>?_
      subst hr
      obtain ⟨m6,hn6,_⟩:=I6.loc
      refine fin _ _ H5 s6 m6 ?_ hn6 (I3.fpOk (le_refl _) I6.free) qn
      exact I3.call' (ch:=fp) I6.os I6.base I6.hok I6.bare fun b hb=>⟨(f3 b hb).2.2.2.1,(f3 b hb).2.1,(f3 b hb).2.2.2.2.1,(f3 b hb).2.2.2.2.2⟩
    · refine thn (T.item (X.blkN N2 xs sc (Ji X.env.cells sc.names []) s3.heap.objs.size s3 (upd H2 s2.heap.objs.size (.lst [])) fp) rfl rfl rfl hc i [] s5 (σ++o) H5 _ I5 (stat fr5) st5 go) fun r s6 ⟨u,hr,h6⟩=>?_
      subst hr
      refine thn h6 fun _ s7 hz9=>?_
      obtain ⟨v,H7,I7,r7,y7,st7,fr7⟩:=hz9
      have I7':=I7.pinned (stat fr7) (T.obj _ _ st7)
      refine thn (hg _ _ _ _ _ tk _ s7 _ H7 v u _ I7' r7 (step v H7 y7 o ol5)) fun _ s8 ⟨σ8,H8,I8,⟨os',ol8,e8⟩,q8⟩=>?_
      subst e8
      have again:∀{H9:Hp} {s9:Shared},Inv (X.blkN N2 xs sc (Ji X.env.cells sc.names []) s3.heap.objs.size s3 (upd H2 s2.heap.objs.size (.lst [])) fp) ([]++Zmk fp s7.heap) (σ++os') H9 s9→N H9→
          ∃m,m<n∧∃(i:Nat) (o:St) (H':Hp),o.length=xs.length∧Inv (X.blkN N2 xs sc (Ji X.env.cells sc.names []) s3.heap.objs.size s3 (upd H2 s2.heap.objs.size (.lst [])) fp) [] (σ++o) H' s9∧tn i s9.heap∧(∀b∈fp,H' b=none)∧W i m H':=fun {H9 s9} I9 n9=>by
        obtain ⟨m',hm,w9⟩:=hN H9 n9
        refine ⟨m',hm,i+1,os',H9,ol8,I9.unpinned,T.keep _ _ _ st7 fun b hb o e=>(I9.pin (b,o) (mem_append_right _ (mem_append_right _ (Zdv hb e)))).1,fun b hb=>?_,w9⟩
        obtain ⟨o,e,d⟩:=T.obj _ _ st7 b hb
        exact (I9.pin (b,o) (mem_append_right _ (mem_append_right _ (Zdv hb e)))).2.1
      refine thn (ht _ _ _ _ _ tk _ s8 _ H8 _ I8 q8) fun ok s9 ⟨H9,I9,q9⟩=>?_
      cases ok with
      | false =>
        rw [if_neg Bool.false_ne_true] at q9 ⊢
        exact again I9 q9
      | true =>
        rw [if_pos rfl] at q9 ⊢
        refine thn (he _ _ _ _ _ tk _ s9 _ H9 _ I9 q9) fun ue s10 hz9=>?_
        obtain ⟨ve,H10,I10,r10,ys,hy,hz,q10⟩:=hz9
        refine thn (Zio _ s10 _ H10 (.ref s2.heap.objs.size) [ve] (.ref s2.heap.objs.size) [ue] (fun _ H'=>N H') I10 rfl (.cons r10 .nil) ⟨_,ys,ve,rfl,rfl,hy,hz,q10⟩) fun _ s11 hz9=>?_
        obtain ⟨_,H11,I11,_,q11⟩:=hz9
        exact again I11 q11
  have fin':codeAny (model X.prog X.w) X.A (.compStart (.ListComp elt [⟨tg,iter,ifs,0⟩] sc pos) 0 (.ref it) (.ref s2.heap.objs.size) (compEnvC sc (Ji X.env.cells sc.names []) s3.heap.objs.size X.env)) (RR (.ref s2.heap.objs.size) s3.heap.objs.size) {s3 with heap:=h₁,toks:=s3.toks+([]:List (Str×Value)).length}:=
    codeAny_compStart_list (loop _ rfl) (T.self _ 0 _ _ _ st4 (loop _ rfl))
  exact fin'
theorem Xem (hc:X.calm=true)(B:Zul sc X.env.scope xs X.N N2)(hi:PI X tg iter wi)(hg:∀cl C s0 H0 fp,Tk X.H₀ H0→PG (X.blkN N2 xs sc cl C s0 H0 fp) tg g)(ht:∀cl C s0 H0 fp,Tk X.H₀ H0→PIf (X.blkN N2 xs sc cl C s0 H0 fp) ifs tc)(he:∀cl C s0 H0 fp,Tk X.H₀ H0→PE (X.blkN N2 xs sc cl C s0 H0 fp) elt te)
  (hs:∀v,foldedSetIterable iter X.env v=pure v:=by intro _;rfl):PE X (.ListComp elt [⟨tg,iter,ifs,0⟩] sc pos) (Zdt xs.length g wi tc te):=by
 intro pins s σ H Q I h
 rw [eval_ListComp]
 have hcl:∀y∈sc.names,y.2=.free→∃c,X.env.cells.lookup y.1=some c:=fun y hy hf=>I.ok.has y.1 (B.free y hy hf)
 refine wpAny_comprehension_free (use:=none) rfl hs (Zeg hcl) B.kind B.loc (thn (hi pins s σ H _ I h) fun v s1 h1=>thn h1 fun itv s2 h2=>?_)
 obtain ⟨it,fp,tn,J,H2,e,I2,T,st2,f2,hw⟩:=h2
 subst e
 refine Zqc (RR:=fun acc C=>compPost (model X.prog X.w) X.A X.xe none (EP X pins σ Q) acc C) hc B hg ht he I2 T st2 f2 hw ?_
 intro D C H' s' m I' hn hC q
 obtain ⟨c0,c1,c2,c3,c4,c5⟩:=hC
 refine ⟨m,hn,fun h'' hs''=>⟨.ref D,H',?_,rfl,q⟩⟩
 exact I'.turned (t':=s'.toks) (fun b o hb e=>hs''.extBut b o hb e) c0 c1 c3 c4 c5
theorem Xcw {i:Nat}{y:Str}{py spos:Pos}(hc:X.calm=true)(B:Zul sc X.env.scope xs X.N N2)(hi:PI X tg iter wi)(hg:∀cl C s0 H0 fp,Tk X.H₀ H0→PG (X.blkN N2 xs sc cl C s0 H0 fp) tg g)(ht:∀cl C s0 H0 fp,Tk X.H₀ H0→PIf (X.blkN N2 xs sc cl C s0 H0 fp) ifs tc)(he:∀cl C s0 H0 fp,Tk X.H₀ H0→PE (X.blkN N2 xs sc cl C s0 H0 fp) elt te)
    (hy:X.N[i]?=some y) (hl:X.env.scope.names.lookup y=some .local) (hsw:swapsWith (.ListComp elt [⟨tg,iter,ifs,0⟩] sc pos) (some (.Name y py)) spos.line X.env=pure true:=by rfl)
    (hs:∀v,foldedSetIterable iter X.env v=pure v:=by intro _;rfl):PS X (.Assign [.Name y py] (.ListComp elt [⟨tg,iter,ifs,0⟩] sc pos) spos) (Zjd (Zdt xs.length g wi tc te) (Zap i)):=by
  intro pins s σ H D I h
  have hx:=exec_Assign_Name_used (env:=X.env) _ _ _ _ hsw
  rw [hx]
  refine wpAny_bind (wpAny_standAt ?_)
  refine wpAny_bind ?_
  show wpAny _ X.A (do let _ ← comprehension (.ListComp elt [⟨tg,iter,ifs,0⟩] sc pos) sc X.env _ (newList []) false (eval iter X.env) (some (assign (.Name y py) X.env))) _ _ s
  have hcl:∀y∈sc.names,y.2=.free→∃c,X.env.cells.lookup y.1=some c:=fun y hy hf=>I.ok.has y.1 (B.free y hy hf)
  refine wpAny_bind (wpAny_mono (wpAny_comprehension_free (use:=some (assign (.Name y py) X.env)) (Q:=fun _ s'=>SP X pins D .next s') rfl hs (Zeg hcl) B.kind B.loc
    (thn (hi pins s σ H _ I h) fun v s1 h1=>thn h1 fun itv s2 h2=>?_)) (fun _ s' hq=>wpAny_pure (wpAny_pure hq)) fun _ _ e=>e)
  obtain ⟨it,fp,tn,J,H2,e,I2,T,st2,f2,hw⟩:=h2
  subst e
  refine Zqc (Q:=fun v H1=>Zap i v σ H1 D.nx) (RR:=fun acc C=>compPost (model X.prog X.w) X.A X.xe (some (assign (.Name y py) X.env)) (fun _ s'=>SP X pins D .next s') acc C) hc B hg ht he I2 T st2 f2 hw ?_
  intro E C H' s' m I' hn hC q
  obtain ⟨c0,c1,c2,c3,c4,c5⟩:=hC
  show wpAny _ X.A (assign (.Name y py) X.env (.ref E)) _ _ _
  refine wpAny_assign_Name (Znx (v:=.ref E) I' B.nd hy (.inl hl) rfl (fun s8 I8 ⟨a,sb,ha⟩=>?_) (.inr hl))
  have hCa:C≠a:=by
    rcases ha with z | z
    · rw [z];exact c1
    · exact fun z'=>c4 _ _ z z'.symm
  refine ⟨m,hn.sameBut sb hCa,fun h'' hs''=>⟨_,H',?_,q⟩⟩
  exact I8.turned (t':=s8.toks) (fun b o hb e=>hs''.extBut b o hb e) c0 c1 c3 c4 c5
end
section
variable {X:Cx}{elt iter c tg:Expr}{xs:List Str}{pos:Pos}{ifs:List Expr}{sc esc:Scope}{N N2:List Str}{wi:TI}{tc:TT}{te:TE}{g:TG}
theorem Zod (esc:Scope)(N N2 xs:List Str)(B:Zul sc esc xs N N2)(hi:QI X tg iter wi)(hg:∀cl C s0 H0 fp,Tk X.H₀ H0→QG (X.blkN N2 xs sc cl C s0 H0 fp) tg g)(ht:∀cl C s0 H0 fp,Tk X.H₀ H0→QIf (X.blkN N2 xs sc cl C s0 H0 fp) ifs tc)(he:∀cl C s0 H0 fp,Tk X.H₀ H0→QE (X.blkN N2 xs sc cl C s0 H0 fp) elt te)
  (hesc:X.env.scope=esc:=by rfl) (hN:X.N=N:=by rfl) (hc:X.calm=true:=by rfl) (hs:∀v,foldedSetIterable iter X.env v=pure v:=by intro _;rfl):QE X (.ListComp elt [⟨tg,iter,ifs,0⟩] sc pos) (Zdt xs.length g wi tc te):=by
 subst hesc hN
 exact ⟨Xem hc B hi.out (fun cl C s0 H0 fp z=>(hg cl C s0 H0 fp z).out) (fun cl C s0 H0 fp z=>(ht cl C s0 H0 fp z).out) (fun cl C s0 H0 fp z=>(he cl C s0 H0 fp z).out) hs⟩
theorem Xap (esc:Scope)(N N2 xs:List Str)(B:Zul sc esc xs N N2)(hi:QI X tg iter wi)(hg:∀cl C s0 H0 fp,QG (X.blkN N2 xs sc cl C s0 H0 fp) tg g)(ht:∀cl C s0 H0 fp,QIf (X.blkN N2 xs sc cl C s0 H0 fp) ifs tc)(he:∀cl C s0 H0 fp,QE (X.blkN N2 xs sc cl C s0 H0 fp) elt te)
  (hesc:X.env.scope=esc:=by rfl) (hN:X.N=N:=by rfl) (hc:X.calm=true:=by rfl) (hs:∀v,foldedSetIterable iter X.env v=pure v:=by intro _;rfl):QE X (.ListComp elt [⟨tg,iter,ifs,0⟩] sc pos) (Zdt xs.length g wi tc te):=
 Zod esc N N2 xs B hi (fun cl C s0 H0 fp _=>hg cl C s0 H0 fp) (fun cl C s0 H0 fp _=>ht cl C s0 H0 fp) (fun cl C s0 H0 fp _=>he cl C s0 H0 fp) hesc hN hc hs
theorem Zmp {i:Nat}{y:Str}{py spos:Pos}(esc:Scope)(N N2 xs:List Str)(B:Zul sc esc xs N N2)(hy:N[i]?=some y)(hl:esc.names.lookup y=some .local)(hi:QI X tg iter wi)(hg:∀cl C s0 H0 fp,Tk X.H₀ H0→QG (X.blkN N2 xs sc cl C s0 H0 fp) tg g)(ht:∀cl C s0 H0 fp,Tk X.H₀ H0→QIf (X.blkN N2 xs sc cl C s0 H0 fp) ifs tc)(he:∀cl C s0 H0 fp,Tk X.H₀ H0→QE (X.blkN N2 xs sc cl C s0 H0 fp) elt te)
  (hesc:X.env.scope=esc:=by rfl) (hN:X.N=N:=by rfl) (hc:X.calm=true:=by rfl) (hsw:swapsWith (.ListComp elt [⟨tg,iter,ifs,0⟩] sc pos) (some (.Name y py)) spos.line X.env=pure true:=by rfl)
  (hs:∀v,foldedSetIterable iter X.env v=pure v:=by intro _;rfl):QS X (.Assign [.Name y py] (.ListComp elt [⟨tg,iter,ifs,0⟩] sc pos) spos) (Zjd (Zdt xs.length g wi tc te) (Zap i)):=by
 subst hesc hN
 exact ⟨Xcw hc B hi.out (fun cl C s0 H0 fp z=>(hg cl C s0 H0 fp z).out) (fun cl C s0 H0 fp z=>(ht cl C s0 H0 fp z).out) (fun cl C s0 H0 fp z=>(he cl C s0 H0 fp z).out) hy hl hsw hs⟩
theorem Xcr {i:Nat}{y:Str}{py spos:Pos}(esc:Scope)(N N2 xs:List Str)(B:Zul sc esc xs N N2)(hy:N[i]?=some y)(hl:esc.names.lookup y=some .local)(hi:QI X tg iter wi)(hg:∀cl C s0 H0 fp,QG (X.blkN N2 xs sc cl C s0 H0 fp) tg g)(ht:∀cl C s0 H0 fp,QIf (X.blkN N2 xs sc cl C s0 H0 fp) ifs tc)(he:∀cl C s0 H0 fp,QE (X.blkN N2 xs sc cl C s0 H0 fp) elt te)
  (hesc:X.env.scope=esc:=by rfl) (hN:X.N=N:=by rfl) (hc:X.calm=true:=by rfl) (hsw:swapsWith (.ListComp elt [⟨tg,iter,ifs,0⟩] sc pos) (some (.Name y py)) spos.line X.env=pure true:=by rfl)
  (hs:∀v,foldedSetIterable iter X.env v=pure v:=by intro _;rfl):QS X (.Assign [.Name y py] (.ListComp elt [⟨tg,iter,ifs,0⟩] sc pos) spos) (Zjd (Zdt xs.length g wi tc te) (Zap i)):=
 Zmp esc N N2 xs B hy hl hi (fun cl C s0 H0 fp _=>hg cl C s0 H0 fp) (fun cl C s0 H0 fp _=>ht cl C s0 H0 fp) (fun cl C s0 H0 fp _=>he cl C s0 H0 fp) hesc hN hc hsw hs
end
theorem Zvp (bt:Nat→Nat→Bool):∀k,argBest bt k≤k
 | 0=>le_refl _
 | k+1=>by
  rw [argBest]
  have:=Zvp bt k
  split<;>omega
theorem Zrk (val:Nat→Int):∀k j,j≤k→val j≤val (argBest (fun i j=>decide (val i > val j)) k)
 | 0,j,h=>by
  have e:j=0:=by omega
  subst e
  exact Int.le_refl _
 | k+1,j,h=>by
  have ih:=Zrk val k
  rw [argBest]
  by_cases c:val (k+1) > val (argBest (fun i j=>decide (val i > val j)) k)
  ·rw [if_pos (by simpa using c)]
   by_cases e:j=k+1
   ·subst e;exact Int.le_refl _
   ·have:=ih j (by omega)
    omega
  ·rw [if_neg (by simpa using c)]
   by_cases e:j=k+1
   ·subst e
    omega
   ·exact ih j (by omega)
def Xqr (K:Frag):List V→Hp→VK→Prop:=fun xs H Q=>∃p ns,xs=[.ref p]∧SqL K H p (ns.map V.int)∧ns≠[]∧∀m,m∈ns→(∀n∈ns,n≤m)→Q (.int m) H
def Zgy (K:Frag):List V→Hp→VK→Prop:=fun xs H Q=>(∃i j,xs=[.int i,.int j]∧Q (.int (if j > i then j else i)) H)∨Xqr K xs H Q
section
variable {X:Cx}
theorem Zus (hc:X.calm=true):Zav X (.builtin "max") (Xqr X.K):=by
 intro pins s σ H xs us Q I r h
 obtain ⟨p,ns,rfl,hq,hne,q⟩:=h
 obtain ⟨u,rfl,rx⟩:=vals1 r
 cases rx
 obtain ⟨its,rv,pl,hz⟩:=I.list hq
 have hi:IntsAre its ns:=intsAre_of rv
 obtain ⟨xs,hxs⟩:=hi.allInts.items
 have hn:numsOf its.toArray.toList=ns:=by rw [show its.toArray.toList=its from rfl,hi.numsOf]
 have hl:=pl.isList
 rw [hxs] at hl hn
 rw [nums_intItems] at hn
 have hsz:xs.size=ns.length:=by rw [← hn];simp
 have h0:0<ns.length:=List.length_pos_iff.mpr hne
 have val:∀i,i<ns.length→numAt xs i=ns.getD i 0:=fun i hi=>by
  rw [← hn]
  have:i<xs.size:=by omega
  simp [numAt,List.getD,this]
 refine max_intList (I.ok.hd hc) hl (by omega) fun v h' tk hv hk=>?_
 obtain ⟨tk',rfl⟩:=intItems_at hv
 have hb:=Zvp (fun i j=>decide (numAt xs i > numAt xs j)) (xs.size - 1)
 have hlt:argBest (fun i j=>decide (numAt xs i > numAt xs j)) (xs.size - 1)<ns.length:=by omega
 refine ⟨.int (numAt xs (argBest (fun i j=>decide (numAt xs i > numAt xs j)) (xs.size - 1))),H,I.kept hk,⟨tk',rfl⟩,q _ ?_ fun n hn'=>?_⟩
 ·rw [val _ hlt]
  have e:ns.getD (argBest (fun i j=>decide (numAt xs i > numAt xs j)) (xs.size - 1)) 0=ns[argBest (fun i j=>decide (numAt xs i > numAt xs j)) (xs.size - 1)]:=by simp [List.getD,hlt]
  rw [e]
  exact getElem_mem hlt
 ·obtain ⟨j,hj,e⟩:=List.mem_iff_getElem.mp hn'
  have q1:=Zrk (numAt xs) (xs.size - 1) j (by omega)
  rw [val j hj] at q1
  have e2:ns.getD j 0=ns[j]:=by simp [List.getD,hj]
  rw [e2,e] at q1
  exact q1
theorem Zao (hc:X.calm=true):Zav X (.builtin "max") (Zgy X.K):=(Zwm hc).or (Zus hc)
variable {σ:St}{H:Hp}{Q:VK}{D:Ends}{K:Frag}
theorem Xik {i j:Int}(q:Q (.int (if j > i then j else i)) H):Zgy K [.int i,.int j] H Q:=.inl ⟨i,j,rfl,q⟩
theorem Xix {p:Addr}{ns:List Int}(h:SqL K H p (ns.map V.int))(hne:ns≠[])(q:∀m,m∈ns→(∀n∈ns,n≤m)→Q (.int m) H):Zgy K [.ref p] H Q:=.inr ⟨p,ns,rfl,h,hne,q⟩
variable {a b c e o i':Expr}{to ti te:TE}{tc:TT}{pos p2 apos cpos:Pos}{body:List Stmt}{tb:TS}
theorem Zsa (hp:PassesOwn (model X.prog X.w) X.A X.env X.xe)(hc:QT X c tc)(hb:QSs X body tb):QS X (.While c body [] pos) (Zkc tc tb):=⟨Xed hp hc.out hb.out⟩
theorem Xev {i:Nat}{x:Str}{op:Operator}{tp:TIp}{pos':Pos}(hN:X.N.Nodup)(hi:X.N[i]?=some x)(hx:Loc X.env.scope x)(he:QE X e te)(ho:PIp X op tp)(hf:autoParam (X.fn x=true∨X.env.scope.names.lookup x=some .local) aT0._auto_1) :
  QS X (.AugAssign (.Name x pos') op e pos) (Xmc i te tp):=⟨Xrd hN hi hx he.out ho hf⟩
theorem Xpo {t:TSet}(ho:QE X o to)(hi:QE X i' ti)(hs:PSet X t)
    (ha:∀v,assign (.Subscript o i' pos) X.env v=(do
      let ov ← holding [v] (eval o X.env)
      let iv ← holding [v,ov] (eval i' X.env)
      standAt pos
      holding [v,ov,iv] (setItem ov iv v)
      release [v,ov,iv] []):=by intro _;rfl):QG X (.Subscript o i' pos) (Zbh to ti t):=⟨Xrk ho.out hi.out hs ha⟩
end
theorem Xgq:typeLookup (.type "list_reverseiterator") "__len__"=pure none:=by rw [typeLookup_type,builtinLookup_eq_fast];kernel_rfl
theorem Xdb:typeLookup (.type "list_reverseiterator") "__length_hint__"=pure (some (.builtin "list_reverseiterator.__length_hint__")):=by rw [typeLookup_type,builtinLookup_eq_fast];kernel_rfl
section
variable {s:Shared}{E:Value→Shared→Prop}{A:Around}{P:Program}{w:World}
theorem Xaz {it l:Addr}{i:Int}{Q:Bool→Shared→Prop}(hit:s.heap.IsRevIter it l i)(h:Q false s):wpAny (model P w) A (Builtin.List.listLengthHint (.ref it)) Q E s:=by
 delta Builtin.List.listLengthHint
 refine wpAny_bind (wpAny_specialOf hit.typeIs Xgq ?_)
 refine wpAny_ite_split (fun z=>absurd z (by decide +kernel)) fun _=>?_
 refine wpAny_ite_split (fun z=>absurd z (by decide +kernel)) fun _=>?_
 refine wpAny_bind (wpAny_specialOf hit.typeIs Xdb ?_)
 generalize hid:("list_reverseiterator.__length_hint__":String)=id0
 wp_delta
 rw [show splitId id0=some ("list_reverseiterator","__length_hint__") from by subst hid;decide +kernel]
 subst hid
 refine wpAny_bind (wpAny_isInstance (T:="list_reverseiterator") (b:=true) hit.typeIs (by rw [isSubtype_type];kernel_rfl) ?_)
 refine wpAny_ite_split (fun z=>absurd z (by decide)) fun _=>?_
 refine wpAny_ite_split (fun _=>?_) fun z=>absurd (by decide +kernel) z
 refine wpAny_ite_split (fun z=>absurd z (by decide +kernel)) fun _=>?_
 exact wpAny_pure h
theorem Ztp {R:Result→Shared→Prop}{it l:Addr}{items:Array Value}(hh:A.handled=none)(hit:s.heap.IsRevIter it l ((items.size:Int) - 1))(hl:s.heap.IsList l items)(hne:l≠it)(hn:items.size≤sizeLine)(S:Addr)(res:Value)(c₀:Nat)
    (hN:s.heap.get? S=some {cls:=.type "list",data:=.seq #[] c₀}) (hSi:S≠it) (hSl:S≠l)
    (hR:∀h' tk acc' c',(∀b o,b≠S→b≠it→s.heap.get? b=some o→h'.get? b=some o)→h'.get? S=some {cls:=.type "list",dict:=none,data:=.seq acc' c',slots:=#[]}→
      ItemsOf (fun i v=>items[items.size - 1 - i]?=some v) acc' items.size→R (.ok (.ret res)) {s with heap:=h',toks:=tk}) :
    wpAny (model P w) A.in1 (Builtin.List.listExtendWith (.ref S) (.ref it) res)
      (fun fi s1=>match fi with | .done fl=>R (.ok fl) s1 | .again cd=>cd.quiet=true∧codeAny (model P w) A cd R s1) (fun ev s1=>R (.error ev) s1) s:=by
  have W:=(Walks.listRev (prog:=P) (w:=w) (A:=A.in1) hh it l hne items).toS
  have key:codeAny (model P w) A (.builtin "list.extend.loop" ⟨[.ref S,.ref it,res],[]⟩) R s:=by
    refine codeAny_extend_loopS W hn S (by simp [hSi,hSl]) res items.size 0 s #[] c₀ rfl (zero_le _) ⟨zero_le _,by simpa using hit,hl⟩ hN (ItemsOf.nil _) fun s' acc' c' hm hN1 hacc=>?_
    rw [Moved.eq_with hm]
    exact hR s'.heap s'.toks acc' c' (fun b o hb hbi e=>hm.heap b o (by simp [hb,hbi]) e) hN1 hacc
  delta Builtin.List.listExtendWith
  refine wpAny_bind (wpAny_typeOf (T:="list_reverseiterator") hit.typeIs ?_)
  have h1:Builtin.List.listSameRef (.ref S) (.ref it)=false:=by simp [Builtin.List.listSameRef,hSi]
  have h2:(Value.type "list_reverseiterator"==Value.type "list")=false:=by decide
  have h3:(Value.type "list_reverseiterator"==Value.type "tuple")=false:=by decide
  simp only [h1,h2,h3,Bool.or_false,if_false,Bool.false_eq_true]
  refine wpAny_bind (wpAny_pyIter_revIter hit ?_)
  refine wpAny_bind (wpAny_holding (Xaz hit ?_))
  exact wpAny_ite_split (fun z=>absurd z (by decide +kernel)) (fun _=>wpAny_pure ⟨plainId_quiet F.plain_extend_loop _,key⟩)
theorem Zkz {Q:Value→Shared→Prop}{it l:Addr}{items:Array Value}(hh:A.handled=none)(hit:s.heap.IsRevIter it l ((items.size:Int) - 1))(hl:s.heap.IsList l items)(hne:l≠it)(hn:items.size≤sizeLine)
    (hQ:∀h' tk acc' c',(∀b o,b≠it→s.heap.get? b=some o→h'.get? b=some o)→h'.get? s.heap.objs.size=some {cls:=.type "list",dict:=none,data:=.seq acc' c',slots:=#[]}→
      ItemsOf (fun i v=>items[items.size - 1 - i]?=some v) acc' items.size→Q (.ref s.heap.objs.size) {s with heap:=h',toks:=tk}) :
    wpAny (model P w) A (call (.type "list") [.ref it]) Q E s:=by
  have hit0:=hit
  obtain ⟨oi,hoi,_⟩:=id hit
  obtain ⟨ol,hol,_⟩:=id hl
  have hi:it<s.heap.objs.size:=lt_size hoi
  have hLl:l<s.heap.objs.size:=lt_size hol
  refine callType_codes (Q₁:=fun ob z=>ob=.ref s.heap.objs.size∧z={s with heap:=s.heap.push {cls:=.type "list",data:=.seq #[]}}) F.called_list (F.typeCall_list_1 _) F.entry_list_init
    (code_list_new _ ⟨rfl,rfl⟩) fun ob z h1=>?_
  obtain ⟨rfl,rfl⟩:=h1
  have hN:(s.heap.push {cls:=.type "list",data:=.seq #[]}).get? s.heap.objs.size=some {cls:=.type "list",data:=.seq #[]}:=get?_push_size _ rfl
  refine ⟨⟨_,hN,rfl⟩,F.args_list_init_2 _ _,?_⟩
  show wpAny _ _ (do let old ← Builtin.List.listItems (.ref s.heap.objs.size);Builtin.List.listUpdate (.ref s.heap.objs.size) (fun _=>#[]);letGo old.toList.reverse;Builtin.List.listExtendWith (.ref s.heap.objs.size) (.ref it) .none) _ _ _
  refine wpAny_bind ?_
  unfold Builtin.List.listItems
  refine wpAny_bind (wpAny_seqItems hN rfl (wpAny_pure ?_))
  show wpAny _ _ (updateSeq s.heap.objs.size (fun _=>#[]) >>= fun _=>letGo (#[]:Array Value).toList.reverse >>= fun _=>Builtin.List.listExtendWith (.ref s.heap.objs.size) (.ref it) .none) _ _ _
  refine wpAny_bind (wpAny_updateSeq hN rfl ?_)
  have hN2:=Heap.get?_update_self (Obj.mapSeq (fun _=>(#[]:Array Value))) hN rfl
  have oth:∀b o,b≠s.heap.objs.size→s.heap.get? b=some o→((s.heap.push {cls:=.type "list",data:=.seq #[]}).update s.heap.objs.size (Obj.mapSeq (fun _=>(#[]:Array Value)))).get? b=some o:=
    fun b o hb e=>(Heap.get?_update_other _ _ (Ne.symm hb)).trans (get?_push_of_some _ e)
  refine wpAny_bind (wpAny_letGo ?_)
  refine Ztp (A:=A.in1) hh (hit0.at fun o e=>oth it o (ne_of_lt hi) e) (hl.at fun o e=>oth l o (ne_of_lt hLl) e) hne hn _ .none _ hN2 (ne_of_gt hi) (ne_of_gt hLl) fun h' tk acc' c' hk hN1 hacc=>?_
  exact ⟨rfl,hQ h' tk acc' c' (fun b o hb e=>hk b o (ne_of_lt (lt_size e)) hb (oth b o (ne_of_lt (lt_size e)) e)) hN1 hacc⟩
end
section
variable {X:Cx}{e:Expr}{te:TE}{p p' pos pos':Pos}
def Xdv (K:Frag)(te:TE):TE:=fun σ H Q=>Zdn te Zqa σ H fun vs H1=>∃a xs,vs=[.ref a]∧SqL K H1 a xs∧∀r,H1 r=none→Q (.ref r) (upd H1 r (.lst xs.reverse))
theorem Xiq (hc:X.calm=true)(hg:Gl X "list")(hm:X.mg "list"=none)(hg':Gl X "reversed")(hm':X.mg "reversed"=none)(he:PE X e te)(hs2:starEach [e] X.env=(false,eval e X.env)::starEach [] X.env) :
  PE X (.Call (.Name "list" p) [.Call (.Name "reversed" p') [e] [] pos'] [] pos) (Xdv X.K te):=by
 intro pins s σ H Q I h
 refine wpAny_Call_Name_kw (Zgo I hg hm boot_list ?_ (by decide) (by decide))
 refine PyProof.Rows.callWith_type1 ?_ Zi rfl
 rw [Zi]
 show wpAny _ _ (spliced ((false,eval (.Call (.Name "reversed" p') [e] [] pos') X.env)::backTo pos (starEach [] X.env))) _ _ s
 refine Calls.spliced_cons ?_
 refine wpAny_Call_Name_kw (Zgo I hg' hm' boot_reversed ?_ (by decide) (by decide))
 refine PyProof.Rows.callWith_type1 (thn (Zku he Zqd hs2 pos' pins s σ H _ I h) fun us s1 hz9=>?_) hs2 rfl
 obtain ⟨vs,H1,I1,r1,q1⟩:=hz9
 obtain ⟨a,xs,rfl,hq,q⟩:=q1
 obtain ⟨u,rfl,rx⟩:=vals1 r1
 cases rx
 obtain ⟨its,rv,pl,hz⟩:=I1.list hq
 have hlen:=rv.length
 have hl:=pl.isList
 obtain ⟨oa,hoa,_⟩:=id hl
 have ha:a<s1.heap.objs.size:=lt_size hoa
 refine call_reversed_list hl (Calls.spliced_nil ?_)
 refine Zkz (it:=s1.heap.objs.size) (l:=a) (items:=its.toArray) (I1.ok.hd hc) ⟨_,get?_push_size _ rfl,rfl,rfl⟩ (hl.push _) (ne_of_lt ha) (by rw [size_toArray];omega) fun h' tk acc' c' hk hN1 hacc=>?_
 have hsz:(s1.heap.push (revObj a ((its.toArray.size:Int) - 1))).objs.size=s1.heap.objs.size+1:=Heap.size_push ..
 have hle:s1.heap.objs.size≤(s1.heap.push (revObj a ((its.toArray.size:Int) - 1))).objs.size:=by rw [hsz];exact le_succ _
 have hk1:∀b o,s1.heap.get? b=some o→h'.get? b=some o:=fun b o e=>hk b o (ne_of_lt (lt_size e)) (get?_push_of_some _ e)
 have hrev:acc'.toList=its.reverse:=by
  obtain ⟨h1,h2⟩:=hacc
  have h0:acc'.size=its.length:=h1.trans (size_toArray ..)
  refine List.ext_getElem? fun j=>?_
  by_cases hj:j<its.length
  ·have hj':j<acc'.size:=by omega
   have e1:=h2 j acc'[j] (Array.getElem?_eq_getElem hj')
   have e2:its.toArray[its.toArray.size - 1 - j]?=its[its.length - 1 - j]?:=by simp
   rw [getElem?_toList,Array.getElem?_eq_getElem hj',List.getElem?_reverse hj,← e2]
   exact e1.symm
  ·rw [List.getElem?_eq_none (by simp;omega),List.getElem?_eq_none (by simp;omega)]
 refine ⟨.ref _,_,I1.laid (o:=.lst xs.reverse) (t':=tk) hk1 hle ?_,rfl,q _ (I1.hok.fresh hle)⟩
 refine ⟨by rw [length_reverse];exact hz,acc'.toList,c',?_,?_⟩
 ·rw [hrev]
  exact rv.reverse
 ·rw [hN1]
theorem Xhy (hg:Gl X "list")(hm:X.mg "list"=none)(hg':Gl X "reversed")(hm':X.mg "reversed"=none)(he:QE X e te)(hs2:starEach [e] X.env=(false,eval e X.env)::starEach [] X.env)(hc:X.calm=true:=by rfl) :
  QE X (.Call (.Name "list" p) [.Call (.Name "reversed" p') [e] [] pos'] [] pos) (Xdv X.K te):=⟨Xiq hc hg hm hg' hm' he.out hs2⟩
variable {σ:St}{H:Hp}{Q:VK}{K:Frag}
end
section
variable {X:Cx}
theorem truths {prog:Program}{w:World}{A:Around}{bs:List Bool}{its:List Value}(rv:Yw (bs.map V.bl) its):TruthOf prog w A (fun i v=>its.toArray[i]?=some v) (fun i=>bs.getD i false):=by
  intro i v s Q E hv hQ
  have hl:=rv.length
  rw [length_map] at hl
  have hv':its[i]?=some v:=by simpa using hv
  have hi:i<its.length:=(List.getElem?_eq_some_iff.mp hv').1
  obtain ⟨u,e,ru⟩:=rv.get (i:=i) (x:=V.bl (bs.getD i false)) (by
    rw [getElem?_map,getElem?_eq_getElem (by omega)]
    simp [List.getD,show i<bs.length by omega])
  rw [hv'] at e
  cases e
  cases (show v=Value.bool (bs.getD i false) from ru)
  exact wpAny_truthy_bool hQ
variable {H:Hp}{Q:VK}{K:Frag}
end
noncomputable def rIsA (neg:Bool):R2:=fun x y H Q=>(y=.non∧Q (.bl (if neg then !decide (x=.non) else decide (x=.non))) H)∨∃b c,x=.bl b∧y=.bl c∧Q (.bl (if neg then !(b==c) else b==c)) H
section
variable {X:Cx}
theorem Xge:OpR X (compareOp .Is) (rIsA false):=by
 intro pins s σ H x y v u Q I rx ry h
 rcases h with ⟨rfl,q⟩ | ⟨b,c,rfl,rfl,q⟩
 ·exact Xqa pins s σ H x .non v u Q I rx ry ⟨rfl,q⟩
 ·cases (show v=Value.bool b from rx)
  cases (show u=Value.bool c from ry)
  refine wpAny_is_plain (by cases b<;>cases c<;>rfl) ⟨.bl (b==c),H,I,?_,q⟩
  cases b<;>cases c<;>rfl
variable {H:Hp}{Q:VK}{K:Frag}
end
noncomputable def Dk {α:Type}:Sem α→Prop
 | .pure _=>True
 | .raise _=>True
 | .unsupported _=>True
 | .finish _=>True
 | .rule _ k=>Dk (k ())
 | .at _ k=>Dk (k ())
 | .load _ _ k=>∀o,Dk (k o)
 | .update _ _ f k=>(∀o:Obj,o.isFreed=false→(f o).isFreed=false∧(f o).dict=o.dict)∧Dk (k ())
 | .alloc _ k=>∀a,Dk (k a)
 | .loadIfAlive _ k=>∀o,Dk (k o)
 | .point _ k=>Dk (k ())
 | .fresh k=>∀a,Dk (k a)
 | .ask k=>∀a,Dk (k a)
 | .choose _ _ k=>∀a,Dk (k a)
 | .os _ _ k=>∀a,Dk (k a)
 | .handled _ k=>∀a,Dk (k a)
 | .stack k=>∀a,Dk (k a)
 | .thread k=>∀a,Dk (k a)
 | .register _ _=>False
 | .call ..=>False
 | .newGen ..=>False
 | .genState ..=>False
 | .resume ..=>False
 | .yield ..=>False
 | .fork ..=>False
 | .await ..=>False
section
variable {X:Cx}{pins:List (Addr×Obj)}{σ:St}{H H':Hp}{s:Shared}{h':Heap}
end
section
variable {X:Cx}{pins:List (Addr×Obj)}{σ:St}{H:Hp}{s:Shared}
structure Kept (X:Cx)(own:List Addr)(h h':Heap):Prop where
 st:(hideAll h (own++frs X.stack)).StaysIn h'
 fr:h'.FunFrames (hideAll h (own++frs X.stack)) X.stack
 up:h.UpToSlots h'
end
noncomputable abbrev bmV:List Value:=[.type "ValueError",.type "Exception",.type "BaseException",.type "object"]
section
variable {X:Cx}{pins:List (Addr×Obj)}{σ:St}{H:Hp}{s:Shared}
noncomputable def exO (e:Addr)(cls:Value)(dx:Option Addr):HO:=.ext fun h=>∃o vs,h.get? e=some o∧o.cls=cls∧o.data=.fields vs∧o.dict=dx
noncomputable abbrev Cx.hand (X:Cx)(e:Addr):Cx:={X with A:=X.A.mark (some (.ref e)),calm:=false,xe:=fun _ _=>False}
end
end L2
namespace L2
open PySem PySem.Spec
section
variable {prog:Program}{w:World}{A:Around}{E:Value→Shared→Prop}{h:Heap}{g:Array GenState}{d:Drawn}{t:Nat}{os:OsState}{a C:Addr}{o:Obj}{vs:Array Value}
open PySem.W (Looks)
end
end L2
namespace L2
open PySem PySem.Spec PyProof.Rows
noncomputable abbrev TJ:=St→Hp→(Hp→Prop)→Prop
def PJ (X:Cx)(es:List Expr)(t:TJ):Prop:=
 ∀(out:Str) (pins:List (Addr×Obj)) (s:Shared) (σ:St) (H:Hp) (Q:VK),Inv X pins σ H s→out.length+2000*es.length≤sizeLine→t σ H (fun H1=>∀z,Q (.str z) H1)→
  wpAny (model X.prog X.w) X.A (joinParts out (evalEach es X.env)) (EP X pins σ Q) X.xe s
structure QJ (X:Cx)(es:List Expr)(t:TJ):Prop where
 out:PJ X es t
section
variable {X:Cx}{a b e:Expr}{es:List Expr}{te:TE}{t:TJ}{pos:Pos}
end
end L2
namespace L2
open PySem PySem.Spec PyProof.Rows
open PySem.W (Looks)
structure ErrIn (K:Frag)(C:Addr):Prop where
 exc:PySem.W.excIn K C bmV "ValueError.__new__"=true
 ty:typeIn K (.ref C)=some (.type "type")
 cl:∃c,clsIn K C=some c
 ga:findIn K (.ref C) "__getattribute__"=some (some (.builtin "BaseException.__getattribute__"))
 ge:findIn K (.ref C) "__getattr__"=some none
 lk:findIn K (.ref C) "__class__"=some (some (.builtin "object.__class__"))
 so:subIn K (.ref C) (.type "object")=some true
 sb:subIn K (.ref C) (.type "BaseException")=some true
 se:subIn K (.ref C) (.ref C)=some true
section
variable {K:Frag}{C D e:Addr}{b:Bool}
structure ErrK (K:Frag)(C:Addr):Prop where
 ob:∃dd cd sl,K.lookup C=some ⟨.type "type",dd,.cls cd,sl⟩
 ty:typeIn K (.ref C)=some (.type "type")
 cl:∃c,clsIn K C=some c
 ga:findIn K (.ref C) "__getattribute__"=some (some (.builtin "BaseException.__getattribute__"))
 ge:findIn K (.ref C) "__getattr__"=some none
 lk:findIn K (.ref C) "__class__"=some (some (.builtin "object.__class__"))
 so:subIn K (.ref C) (.type "object")=some true
 sb:subIn K (.ref C) (.type "BaseException")=some true
 se:subIn K (.ref C) (.ref C)=some true
variable {X:Cx}
end
section
variable {σ:St}{H:Hp}{Q:VK}{D:Ends}{K:Frag}
variable {X:Cx}{a b c d:Expr}{ta tb tc td:TE}{pos:Pos}
end
section
variable {X:Cx}{e:Expr}{es:List Expr}{t:TA}{np cpos pos hpos:Pos}
end
end L2
namespace L2
open PySem PySem.Spec PyProof.Rows
structure Pl (n:Nat)(x:Str):Prop where
 len:x.length≤n
 asc:∀c∈x.cps.toList,c<128
section
variable {X:Cx}{e:Expr}{te:TE}{pos:Pos}
end
section
variable {κ:Type}[DecidableEq κ]
noncomputable def putK (kvs:List (κ×V))(k:κ)(v:V):List (κ×V):=
 if (kvs.any fun kv=>decide (kv.1=k))=true then kvs.map (fun kv=>if kv.1=k then (kv.1,v) else kv) else kvs++[(k,v)]
end
section
variable {P:Program}{w:World}{H:Hp}{h:Heap}{a:Addr}
end
def DPut (H:Hp)(a:Addr)(y v:V)(H':Hp):Prop:=
 (∃kvs k,H a=some (.dK kvs)∧y=kV k∧kvs.length<sizeLine∧H'=upd H a (.dK (putK kvs k v)))∨
 ∃kvs k b,H a=some (.dT kvs)∧y=.ref b∧H b=some (.tup (k.map kV))∧kvs.length<sizeLine∧H'=upd H a (.dT (putK kvs k v))
section
variable {X:Cx}{pins:List (Addr×Obj)}{σ:St}{H:Hp}{s:Shared}{a:Addr}{y v:V}{u r:Value}{o:Option V}{A:Around}{E:Value→Shared→Prop}
end
section
variable {X:Cx}{pins:List (Addr×Obj)}{σ:St}{H:Hp}{s:Shared}{a:Addr}{kvs:List (Key×V)}{k:Key}{u:Value}{A:Around}{E:Value→Shared→Prop}
end
def sDPut (td ty tv:TE):TS:=fun D σ H=>tv σ H fun v H1=>td σ H1 fun x H2=>ty σ H2 fun y H3=>∃a H4,x=.ref a∧DPut H3 a y v H4∧D.nx σ H4
section
variable {X:Cx}{o i e value:Expr}{pos pos' tpos:Pos}{td ty tv:TE}
end
noncomputable def Xqn:List (TE×TE)→St→Hp→(List (V×V)→Hp→Prop)→Prop
 | [],_,H,Q=>Q [] H
 | (tk,tv)::r,σ,H,Q=>tk σ H fun x H1=>tv σ H1 fun y H2=>Xqn r σ H2 fun ps H3=>Q ((x,y)::ps) H3
structure M1 (X:Cx)(o:Expr)(m:Str)(apos:Pos)(e:Expr)(cpos:Pos):Prop where
  base:attributeBase o m X.env (eval o X.env)=eval o X.env
  few:((backTo cpos (starEach [e] X.env)).all (fun x=>!x.1)&&(backToKw cpos (keywordEach [] X.env)).all (fun x=>x.1.isSome)
    && decide (([e]:List Expr).length+([]:List Keyword).length+(if ([]:List Keyword).isEmpty then 0 else 1)<30))=true
  line:(apos.endLine==cpos.line)=true
  trees:backTo cpos (starEach [e] X.env)=[(false,eval e X.env)]
structure M2 (X:Cx)(o:Expr)(m:Str)(apos:Pos)(e f:Expr)(cpos:Pos):Prop where
  base:attributeBase o m X.env (eval o X.env)=eval o X.env
  few:((backTo cpos (starEach [e,f] X.env)).all (fun x=>!x.1)&&(backToKw cpos (keywordEach [] X.env)).all (fun x=>x.1.isSome)
    && decide (([e,f]:List Expr).length+([]:List Keyword).length+(if ([]:List Keyword).isEmpty then 0 else 1)<30))=true
  line:(apos.endLine==cpos.line)=true
  trees:backTo cpos (starEach [e,f] X.env)=[(false,eval e X.env),(false,eval f X.env)]
section
variable {X:Cx}{pins:List (Addr×Obj)}{σ:St}{H:Hp}{s:Shared}{a:Addr}{y d:V}{u r:Value}{o:Option V}{A:Around}{E:Value→Shared→Prop}
end
section
variable {X:Cx}{o e f:Expr}{apos cpos:Pos}{td ty tx:TE}
variable {pins:List (Addr×Obj)}{σ:St}{H:Hp}{s:Shared}{a:Addr}{kvs:List (Key×V)}{A:Around}{E:Value→Shared→Prop}
end
section
variable {X:Cx}{pins:List (Addr×Obj)}{σ:St}{H:Hp}{s:Shared}{a:Addr}{y:V}{u:Value}{A:Around}{E:Value→Shared→Prop}
end
end L2
namespace Dl
open PySem
set_option genInjectivity true in
inductive D where
 | non
 | bl (b:Bool)
 | int (i:Int)
 | str (x:Str)
 | lst (xs:List D)
 | tup (xs:List D)
 | scr (ns:List Int)
 | rng (lo hi:Int)
 | exc (c:String) (f:Option Int)
 | obj (c:String) (ns:List Str) (xs:List D)
 | dct (ks:List (Int ⊕ Str)) (xs:List D)
 | dtt (ks:List (List (Int ⊕ Str))) (xs:List D)
 deriving Inhabited
set_option genInjectivity true in
inductive R (α:Type) where
 | ok (a:α)
 | err (c:String) (f:Option Int)
 | bad
noncomputable abbrev Env:=List (Option D)
set_option genInjectivity true in
inductive Fl where
 | nx (ρ:Env)
 | ret (d:D)
 | brk (ρ:Env)
 | cnt (ρ:Env)
noncomputable def R.bind {α β:Type}:R α→(α→R β)→R β
 | .ok a,f=>f a
 | .err c x,_=>.err c x
 | .bad,_=>.bad
@[simp] theorem Zbk {α β:Type}(a:α)(f:α→R β):(R.ok a).bind f=f a:=(rfl)
@[simp] theorem bind_err {α β:Type}(c:String)(x:Option Int)(f:α→R β):(R.err c x:R α).bind f=.err c x:=(rfl)
@[simp] theorem bind_bad {α β:Type}(f:α→R β):(R.bad:R α).bind f=.bad:=(rfl)
noncomputable abbrev FE:=Env→R D
noncomputable abbrev FT:=Env→R Bool
noncomputable abbrev FA:=Env→R (List D)
noncomputable abbrev FO:=Env→R (Option Int)
noncomputable abbrev FS:=Env→R Fl
noncomputable def fC (d:D):FE:=fun _=>.ok d
noncomputable def fV (i:Nat):FE:=fun ρ=>match ρ[i]? with
 | some (some d)=>.ok d
 | _=>.bad
noncomputable def oR {α:Type}:Option α→R α
 | some a=>.ok a
 | none=>.bad
@[simp] theorem oR_some {α:Type}(a:α):oR (some a)=.ok a:=(rfl)
@[simp] theorem oR_none {α:Type}:(oR (none:Option α))=.bad:=(rfl)
noncomputable def f1 (g:D→Option D)(a:FE):FE:=fun ρ=>(a ρ).bind fun x=>oR (g x)
noncomputable def f2 (g:D→D→Option D)(a b:FE):FE:=fun ρ=>(a ρ).bind fun x=>(b ρ).bind fun y=>oR (g x y)
noncomputable def Zy:FA:=fun _=>.ok []
noncomputable def Zd (a:FE)(r:FA):FA:=fun ρ=>(a ρ).bind fun x=>(r ρ).bind fun xs=>.ok (x::xs)
noncomputable def fA (g:List D→Option D)(a:FA):FE:=fun ρ=>(a ρ).bind fun xs=>oR (g xs)
noncomputable def Xo (F:List D→R D)(a:FA):FE:=fun ρ=>(a ρ).bind F
noncomputable abbrev lim:Nat:=1000000
noncomputable def Zal (xs:List D):Option D:=if xs.length≤lim then some (.lst xs) else none
noncomputable def Ziz (xs:List D):Option D:=if xs.length≤lim then some (.tup xs) else none
mutual
noncomputable def flat:D→Bool
 | .lst _=>false
 | .tup xs=>Yj xs
 | .non=>true
 | .bl _=>true
 | .int _=>true
 | .str _=>true
 | .scr _=>true
 | .rng _ _=>true
 | .exc _ _=>true
 | .obj _ _ _=>false
 | .dct _ _=>false
 | .dtt _ _=>false
noncomputable def Yj:List D→Bool
 | []=>true
 | x::xs=>flat x&&Yj xs
end
noncomputable def Yd (d:D):Option D:=if flat d then some d else none
noncomputable def Je:D→D→Option D
 | .int i,.int j=>some (.int (i+j))
 | .str x,.str y=>if x.length+y.length≤lim then some (.str (x++y)) else none
 | .lst xs,.lst ys=>if xs.length+ys.length≤lim∧Yj xs∧Yj ys then some (.lst (xs++ys)) else none
 | _,_=>none
noncomputable def Xad:D→D→Option D
 | .int i,.int j=>some (.int (i+j))
 | _,_=>none
noncomputable def Zbh:D→D→Option D
 | .int i,.int j=>some (.int (i - j))
 | _,_=>none
noncomputable def short (i:Int):Bool:=decide (-(2 ^ 64)<i)&&decide (i<2 ^ 64)
noncomputable def Zcx:D→D→Option D
 | .int i,.int j=>if short i||short j then some (.int (i*j)) else none
 | .lst xs,.int k=>if k≤1000000∧xs.length*k.toNat≤lim∧-1000000≤k∧Yj xs then some (.lst (List.replicate k.toNat xs).flatten) else none
 | _,_=>none
noncomputable def Zhf:D→D→Option D
 | .int i,.int j=>if 0<j then some (.int (i % j)) else none
 | _,_=>none
noncomputable def Xlz:D→D→Option D
 | .int i,.int j=>if 0<j∧j<2 ^ 200 then some (.int (i / j)) else none
 | _,_=>none
noncomputable def Zjw:D→D→Option D
 | .int i,.int j=>if 0≤j∧j≤1000000∧i.natAbs<2 ^ 64 then some (.int (i ^ j.toNat)) else none
 | _,_=>none
noncomputable def Zof:D→Option D
 | .int i=>some (.int (-i))
 | _=>none
noncomputable def gLt:D→D→Option D
 | .int i,.int j=>some (.bl (decide (i<j)))
 | _,_=>none
noncomputable def gLe:D→D→Option D
 | .int i,.int j=>some (.bl (decide (i≤j)))
 | _,_=>none
noncomputable def gGt:D→D→Option D
 | .int i,.int j=>some (.bl (decide (j<i)))
 | _,_=>none
noncomputable def gGe:D→D→Option D
 | .int i,.int j=>some (.bl (decide (j≤i)))
 | _,_=>none
mutual
noncomputable def dep:D→Nat
 | .lst xs=>Zop xs+1
 | .tup xs=>Zop xs+1
 | .scr _=>100
 | .rng _ _=>100
 | .exc _ _=>100
 | .obj _ _ _=>100
 | .dct _ _=>100
 | .dtt _ _=>100
 | .non=>0
 | .bl _=>0
 | .int _=>0
 | .str _=>0
noncomputable def Zop:List D→Nat
 | []=>0
 | x::xs=>max (dep x) (Zop xs)
end
mutual
noncomputable def eqv:D→D→Bool
 | .non,.non=>true
 | .bl a,.bl b=>a==b
 | .bl a,.int j=>(if a then 1 else 0)==j
 | .int i,.bl b=>i==(if b then 1 else 0)
 | .int i,.int j=>i==j
 | .str x,.str y=>x==y
 | .lst xs,.lst ys=>Xia xs ys
 | .tup xs,.tup ys=>Xia xs ys
 | _,_=>false
noncomputable def Xia:List D→List D→Bool
 | [],[]=>true
 | x::xs,y::ys=>eqv x y&&Xia xs ys
 | _,_=>false
end
noncomputable def gEq (a b:D):Option D:=if dep a≤20∧dep b≤20 then some (.bl (eqv a b)) else none
noncomputable def gNe (a b:D):Option D:=if dep a≤20∧dep b≤20 then some (.bl (!eqv a b)) else none
noncomputable def Zjh:D→Bool
 | .non=>true
 | _=>false
noncomputable def gIs (x:D):D→Option D
 | .non=>some (.bl (Zjh x))
 | .bl c=>match x with
  | .bl b=>some (.bl (b==c))
  | _=>none
 | _=>none
noncomputable def Xgj (x:D):D→Option D
 | .non=>some (.bl (!Zjh x))
 | .bl c=>match x with
  | .bl b=>some (.bl (!(b==c)))
  | _=>none
 | _=>none
noncomputable def ixD (n:Nat)(i:Int):Option Nat:=if 0≤i then (if i<n then some i.toNat else none) else if -(n:Int)≤i then some (i+n).toNat else none
noncomputable def atD {α:Type}(xs:List α)(i:Int):Option α:=(ixD xs.length i).bind fun j=>xs[j]?
noncomputable def Xgi (n d:Nat):Option Int→Nat
 | none=>d
 | some v=>if v<0 then (max (v+(n:Int)) 0).toNat else min v.toNat n
noncomputable def cut {α:Type}(xs:List α)(lo hi:Option Int):List α:=(xs.drop (Xgi xs.length 0 lo)).take (Xgi xs.length xs.length hi - Xgi xs.length 0 lo)
noncomputable def gIx:D→D→Option D
 | .lst xs,.int i=>(atD xs i)
 | .tup xs,.int i=>(atD xs i)
 | .scr ns,.int i=>((atD ns i).map D.int)
 | .str z,.int i=>if z.length≤lim then ((atD z.cps.toList i).map fun c=>D.str ⟨#[c]⟩) else none
 | _,_=>none
noncomputable def Xav (x y:D):Option D:=match x with
 | .lst _=>gIx x y
 | _=>none
noncomputable def Zlx:FO:=fun _=>.ok none
noncomputable def Zfx (a:FE):FO:=fun ρ=>(a ρ).bind fun d=>match d with
 | .int i=>.ok (some i)
 | _=>.bad
noncomputable def fSl (g:D→Option Int→Option Int→Option D)(a:FE)(l h:FO):FE:=fun ρ=>(a ρ).bind fun x=>(l ρ).bind fun lo=>(h ρ).bind fun hi=>oR (g x lo hi)
noncomputable def gSl:D→Option Int→Option Int→Option D
 | .lst xs,lo,hi=>if Yj xs then some (.lst (cut xs lo hi)) else none
 | .scr ns,lo,hi=>some (.lst ((cut ns lo hi).map D.int))
 | _,_,_=>none
noncomputable def Xqo:D→Option Int→Option Int→Option D
 | .lst xs,lo,hi=>some (.lst (cut xs lo hi))
 | _,_,_=>none
noncomputable def Xmk:D→D→Option D
 | .lst xs,.int i=>if i=-1∧Yj xs then some (.lst xs.reverse) else none
 | _,_=>none
noncomputable def plain (n:Nat)(z:Str):Bool:=decide (z.length≤n)&&z.cps.toList.all (fun c=>decide (c<128))
noncomputable def Zhq:D→Option D
 | .lst xs=>if Yj xs then some (.lst xs.reverse) else none
 | _=>none
noncomputable def intsOf:List D→Option (List Int)
 | []=>some []
 | .int i::r=>(intsOf r).map (i::·)
 | _::_=>none
noncomputable def bools:List D→Option (List Bool)
 | []=>some []
 | .bl i::r=>(bools r).map (i::·)
 | _::_=>none
noncomputable def Jy:List D→Option D
 | [.lst xs]=>some (.int xs.length)
 | [.tup xs]=>some (.int xs.length)
 | [.scr xs]=>some (.int xs.length)
 | [.str z]=>if z.length≤lim then some (.int z.length) else none
 | _=>none
noncomputable def Xna:List D→Option D
 | [.lst xs]=>(intsOf xs).bind fun ns=>some (.int ns.sum)
 | _=>none
noncomputable def Zgj:List Int→Int
 | []=>0
 | x::r=>r.foldl max x
noncomputable def Zmu:List D→Option D
 | [.int i,.int j]=>some (.int (if j > i then j else i))
 | [.lst xs]=>(intsOf xs).bind fun ns=>if ns=[] then none else some (.int (Zgj ns))
 | _=>none
noncomputable def Xhh:List D→Option D
 | [.int i,.int j]=>some (.int (if j<i then j else i))
 | _=>none
noncomputable def Zca (lo:Int)(n:Nat):List D:=(List.range n).map fun (k:Nat)=>D.int (lo+(k:Int))
noncomputable def Yv:List D→Option D
 | [.lst xs]=>if Yj xs then some (.lst xs) else none
 | [.tup xs]=>if Yj xs then some (.lst xs) else none
 | [.rng i j]=>if -1000000000≤i∧i≤1000000000∧-1000000000≤j∧j≤1000000000∧(j - i).toNat≤lim then some (.lst (Zca i (j - i).toNat)) else none
 | _=>none
noncomputable def Xpj:List D→Option D
 | [.lst xs]=>some (.lst xs)
 | _=>none
noncomputable def Znk:List D→Option D
 | [.int j]=>some (.rng 0 j)
 | [.int i,.int j]=>some (.rng i j)
 | _=>none
noncomputable def Xmd (c:String):D→Option D
 | .non=>some (.bl false)
 | .bl _=>some (.bl (c=="bool"||c=="int"))
 | .int _=>some (.bl (c=="int"))
 | .str _=>some (.bl (c=="str"))
 | .lst _=>some (.bl (c=="list"))
 | .tup _=>some (.bl (c=="tuple"))
 | _=>none
noncomputable def cE (a:FE):FT:=fun ρ=>(a ρ).bind fun d=>match d with
 | .bl b=>.ok b
 | _=>.bad
noncomputable def Xln (a:FT):FT:=fun ρ=>(a ρ).bind fun b=>.ok (!b)
noncomputable def Xmf (a b:FT):FT:=fun ρ=>(a ρ).bind fun x=>if x then b ρ else .ok false
noncomputable def cOr (a b:FT):FT:=fun ρ=>(a ρ).bind fun x=>if x then .ok true else b ρ
noncomputable def fAnd (a b:FE):FE:=fun ρ=>(a ρ).bind fun x=>match x with
 | .bl true=>b ρ
 | .bl false=>.ok (.bl false)
 | _=>.bad
noncomputable def fOr (a b:FE):FE:=fun ρ=>(a ρ).bind fun x=>match x with
 | .bl true=>.ok (.bl true)
 | .bl false=>b ρ
 | _=>.bad
noncomputable def gNot:D→Option D
 | .bl b=>some (.bl (!b))
 | _=>none
noncomputable def fIf (c:FT)(a b:FE):FE:=fun ρ=>(c ρ).bind fun x=>if x then a ρ else b ρ
noncomputable def Ziw (g g':D→D→Option D)(a b c:FE):FE:=fun ρ=>(a ρ).bind fun x=>(b ρ).bind fun y=>(oR (g x y)).bind fun z=>match z with
 | .bl true=>(c ρ).bind fun w=>oR (g' y w)
 | .bl false=>.ok (.bl false)
 | _=>.bad
noncomputable abbrev FB:=D→Env→R Env
noncomputable def Xi (i:Nat):FB:=fun d ρ=>.ok (ρ.set i (some d))
noncomputable def Ztq:List D→Env→R Env
 | [],ρ=>.ok ρ
 | _,_=>.bad
noncomputable def Zaj (b:FB)(r:List D→Env→R Env):List D→Env→R Env
 | d::ds,ρ=>(b d ρ).bind fun ρ'=>r ds ρ'
 | _,_=>.bad
noncomputable def Ztd (r:List D→Env→R Env):FB:=fun d ρ=>match d with
 | .tup ds=>r ds ρ
 | _=>.bad
noncomputable def R.calm {α:Type}:R α→R α
 | .ok a=>.ok a
 | .err _ _=>.bad
 | .bad=>.bad
@[simp] theorem Zuw {α:Type}(a:α):(R.ok a).calm=.ok a:=(rfl)
noncomputable def Zdb (k:Nat)(b:FB)(c:FT)(e:FE)(ρ:Env):List D→R (List D)
 | []=>.ok []
 | x::xs=>(b x (ρ++List.replicate k none)).calm.bind fun ρ1=>(c ρ1).bind fun t=>if t then (e ρ1).bind fun y=>(Zdb k b c e ρ xs).bind fun ys=>.ok (y::ys) else Zdb k b c e ρ xs
noncomputable def Znz:FT:=fun _=>.ok true
noncomputable abbrev FI:=Env→R (List D)
noncomputable def Zda (a:FE):FI:=fun ρ=>(a ρ).bind fun d=>match d with
 | .lst xs=>if xs.length≤lim then .ok xs else .bad
 | .scr ns=>if ns.length≤lim then .ok (ns.map D.int) else .bad
 | _=>.bad
noncomputable def jTup (a:FE):FI:=fun ρ=>(a ρ).bind fun d=>match d with
 | .tup xs=>if xs.length≤lim then .ok xs else .bad
 | _=>.bad
noncomputable def Zgf (a:FA):FI:=fun ρ=>(a ρ).bind fun ds=>match ds with
 | [.int j]=>if -1000000000≤j∧j≤1000000 then .ok (Zca 0 j.toNat) else .bad
 | _=>.bad
noncomputable def Zog (a:FA):FI:=fun ρ=>(a ρ).bind fun ds=>match ds with
 | [.int i,.int j]=>if -1000000000≤i∧i≤1000000000∧-1000000000≤j∧j≤1000000000∧(j - i).toNat≤lim then .ok (Zca i (j - i).toNat) else .bad
 | _=>.bad
noncomputable def sortI (ns:List Int):List Int:=ns.mergeSort fun a b=>decide (a≤b)
noncomputable def Zoe:List D→Option D
 | [.lst xs]=>(intsOf xs).bind fun ns=>if ns.length<64 then some (.lst ((sortI ns).map D.int)) else none
 | _=>none
noncomputable def Xcc (a:FE):FI:=fun ρ=>(a ρ).bind fun d=>match d with
 | .lst xs=>if xs.length≤lim then .ok xs.reverse else .bad
 | _=>.bad
noncomputable def Zcp (n k:Nat)(it:FI)(b:FB)(c:FT)(e:FE):FE:=fun ρ=>if ρ.length=n then (it ρ).bind fun xs=>(Zdb k b c e ρ xs).calm.bind fun ys=>.ok (.lst ys) else .bad
noncomputable def sNx:FS:=fun ρ=>.ok (.nx ρ)
noncomputable def Zih:FS:=fun _=>.bad
noncomputable def Xp (a b:FS):FS:=fun ρ=>(a ρ).bind fun fl=>match fl with
 | .nx ρ'=>b ρ'
 | fl=>.ok fl
noncomputable def Yg (i:Nat)(e:FE):FS:=fun ρ=>(e ρ).bind fun d=>.ok (.nx (ρ.set i (some d)))
noncomputable def Zaq (e:FE):FS:=fun ρ=>(e ρ).bind fun d=>.ok (.ret d)
noncomputable def sIf (c:FT)(a b:FS):FS:=fun ρ=>(c ρ).bind fun x=>if x then a ρ else b ρ
noncomputable def sBrk:FS:=fun ρ=>.ok (.brk ρ)
noncomputable def Zhg (i:Nat)(e:FE):FS:=fun ρ=>match ρ[i]? with
 | some (some (.lst xs))=>(e ρ).bind fun d=>if xs.length<lim then .ok (.nx (ρ.set i (some (.lst (xs++[d]))))) else .bad
 | _=>.bad
noncomputable def Zpl (i:Nat)(e:FE):FS:=fun ρ=>match ρ[i]? with
 | some (some (.lst xs))=>(e ρ).bind fun d=>match d with
  | .lst ys=>if xs.length+ys.length≤lim∧Yj ys=true then .ok (.nx (ρ.set i (some (.lst (xs++ys))))) else .bad
  | _=>.bad
 | _=>.bad
noncomputable def Xri (i:Nat)(k e:FE):FS:=fun ρ=>(e ρ).bind fun d=>match ρ[i]? with
 | some (some (.lst xs))=>(k ρ).bind fun z=>match z with
  | .int n=>if flat d=true∧Yj xs=true then match ixD xs.length n with
    | some j=>.ok (.nx (ρ.set i (some (.lst (xs.set j d)))))
    | none=>.bad
   else .bad
  | _=>.bad
 | _=>.bad
noncomputable def Zpu (i:Nat)(g:D→D→Option D)(e:FE):FS:=fun ρ=>match ρ[i]? with
 | some (some x)=>(e ρ).bind fun y=>(oR (g x y)).bind fun z=>.ok (.nx (ρ.set i (some z)))
 | _=>.bad
noncomputable def Xnz (i j:Nat)(g:D→D→Option D)(x:D)(ρ:Env):R Fl:=match x,ρ[j]? with
 | .int k,some (some (.lst ds))=>match ds.getLast? with
  | some (.int n)=>match g (.int k) (.int n) with
   | some (.int z)=>if Yj ds=true then .ok (.nx ((ρ.set j (some (.lst ds.dropLast))).set i (some (.int z)))) else .bad
   | _=>.bad
  | _=>.bad
 | _,_=>.bad
noncomputable def Xmv (i j:Nat)(g:D→D→Option D)(a:FE):FS:=fun ρ=>(a ρ).bind fun x=>Xnz i j g x ρ
noncomputable def sDrop (e:FE):FS:=fun ρ=>(e ρ).bind fun _=>.ok (.nx ρ)
noncomputable def updP (f:List D→Option (List D)):List Int→D→Option D
 | [],.lst xs=>(f xs).map D.lst
 | n::r,.lst xs=>(ixD xs.length n).bind fun j=>xs[j]?.bind fun d=>(updP f r d).map fun d'=>D.lst (xs.set j d')
 | n::r,.tup xs=>(ixD xs.length n).bind fun j=>xs[j]?.bind fun d=>(updP f r d).map fun d'=>D.tup (xs.set j d')
 | _,_=>none
noncomputable def addL (d:D)(xs:List D):Option (List D):=if xs.length<lim then some (xs++[d]) else none
noncomputable def Xof (i j:Nat)(c:FT)(r:D)(e:FE)(ρ:Env):List D→List D→R Fl
 | dn,[]=>.ok (.nx ((ρ.set i (some (.lst dn))).set j none))
 | dn,x::rest=>(c ((ρ.set i (some (.lst (dn++x::rest)))).set j (some x))).bind fun b=>if b then .ok (.ret r) else
   (e ((ρ.set i (some (.lst (dn++x::rest)))).set j (some x))).calm.bind fun v=>match updP (addL v) [] x with
    | some x'=>Xof i j c r e ρ (dn++[x']) rest
    | none=>.bad
noncomputable def Xmb (e:FE)(b:FB):FS:=fun ρ=>(e ρ).bind fun d=>(b d ρ).calm.bind fun ρ'=>.ok (.nx ρ')
noncomputable def Zdz (b:FB)(s:FS):List D→Env→R Fl
 | [],ρ=>.ok (.nx ρ)
 | x::xs,ρ=>(b x ρ).calm.bind fun ρ1=>(s ρ1).bind fun fl=>match fl with
  | .nx ρ2=>Zdz b s xs ρ2
  | .cnt ρ2=>Zdz b s xs ρ2
  | .brk ρ2=>.ok (.nx ρ2)
  | .ret d=>.ok (.ret d)
noncomputable def Zjj (it:FI)(b:FB)(s:FS):FS:=fun ρ=>(it ρ).bind fun xs=>Zdz b s xs ρ
noncomputable def Jx (c:FT)(s:FS):Nat→Env→R Fl
 | 0,_=>.bad
 | n+1,ρ=>(c ρ).bind fun b=>if b then (s ρ).bind fun fl=>match fl with
  | .nx ρ2=>Jx c s n ρ2
  | .cnt ρ2=>Jx c s n ρ2
  | .brk ρ2=>.ok (.nx ρ2)
  | .ret d=>.ok (.ret d)
  else .ok (.nx ρ)
noncomputable def Zek (n:Nat)(c:FT)(s:FS):FS:=fun ρ=>Jx c s n ρ
noncomputable def Xnm (c:String)(words:FA):FS:=fun ρ=>(words ρ).bind fun _=>.err c none
noncomputable def strsOf:List D→Option (List Str)
 | []=>some []
 | .str i::r=>(strsOf r).map (i::·)
 | _::_=>none
noncomputable def Xmr:D→D→Option D
 | .str s,.lst ds=>(strsOf ds).bind fun ts=>if (ts.map (·.length)).sum+ts.length*s.length≤lim then some (.str (Str.join s ts)) else none
 | _,_=>none
noncomputable def Zvl:D→D→Option D
 | .lst ds,.int n=>(intsOf ds).bind fun ns=>if n∈ns then some (D.int (ns.idxOf n:Nat)) else none
 | _,_=>none
noncomputable def Zss (a b:FE):FE:=fun ρ=>(a ρ).bind fun x=>match x with
 | .lst ds=>(b ρ).bind fun y=>oR (Zvl (.lst ds) y)
 | _=>.bad
noncomputable def fJoin (a b:FE):FE:=fun ρ=>(a ρ).bind fun x=>match x with
 | .str s=>(b ρ).bind fun y=>oR (Xmr (.str s) y)
 | _=>.bad
noncomputable def pickM (N:Nat)(c:String)(x:Option Int):List (List (String×Bool)×Option Nat×FS)→R Fl
  | []=>.bad
  | z::r=>match z.1.lookup c with
    | some true=>(match z.2.1 with
      | some i=>(z.2.2 ((List.replicate N none).set i (some (.exc c x)))).calm.bind fun fl=>match fl with
        | .nx _=>.ok (.nx (List.replicate N none))
        | .brk _=>.ok (.brk (List.replicate N none))
        | .cnt _=>.ok (.cnt (List.replicate N none))
        | .ret d=>.ok (.ret d)
      | none=>(z.2.2 (List.replicate N none)).calm)
    | some false=>pickM N c x r
    | none=>.bad
noncomputable def fIx (f:Str):List Str→Option Nat
 | []=>none
 | g::r=>if g=f then some 0 else (fIx f r).map (·+1)
noncomputable def putO (c:String)(f:Str)(d:D):D→Option D
 | .obj c' ns xs=>if c'=c∧ns.length<100 then match fIx f ns with
   | some j=>some (.obj c' ns (xs.set j d))
   | none=>some (.obj c' (ns++[f]) (xs++[d]))
  else none
 | _=>none
noncomputable def sFld (i:Nat)(c:String)(f:Str)(e:FE):FS:=fun ρ=>(e ρ).bind fun d=>match ρ[i]? with
 | some (some o)=>(oR (putO c f d o)).bind fun o'=>.ok (.nx (ρ.set i (some o')))
 | _=>.bad
noncomputable abbrev FM:=Env→R (D×Env)
noncomputable abbrev FMT:=Env→R (Bool×Env)
noncomputable def run (N:Nat)(b:FS)(ds:List D):R D:=(b (ds.map some++List.replicate (N - ds.length) none)).bind fun fl=>match fl with
 | .nx _=>.ok .non
 | .ret d=>.ok d
 | _=>.bad
noncomputable def keyD:D→Option (Int ⊕ Str)
 | .int i=>some (.inl i)
 | .str x=>some (.inr x)
 | _=>none
noncomputable def dHas (ks:List (Int ⊕ Str))(k:Int ⊕ Str):Bool:=ks.any fun j=>decide (j=k)
noncomputable def dPut (ks:List (Int ⊕ Str))(xs:List D)(k:Int ⊕ Str)(d:D):D:=if dHas ks k then .dct ks (List.zipWith (fun j x=>if j=k then d else x) ks xs) else .dct (ks++[k]) (xs++[d])
noncomputable def sDPut (i:Nat)(k e:FE):FS:=fun ρ=>(e ρ).bind fun d=>match ρ[i]? with
 | some (some (.dct ks xs))=>(k ρ).bind fun z=>match keyD z with
  | some q=>if flat d=true∧Yj xs=true∧ks.length<lim then .ok (.nx (ρ.set i (some (dPut ks xs q d)))) else .bad
  | none=>.bad
 | _=>.bad
noncomputable def catO:Str→List D→Option D
 | out,[]=>some (.str out)
 | out,.str y::r=>if y.length≤2000 then catO (out++y) r else none
 | _,_=>none
noncomputable def Xgm (c:Nat):List Nat→List (List Nat)
 | []=>[[]]
 | x::r=>if x=c then []::Xgm c r else match Xgm c r with
  | []=>[[x]]
  | w::ws=>(x::w)::ws
noncomputable def unR (p:List Nat):Option (List Nat):=if p.getLast?=some 32 then some p.dropLast else none
noncomputable def unL:List Nat→Option (List Nat)
 | []=>none
 | x::r=>if x=32 then some r else none
noncomputable def unP:List Nat→List (List Nat)→Option (List (List Nat))
 | p,[]=>some [p]
 | p,q::r=>(unR p).bind fun w=>(unL q).bind fun q'=>(unP q' r).bind fun ws=>some (w::ws)
noncomputable def keysD:List D→Option (List (Int ⊕ Str))
 | []=>some []
 | d::r=>(keyD d).bind fun k=>(keysD r).bind fun ks=>some (k::ks)
noncomputable def tAt:List (List (Int ⊕ Str))→List D→List (Int ⊕ Str)→Option D
 | j::ks,x::xs,k=>if j=k then some x else tAt ks xs k
 | _,_,_=>none
noncomputable abbrev Pc:=Int×Str
noncomputable def sLt (x y:Str):Bool:=decide (x.cps.toList<y.cps.toList)
noncomputable def pcLt (p q:Pc):Bool:=if p.1=q.1 then (if p.2=q.2 then false else sLt p.2 q.2) else decide (p.1<q.1)
noncomputable def Xmu:List Pc→List Pc→Bool
 | [],[]=>false
 | [],_::_=>true
 | _::_,[]=>false
 | p::c,q::d=>if p=q then Xmu c d else pcLt p q
noncomputable def insC (c:List Pc):List (List Pc)→List (List Pc)
 | []=>[c]
 | d::r=>if Xmu c d=true then c::d::r else d::insC c r
noncomputable def sortC:List (List Pc)→List (List Pc)
 | []=>[]
 | c::r=>insC c (sortC r)
noncomputable def pcOf:D→Option Pc
 | .tup [.int i,.str z]=>some (i,z)
 | _=>none
noncomputable def Xor:List D→Option (List Pc)
 | []=>some []
 | d::r=>(pcOf d).bind fun p=>(Xor r).bind fun ps=>some (p::ps)
noncomputable def ctOf:D→Option (List Pc)
 | .lst ds=>Xor ds
 | _=>none
noncomputable def ctsOf:List D→Option (List (List Pc))
 | []=>some []
 | d::r=>(ctOf d).bind fun c=>(ctsOf r).bind fun cs=>some (c::cs)
noncomputable def Zgz:List Nat→FA
 | []=>Zy
 | j::r=>Zd (fV j) (Zgz r)
noncomputable def Zcz (fb:FE)(fr:Env):List D→R (List Int)
 | []=>.ok []
 | x::r=>(fb (some x::fr)).calm.bind fun k=>match k with
  | .int k=>(Zcz fb fr r).bind fun ks=>.ok (k::ks)
  | _=>.bad
noncomputable def goP:List Int→D→Option D
 | [],d=>some d
 | n::r,.lst xs=>(ixD xs.length n).bind fun j=>xs[j]?.bind (goP r)
 | n::r,.tup xs=>(ixD xs.length n).bind fun j=>xs[j]?.bind (goP r)
 | _,_=>none
noncomputable def Xie (i j:Nat)(path:List Int)(e:FE)(ρ:Env):Nat→Nat→D→R Fl
 | _,0,d=>.ok (.nx ((ρ.set i (some d)).set j none))
 | k,m+1,d=>match goP path d with
  | some (.lst _)=>(e ((ρ.set i (some d)).set j none)).calm.bind fun v=>match updP (addL v) (path++[(k:Int)]) d with
   | some d'=>Xie i j path e ρ (k+1) m d'
   | none=>.bad
  | _=>.bad
noncomputable def dAt:List (Int ⊕ Str)→List D→Int ⊕ Str→Option D
 | j::ks,x::xs,k=>if j=k then some x else dAt ks xs k
 | _,_,_=>none
noncomputable def intsK:List (Int ⊕ Str)→Option (List Int)
 | []=>some []
 | .inl i::r=>(intsK r).map (i::·)
 | .inr _::_=>none
noncomputable def dFilt (g:D→D→Option D)(ks:List (Int ⊕ Str))(xs:List D)(z:D):List Int→R (List D)
 | []=>.ok []
 | j::js=>(oR (dAt ks xs (.inl j))).bind fun x=>(oR (g x z)).bind fun t=>match t with
  | .bl b=>(dFilt g ks xs z js).bind fun r=>.ok (if b then .int j::r else r)
  | _=>.bad
noncomputable abbrev Pr:=Int×(Int ⊕ Str)
noncomputable def kLt:Int ⊕ Str→Int ⊕ Str→Bool
 | .inl a,.inl b=>decide (a<b)
 | .inr a,.inr b=>sLt a b
 | _,_=>false
noncomputable def Zeq (p q:Pr):Bool:=if p.1=q.1 then kLt p.2 q.2 else decide (p.1<q.1)
noncomputable def Xfh (c:Pr):List Pr→List Pr
 | []=>[c]
 | d::r=>if Zeq c d=true then c::d::r else d::Xfh c r
noncomputable def Zlm:List Pr→List Pr
 | []=>[]
 | c::r=>Xfh c (Zlm r)
noncomputable def kdD:Int ⊕ Str→D
 | .inl i=>.int i
 | .inr x=>.str x
noncomputable def prD (p:Pr):D:=.tup [.int p.1,kdD p.2]
noncomputable def Zwc:D→Option Pr
 | .tup [.int i,.int j]=>some (i,.inl j)
 | .tup [.int i,.str z]=>some (i,.inr z)
 | _=>none
noncomputable def Zpx:List D→Option (List Pr)
 | []=>some []
 | d::r=>(Zwc d).bind fun c=>(Zpx r).bind fun cs=>some (c::cs)
noncomputable def forT (i j:Nat)(fc:FT)(b:Bool)(ρ:Env):List (List (Int ⊕ Str))→R Fl
 | []=>.ok (.nx (ρ.set j none))
 | k::r=>(fc ((ρ.set i none).set j (some (.tup (k.map kdD))))).calm.bind fun t=>if t=true then .ok (.ret (.bl b)) else forT i j fc b ρ r
noncomputable def Xjs (ks:List Int)(k:Int):List Int:=if k∈ks then ks else ks++[k]
noncomputable def Zwb (ks:List Int):List Int→List Int
 | []=>ks
 | n::ns=>Zwb (Xjs ks n) ns
noncomputable def Xqf (lo:Int)(n:Nat):List Int:=(List.range n).map fun k:Nat=>lo+(k:Int)
noncomputable def Znc (l:List (Int×Int)):List (Int×Int):=l.mergeSort fun p q=>decide (q.1<p.1)||(decide (q.1=p.1)&&decide (p.2≤q.2))
noncomputable def Zki (fe:FE)(js:List Nat)(fb:FE):FE:=fun ρ=>(fe ρ).bind fun d=>match d with
 | .rng lo hi=>if -(2 ^ 62)≤lo∧hi<2 ^ 62∧lo≤hi∧hi - lo≤63 then (Zgz js ρ).calm.bind fun fs=>(Zcz fb (fs.map some) (Zca lo (hi - lo).toNat)).bind fun ks=>.ok (.lst ((Znc (ks.zip (Xqf lo (hi - lo).toNat))).map fun p=>D.int p.2)) else .bad
 | _=>.bad
noncomputable def Zmz:List D→Option D
 | [.lst ds]=>(Zpx ds).bind fun cs=>if cs.length≤63∧cs.Pairwise (fun x y=>y.1<x.1)∧((cs.all fun p=>p.2.isLeft)=true∨(cs.all fun p=>p.2.isRight)=true) then some (.lst ((Zlm cs).map prD)) else none
 | _=>none
end Dl
namespace L2
open PySem PySem.Spec PyProof.Rows
open Dl (D R FE FT FA FO FS FI FB Fl)
def FzL (K:Frag)(H:Hp)(a:Addr)(xs:List V):Prop:=
 (∃o,H a=some (.frz o (.lst xs)))∨∃(o:Obj) (its:Array Value) (n:Nat),K.lookup a=some o∧o.cls=.type "list"∧o.dict=none∧o.data=.seq its n∧its.size≤sizeLine∧Yw xs its.toList
theorem FzL.sq {K:Frag}{H:Hp}{a:Addr}{xs:List V}(h:FzL K H a xs):SqL K H a xs:=by
 rcases h with ⟨o,h⟩ | h
 ·exact .inl (.inr ⟨o,h⟩)
 ·exact .inr h
noncomputable def fnm (c:String):Str:=if c="TooMany" then "most" else "at"
def FOk (H:Hp)(c:String)(f:Option Int)(dx:Option Addr):Prop:=match f with
 | none=>True
 | some i=>∃d,dx=some d∧H d=some (.xd [(fnm c,.int i)])
section
variable (K:Frag)(C:String→Addr)
mutual
noncomputable def Rp (H:Hp):D→V→List Addr→Prop
 | .non,v,A=>v=.non∧A=[]
 | .bl b,v,A=>v=.bl b∧A=[]
 | .int i,v,A=>v=.int i∧A=[]
 | .str x,v,A=>v=.str x∧PyData.strOk x=true∧A=[]
 | .lst ds,v,A=>∃a xs B,v=.ref a∧H a=some (.lst xs)∧RpA H ds xs B∧A=a::B
 | .tup ds,v,A=>∃a xs,v=.ref a∧H a=some (.tup xs)∧RpA H ds xs A
 | .scr ns,v,A=>∃a,v=.ref a∧FzL K H a (ns.map V.int)∧A=[]
 | .rng lo hi,v,A=>∃a,v=.ref a∧H a=some (.rng lo hi)∧A=[]
 | .exc c f,v,A=>∃e dx,v=.ref e∧H e=some (exO e (.ref (C c)) dx)∧FOk H c f dx∧A=[]
 | .obj c ns ds,v,A=>∃a dx xs B,v=.ref a∧H a=some (.ins (C c) dx (ns.zip xs))∧ns.length=ds.length∧RpA H ds xs B∧A=a::B
 | .dct ks ds,v,A=>∃a xs B,v=.ref a∧H a=some (.dK (ks.zip xs))∧ks.length=ds.length∧RpA H ds xs B∧A=a::B
 | .dtt ks ds,v,A=>∃a xs B,v=.ref a∧H a=some (.dT (ks.zip xs))∧ks.length=ds.length∧RpA H ds xs B∧A=a::B
noncomputable def RpA (H:Hp):List D→List V→List Addr→Prop
 | [],xs,A=>xs=[]∧A=[]
 | d::ds,xs,A=>∃x r B B',xs=x::r∧Rp H d x B∧RpA H ds r B'∧A=B++B'
end
end
section
variable {K:Frag}{C:String→Addr}{H H' H1 H2:Hp}
inductive IsM:HO→Prop where
 | lst {xs:List V}:IsM (.lst xs)
 | ins {C dx:Addr} {fs:List (Str×V)}:IsM (.ins C dx fs)
 | dct {kvs:List (Key×V)}:IsM (.dK kvs)
 | dtt {kvs:List (List Key×V)}:IsM (.dT kvs)
def Ext (W:Addr→Prop)(H H':Hp):Prop:=∀b o,H b=some o→H' b=some o∨(W b∧IsM o)
theorem Ext.same (h:Xx H H'):Ext (fun _=>False) H H':=fun b o q=>.inl (h b o q)
mutual
theorem Rp.ext {W:Addr→Prop}(h:Ext W H H'):∀{d:D} {v:V} {A:List Addr},(∀a∈A,¬W a)→Rp K C H d v A→Rp K C H' d v A
 | .non,_,_,_,r=>r
 | .bl _,_,_,_,r=>r
 | .int _,_,_,_,r=>r
 | .str _,_,_,_,r=>r
 | .lst ds,v,A,hw,r=>by
  obtain ⟨a,xs,B,e1,e2,e3,e4⟩:=r
  subst e4
  refine ⟨a,xs,B,e1,?_,RpA.ext h (fun b hb=>hw b (.tail _ hb)) e3,rfl⟩
  rcases h a _ e2 with q | ⟨q,_⟩
  ·exact q
  ·exact absurd q (hw a (.head _))
 | .tup ds,v,A,hw,r=>by
  obtain ⟨a,xs,e1,e2,e3⟩:=r
  refine ⟨a,xs,e1,?_,RpA.ext h hw e3⟩
  rcases h a _ e2 with q | ⟨_,q⟩
  ·exact q
  ·cases q
 | .scr ns,v,A,_,r=>by
  obtain ⟨a,e1,e2,e3⟩:=r
  refine ⟨a,e1,?_,e3⟩
  rcases e2 with ⟨o,e2⟩ | e2
  ·rcases h a _ e2 with q | ⟨_,q⟩
   ·exact .inl ⟨o,q⟩
   ·cases q
  ·exact .inr e2
 | .rng lo hi,v,A,_,r=>by
  obtain ⟨a,e1,e2,e3⟩:=r
  refine ⟨a,e1,?_,e3⟩
  rcases h a _ e2 with q | ⟨_,q⟩
  ·exact q
  ·cases q
 | .exc c f,v,A,_,r=>by
  obtain ⟨a,dx,e1,e2,e3,e4⟩:=r
  refine ⟨a,dx,e1,?_,?_,e4⟩
  ·rcases h a _ e2 with q | ⟨_,q⟩
   ·exact q
   ·cases q
  ·cases f with
   | none=>trivial
   | some i =>
    obtain ⟨d,z1,z2⟩:=e3
    refine ⟨d,z1,?_⟩
    rcases h d _ z2 with q | ⟨_,q⟩
    ·exact q
    ·cases q
 | .obj c ns ds,v,A,hw,r=>by
  obtain ⟨a,dx,xs,B,e1,e2,e0,e3,e4⟩:=r
  subst e4
  refine ⟨a,dx,xs,B,e1,?_,e0,RpA.ext h (fun b hb=>hw b (.tail _ hb)) e3,rfl⟩
  rcases h a _ e2 with q | ⟨q,_⟩
  ·exact q
  ·exact absurd q (hw a (.head _))
 | .dct ks ds,v,A,hw,r=>by
  obtain ⟨a,xs,B,e1,e2,e0,e3,e4⟩:=r
  subst e4
  refine ⟨a,xs,B,e1,?_,e0,RpA.ext h (fun b hb=>hw b (.tail _ hb)) e3,rfl⟩
  rcases h a _ e2 with q | ⟨q,_⟩
  ·exact q
  ·exact absurd q (hw a (.head _))
 | .dtt ks ds,v,A,hw,r=>by
  obtain ⟨a,xs,B,e1,e2,e0,e3,e4⟩:=r
  subst e4
  refine ⟨a,xs,B,e1,?_,e0,RpA.ext h (fun b hb=>hw b (.tail _ hb)) e3,rfl⟩
  rcases h a _ e2 with q | ⟨q,_⟩
  ·exact q
  ·exact absurd q (hw a (.head _))
theorem RpA.ext {W:Addr→Prop}(h:Ext W H H'):∀{ds:List D} {vs:List V} {A:List Addr},(∀a∈A,¬W a)→RpA K C H ds vs A→RpA K C H' ds vs A
 | [],_,_,_,r=>r
 | d::ds,vs,A,hw,r=>by
  obtain ⟨x,l,B,B',e1,e2,e3,e4⟩:=r
  subst e4
  exact ⟨x,l,B,B',e1,Rp.ext h (fun a ha=>hw a (mem_append_left _ ha)) e2,RpA.ext h (fun a ha=>hw a (mem_append_right _ ha)) e3,rfl⟩
end
theorem Rp.same (h:Xx H H'){d:D}{v:V}{A:List Addr}(r:Rp K C H d v A):Rp K C H' d v A:=r.ext (Ext.same h) (fun _ _ q=>q)
theorem RpA.same (h:Xx H H'){d:List D}{v:List V}{A:List Addr}(r:RpA K C H d v A):RpA K C H' d v A:=r.ext (Ext.same h) (fun _ _ q=>q)
def Agree (W:List Addr)(H Hb:Hp):Prop:=(∀a∈W,Hb a=H a)∧∀b o,H b=some o→¬IsM o→Hb b=some o
theorem Agree.ext {W:List Addr}(h:Agree W H H'):Ext (fun a=>a∉W) H H':=fun b o q=>by
 by_cases hb:b∈W
 ·exact .inl ((h.1 b hb).trans q)
 ·by_cases ho:IsM o
  ·exact .inr ⟨hb,ho⟩
  ·exact .inl (h.2 b o q ho)
theorem RpA.agree {W:List Addr}(h:Agree W H H'){ds:List D}{vs:List V}{A:List Addr}(hA:∀a∈A,a∈W)(r:RpA K C H ds vs A):RpA K C H' ds vs A:=r.ext h.ext fun a ha z=>z (hA a ha)
mutual
theorem Rp.isl:∀{d:D} {v:V} {A:List Addr},Rp K C H d v A→∀a∈A,∃o,H a=some o∧IsM o
 | .non,_,_,r,a,ha=>by rw [r.2] at ha;cases ha
 | .bl _,_,_,r,a,ha=>by rw [r.2] at ha;cases ha
 | .int _,_,_,r,a,ha=>by rw [r.2] at ha;cases ha
 | .str _,_,_,r,a,ha=>by rw [r.2.2] at ha;cases ha
 | .lst ds,_,_,r,a,ha=>by
  obtain ⟨b,xs,B,e1,e2,e3,e4⟩:=r
  rw [e4] at ha
  rcases List.mem_cons.mp ha with z | z
  ·rw [z];exact ⟨_,e2,.lst⟩
  ·exact RpA.isl e3 a z
 | .tup ds,_,_,r,a,ha=>by
  obtain ⟨b,xs,e1,e2,e3⟩:=r
  exact RpA.isl e3 a ha
 | .scr _,_,_,r,a,ha=>by obtain ⟨_,_,_,e⟩:=r;rw [e] at ha;cases ha
 | .rng _ _,_,_,r,a,ha=>by obtain ⟨_,_,_,e⟩:=r;rw [e] at ha;cases ha
 | .exc _ _,_,_,r,a,ha=>by obtain ⟨_,_,_,_,_,e⟩:=r;rw [e] at ha;cases ha
 | .obj c ns ds,_,_,r,a,ha=>by
  obtain ⟨b,dx,xs,B,e1,e2,e0,e3,e4⟩:=r
  rw [e4] at ha
  rcases List.mem_cons.mp ha with z | z
  ·rw [z];exact ⟨_,e2,.ins⟩
  ·exact RpA.isl e3 a z
 | .dct ks ds,_,_,r,a,ha=>by
  obtain ⟨b,xs,B,e1,e2,e0,e3,e4⟩:=r
  rw [e4] at ha
  rcases List.mem_cons.mp ha with z | z
  ·rw [z];exact ⟨_,e2,.dct⟩
  ·exact RpA.isl e3 a z
 | .dtt ks ds,_,_,r,a,ha=>by
  obtain ⟨b,xs,B,e1,e2,e0,e3,e4⟩:=r
  rw [e4] at ha
  rcases List.mem_cons.mp ha with z | z
  ·rw [z];exact ⟨_,e2,.dtt⟩
  ·exact RpA.isl e3 a z
theorem RpA.isl:∀{ds:List D} {vs:List V} {A:List Addr},RpA K C H ds vs A→∀a∈A,∃o,H a=some o∧IsM o
 | [],_,_,r,a,ha=>by rw [r.2] at ha;cases ha
 | d::ds,_,_,r,a,ha=>by
  obtain ⟨x,l,B,B',e1,e2,e3,e4⟩:=r
  rw [e4] at ha
  rcases List.mem_append.mp ha with z | z
  ·exact Rp.isl e2 a z
  ·exact RpA.isl e3 a z
end
mutual
theorem Rp.flat:∀{d:D} {v:V} {A:List Addr},Dl.flat d=true→Rp K C H d v A→A=[]
 | .non,_,_,_,r=>r.2
 | .bl _,_,_,_,r=>r.2
 | .int _,_,_,_,r=>r.2
 | .str _,_,_,_,r=>r.2.2
 | .lst _,_,_,h,_=>by simp [Dl.flat] at h
 | .tup ds,_,_,h,r=>by
  obtain ⟨b,xs,e1,e2,e3⟩:=r
  exact RpA.flat (by simpa [Dl.flat] using h) e3
 | .scr _,_,_,_,r=>by obtain ⟨_,_,_,e⟩:=r;exact e
 | .rng _ _,_,_,_,r=>by obtain ⟨_,_,_,e⟩:=r;exact e
 | .exc _ _,_,_,_,r=>by obtain ⟨_,_,_,_,_,e⟩:=r;exact e
 | .obj _ _ _,_,_,h,_=>by simp [Dl.flat] at h
 | .dct _ _,_,_,h,_=>by simp [Dl.flat] at h
 | .dtt _ _,_,_,h,_=>by simp [Dl.flat] at h
theorem RpA.flat:∀{ds:List D} {vs:List V} {A:List Addr},Dl.Yj ds=true→RpA K C H ds vs A→A=[]
 | [],_,_,_,r=>r.2
 | d::ds,_,_,h,r=>by
  obtain ⟨x,l,B,B',e1,e2,e3,e4⟩:=r
  simp only [Dl.Yj,Bool.and_eq_true] at h
  rw [e4,Rp.flat h.1 e2,RpA.flat h.2 e3]
  rfl
end
theorem RpA.len:∀{ds:List D} {vs:List V} {A:List Addr},RpA K C H ds vs A→vs.length=ds.length
 | [],_,_,r=>by rw [r.1];rfl
 | d::ds,_,_,r=>by
  obtain ⟨x,l,B,B',e1,e2,e3,e4⟩:=r
  rw [e1,length_cons,length_cons,RpA.len e3]
theorem RpA.get:∀{ds:List D} {vs:List V} {A:List Addr} {i:Nat} {d:D},RpA K C H ds vs A→ds[i]?=some d→∃v B,vs[i]?=some v∧Rp K C H d v B∧∀a∈B,a∈A
 | [],_,_,_,_,_,h=>by simp at h
 | d::ds,_,_,0,_,r,h=>by
  obtain ⟨x,l,B,B',e1,e2,e3,e4⟩:=r
  simp only [List.getElem?_cons_zero,Option.some.injEq] at h
  subst h e1 e4
  exact ⟨x,B,rfl,e2,fun a ha=>mem_append_left _ ha⟩
 | d::ds,_,_,i+1,_,r,h=>by
  obtain ⟨x,l,B,B',e1,e2,e3,e4⟩:=r
  simp only [List.getElem?_cons_succ] at h
  obtain ⟨v,B2,q1,q2,q3⟩:=RpA.get e3 h
  subst e1 e4
  exact ⟨v,B2,by simpa using q1,q2,fun a ha=>mem_append_right _ (q3 a ha)⟩
theorem RpA.get':∀{ds:List D} {vs:List V} {A:List Addr} {i:Nat} {v:V},RpA K C H ds vs A→vs[i]?=some v→∃d B,ds[i]?=some d∧Rp K C H d v B∧∀a∈B,a∈A:=fun {ds vs A i v} r h=>by
 have hl:=r.len
 have hi:i<ds.length:=by
  have:=(List.getElem?_eq_some_iff.mp h).1
  omega
 obtain ⟨v',B,q1,q2,q3⟩:=r.get (getElem?_eq_getElem hi)
 rw [h] at q1
 cases q1
 exact ⟨_,B,getElem?_eq_getElem hi,q2,q3⟩
theorem RpA.app:∀{ds es:List D} {vs ws:List V} {A B:List Addr},RpA K C H ds vs A→RpA K C H es ws B→RpA K C H (ds++es) (vs++ws) (A++B)
 | [],_,_,_,_,_,r,q=>by
  obtain ⟨e1,e2⟩:=r
  subst e1 e2
  exact q
 | d::ds,_,_,_,_,_,r,q=>by
  obtain ⟨x,l,B,B',e1,e2,e3,e4⟩:=r
  subst e1 e4
  exact ⟨x,_,B,_,rfl,e2,RpA.app e3 q,append_assoc ..⟩
theorem RpA.one {d:D}{v:V}{A:List Addr}(r:Rp K C H d v A):RpA K C H [d] [v] A:=⟨v,[],A,[],rfl,r,⟨rfl,rfl⟩,(append_nil _).symm⟩
theorem RpA.flatRev {ds:List D}{vs:List V}{A:List Addr}:Dl.Yj ds=true→RpA K C H ds vs A→RpA K C H ds.reverse vs.reverse []:=by
 intro h r
 induction ds generalizing vs A with
 | nil=>rw [r.1];exact ⟨rfl,rfl⟩
 | cons d ds ih =>
  obtain ⟨x,l,B,B',e1,e2,e3,e4⟩:=r
  simp only [Dl.Yj,Bool.and_eq_true] at h
  have z:=Rp.flat h.1 e2
  subst e1 z
  rw [reverse_cons,reverse_cons]
  exact (ih h.2 e3).app (RpA.one e2)
theorem RpA.flatDrop {ds:List D}{vs:List V}{A:List Addr}:Dl.Yj ds=true→RpA K C H ds vs A→∀n,RpA K C H (ds.drop n) (vs.drop n) []:=by
 intro h r n
 induction ds generalizing vs A n with
 | nil=>rw [r.1];simp;exact ⟨rfl,rfl⟩
 | cons d ds ih =>
  have r0:=r
  obtain ⟨x,l,B,B',e1,e2,e3,e4⟩:=r
  cases n with
  | zero =>
   have z:=RpA.flat h r0
   subst z
   exact r0
  | succ n =>
   simp only [Dl.Yj,Bool.and_eq_true] at h
   subst e1
   exact ih h.2 e3 n
theorem RpA.flatTake {ds:List D}{vs:List V}{A:List Addr}:Dl.Yj ds=true→RpA K C H ds vs A→∀n,RpA K C H (ds.take n) (vs.take n) []:=by
 intro h r n
 induction ds generalizing vs A n with
 | nil=>rw [r.1];simp;exact ⟨rfl,rfl⟩
 | cons d ds ih =>
  obtain ⟨x,l,B,B',e1,e2,e3,e4⟩:=r
  simp only [Dl.Yj,Bool.and_eq_true] at h
  have z:=Rp.flat h.1 e2
  subst e1 z
  cases n with
  | zero=>exact ⟨rfl,rfl⟩
  | succ n=>exact ⟨x,_,[],_,rfl,e2,ih h.2 e3 n,rfl⟩
theorem Ztu {ds:List D}(h:Dl.Yj ds=true):∀n,Dl.Yj (ds.drop n)=true:=by
 intro n
 induction ds generalizing n with
 | nil=>simp;rfl
 | cons d ds ih =>
  cases n with
  | zero=>exact h
  | succ n =>
   simp only [Dl.Yj,Bool.and_eq_true] at h
   exact ih h.2 n
theorem RpA.ints {ns:List Int}:RpA K C H (ns.map D.int) (ns.map V.int) []:=by
 induction ns with
 | nil=>exact ⟨rfl,rfl⟩
 | cons n ns ih=>exact ⟨_,_,[],[],rfl,⟨rfl,rfl⟩,ih,rfl⟩
theorem RpA.ofInts:∀{ds:List D} {vs:List V} {A:List Addr} {ns:List Int},RpA K C H ds vs A→Dl.intsOf ds=some ns→vs=ns.map V.int
 | [],_,_,ns,r,h=>by
  simp only [Dl.intsOf,Option.some.injEq] at h
  rw [r.1,← h]
  rfl
 | d::ds,_,_,ns,r,h=>by
  obtain ⟨x,l,B,B',e1,e2,e3,e4⟩:=r
  cases d<;>simp only [Dl.intsOf] at h<;>try cases h
  obtain ⟨ms,h1,h2⟩:=Option.map_eq_some_iff.mp h
  rw [e1,e2.1,RpA.ofInts e3 h1,← h2]
  rfl
mutual
noncomputable def toPy:D→PyData
 | .non=>.none
 | .bl b=>.bool b
 | .int i=>.int i
 | .str x=>.str x
 | .lst ds=>.list (Zgw ds)
 | .tup ds=>.tuple (Zgw ds)
 | .scr _=>.none
 | .rng _ _=>.none
 | .exc _ _=>.none
 | .obj _ _ _=>.none
 | .dct _ _=>.none
 | .dtt _ _=>.none
noncomputable def Zgw:List D→List PyData
 | []=>[]
 | d::ds=>toPy d::Zgw ds
end
mutual
theorem Rp.dn:∀{d:D} {v:V} {A:List Addr} {n:Nat},Dl.dep d≤n→n<100→Rp K C H d v A→Dn K H v (toPy d)∧(toPy d).canLay0=true∧(toPy d).depth=Dl.dep d
 | .non,_,_,_,_,_,r=>by rw [r.1];exact ⟨.non,rfl,rfl⟩
 | .bl _,_,_,_,_,_,r=>by rw [r.1];exact ⟨.bl _,rfl,rfl⟩
 | .int _,_,_,_,_,_,r=>by rw [r.1];exact ⟨.int _,rfl,rfl⟩
 | .str _,_,_,_,_,_,r=>by rw [r.1];exact ⟨.str _,by simpa [toPy,PyData.canLay0] using r.2.1,by simp [toPy,PyData.depth,Dl.dep]⟩
 | .lst ds,_,_,n,h,hn,r=>by
  obtain ⟨a,xs,B,e1,e2,e3,e4⟩:=r
  simp only [Dl.dep] at h
  obtain ⟨q1,q2,q3⟩:=RpA.dn (n:=n) (by omega) hn e3
  rw [e1]
  exact ⟨.lst (SqL.of e2) q1,by simpa [toPy,PyData.canLay0] using q2,by simp [toPy,PyData.depth,Dl.dep,q3]⟩
 | .tup ds,_,_,n,h,hn,r=>by
  obtain ⟨a,xs,e1,e2,e3⟩:=r
  simp only [Dl.dep] at h
  obtain ⟨q1,q2,q3⟩:=RpA.dn (n:=n) (by omega) hn e3
  rw [e1]
  exact ⟨.tup (SqT.of e2) q1,by simpa [toPy,PyData.canLay0] using q2,by simp [toPy,PyData.depth,Dl.dep,q3]⟩
 | .scr _,_,_,n,h,hn,_=>by simp only [Dl.dep] at h;omega
 | .rng _ _,_,_,n,h,hn,_=>by simp only [Dl.dep] at h;omega
 | .exc _ _,_,_,n,h,hn,_=>by simp only [Dl.dep] at h;omega
 | .obj _ _ _,_,_,n,h,hn,_=>by simp only [Dl.dep] at h;omega
 | .dct _ _,_,_,n,h,hn,_=>by simp only [Dl.dep] at h;omega
 | .dtt _ _,_,_,n,h,hn,_=>by simp only [Dl.dep] at h;omega
theorem RpA.dn:∀{ds:List D} {vs:List V} {A:List Addr} {n:Nat},Dl.Zop ds≤n→n<100→RpA K C H ds vs A→DnA K H vs (Zgw ds)∧PyData.canLayAll0 (Zgw ds)=true∧PyData.depthAll (Zgw ds)=Dl.Zop ds
 | [],_,_,_,_,_,r=>by rw [r.1];exact ⟨.nil,rfl,rfl⟩
 | d::ds,_,_,n,h,hn,r=>by
  obtain ⟨x,l,B,B',e1,e2,e3,e4⟩:=r
  simp only [Dl.Zop] at h
  obtain ⟨q1,q2,q3⟩:=Rp.dn (n:=n) (by omega) hn e2
  obtain ⟨p1,p2,p3⟩:=RpA.dn (n:=n) (by omega) hn e3
  rw [e1]
  exact ⟨.cons q1 p1,by simp [Zgw,PyData.canLayAll0,q2,p2],by simp [Zgw,PyData.depthAll,Dl.Zop,q3,p3]⟩
end
mutual
theorem Zvi:∀{d e:D},Dl.dep d<100→Dl.dep e<100→PyData.eqv (toPy d) (toPy e)=Dl.eqv d e
 | .non,e,_,h=>by cases e<;>first | rfl | exact absurd h (lt_irrefl 100)
 | .bl _,e,_,h=>by cases e<;>first | rfl | exact absurd h (lt_irrefl 100)
 | .int _,e,_,h=>by cases e<;>first | rfl | exact absurd h (lt_irrefl 100)
 | .str _,e,_,h=>by cases e<;>first | rfl | exact absurd h (lt_irrefl 100)
 | .lst ds,e,h1,h=>by
  cases e with
  | lst es=>exact Zol (Nat.lt_of_succ_lt h1) (Nat.lt_of_succ_lt h)
  | _=>rfl
 | .tup ds,e,h1,h=>by
  cases e with
  | tup es=>exact Zol (Nat.lt_of_succ_lt h1) (Nat.lt_of_succ_lt h)
  | _=>rfl
 | .scr _,_,h,_=>absurd h (lt_irrefl 100)
 | .rng _ _,_,h,_=>absurd h (lt_irrefl 100)
 | .exc _ _,_,h,_=>absurd h (lt_irrefl 100)
 | .obj _ _ _,_,h,_=>absurd h (lt_irrefl 100)
 | .dct _ _,_,h,_=>absurd h (lt_irrefl 100)
 | .dtt _ _,_,h,_=>absurd h (lt_irrefl 100)
theorem Zol:∀{d e:List D},Dl.Zop d<100→Dl.Zop e<100→PyData.eqvAll (Zgw d) (Zgw e)=Dl.Xia d e
 | [],[],_,_=>rfl
 | [],_::_,_,_=>rfl
 | _::_,[],_,_=>rfl
 | d::ds,e::es,h1,h=>by
  have a1:Dl.dep d<100∧Dl.Zop ds<100:=Nat.max_lt.mp h1
  have a2:Dl.dep e<100∧Dl.Zop es<100:=Nat.max_lt.mp h
  show (PyData.eqv (toPy d) (toPy e)&&PyData.eqvAll (Zgw ds) (Zgw es))=(Dl.eqv d e&&Dl.Xia ds es)
  rw [Zvi a1.1 a2.1,Zol a1.2 a2.2]
end
end
noncomputable abbrev Yx:=Dl.Env
section
variable (K:Frag)(C:String→Addr)
structure Xc (H0 Hb H:Hp)(Γ Δ:List Nat)(σ:St)(ρ:Yx)(A:Nat→List Addr):Prop where
 s0:Xx H0 Hb
 same:Xx Hb H
 len:σ.length=ρ.length
 rep:∀i d,ρ[i]?=some (some d)→∃v,σ[i]?=some (some v)∧Rp K C H d v (A i)
 nil:∀i,(∀d,ρ[i]?≠some (some d))→A i=[]
 loc:∀i∈Γ,∀a∈A i,H0 a=none
 top:∀i∈Γ,∀a r,A i=a::r→Hb a=none∧a∉r∧∀j,j≠i→a∉A j
 deep:∀i∈Δ,(A i).Nodup∧(∀j,j≠i→∀a∈A i,a∉A j)∧∀a∈A i,Hb a=none
def InS (A:Nat→List Addr)(S:List (Nat×Bool))(a:Addr):Prop:=∃p∈S,if p.2=true then a∈(A p.1).tail else a∈A p.1
def Res (m:Nat)(S:List (Nat×Bool))(H:Hp)(A:Nat→List Addr)(d:D)(v:V)(H':Hp):Prop:=
 ∃B,Rp K C H' d v B∧(∀a∈B,H a=none∨InS A S a)∧(m=1→∀a r,B=a::r→H a=none∧a∉r)∧(m=2→B.Nodup)
def ResA (m:Nat)(S:List (Nat×Bool))(H:Hp)(A:Nat→List Addr)(ds:List D)(vs:List V)(H':Hp):Prop:=
 ∃B,RpA K C H' ds vs B∧(∀a∈B,H a=none∨InS A S a)∧(m=2→B.Nodup)
def EC (E:XK)(c:String)(x:Option Int)(H:Hp):Prop:=∀dx,FOk H c x dx→E (.ref (C c)) dx H
def Xt {α:Type}(r:R α)(ok:α→Prop)(er:String→Option Int→Prop):Prop:=match r with
 | .ok a=>ok a
 | .err c x=>er c x
 | .bad=>False
def EOk (E:XK)(Γ Δ:List Nat)(m:Nat)(S:List (Nat×Bool))(t:TE)(f:FE):Prop:=∀(H0 Hb H:Hp) (σ:St) (ρ:Yx) (A:Nat→List Addr) (Q:VK),Xc K C H0 Hb H Γ Δ σ ρ A→
 Xt (f ρ) (fun d=>∀v H',Xx H H'→Res K C m S H A d v H'→Q v H') (fun c x=>∀H',Xx H H'→EC C E c x H')→t σ H Q
def AOk (E:XK)(Γ Δ:List Nat)(m:Nat)(S:List (Nat×Bool))(t:TA)(f:FA):Prop:=∀(H0 Hb H:Hp) (σ:St) (ρ:Yx) (A:Nat→List Addr) (Q:List V→Hp→Prop),Xc K C H0 Hb H Γ Δ σ ρ A→
 Xt (f ρ) (fun d=>∀v H',Xx H H'→ResA K C m S H A d v H'→Q v H') (fun c x=>∀H',Xx H H'→EC C E c x H')→t σ H Q
def TOk (E:XK)(Γ Δ:List Nat)(t:TT)(f:FT):Prop:=∀(H0 Hb H:Hp) (σ:St) (ρ:Yx) (A:Nat→List Addr) (Q:Bool→Hp→Prop),Xc K C H0 Hb H Γ Δ σ ρ A→
 Xt (f ρ) (fun b=>∀H',Xx H H'→Q b H') (fun c x=>∀H',Xx H H'→EC C E c x H')→t σ H Q
def OOk (E:XK)(Γ Δ:List Nat)(t:TO)(f:FO):Prop:=∀(H0 Hb H:Hp) (σ:St) (ρ:Yx) (A:Nat→List Addr) (Q:Option Int→Hp→Prop),Xc K C H0 Hb H Γ Δ σ ρ A→
 Xt (f ρ) (fun b=>∀H',Xx H H'→Q b H') (fun c x=>∀H',Xx H H'→EC C E c x H')→t σ H Q
def Znl (E:XK)(mr:Nat)(Γl Δl Γ' Δ':List Nat)(H0 Hb:Hp)(D:Ends)(r:R Fl):Prop:=Xt r (fun fl=>match fl with
    | .nx ρ'=>∀σ' H' A',Xc K C H0 Hb H' Γ' Δ' σ' ρ' A'→D.nx σ' H'
    | .ret d=>∀v H',Xx H0 H'→Res K C mr [] H0 (fun _=>[]) d v H'→D.rt v H'
    | .brk ρ'=>∀σ' H' A',Xc K C H0 Hb H' Γl Δl σ' ρ' A'→D.bk σ' H'
    | .cnt ρ'=>∀σ' H' A',Xc K C H0 Hb H' Γl Δl σ' ρ' A'→D.ct σ' H')
  (fun c x=>∀H',Xx H0 H'→EC C E c x H')
def SOk (E:XK)(mr:Nat)(Γl Δl Γ Δ Γ' Δ':List Nat)(t:TS)(f:FS):Prop:=∀(H0 Hb H:Hp) (σ:St) (ρ:Yx) (A:Nat→List Addr) (D:Ends),Xc K C H0 Hb H Γ Δ σ ρ A→
 Znl K C E mr Γl Δl Γ' Δ' H0 Hb D (f ρ)→t D σ H
end
section
variable {K:Frag}{C:String→Addr}{E:XK}{Γ Δ Γ' Δ' Γ1 Δ1 Γl Δl:List Nat}{m m1 m2 mr:Nat}{S S1 S2:List (Nat×Bool)}
theorem Xc.mono {H0 Hb H H':Hp}{σ:St}{ρ:Yx}{A:Nat→List Addr}(h:Xc K C H0 Hb H Γ Δ σ ρ A)(g:Xx H H'):Xc K C H0 Hb H' Γ Δ σ ρ A:=
 ⟨h.s0,h.same.trans g,h.len,fun i d e=>let ⟨v,q1,q2⟩:=h.rep i d e;⟨v,q1,q2.same g⟩,h.nil,h.loc,h.top,h.deep⟩
theorem Xc.weak {H0 Hb H:Hp}{σ:St}{ρ:Yx}{A:Nat→List Addr}(h:Xc K C H0 Hb H Γ Δ σ ρ A)(h1:∀i∈Γ',i∈Γ)(h2:∀i∈Δ',i∈Δ):Xc K C H0 Hb H Γ' Δ' σ ρ A:=
 ⟨h.s0,h.same,h.len,h.rep,h.nil,fun i hi=>h.loc i (h1 i hi),fun i hi=>h.top i (h1 i hi),fun i hi=>h.deep i (h2 i hi)⟩
theorem Xc.is {H0 Hb H:Hp}{σ:St}{ρ:Yx}{A:Nat→List Addr}(h:Xc K C H0 Hb H Γ Δ σ ρ A){j:Nat}{a:Addr}(ha:a∈A j):∃o,H a=some o∧IsM o:=by
 by_cases q:∃d,ρ[j]?=some (some d)
 ·obtain ⟨d,q⟩:=q
  obtain ⟨v,_,r⟩:=h.rep j d q
  exact r.isl a ha
 ·rw [h.nil j fun d e=>q ⟨d,e⟩] at ha
  cases ha
theorem Xc.ne {H0 Hb H:Hp}{σ:St}{ρ:Yx}{A:Nat→List Addr}(h:Xc K C H0 Hb H Γ Δ σ ρ A){j:Nat}{a:Addr}(ha:a∈A j)(hn:H a=none):False:=by
 obtain ⟨xs,q,_⟩:=h.is ha
 rw [q] at hn
 cases hn
theorem InS.mem {A:Nat→List Addr}{a:Addr}(h:InS A S a):∃p∈S,a∈A p.1:=by
 obtain ⟨p,hp,q⟩:=h
 refine ⟨p,hp,?_⟩
 split at q
 ·exact List.mem_of_mem_tail q
 ·exact q
theorem InS.mono {A:Nat→List Addr}{a:Addr}(h:InS A S1 a)(hs:∀p∈S1,p∈S2):InS A S2 a:=let ⟨p,hp,q⟩:=h;⟨p,hs p hp,q⟩
theorem Xt.imp {α:Type}{r:R α}{ok ok':α→Prop}{er er':String→Option Int→Prop}(h:Xt r ok er)(h1:∀a,ok a→ok' a)(h2:∀c x,er c x→er' c x):Xt r ok' er':=by
 cases r with
 | ok a=>exact h1 a h
 | err c x=>exact h2 c x h
 | bad=>exact h
theorem Xt.bind {α β:Type}{r:R α}{g:α→R β}{ok:β→Prop}{er:String→Option Int→Prop}(h:Xt (r.bind g) ok er):Xt r (fun a=>Xt (g a) ok er) er:=by
 cases r with
 | ok a=>exact h
 | err c x=>exact h
 | bad=>exact h
theorem Res.flat {H H':Hp}{A:Nat→List Addr}{d:D}{v:V}(r:Rp K C H' d v []):Res K C m S H A d v H':=⟨[],r,fun _ h=>(nomatch h),fun _ _ _ e=>(nomatch e),fun _=>nodup_nil⟩
theorem Xcp {d:D}{v:V}(h:∀H,Rp K C H d v []):EOk K C E Γ Δ 2 [] (tC v) (Dl.fC d):=fun _ _ H _ _ _ _ _ p=>p v H (Xx.refl _) (Res.flat (h H))
theorem Xjq {i:Nat}{ρ:Yx}{ok:D→Prop}{er:String→Option Int→Prop}(h:Xt (Dl.fV i ρ) ok er):∃d,ρ[i]?=some (some d)∧ok d:=by
 unfold Dl.fV at h
 split at h
 ·rename_i d e
  exact ⟨d,e,h⟩
 ·exact h.elim
theorem eok_v {i:Nat}:EOk K C E Γ Δ 0 [(i,false)] (Zoc i) (Dl.fV i):=fun H0 Hb H σ ρ A Q I p=>by
 obtain ⟨d,e,p⟩:=Xjq p
 obtain ⟨v,e1,r⟩:=I.rep i d e
 exact ⟨v,e1,p v H (Xx.refl _) ⟨A i,r,fun a ha=>.inr ⟨(i,false),.head _,ha⟩,(fun z=>nomatch z),(fun z=>nomatch z)⟩⟩
theorem Xon {i:Nat}(hi:i∈Δ):EOk K C E Γ Δ 2 [(i,false)] (Zoc i) (Dl.fV i):=fun H0 Hb H σ ρ A Q I p=>by
 obtain ⟨d,e,p⟩:=Xjq p
 obtain ⟨v,e1,r⟩:=I.rep i d e
 exact ⟨v,e1,p v H (Xx.refl _) ⟨A i,r,fun a ha=>.inr ⟨(i,false),.head _,ha⟩,(fun z=>nomatch z),fun _=>(I.deep i hi).1⟩⟩
theorem Xba {t:TE}{f:FE}(h:EOk K C E Γ Δ m S t f):EOk K C E Γ Δ 2 [] t (Dl.f1 Dl.Yd f):=fun H0 Hb H σ ρ A Q I p =>
  h H0 Hb H σ ρ A Q I (p.bind.imp (fun d q v H' g r=>by
    unfold Dl.Yd at q
    split at q
    · rename_i hf
      obtain ⟨B,r1,_⟩:=r
      have e:=r1.flat hf
      subst e
      exact q v H' g (Res.flat r1)
    · exact q.elim) fun _ _ q=>q)
theorem Res.later {H0 H1 H2 H3:Hp}{A:Nat→List Addr}{d:D}{v:V}(g1:Xx H0 H1)(g2:Xx H2 H3)(r:Res K C m S H1 A d v H2):Res K C m S H0 A d v H3:=by
 obtain ⟨B,r1,r2,r3,r4⟩:=r
 exact ⟨B,r1.same g2,fun a ha=>(r2 a ha).imp (fun h=>g1.free h) id,fun hm a l e=>⟨g1.free (r3 hm a l e).1,(r3 hm a l e).2⟩,r4⟩
theorem Res.new {H H':Hp}{A:Nat→List Addr}{d:D}{v:V}{B:List Addr}(r:Rp K C H' d v B)(h1:B.Nodup)(h2:∀a∈B,H a=none):Res K C m S H A d v H':=
 ⟨B,r,fun a ha=>.inl (h2 a ha),fun _ a l e=>by subst e;exact ⟨h2 a (.head _),(List.nodup_cons.mp h1).1⟩,fun _=>h1⟩
theorem Zdl {α:Type}{o:Option α}{ok:α→Prop}{er:String→Option Int→Prop}(h:Xt (Dl.oR o) ok er):∃a,o=some a∧ok a:=by
 cases o with
 | none=>exact h.elim
 | some a=>exact ⟨a,rfl,h⟩
def GOk (K:Frag)(C:String→Addr)(r:R2)(g:D→D→Option D):Prop:=
 ∀(H:Hp) (x y d:D) (vx vy:V) (Bx By:List Addr) (Q:VK),Rp K C H x vx Bx→Rp K C H y vy By→g x y=some d→(∀v H' B,Xx H H'→Rp K C H' d v B→B.Nodup→(∀a∈B,H a=none)→Q v H')→r vx vy H Q
def GAk (K:Frag)(C:String→Addr)(r:List V→Hp→VK→Prop)(g:List D→Option D):Prop:=
 ∀(H:Hp) (xs:List D) (d:D) (vs:List V) (Bx:List Addr) (Q:VK),RpA K C H xs vs Bx→g xs=some d→(∀v H' B,Xx H H'→Rp K C H' d v B→B.Nodup→(∀a∈B,H a=none)→Q v H')→r vs H Q
theorem Zzj {r:R2}{g:D→D→Option D}{ta tb:TE}{fa fb:FE}(hg:GOk K C r g)(ha:EOk K C E Γ Δ m1 S1 ta fa)(hb:EOk K C E Γ Δ m2 S2 tb fb):EOk K C E Γ Δ 2 [] (tOp r ta tb) (Dl.f2 g fa fb):=
  fun H0 Hb H σ ρ A Q I p=>ha H0 Hb H σ ρ A _ I (p.bind.imp (fun x q vx H1 g1 r1=>hb H0 Hb H1 σ ρ A _ (I.mono g1) (q.bind.imp (fun y q vy H2 g2 r2=>by
    obtain ⟨d,e,q⟩:=Zdl q
    obtain ⟨Bx,r1,_⟩:=r1
    obtain ⟨By,r2,_⟩:=r2
    exact hg H2 x y d vx vy Bx By Q (r1.same g2) r2 e fun v H' B g3 r3 h1 h2=>q v H' (g1.trans (g2.trans g3)) (Res.new r3 h1 fun a ha=>(g1.trans g2).free (h2 a ha))) fun c x q H' g'=>q H' (g1.trans g'))) fun c x q H' g'=>q H' g')
theorem Xmy {r:V→Hp→VK→Prop}{g:D→Option D}{ta:TE}{fa:FE}(hg:∀(H:Hp) (x d:D) (vx:V) (Bx:List Addr) (Q:VK),Rp K C H x vx Bx→g x=some d→(∀v H' B,Xx H H'→Rp K C H' d v B→B.Nodup→(∀a∈B,H a=none)→Q v H')→r vx H Q)
    (ha:EOk K C E Γ Δ m1 S1 ta fa):EOk K C E Γ Δ 2 [] (tUn r ta) (Dl.f1 g fa):=
  fun H0 Hb H σ ρ A Q I p=>ha H0 Hb H σ ρ A _ I (p.bind.imp (fun x q vx H1 g1 r1=>by
    obtain ⟨d,e,q⟩:=Zdl q
    obtain ⟨Bx,r1,_⟩:=r1
    exact hg H1 x d vx Bx Q r1 e fun v H' B g3 r3 h1 h2=>q v H' (g1.trans g3) (Res.new r3 h1 fun a ha=>g1.free (h2 a ha))) fun c x q H' g'=>q H' g')
theorem Jo {α:Type}{d:α}{P:Prop}(e:(none:Option α)=some d):P:=nomatch e
theorem Zxo {F:List D→Option D}(hn:F []=none)(hc:∀x y r,F (x::y::r)=none):∀{ds:List D} {d:D},F ds=some d→∃x,ds=[x]
 | [],_,e=>Jo (hn.symm.trans e)
 | [x],_,_=>⟨x,rfl⟩
 | x::y::r,_,e=>Jo ((hc x y r).symm.trans e)
theorem Xhi {ds:List D}{y d:D}(e:Dl.gIx (.lst ds) y=some d):∃i,y=.int i∧atI ds i=some d:=by
 cases y with
 | int i=>exact ⟨i,rfl,e⟩
 | _=>exact Jo e
theorem Xkx {ds:List D}{y d:D}(e:Dl.gIx (.tup ds) y=some d):∃i,y=.int i∧atI ds i=some d:=by
 cases y with
 | int i=>exact ⟨i,rfl,e⟩
 | _=>exact Jo e
theorem Xib {ns:List Int}{y d:D}(e:Dl.gIx (.scr ns) y=some d):∃i,y=.int i∧(atI ns i).map D.int=some d:=by
 cases y with
 | int i=>exact ⟨i,rfl,e⟩
 | _=>exact Jo e
theorem Xhg {z:Str}{y d:D}(e:Dl.gIx (.str z) y=some d):∃i,y=.int i∧z.length≤Dl.lim∧(atI z.cps.toList i).map (fun c=>D.str ⟨#[c]⟩)=some d:=by
 cases y with
 | int i =>
  have e':(if z.length≤Dl.lim then ((Dl.atD z.cps.toList i).map fun c=>D.str ⟨#[c]⟩) else none)=some d:=e
  by_cases h:z.length≤Dl.lim
  ·rw [if_pos h] at e'
   exact ⟨i,rfl,h,e'⟩
  ·rw [if_neg h] at e'
   exact Jo e'
 | _=>exact Jo e
theorem Xpm {x y d:D}(e:Dl.gIx x y=some d):∃i,y=.int i∧((∃ds,x=.lst ds∧atI ds i=some d)∨(∃ds,x=.tup ds∧atI ds i=some d)∨(∃ns,x=.scr ns∧(atI ns i).map D.int=some d)∨∃z,x=.str z∧z.length≤Dl.lim∧(atI z.cps.toList i).map (fun c=>D.str ⟨#[c]⟩)=some d):=by
 cases x with
 | lst ds=>exact (Xhi e).imp fun _ h=>⟨h.1,.inl ⟨ds,rfl,h.2⟩⟩
 | tup ds=>exact (Xkx e).imp fun _ h=>⟨h.1,.inr (.inl ⟨ds,rfl,h.2⟩)⟩
 | scr ns=>exact (Xib e).imp fun _ h=>⟨h.1,.inr (.inr (.inl ⟨ns,rfl,h.2⟩))⟩
 | str z=>exact (Xhg e).imp fun _ h=>⟨h.1,.inr (.inr (.inr ⟨z,rfl,h.2⟩))⟩
 | _=>exact Jo e
theorem Zyb {α β:Type}{ds:List α}{xs:List β}{i:Int}{d:α}{v:β}{j:Nat}(hl:xs.length=ds.length)(e:atI ds i=some d)(h1:seqIndex? i ds.length=some j)(hv:xs[j]?=some v):atI xs i=some v:=by
 unfold atI at e ⊢
 rw [hl]
 cases hx:ixN ds.length i with
 | none=>rw [hx] at e;cases e
 | some k =>
  obtain ⟨z1,_⟩:=Zon hx
  rw [h1] at z1
  cases z1
  exact hv
theorem Xes {H:Hp}{x y d:D}{vx vy:V}{Bx By:List Addr}{Q:VK}(rx:Rp K C H x vx Bx)(ry:Rp K C H y vy By)(e:Dl.gIx x y=some d)(q:∀v B,Rp K C H d v B→(∀a∈B,a∈Bx)→((∃ds,x=.lst ds)→∀a∈B,a∈Bx.tail)→Q v H):rIx K vx vy H Q:=by
 obtain ⟨i,rfl,h⟩:=Xpm e
 cases ry.1
 rcases h with ⟨ds,rfl,e'⟩ | ⟨ds,rfl,e'⟩ | ⟨ns,rfl,e'⟩ | ⟨z,rfl,hz,e'⟩
 ·obtain ⟨a,xs,B,rfl,e2,e3,rfl⟩:=rx
  obtain ⟨j,h1,h2,_⟩:=Zeo e'
  obtain ⟨v,B',q1,q2,q3⟩:=e3.get h2
  exact Xrl (SqL.of e2) (v:=v) (Zyb e3.len e' h1 q1) (q v B' q2 (fun a ha=>.tail _ (q3 a ha)) fun _ a ha=>q3 a ha)
 ·obtain ⟨a,xs,rfl,e2,e3⟩:=rx
  obtain ⟨j,h1,h2,_⟩:=Zeo e'
  obtain ⟨v,B',q1,q2,q3⟩:=e3.get h2
  exact Xpq (SqT.of e2) (v:=v) (Zyb e3.len e' h1 q1) (q v B' q2 q3 fun z=>by obtain ⟨_,z⟩:=z;cases z)
 ·obtain ⟨a,rfl,e2,rfl⟩:=rx
  obtain ⟨n,h1,rfl⟩:=Option.map_eq_some_iff.mp e'
  obtain ⟨j,h2,h3,_⟩:=Zeo h1
  exact .inl ⟨a,ns.map V.int,i,.int n,rfl,rfl,e2.sq,Zyb (length_map _) h1 h2 (by rw [getElem?_map,h3];rfl),q (.int n) [] ⟨rfl,rfl⟩ (fun _ h=>(nomatch h)) fun _ _ h=>(nomatch h)⟩
 ·obtain ⟨rfl,e2,rfl⟩:=rx
  obtain ⟨c,h1,rfl⟩:=Option.map_eq_some_iff.mp e'
  refine .inr (.inr ⟨z,i,c,rfl,rfl,le_trans hz (by decide),h1,q _ [] ⟨rfl,?_,rfl⟩ (fun _ h=>(nomatch h)) fun _ _ h=>(nomatch h)⟩)
  obtain ⟨j,_,h3,_⟩:=Zeo h1
  have hm:c∈z.cps:=Array.mem_toList_iff.mp (mem_of_getElem? h3)
  have ho:z.cps.all (·<0x110000)=true:=e2
  have:=(Array.all_eq_true_iff_forall_mem.mp ho) c hm
  unfold PyData.strOk
  simpa using this
theorem Xrn {ta tb:TE}{fa fb:FE}(ha:EOk K C E Γ Δ m1 S1 ta fa)(hb:EOk K C E Γ Δ m2 S2 tb fb):EOk K C E Γ Δ 0 S1 (tOp (rIx K) ta tb) (Dl.f2 Dl.gIx fa fb):=
  fun H0 Hb H σ ρ A Q I p=>ha H0 Hb H σ ρ A _ I (p.bind.imp (fun x q vx H1 g1 r1=>hb H0 Hb H1 σ ρ A _ (I.mono g1) (q.bind.imp (fun y q vy H2 g2 r2=>by
    obtain ⟨d,e,q⟩:=Zdl q
    obtain ⟨Bx,r1,r1',_⟩:=r1
    obtain ⟨By,r2,_⟩:=r2
    exact Xes (r1.same g2) r2 e fun v B r3 h _=>q v H2 (g1.trans g2) ⟨B,r3,fun a ha=>r1' a (h a ha),(fun z=>nomatch z),(fun z=>nomatch z)⟩) fun c x q H' g'=>q H' (g1.trans g'))) fun c x q H' g'=>q H' g')
noncomputable def Xav (x y:D):Option D:=match x with
 | .lst _=>Dl.gIx x y
 | _=>none
end
section
variable {K:Frag}{C:String→Addr}{E:XK}{Γ Δ:List Nat}{m m1 m2 m3 mr:Nat}{S S1 S2 S3:List (Nat×Bool)}{H:Hp}{Q:VK}
theorem sameNew {H:Hp}{p:Addr}(h:H p=none)(o:HO):Xx H (upd H p o):=fun b u q=>by rw [Xw (Xn q h)];exact q
noncomputable abbrev Out (K:Frag)(C:String→Addr)(H:Hp)(d:D)(Q:VK):Prop:=∀v H' B,Xx H H'→Rp K C H' d v B→B.Nodup→(∀a∈B,H a=none)→Q v H'
theorem Out.flat {d:D}{v:V}(q:Out K C H d Q)(r:Rp K C H d v []):Q v H:=q v H [] (Xx.refl _) r nodup_nil (fun _ h=>nomatch h)
theorem Out.lst {ds:List D}{vs:List V}{p:Addr}(q:Out K C H (.lst ds) Q)(r:RpA K C H ds vs [])(hp:H p=none):Q (.ref p) (upd H p (.lst vs)):=
 q _ _ [p] (sameNew hp _) ⟨p,vs,[],rfl,Yb,r.same (sameNew hp _),rfl⟩ (by simp) (fun a ha=>by rw [List.mem_singleton.mp ha];exact hp)
theorem Zdo {n:Nat}(h:n≤Dl.lim):n≤sizeLine:=le_trans h (by decide)
theorem Zko {n:Nat}(h:n<Dl.lim):n<sizeLine:=lt_of_lt_of_le h (by decide)
theorem Zzd {x y:Str}(h1:PyData.strOk x=true)(h2:PyData.strOk y=true):PyData.strOk (x++y)=true:=by
 unfold PyData.strOk at *
 show (x.cps++y.cps).all _=true
 rw [Array.all_append,h1,h2]
 rfl
theorem RpA.nil:RpA K C H [] [] []:=⟨rfl,rfl⟩
theorem RpA.flat' {ds:List D}{vs:List V}{A:List Addr}(h:Dl.Yj ds=true)(r:RpA K C H ds vs A):RpA K C H ds vs []:=by
 have e:=RpA.flat h r
 subst e
 exact r
theorem RpA.rep {ds:List D}{vs:List V}(r:RpA K C H ds vs []):∀n,RpA K C H (List.replicate n ds).flatten (List.replicate n vs).flatten []
 | 0=>RpA.nil
 | n+1=>by
  rw [replicate_succ,replicate_succ,flatten_cons,flatten_cons]
  exact r.app (RpA.rep r n)
theorem Zz:GOk K C Xeb Dl.Je:=by
 intro H x y d vx vy Bx By Q rx ry e q
 unfold Dl.Je at e
 split at e
 ·cases e
  obtain ⟨rfl,_⟩:=rx
  obtain ⟨rfl,_⟩:=ry
  exact Xnb (Out.flat q ⟨rfl,rfl⟩)
 ·split at e
  ·rename_i hz
   cases e
   obtain ⟨rfl,h1,_⟩:=rx
   obtain ⟨rfl,h2,_⟩:=ry
   exact .inr (.inl ⟨_,_,rfl,rfl,Zdo hz,Out.flat q ⟨rfl,Zzd h1 h2,rfl⟩⟩)
  ·cases e
 ·split at e
  ·rename_i hz
   cases e
   obtain ⟨a,xs,B,rfl,e2,e3,_⟩:=rx
   obtain ⟨a',xs',B',rfl,e2',e3',_⟩:=ry
   obtain ⟨hz,f1,f2⟩:=hz
   refine Xny e2 e2' (by rw [e3.len,e3'.len];exact Zdo hz) fun p hp=>?_
   exact Out.lst q ((e3.flat' f1).app (e3'.flat' f2)) hp
  ·cases e
 ·cases e
theorem Zmf {g:Int→Int→D}{gv:Int→Int→V}{f:D→D→Option D}(hf:∀x y d,f x y=some d→∃i j,x=.int i∧y=.int j∧d=g i j)(hr:∀H i j,Rp K C H (g i j) (gv i j) []):GOk K C (rI0 gv) f:=by
 intro H x y d vx vy Bx By Q rx ry e q
 obtain ⟨i,j,rfl,rfl,rfl⟩:=hf x y d e
 obtain ⟨rfl,_⟩:=rx
 obtain ⟨rfl,_⟩:=ry
 exact rd_I0 (Out.flat q (hr H i j))
theorem Xht {Cd:Int→Int→Prop}{g:Int→Int→D}{gv:Int→Int→V}{f:D→D→Option D}(hf:∀x y d,f x y=some d→∃i j,x=.int i∧y=.int j∧d=g i j∧Cd i j)(hr:∀H i j,Rp K C H (g i j) (gv i j) []):GOk K C (rI Cd gv) f:=by
 intro H x y d vx vy Bx By Q rx ry e q
 obtain ⟨i,j,rfl,rfl,rfl,hc⟩:=hf x y d e
 obtain ⟨rfl,_⟩:=rx
 obtain ⟨rfl,_⟩:=ry
 exact rd_I hc (Out.flat q (hr H i j))
theorem rpI {i:Int}:Rp K C H (.int i) (.int i) []:=⟨rfl,rfl⟩
theorem rpB {i:Bool}:Rp K C H (.bl i) (.bl i) []:=⟨rfl,rfl⟩
theorem Yz:GOk K C (rI0 fun i j=>.int (i - j)) Dl.Zbh:=Zmf (fun x y d e=>by unfold Dl.Zbh at e;split at e<;>cases e;exact ⟨_,_,rfl,rfl,rfl⟩) fun _ _ _=>rpI
theorem Zfm:GOk K C (rI0 fun i j=>.bl (decide (i<j))) Dl.gLt:=Zmf (fun x y d e=>by unfold Dl.gLt at e;split at e<;>cases e;exact ⟨_,_,rfl,rfl,rfl⟩) fun _ _ _=>rpB
theorem Zgk:GOk K C (rI0 fun i j=>.bl (decide (i≤j))) Dl.gLe:=Zmf (fun x y d e=>by unfold Dl.gLe at e;split at e<;>cases e;exact ⟨_,_,rfl,rfl,rfl⟩) fun _ _ _=>rpB
theorem Zhj:GOk K C (rI0 fun i j=>.bl (decide (j<i))) Dl.gGt:=Zmf (fun x y d e=>by unfold Dl.gGt at e;split at e<;>cases e;exact ⟨_,_,rfl,rfl,rfl⟩) fun _ _ _=>rpB
theorem Xer:GOk K C (rI0 fun i j=>.bl (decide (j≤i))) Dl.gGe:=Zmf (fun x y d e=>by unfold Dl.gGe at e;split at e<;>cases e;exact ⟨_,_,rfl,rfl,rfl⟩) fun _ _ _=>rpB
theorem Jn:GOk K C (rI (fun _ j=>0<j) fun i j=>.int (i % j)) Dl.Zhf:=Xht (fun x y d e=>by
  unfold Dl.Zhf at e
  split at e
  · split at e
    · rename_i h;cases e;exact ⟨_,_,rfl,rfl,rfl,h⟩
    · cases e
  · cases e) fun _ _ _=>rpI
theorem Zyo:GOk K C (rI Xoi fun i j=>.int (i / j)) Dl.Xlz:=Xht (fun x y d e=>by
  unfold Dl.Xlz at e
  split at e
  · split at e
    · rename_i h;cases e;exact ⟨_,_,rfl,rfl,rfl,h⟩
    · cases e
  · cases e) fun _ _ _=>rpI
theorem Zcs:GOk K C (rI CPow fun i j=>.int (i ^ j.toNat)) Dl.Zjw:=Xht (fun x y d e=>by
  unfold Dl.Zjw at e
  split at e
  · split at e
    · rename_i h;cases e;exact ⟨_,_,rfl,rfl,rfl,h⟩
    · cases e
  · cases e) fun _ _ _=>rpI
theorem Zwx {i j:Int}(h:(Dl.short i||Dl.short j)=true):Xma i j:=by
 unfold Dl.short at h
 simp only [Bool.or_eq_true,Bool.and_eq_true,decide_eq_true_eq] at h
 exact h
theorem Yr:GOk K C Xag Dl.Zcx:=by
 intro H x y d vx vy Bx By Q rx ry e q
 unfold Dl.Zcx at e
 split at e
 ·split at e
  ·rename_i h
   cases e
   obtain ⟨rfl,_⟩:=rx
   obtain ⟨rfl,_⟩:=ry
   exact Xqu (Zwx h) (Out.flat q rpI)
  ·cases e
 ·split at e
  ·rename_i h
   cases e
   obtain ⟨a,xs,B,rfl,e2,e3,_⟩:=rx
   obtain ⟨rfl,_⟩:=ry
   obtain ⟨h1,h2,h3,h4⟩:=h
   refine Xpz e2 (by omega) (by omega) (by rw [e3.len];exact Zdo h2) fun p hp=>?_
   exact Out.lst q ((e3.flat' h4).rep _) hp
  ·cases e
 ·cases e
theorem Zfj {d:D}{v:V}{A:List Addr}(h:Dl.dep d≤20)(r:Rp K C H d v A):Dn K H v (toPy d)∧SeqAt.shaped (toPy d)=true:=by
 obtain ⟨q1,q2,q3⟩:=r.dn h (by decide)
 refine ⟨q1,?_⟩
 unfold SeqAt.shaped
 rw [q2,q3]
 simp only [Bool.true_and,decide_eq_true_eq]
 omega
theorem Zfs:GOk K C (Zzc K) Dl.gEq:=by
 intro H x y d vx vy Bx By Q rx ry e q
 unfold Dl.gEq at e
 split at e
 ·rename_i h
  cases e
  obtain ⟨a1,a2⟩:=Zfj h.1 rx
  obtain ⟨b1,b2⟩:=Zfj h.2 ry
  refine .inr ⟨_,_,a1,b1,a2,b2,?_⟩
  rw [Zvi (by omega) (by omega)]
  exact Out.flat q rpB
 ·cases e
theorem Zkb:GOk K C (Xfv K) Dl.gNe:=by
 intro H x y d vx vy Bx By Q rx ry e q
 unfold Dl.gNe at e
 split at e
 ·rename_i h
  cases e
  obtain ⟨a1,a2⟩:=Zfj h.1 rx
  obtain ⟨b1,b2⟩:=Zfj h.2 ry
  refine .inr ⟨_,_,a1,b1,a2,b2,?_⟩
  rw [Zvi (by omega) (by omega)]
  exact Out.flat q rpB
 ·cases e
theorem Zzz {x:D}{v:V}{B:List Addr}(r:Rp K C H x v B):decide (v=.non)=Dl.Zjh x:=by
 cases x
 ·rw [r.1];rfl
 ·rw [r.1];rfl
 ·rw [r.1];rfl
 ·rw [r.1];rfl
 ·obtain ⟨a,xs,B,rfl,_⟩:=r;rfl
 ·obtain ⟨a,xs,rfl,_⟩:=r;rfl
 ·obtain ⟨a,rfl,_⟩:=r;rfl
 ·obtain ⟨a,rfl,_⟩:=r;rfl
 ·obtain ⟨a,dx,rfl,_⟩:=r;rfl
 ·obtain ⟨a,dx,xs,B,rfl,_⟩:=r;rfl
 ·obtain ⟨a,xs,B,rfl,_⟩:=r;rfl
 ·obtain ⟨a,xs,B,rfl,_⟩:=r;rfl
theorem Xfc:GOk K C (rIsA false) Dl.gIs:=by
 intro H x y d vx vy Bx By Q rx ry e q
 unfold Dl.gIs at e
 split at e
 ·cases e
  refine .inl ⟨ry.1,?_⟩
  simp only [Bool.false_eq_true,if_false]
  rw [Zzz rx]
  exact Out.flat q rpB
 ·split at e
  ·cases e
   obtain ⟨rfl,_⟩:=rx
   obtain ⟨rfl,_⟩:=ry
   exact .inr ⟨_,_,rfl,rfl,by simp only [Bool.false_eq_true,if_false];exact Out.flat q rpB⟩
  ·cases e
 ·cases e
theorem Xhc:AOk K C E Γ Δ 2 [] Zqa Dl.Zy:=fun _ _ H _ _ _ _ _ p=>p [] H (Xx.refl _) ⟨[],RpA.nil,(fun _ h=>nomatch h),fun _=>nodup_nil⟩
theorem InS.left {A:Nat→List Addr}{a:Addr}(h:InS A S1 a):InS A (S1++S2) a:=h.mono fun _ hp=>mem_append_left _ hp
theorem InS.right {A:Nat→List Addr}{a:Addr}(h:InS A S2 a):InS A (S1++S2) a:=h.mono fun _ hp=>mem_append_right _ hp
theorem Xcb {te:TE}{t:TA}{fe:FE}{f:FA}(he:EOk K C E Γ Δ m1 S1 te fe)(ha:AOk K C E Γ Δ m2 S2 t f):AOk K C E Γ Δ 0 (S1++S2) (Zdn te t) (Dl.Zd fe f):=
  fun H0 Hb H σ ρ A Q I p=>he H0 Hb H σ ρ A _ I (p.bind.imp (fun x q vx H1 g1 r1=>ha H0 Hb H1 σ ρ A _ (I.mono g1) (q.bind.imp (fun ys q vs H2 g2 r2=>by
    obtain ⟨Bx,r1,r1',_⟩:=r1
    obtain ⟨By,r2,r2',_⟩:=r2
    exact q _ H2 (g1.trans g2) ⟨Bx++By,⟨vx,vs,Bx,By,rfl,r1.same g2,r2,rfl⟩,fun a h=>(List.mem_append.mp h).elim (fun h=>(r1' a h).imp id InS.left) (fun h=>(r2' a h).imp (fun h=>g1.free h) InS.right),(fun z=>nomatch z)⟩)
    fun c x q H' g'=>q H' (g1.trans g'))) fun c x q H' g'=>q H' g')
theorem Zup {te:TE}{t:TA}{fe:FE}{f:FA}(he:EOk K C E Γ Δ 2 S1 te fe)(ha:AOk K C E Γ Δ 2 S2 t f)(h1:∀p∈S1,p.1∈Δ:=by decide)(h2:∀p∈S1,∀q∈S2,p.1≠q.1:=by decide):AOk K C E Γ Δ 2 (S1++S2) (Zdn te t) (Dl.Zd fe f):=
  fun H0 Hb H σ ρ A Q I p=>he H0 Hb H σ ρ A _ I (p.bind.imp (fun x q vx H1 g1 r1=>ha H0 Hb H1 σ ρ A _ (I.mono g1) (q.bind.imp (fun ys q vs H2 g2 r2=>by
    obtain ⟨Bx,r1,r1',_,n1⟩:=r1
    obtain ⟨By,r2,r2',n2⟩:=r2
    refine q _ H2 (g1.trans g2) ⟨Bx++By,⟨vx,vs,Bx,By,rfl,r1.same g2,r2,rfl⟩,fun a h=>(List.mem_append.mp h).elim (fun h=>(r1' a h).imp id InS.left) (fun h=>(r2' a h).imp (fun h=>g1.free h) InS.right),fun _=>?_⟩
    refine List.nodup_append.mpr ⟨n1 rfl,n2 rfl,fun a ha b hb e=>?_⟩
    subst e
    rcases r2' a hb with z | z
    · obtain ⟨xs,w,_⟩:=r1.isl a ha
      rw [w] at z
      cases z
    · obtain ⟨p2,hp2,z⟩:=z.mem
      rcases r1' a ha with w | w
      · exact I.ne z w
      · obtain ⟨p1,hp1,w⟩:=w.mem
        exact (I.deep p1.1 (h1 p1 hp1)).2.1 p2.1 (fun e=>h2 p1 hp1 p2 hp2 e.symm) a w z)
    fun c x q H' g'=>q H' (g1.trans g'))) fun c x q H' g'=>q H' g')
theorem Xii {t:TA}{f:FA}(ha:AOk K C E Γ Δ 2 S t f):EOk K C E Γ Δ 2 S (Xlx t) (Dl.fA Dl.Zal f):=
  fun H0 Hb H σ ρ A Q I p=>ha H0 Hb H σ ρ A _ I (p.bind.imp (fun ds q vs H1 g1 r1=>by
    obtain ⟨d,e,q⟩:=Zdl q
    unfold Dl.Zal at e
    split at e
    · rename_i hz
      cases e
      obtain ⟨B,r1,r1',n1⟩:=r1
      refine ⟨by rw [r1.len];exact Zdo hz,fun p hp=>?_⟩
      have g2:=sameNew hp (.lst vs)
      refine q _ _ (g1.trans g2) ⟨p::B,⟨p,vs,B,rfl,Yb,r1.same g2,rfl⟩,fun a ha=>?_,(fun z=>nomatch z),fun _=>List.nodup_cons.mpr ⟨fun h=>?_,n1 rfl⟩⟩
      · rcases List.mem_cons.mp ha with z | z
        · rw [z];exact .inl (g1.free hp)
        · exact r1' a z
      · obtain ⟨xs,w,_⟩:=r1.isl p h
        rw [w] at hp
        cases hp
    · cases e) fun c x q H' g'=>q H' g')
theorem Xcy {t:TA}{f:FA}(ha:AOk K C E Γ Δ m S t f):EOk K C E Γ Δ 1 S (Xlx t) (Dl.fA Dl.Zal f):=
  fun H0 Hb H σ ρ A Q I p=>ha H0 Hb H σ ρ A _ I (p.bind.imp (fun ds q vs H1 g1 r1=>by
    obtain ⟨d,e,q⟩:=Zdl q
    unfold Dl.Zal at e
    split at e
    · rename_i hz
      cases e
      obtain ⟨B,r1,r1',n1⟩:=r1
      refine ⟨by rw [r1.len];exact Zdo hz,fun p hp=>?_⟩
      have g2:=sameNew hp (.lst vs)
      refine q _ _ (g1.trans g2) ⟨p::B,⟨p,vs,B,rfl,Yb,r1.same g2,rfl⟩,fun a ha=>?_,fun _ a r e=>?_,(fun z=>nomatch z)⟩
      · rcases List.mem_cons.mp ha with z | z
        · rw [z];exact .inl (g1.free hp)
        · exact r1' a z
      · cases e
        refine ⟨g1.free hp,fun h=>?_⟩
        obtain ⟨xs,w,_⟩:=r1.isl p h
        rw [w] at hp
        cases hp
    · cases e) fun c x q H' g'=>q H' g')
theorem Xjh (hm:m=0∨m=2){t:TA}{f:FA}(ha:AOk K C E Γ Δ m S t f):EOk K C E Γ Δ m S (tTup t) (Dl.fA Dl.Ziz f):=
  fun H0 Hb H σ ρ A Q I p=>ha H0 Hb H σ ρ A _ I (p.bind.imp (fun ds q vs H1 g1 r1=>by
    obtain ⟨d,e,q⟩:=Zdl q
    unfold Dl.Ziz at e
    split at e
    · rename_i hz
      cases e
      obtain ⟨B,r1,r1',n1⟩:=r1
      refine ⟨by rw [r1.len];exact Zdo hz,fun p hp=>?_⟩
      have g2:=sameNew hp (.tup vs)
      exact q _ _ (g1.trans g2) ⟨B,⟨p,vs,rfl,Yb,r1.same g2⟩,r1',(fun z=>by omega),n1⟩
    · cases e) fun c x q H' g'=>q H' g')
theorem Xey {r:List V→Hp→VK→Prop}{g:List D→Option D}{t:TA}{f:FA}(hg:GAk K C r g)(ha:AOk K C E Γ Δ m S t f):EOk K C E Γ Δ 2 [] (tCB r t) (Dl.fA g f):=
  fun H0 Hb H σ ρ A Q I p=>ha H0 Hb H σ ρ A _ I (p.bind.imp (fun ds q vs H1 g1 r1=>by
    obtain ⟨d,e,q⟩:=Zdl q
    obtain ⟨B,r1,_⟩:=r1
    exact hg H1 ds d vs B Q r1 e fun v H' B' g2 r2 h1 h2=>q v H' (g1.trans g2) (Res.new r2 h1 fun a ha=>g1.free (h2 a ha))) fun c x q H' g'=>q H' g')
theorem RpA.one' {d:D}{vs:List V}{A:List Addr}(r:RpA K C H [d] vs A):∃v,vs=[v]∧Rp K C H d v A:=by
 obtain ⟨x,l,B,B',e1,e2,e3,e4⟩:=r
 obtain ⟨e5,e6⟩:=e3
 subst e1 e4 e5 e6
 rw [append_nil]
 exact ⟨x,rfl,e2⟩
theorem RpA.two' {d e:D}{vs:List V}{A:List Addr}(r:RpA K C H [d,e] vs A):∃v w B B',vs=[v,w]∧Rp K C H d v B∧Rp K C H e w B':=by
 obtain ⟨x,l,B,B',e1,e2,e3,e4⟩:=r
 obtain ⟨w,e5,e6⟩:=e3.one'
 subst e1 e5
 exact ⟨x,w,B,B',rfl,e2,e6⟩
theorem Xu:GAk K C (Jj K) Dl.Jy:=by
 intro H xs d vs B Q r e q
 obtain ⟨x,rfl⟩:=Zxo (F:=Dl.Jy) rfl (fun x _ _=>by cases x<;>rfl) e
 obtain ⟨v,rfl,r1⟩:=r.one'
 cases x with
 | lst xs =>
  cases (show some (D.int xs.length)=some d from e)
  obtain ⟨a,ys,B,rfl,e2,e3,_⟩:=r1
  refine Zwh (SqL.of e2) ?_
  rw [e3.len]
  exact Out.flat q rpI
 | tup xs =>
  cases (show some (D.int xs.length)=some d from e)
  obtain ⟨a,ys,rfl,e2,e3⟩:=r1
  refine Xjx (SqT.of e2) ?_
  rw [e3.len]
  exact Out.flat q rpI
 | scr xs =>
  cases (show some (D.int xs.length)=some d from e)
  obtain ⟨a,rfl,e2,_⟩:=r1
  refine Zwh e2.sq ?_
  rw [length_map]
  exact Out.flat q rpI
 | str z =>
  have e:(if z.length≤Dl.lim then some (D.int z.length) else none)=some d:=e
  by_cases hz:z.length≤Dl.lim
  ·rw [if_pos hz] at e
   cases e
   obtain ⟨rfl,_⟩:=r1
   exact Xje (Zdo hz) (Out.flat q rpI)
  ·rw [if_neg hz] at e
   exact Jo e
 | _=>exact Jo e
theorem Xjj:GAk K C (rSum K) Dl.Xna:=by
 intro H xs d vs B Q r e q
 obtain ⟨x,rfl⟩:=Zxo (F:=Dl.Xna) rfl (fun x _ _=>by cases x<;>rfl) e
 obtain ⟨v,rfl,r1⟩:=r.one'
 cases x with
 | lst xs =>
  obtain ⟨ns,h1,h2⟩:=Option.bind_eq_some_iff.mp e
  cases h2
  obtain ⟨a,ys,B,rfl,e2,e3,_⟩:=r1
  have h:=e3.ofInts h1
  subst h
  exact Xrc (SqL.of e2) (Out.flat q rpI)
 | _=>exact Jo e
theorem Zzb (x:Int):∀(r:List Int),(r.foldl max x=x∨r.foldl max x∈r)∧x≤r.foldl max x∧∀y∈r,y≤r.foldl max x:=by
 intro r
 induction r generalizing x with
 | nil=>simp
 | cons y r ih =>
  obtain ⟨h1,h2,h3⟩:=ih (max x y)
  rw [foldl_cons]
  refine ⟨?_,by omega,fun z hz=>?_⟩
  ·rcases h1 with h | h
   ·rw [h]
    by_cases hxy:x≤y
    ·right;rw [Int.max_eq_right hxy];exact .head _
    ·left;omega
   ·right;exact .tail _ h
  ·rcases List.mem_cons.mp hz with e | e
   ·omega
   ·exact h3 z e
theorem Zve {ns:List Int}(h:ns≠[]):Dl.Zgj ns∈ns∧∀n∈ns,n≤Dl.Zgj ns:=by
 cases ns with
 | nil=>exact absurd rfl h
 | cons x r =>
  obtain ⟨h1,h2,h3⟩:=Zzb x r
  show r.foldl max x∈x::r∧∀n∈x::r,n≤r.foldl max x
  refine ⟨?_,fun n hn=>?_⟩
  ·rcases h1 with e | e
   ·rw [e];exact .head _
   ·exact .tail _ e
  ·rcases List.mem_cons.mp hn with e | e
   ·omega
   ·exact h3 n e
theorem Zdd:GAk K C (Zgy K) Dl.Zmu:=by
 intro H xs d vs B Q r e q
 unfold Dl.Zmu at e
 split at e
 ·cases e
  obtain ⟨v,w,B,B',rfl,r1,r2⟩:=r.two'
  obtain ⟨rfl,_⟩:=r1
  obtain ⟨rfl,_⟩:=r2
  exact Xik (Out.flat q rpI)
 ·obtain ⟨ns,h1,h2⟩:=Option.bind_eq_some_iff.mp e
  split at h2
  ·cases h2
  ·rename_i hne
   cases h2
   obtain ⟨v,rfl,r1⟩:=r.one'
   obtain ⟨a,ys,B,rfl,e2,e3,_⟩:=r1
   have h:=e3.ofInts h1
   subst h
   obtain ⟨s1,s2⟩:=Zve hne
   refine Xix (SqL.of e2) hne fun mm h1 h2=>?_
   have e:mm=Dl.Zgj ns:=le_antisymm (s2 mm h1) (h2 _ s1)
   rw [e]
   exact Out.flat q rpI
 ·cases e
def Zyp:List V→Hp→VK→Prop:=fun xs H Q=>∃i j,xs=[.int i,.int j]∧Q (.int (if j<i then j else i)) H
theorem Zhm {X:Cx}(hc:X.calm=true):Zav X (.builtin "min") Zyp:=Zym hc
theorem Zpa:GAk K C Zyp Dl.Xhh:=by
 intro H xs d vs B Q r e q
 unfold Dl.Xhh at e
 split at e
 ·cases e
  obtain ⟨v,w,B,B',rfl,r1,r2⟩:=r.two'
  obtain ⟨rfl,_⟩:=r1
  obtain ⟨rfl,_⟩:=r2
  exact ⟨_,_,rfl,Out.flat q rpI⟩
 ·cases e
theorem RpA.rng {lo:Int}{n:Nat}:RpA K C H (Dl.Zca lo n) (Zpb lo n) []:=by
 unfold Dl.Zca Zpb
 generalize List.range n=l
 induction l with
 | nil=>exact RpA.nil
 | cons k l ih=>exact ⟨_,_,[],[],rfl,rpI,ih,rfl⟩
theorem Xj:GAk K C (Jk K) Dl.Yv:=by
 intro H xs d vs B Q r e q
 obtain ⟨x,rfl⟩:=Zxo (F:=Dl.Yv) rfl (fun x _ _=>by cases x<;>rfl) e
 obtain ⟨v,rfl,r1⟩:=r.one'
 cases x with
 | lst xs =>
  have e:(if Dl.Yj xs then some (D.lst xs) else none)=some d:=e
  split at e
  ·rename_i hf
   cases e
   obtain ⟨a,ys,B,rfl,e2,e3,_⟩:=r1
   exact Xab (SqL.of e2) fun l hl=>Out.lst q (e3.flat' hf) hl
  ·exact Jo e
 | tup xs =>
  have e:(if Dl.Yj xs then some (D.lst xs) else none)=some d:=e
  split at e
  ·rename_i hf
   cases e
   obtain ⟨a,ys,rfl,e2,e3⟩:=r1
   exact .inl ⟨a,ys,rfl,.inr (SqT.of e2),fun l hl=>Out.lst q (e3.flat' hf) hl⟩
  ·exact Jo e
 | rng i j =>
  have e:(if -1000000000≤i∧i≤1000000000∧-1000000000≤j∧j≤1000000000∧(j - i).toNat≤Dl.lim then some (D.lst (Dl.Zca i (j - i).toNat)) else none)=some d:=e
  split at e
  ·rename_i hf
   cases e
   obtain ⟨a,rfl,e2,_⟩:=r1
   obtain ⟨h1,h2,h3,h4,h5⟩:=hf
   exact Xdq e2 (by omega) (by omega) (by omega) (by omega) h5 fun l hl=>Out.lst q RpA.rng hl
  ·exact Jo e
 | _=>exact Jo e
theorem Zzg:GAk K C Zns Dl.Znk:=by
 intro H xs d vs B Q r e q
 unfold Dl.Znk at e
 split at e
 ·cases e
  obtain ⟨v,rfl,r1⟩:=r.one'
  obtain ⟨rfl,_⟩:=r1
  exact Zut fun p hp=>q _ _ [] (sameNew hp _) ⟨p,rfl,Yb,rfl⟩ nodup_nil (fun _ h=>nomatch h)
 ·cases e
  obtain ⟨v,w,B,B',rfl,r1,r2⟩:=r.two'
  obtain ⟨rfl,_⟩:=r1
  obtain ⟨rfl,_⟩:=r2
  exact Zwe fun p hp=>q _ _ [] (sameNew hp _) ⟨p,rfl,Yb,rfl⟩ nodup_nil (fun _ h=>nomatch h)
 ·cases e
theorem Xcf:OOk K C E Γ Δ Zkm Dl.Zlx:=fun _ _ H _ _ _ _ _ p=>p H (Xx.refl _)
theorem Xel {t:TE}{f:FE}(h:EOk K C E Γ Δ m S t f):OOk K C E Γ Δ (Xdo t) (Dl.Zfx f):=fun H0 Hb H σ ρ A Q I p=>h H0 Hb H σ ρ A _ I (p.bind.imp (fun d q v H' g r=>by
  obtain ⟨B,r,_⟩:=r
  cases d with
  | int i =>
    obtain ⟨rfl,_⟩:=r
    exact ⟨i,rfl,q H' g⟩
  | _=>exact q.elim) fun c x q H' g'=>q H' g')
theorem Zjy (n d:Nat)(o:Option Int):Dl.Xgi n d o=HT.sIx n d o:=by
 cases o with
 | none=>rfl
 | some v =>
  have h:=HT.clip_eq v n d
  show (if v<0 then (max (v+(n:Int)) 0).toNat else min v.toNat n)=_
  by_cases hv:v<0
  ·rw [if_pos hv] at h ⊢
   omega
  ·rw [if_neg hv] at h ⊢
   omega
theorem RpA.cut {ds:List D}{vs:List V}{A:List Addr}(h:Dl.Yj ds=true)(r:RpA K C H ds vs A)(lo hi:Option Int):RpA K C H (Dl.cut ds lo hi) (cutV vs lo hi) []:=by
 unfold Dl.cut cutV
 rw [Zjy,Zjy,r.len]
 exact (r.flatDrop h _).flatTake (Ztu h _) _
theorem Xbq (ns:List Int)(lo hi:Option Int):cutV (ns.map V.int) lo hi=(Dl.cut ns lo hi).map V.int:=by
 unfold Dl.cut cutV
 rw [Zjy,Zjy,length_map,map_take,map_drop]
theorem Xqj {ta:TE}{tl th:TO}{fa:FE}{fl fh:FO}(ha:EOk K C E Γ Δ m S ta fa)(hl:OOk K C E Γ Δ tl fl)(hh:OOk K C E Γ Δ th fh):EOk K C E Γ Δ 2 [] (tSl (Xml K) ta tl th) (Dl.fSl Dl.gSl fa fl fh):=
  fun H0 Hb H σ ρ A Q I p=>ha H0 Hb H σ ρ A _ I (p.bind.imp (fun x q vx H1 g1 r1=>hl H0 Hb H1 σ ρ A _ (I.mono g1) (q.bind.imp (fun lo q H2 g2=>hh H0 Hb H2 σ ρ A _ (I.mono (g1.trans g2)) (q.bind.imp (fun hi q H3 g3=>by
    obtain ⟨d,e,q⟩:=Zdl q
    obtain ⟨B,r1,_⟩:=r1
    have r1:=r1.same (g2.trans g3)
    have g13:=g1.trans (g2.trans g3)
    have out:Out K C H3 d Q:=fun v H' B g4 r h1 h2=>q v H' (g13.trans g4) (Res.new r h1 fun a ha=>g13.free (h2 a ha))
    unfold Dl.gSl at e
    split at e
    · split at e
      · rename_i hf
        cases e
        obtain ⟨a,ys,B,rfl,e2,e3,_⟩:=r1
        exact Zzh (SqL.of e2) fun p hp=>Out.lst out (e3.cut hf _ _) hp
      · cases e
    · cases e
      obtain ⟨a,rfl,e2,_⟩:=r1
      refine Zzh e2.sq fun p hp=>?_
      rw [Xbq]
      exact Out.lst out RpA.ints hp
    · cases e) fun c x q H' g'=>q H' ((g1.trans g2).trans g'))) fun c x q H' g'=>q H' (g1.trans g'))) fun c x q H' g'=>q H' g')
theorem Xgz {ta ts:TE}{fa fs:FE}(ha:EOk K C E Γ Δ m1 S1 ta fa)(hs:EOk K C E Γ Δ m2 S2 ts fs):EOk K C E Γ Δ 2 [] (tRev K ta ts) (Dl.f2 Dl.Xmk fa fs):=
  fun H0 Hb H σ ρ A Q I p=>ha H0 Hb H σ ρ A _ I (p.bind.imp (fun x q vx H1 g1 r1=>hs H0 Hb H1 σ ρ A _ (I.mono g1) (q.bind.imp (fun y q vy H2 g2 r2=>by
    obtain ⟨d,e,q⟩:=Zdl q
    obtain ⟨Bx,r1,_⟩:=r1
    obtain ⟨By,r2,_⟩:=r2
    have r1:=r1.same g2
    have g13:=g1.trans g2
    have out:Out K C H2 d Q:=fun v H' B g4 r h1 h2=>q v H' (g13.trans g4) (Res.new r h1 fun a ha=>g13.free (h2 a ha))
    unfold Dl.Xmk at e
    split at e
    · split at e
      · rename_i hf
        cases e
        obtain ⟨a,ys,B,rfl,e2,e3,_⟩:=r1
        obtain ⟨rfl,_⟩:=r2
        refine ⟨a,ys,rfl,by rw [hf.1],SqL.of e2,fun p hp=>Out.lst out (RpA.flatRev hf.2 e3) hp⟩
      · cases e
    · cases e) fun c x q H' g'=>q H' (g1.trans g'))) fun c x q H' g'=>q H' g')
theorem Xdt {ta:TE}{fa:FE}(ha:EOk K C E Γ Δ m1 S1 ta fa):EOk K C E Γ Δ 2 [] (Xdv K ta) (Dl.f1 Dl.Zhq fa):=
  fun H0 Hb H σ ρ A Q I p=>ha H0 Hb H σ ρ A _ I (p.bind.imp (fun x q vx H1 g1 r1=>by
    obtain ⟨d,e,q⟩:=Zdl q
    obtain ⟨Bx,r1,_⟩:=r1
    have out:Out K C H1 d Q:=fun v H' B g4 r h1 h2=>q v H' (g1.trans g4) (Res.new r h1 fun a ha=>g1.free (h2 a ha))
    unfold Dl.Zhq at e
    split at e
    · split at e
      · rename_i hf
        cases e
        obtain ⟨a,ys,B,rfl,e2,e3,_⟩:=r1
        exact ⟨a,ys,rfl,SqL.of e2,fun p hp=>Out.lst out (RpA.flatRev hf e3) hp⟩
      · cases e
    · cases e) fun c x q H' g'=>q H' g')
end
section
variable {K:Frag}{C:String→Addr}{E:XK}{Γ Δ Γ' Δ' Γ1 Δ1 Γl Δl:List Nat}{m m1 m2 m3 mr:Nat}{S S1 S2 S3:List (Nat×Bool)}{H:Hp}{Q:VK}
theorem Xfd {t:TE}{f:FE}(h:EOk K C E Γ Δ m S t f):∀(H0 Hb H:Hp) (σ:St) (ρ:Yx) (A:Nat→List Addr) (Q:Bool→Hp→Prop),Xc K C H0 Hb H Γ Δ σ ρ A→
    Xt (Dl.cE f ρ) (fun b=>∀H',Xx H H'→Q b H') (fun c x=>∀H',Xx H H'→EC C E c x H')→t σ H fun x H'=>∃k,x=.bl k∧Q k H':=fun H0 Hb H σ ρ A Q I p=>h H0 Hb H σ ρ A _ I (p.bind.imp (fun d q v H' g r=>by
  obtain ⟨B,r,_⟩:=r
  cases d with
  | bl b =>
    obtain ⟨rfl,_⟩:=r
    exact ⟨b,rfl,q H' g⟩
  | _=>exact q.elim) fun c x q H' g'=>q H' g')
theorem Zsk {t:TE}{f:FE}(h:EOk K C E Γ Δ m S t f):TOk K C E Γ Δ (Zot t) (Dl.cE f):=Xfd h
theorem tok_B {t:TE}{f:FE}(h:EOk K C E Γ Δ m S t f):TOk K C E Γ Δ (tB t) (Dl.cE f):=Xfd h
theorem Xis {t:TT}{f:FT}(h:TOk K C E Γ Δ t f):TOk K C E Γ Δ (tNot t) (Dl.Xln f):=fun H0 Hb H σ ρ A Q I p=>h H0 Hb H σ ρ A _ I (p.bind.imp (fun b q H' g=>q H' g) fun c x q H' g'=>q H' g')
theorem Xhf {t u:TT}{f g:FT}(h:TOk K C E Γ Δ t f)(h':TOk K C E Γ Δ u g):TOk K C E Γ Δ (tAnd t u) (Dl.Xmf f g):=fun H0 Hb H σ ρ A Q I p=>h H0 Hb H σ ρ A _ I (p.bind.imp (fun b q H' g'=>by
  cases b with
  | true=>exact h' H0 Hb H' σ ρ A Q (I.mono g') (Xt.imp q (fun b q H2 g2=>q H2 (g'.trans g2)) fun c x q H2 g2=>q H2 (g'.trans g2))
  | false=>exact q H' g') fun c x q H' g'=>q H' g')
theorem Xoh {t u:TT}{f g:FT}(h:TOk K C E Γ Δ t f)(h':TOk K C E Γ Δ u g):TOk K C E Γ Δ (tOr t u) (Dl.cOr f g):=fun H0 Hb H σ ρ A Q I p=>h H0 Hb H σ ρ A _ I (p.bind.imp (fun b q H' g'=>by
  cases b with
  | false=>exact h' H0 Hb H' σ ρ A Q (I.mono g') (Xt.imp q (fun b q H2 g2=>q H2 (g'.trans g2)) fun c x q H2 g2=>q H2 (g'.trans g2))
  | true=>exact q H' g') fun c x q H' g'=>q H' g')
theorem Xka:TOk K C E Γ Δ tYes Dl.Znz:=fun _ _ H _ _ _ _ _ p=>p H (Xx.refl _)
theorem Zyg {r r':R2}{g g':D→D→Option D}{ta tb tc:TE}{fa fb fc:FE}(hg:GOk K C r g)(hg':GOk K C r' g')(hbl:∀x y d,g x y=some d→∃b,d=.bl b)(ha:EOk K C E Γ Δ m1 S1 ta fa)(hb:EOk K C E Γ Δ m2 S2 tb fb)(hc:EOk K C E Γ Δ m3 S3 tc fc) :
    EOk K C E Γ Δ 2 [] (Zqb r r' ta tb tc) (Dl.Ziw g g' fa fb fc):=
  fun H0 Hb H σ ρ A Q I p=>ha H0 Hb H σ ρ A _ I (p.bind.imp (fun x q vx H1 g1 r1=>hb H0 Hb H1 σ ρ A _ (I.mono g1) (q.bind.imp (fun y q vy H2 g2 r2=>by
    obtain ⟨z,e,q⟩:=Zdl q.bind
    obtain ⟨Bx,r1,_⟩:=r1
    obtain ⟨By,r2,_⟩:=r2
    obtain ⟨b,rfl⟩:=hbl _ _ _ e
    refine hg H2 x y _ vx vy Bx By _ (r1.same g2) r2 e fun v H3 B g3 r3 _ _=>?_
    obtain ⟨rfl,_⟩:=r3
    refine ⟨b,rfl,?_⟩
    have g03:=g1.trans (g2.trans g3)
    cases b with
    | false=>exact q _ H3 g03 (Res.flat rpB)
    | true =>
      refine hc H0 Hb H3 σ ρ A _ (I.mono g03) (q.bind.imp (fun w q vw H4 g4 r4=>?_) fun c x q H' g'=>q H' (g03.trans g'))
      obtain ⟨d,e',q⟩:=Zdl q
      obtain ⟨Bw,r4,_⟩:=r4
      exact hg' H4 y w d vy vw By Bw Q (r2.same (g3.trans g4)) r4 e' fun v H' B g5 r5 h1 h2=>q v H' (g03.trans (g4.trans g5)) (Res.new r5 h1 fun a ha=>(g03.trans g4).free (h2 a ha)))
    fun c x q H' g'=>q H' (g1.trans g'))) fun c x q H' g'=>q H' g')
theorem bl_lt {x y d:D}(h:Dl.gLt x y=some d):∃b,d=.bl b:=by unfold Dl.gLt at h;split at h<;>cases h;exact ⟨_,rfl⟩
theorem Xrj {x y d:D}(h:Dl.gLe x y=some d):∃b,d=.bl b:=by unfold Dl.gLe at h;split at h<;>cases h;exact ⟨_,rfl⟩
noncomputable def spD (K:Frag)(C:String→Addr)(n mr:Nat)(F:List D→R D):Sp:=fun vs H Q E=>∃ds B,ds.length=n∧RpA K C H ds vs B∧
 Xt (F ds) (fun d=>∀v H',Xx H H'→Res K C mr [] H (fun _=>[]) d v H'→Q v H') (fun c x=>∀H',Xx H H'→EC C E c x H')
theorem InS.none {A:Nat→List Addr}{a:Addr}(h:InS A [] a):False:=by
 obtain ⟨p,hp,_⟩:=h
 cases hp
theorem Res.reA {H H':Hp}{A A':Nat→List Addr}{d:D}{v:V}(r:Res K C m [] H A d v H'):Res K C m S H A' d v H':=by
 obtain ⟨B,r1,r2,r3,r4⟩:=r
 exact ⟨B,r1,fun a ha=>(r2 a ha).imp id fun h=>h.none.elim,r3,r4⟩
theorem Zqp {n:Nat}{F:List D→R D}{t:TA}{f:FA}(ha:AOk K C E Γ Δ m S t f)(hn:∀ρ ds,f ρ=.ok ds→ds.length=n):EOk K C E Γ Δ mr [] (Zks (spD K C n mr F) [] E t) (Dl.Xo F f):=
  fun H0 Hb H σ ρ A Q I p=>Zxb (ha H0 Hb H σ ρ A _ I (by
    have p':=p.bind
    cases e:f ρ with
    | bad=>rw [e] at p';exact p'
    | err c x=>rw [e] at p';exact p'
    | ok ds =>
      rw [e] at p'
      intro vs H1 g1 r1
      obtain ⟨B,r1,_⟩:=r1
      exact ⟨ds,B,hn ρ ds e,r1,Xt.imp p' (fun d q v H' g2 r=>q v H' (g1.trans g2) ((r.later g1 (Xx.refl _)).reA)) fun c x q H' g'=>q H' (g1.trans g')⟩))
theorem Xgo (ρ:Yx)(ds:List D)(h:Dl.Zy ρ=.ok ds):ds.length=0:=by cases h;rfl
theorem Zrs {n:Nat}{fe:FE}{f:FA}(hf:∀ρ ds,f ρ=.ok ds→ds.length=n)(ρ:Yx)(ds:List D)(h:Dl.Zd fe f ρ=.ok ds):ds.length=n+1:=by
 unfold Dl.Zd at h
 cases e:fe ρ with
 | ok x =>
  rw [e] at h
  cases e':f ρ with
  | ok xs =>
   rw [e'] at h
   cases h
   rw [length_cons,hf ρ xs e']
  | err c x=>rw [e'] at h;cases h
  | bad=>rw [e'] at h;cases h
 | err c x=>rw [e] at h;cases h
 | bad=>rw [e] at h;cases h
def Goes (K:Frag)(C:String→Addr)(J:It)(ds:List D)(Hb:Hp):Prop:=∀H2,Xx Hb H2→(∀i,i<ds.length→J.go i H2)∧(∀i,ds.length≤i→J.stop i H2)∧
 ∀i x H3,i<ds.length→J.yld i H2 x H3→Xx H2 H3∧∃d B,ds[i]?=some d∧Rp K C H3 d x B∧∀a∈B,Hb a≠none
def IOk (K:Frag)(C:String→Addr)(E:XK)(Γ Δ:List Nat)(S:List (Nat×Bool))(wi:TI)(f:FI):Prop:=∀(H0 Hb H:Hp) (σ:St) (ρ:Yx) (A:Nat→List Addr) (Rr:It→Hp→Prop),Xc K C H0 Hb H Γ Δ σ ρ A→
  Xt (f ρ) (fun ds=>∀J H' W,Xx H H'→(∀a∈W,(∃o,H' a=some o∧IsM o)∧(H a=none∨InS A S a))→ds.length≤Dl.lim→
    (∀Hc,Agree W H' Hc→Goes K C J ds Hc)→Rr J H') (fun c x=>∀H',Xx H H'→EC C E c x H')→wi σ H Rr
theorem Zvz {J:It}{ds:List D}{vs:List V}{B:List Addr}{Hc:Hp}(r:RpA K C Hc ds vs B)(h:∀H2,Xx Hc H2→(∀i,i<vs.length→J.go i H2)∧(∀i,vs.length≤i→J.stop i H2)∧∀i x H3,J.yld i H2 x H3→H3=H2∧(i<vs.length→vs[i]?=some x)):Goes K C J ds Hc:=fun H2 g=>by
 obtain ⟨h1,h2,h3⟩:=h H2 g
 have hl:=r.len
 refine ⟨fun i hi=>h1 i (by omega),fun i hi=>h2 i (by omega),fun i x H3 hi y=>?_⟩
 obtain ⟨e,y2⟩:=h3 i x H3 y
 subst e
 obtain ⟨d,Bd,q1,q2,q3⟩:=r.get' (y2 (by omega))
 refine ⟨Xx.refl _,d,Bd,q1,q2.same g,fun a ha z=>?_⟩
 obtain ⟨xs,e,_⟩:=q2.isl a ha
 rw [e] at z
 cases z
theorem Znh {a:Addr}{ds:List D}{vs:List V}{B:List Addr}{Hc:Hp}(r:RpA K C Hc ds vs B)(h:∀H2,Xx Hc H2→SqL K H2 a vs):Goes K C (Itl K a) ds Hc:=Zvz r fun H2 g=>by
 have q:=h H2 g
 exact ⟨fun i hi=>⟨vs,vs[i],q,by simp [hi]⟩,fun i hi=>⟨vs,q,hi⟩,fun i x H3 y=>⟨y.1,fun _=>y.2 vs q⟩⟩
theorem Zqn {lo:Int}{n:Nat}{Hc:Hp}:Goes K C (Itr lo n) (Dl.Zca lo n) Hc:=Zvz (vs:=Zpb lo n) RpA.rng fun H2 _=>by
 have hl:(Zpb lo n).length=n:=by simp [Zpb]
 refine ⟨fun i hi=>by rw [hl] at hi;exact hi,fun i hi=>by rw [hl] at hi;exact hi,fun i x H3 y=>⟨y.1,fun hi=>?_⟩⟩
 rw [hl] at hi
 rw [y.2]
 simp [Zpb,hi]
theorem FzL.keep {a:Addr}{xs:List V}{H Hb:Hp}(h:FzL K H a xs)(hk:∀b o,H b=some o→¬IsM o→Hb b=some o):FzL K Hb a xs:=by
 rcases h with ⟨o,h⟩ | h
 ·exact .inl ⟨o,hk a _ h (fun z=>by cases z)⟩
 ·exact .inr h
theorem FzL.same {a:Addr}{xs:List V}{H Hb:Hp}(h:FzL K H a xs)(g:Xx H Hb):FzL K Hb a xs:=h.keep fun b o q _=>g b o q
theorem Xbg {t:TE}{f:FE}(h:EOk K C E Γ Δ m S t f):IOk K C E Γ Δ S (Xcu K t) (Dl.Zda f):=fun H0 Hb H σ ρ A Rr I p=>h H0 Hb H σ ρ A _ I (p.bind.imp (fun d q v H' g r=>by
  obtain ⟨B,r,r',_⟩:=r
  cases d with
  | lst ds =>
    obtain ⟨a,xs,B',rfl,e2,e3,e4⟩:=r
    subst e4
    simp only at q
    split at q
    · rename_i hl
      refine ⟨a,rfl,⟨xs,SqL.of e2⟩,q _ H' (a::B') g (fun b hb=>?_) hl fun Hc h1=>Znh (e3.agree h1 fun b hb=>.tail _ hb) fun H2 g2=>SqL.of (g2 _ _ ((h1.1 a (.head _)).trans e2))⟩
      rcases List.mem_cons.mp hb with z | z
      · rw [z]
        exact ⟨⟨_,e2,.lst⟩,r' a (.head _)⟩
      · exact ⟨e3.isl b z,r' b (.tail _ z)⟩
    · exact q.elim
  | scr ns =>
    obtain ⟨a,rfl,e2,_⟩:=r
    simp only at q
    split at q
    · rename_i hl
      exact ⟨a,rfl,⟨_,e2.sq⟩,q _ H' [] g (fun b hb=>nomatch hb) (by rw [length_map];exact hl) fun Hc h2=>Znh RpA.ints fun H2 g2=>((e2.keep h2.2).same g2).sq⟩
    · exact q.elim
  | _=>exact q.elim) fun c x q H' g'=>q H' g')
theorem Zqi (lo:Int)(n:Nat):(Dl.Zca lo n).length=n:=by simp [Dl.Zca]
theorem Xai {t:TA}{f:FA}(h:AOk K C E Γ Δ m S t f):IOk K C E Γ Δ [] (Xbb t) (Dl.Zgf f):=fun H0 Hb H σ ρ A Rr I p=>h H0 Hb H σ ρ A _ I (p.bind.imp (fun ds q vs H' g r=>by
  obtain ⟨B,r,_⟩:=r
  split at q
  · split at q
    · rename_i hl
      obtain ⟨v,rfl,r1⟩:=r.one'
      obtain ⟨rfl,_⟩:=r1
      exact ⟨_,rfl,by omega,by omega,q _ H' [] g (fun b hb=>nomatch hb) (by rw [Zqi];show _≤1000000;omega) fun Hc _=>Zqn⟩
    · exact q.elim
  · exact q.elim) fun c x q H' g'=>q H' g')
theorem Xah {t:TA}{f:FA}(h:AOk K C E Γ Δ m S t f):IOk K C E Γ Δ [] (Xaj t) (Dl.Zog f):=fun H0 Hb H σ ρ A Rr I p=>h H0 Hb H σ ρ A _ I (p.bind.imp (fun ds q vs H' g r=>by
  obtain ⟨B,r,_⟩:=r
  split at q
  · split at q
    · rename_i hl
      obtain ⟨v,w,B,B',rfl,r1,r2⟩:=r.two'
      obtain ⟨rfl,_⟩:=r1
      obtain ⟨rfl,_⟩:=r2
      obtain ⟨h1,h2,h3,h4,h5⟩:=hl
      exact ⟨_,_,rfl,⟨by omega,by omega,by omega,by omega⟩,q _ H' [] g (fun b hb=>nomatch hb) (by rw [Zqi];exact h5) fun Hc _=>Zqn⟩
    · exact q.elim
  · exact q.elim) fun c x q H' g'=>q H' g')
theorem Xdx {J:It}{ds:List D}{Hc H:Hp}{Dd:Addr}{k:Nat}{g:TG}{tc:TT}{te:TE}{σ:St}{Rr:Hp→Prop}(go:Goes K C J ds Hc)(Pv:Nat→Hp→Prop)(h0:Pv 0 (upd H Dd (.lst [])))(hb:∀i H,Pv i H→Xx Hc H)
    (hs:∀i d x B H H3,ds[i]?=some d→Pv i H→Xx H H3→Rp K C H3 d x B→(∀a∈B,Hc a≠none)→∀os:St,os.length=k→g x (σ++os) H3 fun σ' Hg=>(∃os',os'.length=k∧σ'=σ++os')∧tc σ' Hg fun b H2=>if b=true then te σ' H2 fun v H3=>∃ys,H3 Dd=some (.lst ys)∧ys.length<sizeLine∧Pv (i+1) (upd H3 Dd (.lst (ys++[v]))) else Pv (i+1) H2)
    (hd:∀H,Pv ds.length H→Rr H) :
    ∃W:Nat→Nat→Hp→Prop,(∃m,W 0 m (upd H Dd (.lst [])))∧∀i m H,W i m H→
      (J.stop i H∧Rr H)∨(J.go i H∧∃N:Hp→Prop,(∀H',N H'→∃m',m'<m∧W (i+1) m' H')∧∀x H',J.yld i H x H'→∀os:St,os.length=k→g x (σ++os) H' fun σ' Hg=>(∃os',os'.length=k∧σ'=σ++os')∧tc σ' Hg fun b H2 =>
        if b=true then te σ' H2 fun v H3=>∃ys,H3 Dd=some (.lst ys)∧ys.length<sizeLine∧N (upd H3 Dd (.lst (ys++[v])))
        else N H2):=by
  refine ⟨fun i m H=>m=ds.length - i∧i≤ds.length∧Pv i H,⟨ds.length,by simp,zero_le _,h0⟩,?_⟩
  rintro i m H1 ⟨rfl,hi,p⟩
  obtain ⟨g1,g2,g3⟩:=go H1 (hb i H1 p)
  by_cases hlt:i<ds.length
  · refine .inr ⟨g1 i hlt,Pv (i+1),fun H' p'=>⟨ds.length - (i+1),by omega,rfl,hlt,p'⟩,fun x H' y=>?_⟩
    obtain ⟨e,d,B,y1,y2,y3⟩:=g3 i x H' hlt y
    exact hs i d x B H1 H' y1 p e y2 y3
  · have e:i=ds.length:=by omega
    subst e
    exact .inl ⟨g2 _ (le_refl _),hd H1 p⟩
theorem Zuv {J:It}{ds:List D}{Hc H:Hp}{g:TG}{tb:TS}{Dd:Ends}{σ:St}(go:Goes K C J ds Hc)(Pv:Nat→St→Hp→Prop)(h0:Pv 0 σ H)(hb:∀i σ H,Pv i σ H→Xx Hc H)
  (hs:∀i d x B σ H H3,ds[i]?=some d→Pv i σ H→Xx H H3→Rp K C H3 d x B→(∀a∈B,Hc a≠none)→g x σ H3 fun σ2 H2=>tb {Dd with nx:=Pv (i+1),ct:=Pv (i+1),bk:=Dd.nx} σ2 H2) (hd:∀σ H,Pv ds.length σ H→Dd.nx σ H) :
  ∃W:Nat→Nat→St→Hp→Prop,(∃m,W 0 m σ H)∧∀i m σ H,W i m σ H→
   (J.stop i H∧Dd.nx σ H)∨(J.go i H∧∃N:St→Hp→Prop,(∀σ' H',N σ' H'→∃m',m'<m∧W (i+1) m' σ' H')∧∀x H',J.yld i H x H'→g x σ H' fun σ2 H2=>tb {Dd with nx:=N,ct:=N,bk:=Dd.nx} σ2 H2):=by
 refine ⟨fun i m σ H=>m=ds.length - i∧i≤ds.length∧Pv i σ H,⟨ds.length,by simp,zero_le _,h0⟩,?_⟩
 rintro i m σ H1 ⟨rfl,hi,p⟩
 obtain ⟨g1,g2,g3⟩:=go H1 (hb i σ H1 p)
 by_cases hlt:i<ds.length
 ·refine .inr ⟨g1 i hlt,Pv (i+1),fun σ' H' p'=>⟨ds.length - (i+1),by omega,rfl,hlt,p'⟩,fun x H' y=>?_⟩
  obtain ⟨e,d,B,y1,y2,y3⟩:=g3 i x H' hlt y
  exact hs i d x B σ H1 H' y1 p e y2 y3
 ·have e:i=ds.length:=by omega
  subst e
  exact .inl ⟨g2 _ (le_refl _),hd σ H1 p⟩
theorem Xc.more {H0 Hb H:Hp}{σ:St}{ρ:Yx}{A:Nat→List Addr}(I:Xc K C H0 Hb H Γ Δ σ ρ A)(os:St):Xc K C H H H [] [] (σ++os) (ρ++List.replicate os.length none) A:=by
 refine ⟨Xx.refl _,Xx.refl _,by rw [length_append,length_append,I.len,List.length_replicate],fun i e h=>?_,fun i h=>?_,(fun _ h=>nomatch h),(fun _ h=>nomatch h),(fun _ h=>nomatch h)⟩
 ·by_cases hi:i<ρ.length
  ·rw [getElem?_append_left hi] at h
   obtain ⟨w,q1,q2⟩:=I.rep i e h
   refine ⟨w,?_,q2⟩
   rw [getElem?_append_left (by rw [I.len];exact hi)]
   exact q1
  ·rw [getElem?_append_right (by omega)] at h
   have hm:=mem_of_getElem? h
   rw [mem_replicate] at hm
   exact absurd hm.2 (by intro z;cases z)
 ·refine I.nil i fun e h'=>h e ?_
  rw [getElem?_append_left (List.getElem?_eq_some_iff.mp h').1]
  exact h'
def NOk (K:Frag)(C:String→Addr)(n k:Nat)(g:TG)(b:FB):Prop:=∀(H:Hp) (σ os:St) (ρ:Yx) (A:Nat→List Addr) (d:D) (v:V) (B:List Addr) (Rr:St→Hp→Prop),σ.length=n→os.length=k→Xc K C H H H [] [] (σ++os) ρ A→Rp K C H d v B→
 Xt (b d ρ) (fun ρ'=>∀os' A',os'.length=k→Xc K C H H H [] [] (σ++os') ρ' A'→Rr (σ++os') H) (fun _ _=>False)→g v (σ++os) H Rr
def NsOk (K:Frag)(C:String→Addr)(n k:Nat)(g:TGs)(b:List D→Yx→R Yx):Prop:=∀(H:Hp) (σ os:St) (ρ:Yx) (A:Nat→List Addr) (d:List D) (v:List V) (B:List Addr) (Rr:St→Hp→Prop),σ.length=n→os.length=k→Xc K C H H H [] [] (σ++os) ρ A→RpA K C H d v B→
 Xt (b d ρ) (fun ρ'=>∀os' A',os'.length=k→Xc K C H H H [] [] (σ++os') ρ' A'→Rr (σ++os') H) (fun _ _=>False)→g v (σ++os) H Rr
theorem Zug (k:Nat)(b:FB)(c:FT)(e:FE)(ρ:Yx)(xs:List D){i:Nat}{x:D}(h:xs[i]?=some x):Dl.Zdb k b c e ρ (xs.drop i)=(b x (ρ++List.replicate k none)).calm.bind fun ρ1=>(c ρ1).bind fun t=>if t then (e ρ1).bind fun y=>(Dl.Zdb k b c e ρ (xs.drop (i+1))).bind fun ys=>.ok (y::ys) else Dl.Zdb k b c e ρ (xs.drop (i+1)):=by
 obtain ⟨hi,rfl⟩:=List.getElem?_eq_some_iff.mp h
 rw [List.drop_eq_getElem_cons hi]
 rfl
theorem Zco {α:Type}{r:R α}{ok:α→Prop}{er:String→Option Int→Prop}(h:Xt r.calm ok er):Xt r ok (fun _ _=>False):=by
 cases r with
 | ok a=>exact h
 | err c x=>exact h
 | bad=>exact h
theorem get_set {α:Type}{l:List α}{i j:Nat}{x y:α}(h:(l.set i x)[j]?=some y):(j=i∧i<l.length∧y=x)∨(j≠i∧l[j]?=some y):=by
 by_cases e:i=j
 ·subst e
  rw [List.getElem?_set_self'] at h
  by_cases hi:i<l.length
  ·rw [getElem?_eq_getElem hi] at h
   simp at h
   exact .inl ⟨rfl,hi,h.symm⟩
  ·rw [List.getElem?_eq_none (by omega)] at h
   cases h
 ·rw [getElem?_set_ne e] at h
  exact .inr ⟨fun z=>e z.symm,h⟩
theorem Xc.put {H0 Hb H:Hp}{σ:St}{ρ:Yx}{A:Nat→List Addr}{i:Nat}{d:D}{v:V}{B:List Addr}(I:Xc K C H0 Hb H Γ Δ σ ρ A)(r:Rp K C H d v B)
  (h1:∀j∈Γ',j≠i→j∈Γ∧∀a l,A j=a::l→a∉B)
  (h2:i∈Γ'→(∀a∈B,H0 a=none)∧∀a l,B=a::l→Hb a=none∧a∉l∧∀j,j≠i→a∉A j)
  (h3:∀j∈Δ',j≠i→j∈Δ∧∀a∈A j,a∉B)
  (h4:i∈Δ'→B.Nodup∧(∀j,j≠i→∀a∈B,a∉A j)∧∀a∈B,Hb a=none):∃A',Xc K C H0 Hb H Γ' Δ' (σ.set i (some v)) (ρ.set i (some d)) A'∧∀j a,a∈A' j→a∈B∨a∈A j:=by
 by_cases hi:i<ρ.length
 ·refine ⟨fun j=>if j=i then B else A j,⟨I.s0,I.same,by rw [length_set,length_set,I.len],fun j e h=>?_,fun j h=>?_,fun j hj a ha=>?_,fun j hj a l e=>?_,fun j hj=>?_⟩,fun j a ha=>?_⟩
  ·rcases get_set h with ⟨e1,_,e2⟩ | ⟨e1,e2⟩
   ·subst e1
    cases e2
    refine ⟨v,?_,by rw [if_pos rfl];exact r⟩
    rw [getElem?_set_self (by rw [I.len];exact hi)]
   ·obtain ⟨w,q1,q2⟩:=I.rep j e e2
    refine ⟨w,?_,by rw [if_neg e1];exact q2⟩
    rw [getElem?_set_ne (fun z=>e1 z.symm)]
    exact q1
  ·by_cases e:j=i
   ·subst e
    exact absurd (getElem?_set_self hi) (h d)
   ·rw [if_neg e]
    refine I.nil j fun x hx=>h x ?_
    rw [getElem?_set_ne (fun z=>e z.symm)]
    exact hx
  ·by_cases e:j=i
   ·subst e
    rw [if_pos rfl] at ha
    exact (h2 hj).1 a ha
   ·rw [if_neg e] at ha
    exact I.loc j (h1 j hj e).1 a ha
  ·by_cases e':j=i
   ·subst e'
    rw [if_pos rfl] at e
    obtain ⟨q0,q1,q2⟩:=(h2 hj).2 a l e
    refine ⟨q0,q1,fun k hk=>?_⟩
    rw [if_neg hk]
    exact q2 k hk
   ·rw [if_neg e'] at e
    obtain ⟨q0,q⟩:=h1 j hj e'
    obtain ⟨q3,q1,q2⟩:=I.top j q0 a l e
    refine ⟨q3,q1,fun k hk=>?_⟩
    by_cases ek:k=i
    ·rw [if_pos ek];exact q a l e
    ·rw [if_neg ek];exact q2 k hk
  ·by_cases e:j=i
   ·subst e
    rw [if_pos rfl]
    obtain ⟨q1,q2,q3⟩:=h4 hj
    refine ⟨q1,fun k hk a ha=>?_,q3⟩
    rw [if_neg hk]
    exact q2 k hk a ha
   ·rw [if_neg e]
    obtain ⟨q0,q⟩:=h3 j hj e
    obtain ⟨q1,q2,q3⟩:=I.deep j q0
    refine ⟨q1,fun k hk a ha=>?_,q3⟩
    by_cases ek:k=i
    ·rw [if_pos ek];exact q a ha
    ·rw [if_neg ek];exact q2 k hk a ha
  ·have ha:a∈(if j=i then B else A j):=ha
   by_cases e:j=i
   ·rw [if_pos e] at ha;exact .inl ha
   ·rw [if_neg e] at ha;exact .inr ha
 ·have e1:ρ.set i (some d)=ρ:=List.set_eq_of_length_le (by omega)
  have e2:σ.set i (some v)=σ:=List.set_eq_of_length_le (by rw [I.len];omega)
  have e3:A i=[]:=I.nil i fun x h=>by
   have:=(List.getElem?_eq_some_iff.mp h).1
   omega
  refine ⟨A,?_,fun j a ha=>.inr ha⟩
  rw [e1,e2]
  refine ⟨I.s0,I.same,I.len,I.rep,I.nil,fun j hj a ha=>?_,fun j hj a l e=>?_,fun j hj=>?_⟩
  ·by_cases e:j=i
   ·subst e;rw [e3] at ha;cases ha
   ·exact I.loc j (h1 j hj e).1 a ha
  ·by_cases e':j=i
   ·subst e';rw [e3] at e;cases e
   ·exact I.top j (h1 j hj e').1 a l e
  ·by_cases e:j=i
   ·subst e
    rw [e3]
    exact ⟨nodup_nil,fun _ _ _ h=>(nomatch h),fun _ h=>(nomatch h)⟩
   ·exact I.deep j (h3 j hj e).1
theorem Xc.writeA {H0 Hb H:Hp}{σ:St}{ρ:Yx}{A:Nat→List Addr}{i:Nat}{es:List D}{ys:List V}{o':HO}{d':D}{B':List Addr}{a:Addr}{l:List Addr}(I:Xc K C H0 Hb H Γ Δ σ ρ A)(hi:i∈Γ)(hA:A i=a::l)(hl:i<ρ.length)(hs:σ[i]?=some (some (.ref a)))
  (mk:∀H',H' a=some o'→RpA K C H' es ys B'→Rp K C H' d' (.ref a) (a::B')) (r:RpA K C H es ys B') (hn:∀b∈B',H0 b=none) (ha:a∉B')
  (h1:∀j∈Γ',j≠i→j∈Γ∧∀b l,A j=b::l→b∉B')
  (h2:∀j∈Δ',j≠i→j∈Δ∧∀b∈A j,b∉B')
  (h3:i∈Δ'→B'.Nodup∧(∀j,j≠i→∀b∈B',b∉A j)∧∀b∈B',Hb b=none):∃A',Xc K C H0 Hb (upd H a o') Γ' Δ' σ (ρ.set i (some d')) A'∧∀j b,b∈A' j→b∈a::B'∨b∈A j:=by
 obtain ⟨xs,hxs,hm⟩:=I.is (j:=i) (a:=a) (by rw [hA];exact .head _)
 have hne:∀j,j≠i→a∉A j:=(I.top i hi a l hA).2.2
 have hb0:Hb a=none:=(I.top i hi a l hA).1
 have h0:H0 a=none:=I.loc i hi a (by rw [hA];exact .head _)
 have ext:Ext (fun b=>b=a) H (upd H a o'):=fun b o h=>by
  by_cases e:b=a
  ·subst e
   rw [hxs] at h
   cases h
   exact .inr ⟨rfl,hm⟩
  ·rw [Xw e]
   exact .inl h
 refine ⟨fun j=>if j=i then a::B' else A j,⟨I.s0,fun b o h=>?_,by rw [length_set,I.len],fun j e h=>?_,fun j h=>?_,fun j hj b hb=>?_,fun j hj b l' e=>?_,fun j hj=>?_⟩,fun j b hb=>?_⟩
 ·rw [Xw (Xn h hb0)]
  exact I.same b o h
 ·rcases get_set h with ⟨e1,_,e2⟩ | ⟨e1,e2⟩
  ·subst e1
   cases e2
   refine ⟨.ref a,hs,?_⟩
   rw [if_pos rfl]
   exact mk _ Yb (r.ext ext (fun b hb h=>ha (by rw [h] at hb;exact hb)))
  ·obtain ⟨w,q1,q2⟩:=I.rep j e e2
   refine ⟨w,q1,?_⟩
   rw [if_neg e1]
   exact q2.ext ext fun b hb h=>hne j e1 (by rw [h] at hb;exact hb)
 ·by_cases e:j=i
  ·subst e
   exact absurd (getElem?_set_self hl) (h _)
  ·rw [if_neg e]
   refine I.nil j fun x hx=>h x ?_
   rw [getElem?_set_ne (fun z=>e z.symm)]
   exact hx
 ·by_cases e:j=i
  ·subst e
   rw [if_pos rfl] at hb
   rcases List.mem_cons.mp hb with z | z
   ·rw [z];exact h0
   ·exact hn b z
  ·rw [if_neg e] at hb
   exact I.loc j (h1 j hj e).1 b hb
 ·by_cases e':j=i
  ·subst e'
   rw [if_pos rfl] at e
   cases e
   refine ⟨hb0,ha,fun k hk=>?_⟩
   rw [if_neg hk]
   exact hne k hk
  ·rw [if_neg e'] at e
   obtain ⟨q0,q⟩:=h1 j hj e'
   obtain ⟨q3,q1,q2⟩:=I.top j q0 b l' e
   refine ⟨q3,q1,fun k hk=>?_⟩
   by_cases ek:k=i
   ·rw [if_pos ek]
    intro z
    rcases List.mem_cons.mp z with z | z
    ·exact hne j e' (by rw [e,z];exact .head _)
    ·exact q b l' e z
   ·rw [if_neg ek];exact q2 k hk
 ·by_cases e:j=i
  ·subst e
   rw [if_pos rfl]
   obtain ⟨q1,q2,q3⟩:=h3 hj
   refine ⟨List.nodup_cons.mpr ⟨ha,q1⟩,fun k hk b hb=>?_,fun b hb=>?_⟩
   ·rw [if_neg hk]
    rcases List.mem_cons.mp hb with z | z
    ·rw [z];exact hne k hk
    ·exact q2 k hk b z
   ·rcases List.mem_cons.mp hb with z | z
    ·rw [z];exact hb0
    ·exact q3 b z
  ·rw [if_neg e]
   obtain ⟨q0,q⟩:=h2 j hj e
   obtain ⟨q1,q2,q3⟩:=I.deep j q0
   refine ⟨q1,fun k hk b hb=>?_,q3⟩
   by_cases ek:k=i
   ·rw [if_pos ek]
    intro z
    rcases List.mem_cons.mp z with z | z
    ·exact hne j e (by rw [← z];exact hb)
    ·exact q b hb z
   ·rw [if_neg ek];exact q2 k hk b hb
 ·by_cases e:j=i
  ·simp only [if_pos e] at hb;exact .inl hb
  ·simp only [if_neg e] at hb;exact .inr hb
theorem Xc.writeO {H0 Hb H:Hp}{σ:St}{ρ:Yx}{A:Nat→List Addr}{i:Nat}{es:List D}{ys:List V}{o':HO}{d':D}{B':List Addr}{a:Addr}{l:List Addr}(I:Xc K C H0 Hb H Γ Δ σ ρ A)(hi:i∈Γ)(hA:A i=a::l)(hl:i<ρ.length)(hs:σ[i]?=some (some (.ref a)))
  (mk:∀H',H' a=some o'→RpA K C H' es ys B'→Rp K C H' d' (.ref a) (a::B')) (r:RpA K C H es ys B') (hn:∀b∈B',H0 b=none) (ha:a∉B')
  (h1:∀j∈Γ',j≠i→j∈Γ∧∀b l,A j=b::l→b∉B')
  (h2:∀j∈Δ',j≠i→j∈Δ∧∀b∈A j,b∉B')
  (h3:i∈Δ'→B'.Nodup∧(∀j,j≠i→∀b∈B',b∉A j)∧∀b∈B',Hb b=none):∃A',Xc K C H0 Hb (upd H a o') Γ' Δ' σ (ρ.set i (some d')) A':=
 let ⟨A',h,_⟩:=I.writeA hi hA hl hs mk r hn ha h1 h2 h3;⟨A',h⟩
theorem Xc.write {H0 Hb H:Hp}{σ:St}{ρ:Yx}{A:Nat→List Addr}{i:Nat}{es:List D}{ys:List V}{B':List Addr}{a:Addr}{l:List Addr}(I:Xc K C H0 Hb H Γ Δ σ ρ A)(hi:i∈Γ)(hA:A i=a::l)(hl:i<ρ.length)(hs:σ[i]?=some (some (.ref a)))
  (r:RpA K C H es ys B') (hn:∀b∈B',H0 b=none) (ha:a∉B')
  (h1:∀j∈Γ',j≠i→j∈Γ∧∀b l,A j=b::l→b∉B')
  (h2:∀j∈Δ',j≠i→j∈Δ∧∀b∈A j,b∉B')
  (h3:i∈Δ'→B'.Nodup∧(∀j,j≠i→∀b∈B',b∉A j)∧∀b∈B',Hb b=none):∃A',Xc K C H0 Hb (upd H a (.lst ys)) Γ' Δ' σ (ρ.set i (some (.lst es))) A':=I.writeO hi hA hl hs (fun _ q1 q2=>⟨a,_,_,rfl,q1,q2,rfl⟩) r hn ha h1 h2 h3
theorem Xar {n k:Nat}(i:Nat)(h1:n≤i)(h2:i<n+k):NOk K C n k (Zap i) (Dl.Xi i):=fun H σ os ρ A d v B Rr hσ hos I r p=>by
 have e:(σ++os).set i (some v)=σ++os.set (i - n) (some v):=by rw [← hσ,List.set_append_right _ _ (by omega)]
 obtain ⟨A',I',_⟩:=I.put (Γ':=[]) (Δ':=[]) (i:=i) r (fun _ h=>nomatch h) (fun h=>nomatch h) (fun _ h=>nomatch h) (fun h=>nomatch h)
 show Rr ((σ++os).set i (some v)) H
 rw [e] at I' ⊢
 exact p _ A' (by rw [length_set];exact hos) I'
theorem Zhc {n k:Nat}{g:TG}{wi:TI}{tc:TT}{te:TE}{fi:FI}{fb:FB}{fc:FT}{fe:FE}(hi:IOk K C E Γ Δ S wi fi)(hg:NOk K C n k g fb)(hc:TOk K C E0 [] [] tc fc)(he:EOk K C E0 [] [] 2 [] te fe):EOk K C E Γ Δ 2 [] (Zdt k g wi tc te) (Dl.Zcp n k fi fb fc fe):=fun H0 Hb H σ ρ A Q I p=>by
  unfold Dl.Zcp at p
  split at p
  · rename_i hn
    refine hi H0 Hb H σ ρ A _ I (p.bind.imp (fun ds q J H1 W g1 hW hlen hJ Dd hD=>?_) fun c x q H' g'=>q H' g')
    have I1:=I.mono g1
    have go:Goes K C J ds H1:=hJ H1 ⟨fun _ _=>rfl,fun b o h _=>h⟩
    have q':=Zco q.bind
    refine Xdx go (fun i H2=>Xx H1 H2∧∃(us:List D) (ys:List V) (B':List Addr),H2 Dd=some (.lst ys)∧us.length≤i∧RpA K C H2 us ys B'∧B'.Nodup∧Dd∉B'∧(∀a∈B',H1 a=none)∧
      Xt (Dl.Zdb k fb fc fe ρ (ds.drop i)) (fun zs=>∀v H',Xx H H'→Res K C 2 [] H A (.lst (us++zs)) v H'→Q v H') (fun _ _=>False)) ⟨sameNew hD _,[],[],[],Yb,le_refl _,RpA.nil,nodup_nil,(fun h=>nomatch h),(fun _ h=>nomatch h),q'⟩ (fun _ _ h=>h.1) ?_ ?_
    · rintro i x v Bx H2a H2 hx ⟨g2a,us,ys,B',hD2,hul,ru,nd,hDB,hnew,pq⟩ g2b rx _ os hos
      have g2:=g2a.trans g2b
      have hil:=(List.getElem?_eq_some_iff.mp hx).1
      rw [Zug _ _ _ _ _ _ hx] at pq
      have I2:=(I1.mono g2).more os
      have pq':=Zco pq.bind
      rw [← hos] at pq'
      refine hg H2 σ os _ A x v Bx _ (by rw [I.len,hn]) hos I2 rx (pq'.imp (fun ρ1 pq os1 A1 ho1 I3=>⟨⟨os1,ho1,rfl⟩,?_⟩) fun _ _ z=>z)
      refine hc H2 H2 H2 _ _ _ _ I3 (pq.bind.imp (fun b pq H3 g3=>?_) fun _ _ z=>z.elim)
      have hD2':=g2b _ _ hD2
      have ru':=ru.same g2b
      cases b with
      | false =>
        simp only [Bool.false_eq_true,if_false] at pq ⊢
        rw [hos] at pq
        exact ⟨g2.trans g3,us,ys,B',g3 _ _ hD2',by omega,ru'.same g3,nd,hDB,hnew,pq⟩
      | true =>
        simp only [if_true] at pq ⊢
        refine he H2 H2 H3 _ _ _ _ (I3.mono g3) (pq.bind.imp (fun y pq w H4 g4 r4=>?_) fun _ _ z=>z.elim)
        rw [hos] at pq
        obtain ⟨By,ry,hy1,_,hy2⟩:=r4
        have g24:=g3.trans g4
        have hD4:=g24 _ _ hD2'
        have hnewy:∀a∈By,H3 a=none:=fun a ha=>(hy1 a ha).elim id fun z=>z.none.elim
        have hDy:Dd∉By:=fun h=>by
          have z:=hnewy Dd h
          rw [g3 _ _ hD2'] at z
          cases z
        have ext:Ext (fun a=>a=Dd) H4 (upd H4 Dd (.lst (ys++[w]))):=fun b o h=>by
          by_cases e:b=Dd
          · subst e
            rw [hD4] at h
            cases h
            exact .inr ⟨rfl,.lst⟩
          · rw [Xw e]
            exact .inl h
        have hDB':Dd∉B'++By:=fun h=>(List.mem_append.mp h).elim hDB hDy
        refine ⟨ys,hD4,?_,?_,us++[y],ys++[w],B'++By,Yb,by rw [length_append];simp;omega,?_,?_,hDB',?_,?_⟩
        · rw [ru.len]
          exact Zko (by omega)
        · intro b o h
          have hb:b≠Dd:=Xn h hD
          rw [Xw hb]
          exact (g2.trans g24) b o h
        · exact ((ru'.same g24).app (RpA.one ry)).ext ext fun a ha h=>hDB' (by rw [h] at ha;exact ha)
        · refine List.nodup_append.mpr ⟨nd,hy2 rfl,fun a ha b hb e=>?_⟩
          subst e
          obtain ⟨xs,z,_⟩:=(ru'.same g3).isl a ha
          rw [hnewy a hb] at z
          cases z
        · intro a ha
          rcases List.mem_append.mp ha with h | h
          · exact hnew a h
          · exact (g2.trans g3).free (hnewy a h)
        · exact pq.bind.imp (fun zs pq v H' g' r=>by
            rw [append_assoc] at r
            exact pq v H' g' r) fun _ _ z=>z
    · rintro H2 ⟨g2,us,ys,B',hD2,hul,ru,nd,hDB,hnew,pq⟩
      rw [List.drop_length] at pq
      have pq:∀v H',Xx H H'→Res K C 2 [] H A (.lst (us++[])) v H'→Q v H':=pq
      rw [append_nil] at pq
      refine pq _ H2 (g1.trans g2) ⟨Dd::B',⟨Dd,ys,B',rfl,hD2,ru,rfl⟩,fun a ha=>.inl ?_,(fun z=>nomatch z),fun _=>List.nodup_cons.mpr ⟨hDB,nd⟩⟩
      rcases List.mem_cons.mp ha with h | h
      · rw [h];exact g1.free hD
      · exact g1.free (hnew a h)
  · exact p.elim
end
section
variable {K:Frag}{C:String→Addr}{E:XK}{Γ Δ Γ' Δ' Γ1 Δ1 Γl Δl Γk Δk:List Nat}{m m1 m2 m3 mr:Nat}{S S1 S2 S3:List (Nat×Bool)}{H:Hp}{Q:VK}
theorem Znl.weak {H0 Hb:Hp}{D:Ends}{r:R Fl}(h:Znl K C E mr Γl Δl Γ' Δ' H0 Hb D r)(h1:∀i∈Γ',i∈Γ1)(h2:∀i∈Δ',i∈Δ1):Znl K C E mr Γl Δl Γ1 Δ1 H0 Hb D r:=by
 unfold Znl at *
 refine Xt.imp h (fun fl q=>?_) fun _ _ q=>q
 cases fl with
 | nx ρ'=>exact fun σ' H' A' I=>q σ' H' A' (I.weak h1 h2)
 | ret d=>exact q
 | brk ρ'=>exact q
 | cnt ρ'=>exact q
theorem Xas {t:TS}{f:FS}(h:SOk K C E mr Γl Δl Γ Δ Γ1 Δ1 t f)(h1:∀i∈Γ',i∈Γ1:=by decide)(h2:∀i∈Δ',i∈Δ1:=by decide):SOk K C E mr Γl Δl Γ Δ Γ' Δ' t f:=fun H0 Hb H σ ρ A D I p =>
 h H0 Hb H σ ρ A D I (p.weak h1 h2)
theorem Xpk:SOk K C E mr Γl Δl Γ Δ Γ Δ Zuj Dl.sNx:=fun _ _ H σ _ A _ I p=>p σ H A I
theorem Zxh:SOk K C E mr Γl Δl Γ Δ Γ' Δ' Zrm Dl.Zih:=fun _ _ _ _ _ _ _ _ p=>p.elim
theorem Xir {t u:TS}{f g:FS}(h1:SOk K C E mr Γl Δl Γ Δ Γ1 Δ1 t f)(h2:SOk K C E mr Γl Δl Γ1 Δ1 Γ' Δ' u g):SOk K C E mr Γl Δl Γ Δ Γ' Δ' (Xly t u) (Dl.Xp f g):=fun H0 Hb H σ ρ A D I p =>
  h1 H0 Hb H σ ρ A _ I (Xt.imp (Xt.bind p) (fun fl q=>by
    cases fl with
    | nx ρ'=>exact fun σ' H' A' I'=>h2 H0 Hb H' σ' ρ' A' D I' q
    | ret d=>exact q
    | brk ρ'=>exact q
    | cnt ρ'=>exact q) fun _ _ q=>q)
theorem Xx.from0 {H0 Hb H H':Hp}{σ:St}{ρ:Yx}{A:Nat→List Addr}(I:Xc K C H0 Hb H Γ Δ σ ρ A)(g:Xx H H'):Xx H0 H':=I.s0.trans (I.same.trans g)
theorem Xc.top_out {H0 Hb H:Hp}{σ:St}{ρ:Yx}{A:Nat→List Addr}(I:Xc K C H0 Hb H Γ Δ σ ρ A){j:Nat}(hj:j∈Γ)(hS:(j,false)∉S){a:Addr}{l:List Addr}(e:A j=a::l):¬InS A S a:=fun h=>by
 obtain ⟨q0,q1,q2⟩:=I.top j hj a l e
 obtain ⟨p,hp,q⟩:=h
 split at q
 ·by_cases ep:p.1=j
  ·rw [ep,e] at q
   exact q1 q
  ·exact q2 p.1 ep (List.mem_of_mem_tail q)
 ·rename_i hf
  by_cases ep:p.1=j
  ·refine hS ?_
   have:p=(j,false):=by
    obtain ⟨p1,p2⟩:=p
    simp at ep hf
    rw [ep,hf]
   rw [← this]
   exact hp
  ·exact q2 p.1 ep q
theorem Xc.deep_out {H0 Hb H:Hp}{σ:St}{ρ:Yx}{A:Nat→List Addr}(I:Xc K C H0 Hb H Γ Δ σ ρ A){j:Nat}(hj:j∈Δ)(hS:∀p∈S,p.1≠j){a:Addr}(e:a∈A j):¬InS A S a:=fun h=>by
 obtain ⟨p,hp,q⟩:=h.mem
 exact (I.deep j hj).2.1 p.1 (hS p hp) a e q
theorem Zlt {i:Nat}{te:TE}{fe:FE}(he:EOk K C E Γ Δ 2 [] te fe)(h1:∀j∈Γ',j=i∨j∈Γ:=by decide)(h2:∀j∈Δ',j=i∨j∈Δ:=by decide):SOk K C E mr Γl Δl Γ Δ Γ' Δ' (Zjd te (Zap i)) (Dl.Yg i fe):=fun H0 Hb H σ ρ A D I p =>
  he H0 Hb H σ ρ A _ I (Xt.imp (Xt.bind p) (fun d q v H1 g1 r=>by
    obtain ⟨B,r1,r2,r3,r4⟩:=r
    have hn:∀a∈B,H a=none:=fun a ha=>(r2 a ha).elim id fun z=>z.none.elim
    have nd:=r4 rfl
    obtain ⟨A',I',_⟩:=(I.mono g1).put (Γ':=Γ') (Δ':=Δ') (i:=i) r1 (fun j hj e=>⟨(h1 j hj).elim (fun z=>absurd z e) id,fun a l e' ha=>I.ne (j:=j) (by rw [e'];exact .head _) (hn a ha)⟩)
      (fun _=>⟨fun a ha=>I.s0.free (I.same.free (hn a ha)),fun a l e=>by subst e;exact ⟨I.same.free (hn a (.head _)),(List.nodup_cons.mp nd).1,fun j _ h=>I.ne h (hn a (.head _))⟩⟩)
      (fun j hj e=>⟨(h2 j hj).elim (fun z=>absurd z e) id,fun a ha hB=>I.ne ha (hn a hB)⟩)
      (fun _=>⟨nd,fun j _ a ha h=>I.ne h (hn a ha),fun a ha=>I.same.free (hn a ha)⟩)
    exact q _ H1 A' I') fun c x q H' g'=>q H' (Xx.from0 I g'))
theorem Xal {i:Nat}{te:TE}{fe:FE}(he:EOk K C E Γ Δ m S te fe)(h1:∀j∈Γ',j≠i∧j∈Γ∧(j,false)∉S:=by decide)(h2:∀j∈Δ',j≠i∧j∈Δ∧∀p∈S,p.1≠j:=by decide) :
    SOk K C E mr Γl Δl Γ Δ Γ' Δ' (Zjd te (Zap i)) (Dl.Yg i fe):=fun H0 Hb H σ ρ A D I p =>
  he H0 Hb H σ ρ A _ I (Xt.imp (Xt.bind p) (fun d q v H1 g1 r=>by
    obtain ⟨B,r1,r2,r3,r4⟩:=r
    obtain ⟨A',I',_⟩:=(I.mono g1).put (Γ':=Γ') (Δ':=Δ') (i:=i) r1 (fun j hj e=>by
        obtain ⟨_,q1,q2⟩:=h1 j hj
        exact ⟨q1,fun a l e' ha=>(r2 a ha).elim (fun z=>I.ne (j:=j) (by rw [e'];exact .head _) z) (I.top_out q1 q2 e')⟩)
      (fun hj=>absurd rfl (h1 i hj).1)
      (fun j hj e=>⟨(h2 j hj).2.1,fun a ha hB=>(r2 a hB).elim (fun z=>I.ne ha z) (I.deep_out (h2 j hj).2.1 (h2 j hj).2.2 ha)⟩)
      (fun hj=>absurd rfl (h2 i hj).1)
    exact q _ H1 A' I') fun c x q H' g'=>q H' (Xx.from0 I g'))
theorem Xek {te:TE}{fe:FE}(he:EOk K C E Γ Δ 2 S te fe)(h0:∀p∈S,p.1∈Δ:=by decide):SOk K C E 2 Γl Δl Γ Δ Γ' Δ' (Xme te) (Dl.Zaq fe):=fun H0 Hb H σ ρ A D I p =>
  he H0 Hb H σ ρ A _ I (Xt.imp (Xt.bind p) (fun d q v H1 g1 r=>by
    obtain ⟨B,r1,r2,r3,r4⟩:=r
    refine q v H1 (Xx.from0 I g1) ⟨B,r1,fun a ha=>.inl ((r2 a ha).elim (fun z=>I.s0.free (I.same.free z)) fun z=>?_),(fun z=>nomatch z),r4⟩
    obtain ⟨p,hp,z⟩:=z.mem
    exact I.s0.free ((I.deep p.1 (h0 p hp)).2.2 a z)) fun c x q H' g'=>q H' (Xx.from0 I g'))
theorem Xpv {tc:TT}{t u:TS}{fc:FT}{f g:FS}(hc:TOk K C E Γ Δ tc fc)(h1:SOk K C E mr Γl Δl Γ Δ Γ' Δ' t f)(h2:SOk K C E mr Γl Δl Γ Δ Γ' Δ' u g):SOk K C E mr Γl Δl Γ Δ Γ' Δ' (Xmg tc t u) (Dl.sIf fc f g):=fun H0 Hb H σ ρ A D I p =>
  hc H0 Hb H σ ρ A _ I (Xt.imp (Xt.bind p) (fun b q H1 g1=>by
    cases b with
    | true=>exact h1 H0 Hb H1 σ ρ A D (I.mono g1) q
    | false=>exact h2 H0 Hb H1 σ ρ A D (I.mono g1) q) fun c x q H' g'=>q H' (Xx.from0 I g'))
theorem Zhe {H0 Hb H:Hp}{σ:St}{ρ:Yx}{A:Nat→List Addr}{i:Nat}{ds:List D}(I:Xc K C H0 Hb H Γ Δ σ ρ A)(e:ρ[i]?=some (some (.lst ds))):∃a xs l,σ[i]?=some (some (.ref a))∧H a=some (.lst xs)∧RpA K C H ds xs l∧A i=a::l∧i<ρ.length:=by
 obtain ⟨v,q1,a,xs,l,rfl,q3,q4,q5⟩:=I.rep i _ e
 exact ⟨a,xs,l,q1,q3,q4,q5,(List.getElem?_eq_some_iff.mp e).1⟩
theorem Xec {i:Nat}{te:TE}{fe:FE}(hi:i∈Γ:=by decide)(he:EOk K C E Γ Δ 2 [] te fe):SOk K C E mr Γl Δl Γ Δ Γ Δ (Zmc (tBM K "list" Zdf (Zoc i) (Zdn te Zqa))) (Dl.Zhg i fe):=fun H0 Hb H σ ρ A D I p=>by
  unfold Dl.Zhg at p
  split at p
  · rename_i ds e
    obtain ⟨a,xs,l,s1,h1,r1,hA,hl⟩:=Zhe I e
    refine ⟨.ref a,s1,.inl ⟨rfl,xs,SqL.of h1⟩,he H0 Hb H σ ρ A _ I (Xt.imp (Xt.bind p) (fun d q v H1 g1 r=>?_) fun c x q H' g'=>q H' (Xx.from0 I g'))⟩
    split at q
    · rename_i hz
      obtain ⟨B,r2,r3,_,r4⟩:=r
      have hn:∀a∈B,H a=none:=fun a ha=>(r3 a ha).elim id fun z=>z.none.elim
      have h1':=g1 _ _ h1
      show Zdf (.ref a) [v] H1 fun _ H3=>D.nx σ H3
      refine Xfx h1' (by rw [r1.len];exact Zko hz) ?_
      obtain ⟨tb,ta,tt⟩:=I.top i hi a l hA
      have I1:=I.mono g1
      have haB:a∉B:=fun z=>by
        have:=hn a z
        rw [h1] at this
        cases this
      have w1:∀b∈l++B,H0 b=none:=fun b hb=>by
        rcases List.mem_append.mp hb with z | z
        · exact I.loc i hi b (by rw [hA];exact .tail _ z)
        · exact I.s0.free (I.same.free (hn b z))
      have w2:∀j∈Γ,j≠i→j∈Γ∧∀b l',A j=b::l'→b∉l++B:=fun j hj e=>⟨hj,fun b l' e' z=>by
        rcases List.mem_append.mp z with z | z
        · exact (I.top j hj b l' e').2.2 i (fun w=>e w.symm) (by rw [hA];exact .tail _ z)
        · exact I.ne (j:=j) (by rw [e'];exact .head _) (hn b z)⟩
      have w3:∀j∈Δ,j≠i→j∈Δ∧∀b∈A j,b∉l++B:=fun j hj e=>⟨hj,fun b hb z=>by
        rcases List.mem_append.mp z with z | z
        · exact (I.deep j hj).2.1 i (fun w=>e w.symm) b hb (by rw [hA];exact .tail _ z)
        · exact I.ne hb (hn b z)⟩
      have w4:i∈Δ→(l++B).Nodup∧(∀j,j≠i→∀b∈l++B,b∉A j)∧∀b∈l++B,Hb b=none:=fun hd=>by
        obtain ⟨d1,d2,d3⟩:=I.deep i hd
        rw [hA] at d1 d2 d3
        refine ⟨List.nodup_append.mpr ⟨(List.nodup_cons.mp d1).2,r4 rfl,fun x hx y hy e=>?_⟩,fun j hj b hb=>?_,fun b hb=>?_⟩
        · subst e
          exact I.ne (j:=i) (by rw [hA];exact .tail _ hx) (hn x hy)
        · rcases List.mem_append.mp hb with z | z
          · exact d2 j hj b (.tail _ z)
          · exact fun w=>I.ne w (hn b z)
        · rcases List.mem_append.mp hb with z | z
          · exact d3 b (.tail _ z)
          · exact I.same.free (hn b z)
      obtain ⟨A',I'⟩:=I1.write (Γ':=Γ) (Δ':=Δ) hi hA hl s1 ((r1.same g1).app (RpA.one r2)) w1 (fun z=>(List.mem_append.mp z).elim ta haB) w2 w3 w4
      exact q _ _ A' I'
    · exact q.elim
  · exact p.elim
def BOk (K:Frag)(C:String→Addr)(Γ Δ:List Nat)(g:TG)(b:FB):Prop:=∀(H0 Hb H:Hp) (σ:St) (ρ:Yx) (A:Nat→List Addr) (d:D) (v:V) (B:List Addr) (Rr:St→Hp→Prop),Xc K C H0 Hb H Γ Δ σ ρ A→Rp K C H d v B→(∀a∈B,Hb a≠none)→
 Xt (b d ρ) (fun ρ'=>∀σ' A',Xc K C H0 Hb H Γ Δ σ' ρ' A'→Rr σ' H) (fun _ _=>False)→g v σ H Rr
def Xpi (K:Frag)(C:String→Addr)(Γ Δ:List Nat)(g:TGs)(b:List D→Yx→R Yx):Prop:=∀(H0 Hb H:Hp) (σ:St) (ρ:Yx) (A:Nat→List Addr) (d:List D) (v:List V) (B:List Addr) (Rr:St→Hp→Prop),Xc K C H0 Hb H Γ Δ σ ρ A→RpA K C H d v B→(∀a∈B,Hb a≠none)→
 Xt (b d ρ) (fun ρ'=>∀σ' A',Xc K C H0 Hb H Γ Δ σ' ρ' A'→Rr σ' H) (fun _ _=>False)→g v σ H Rr
theorem Xcj {i:Nat}(h1:i∉Γ:=by decide)(h2:i∉Δ:=by decide):BOk K C Γ Δ (Zap i) (Dl.Xi i):=fun H0 Hb H σ ρ A d v B Rr I r hB p=>by
 obtain ⟨A',I',_⟩:=I.put (Γ':=Γ) (Δ':=Δ) (i:=i) r (fun j hj e=>⟨hj,fun a l e' ha=>hB a ha (I.top j hj a l e').1⟩) (fun hj=>absurd hj h1) (fun j hj e=>⟨hj,fun a ha hb=>hB a hb ((I.deep j hj).2.2 a ha)⟩) (fun hj=>absurd hj h2)
 exact p _ A' I'
theorem Xlj:Xpi K C Γ Δ Xmh Dl.Ztq:=fun H0 Hb H σ ρ A d v B Rr I r hB p=>by
 cases d with
 | nil=>exact ⟨r.1,p _ A I⟩
 | cons _ _=>exact p.elim
theorem Xan {g:TG}{gs:TGs}{b:FB}{bs:List D→Yx→R Yx}(h1:BOk K C Γ Δ g b)(h2:Xpi K C Γ Δ gs bs):Xpi K C Γ Δ (Zuf g gs) (Dl.Zaj b bs):=fun H0 Hb H σ ρ A d v B Rr I r hB p=>by
 cases d with
 | nil=>exact p.elim
 | cons d ds =>
  obtain ⟨x,l,B1,B2,e1,e2,e3,e4⟩:=r
  subst e1 e4
  refine ⟨x,l,rfl,h1 H0 Hb H σ ρ A d x B1 _ I e2 (fun a ha=>hB a (mem_append_left _ ha)) (Xt.imp (Xt.bind p) (fun ρ1 q σ1 A1 I1=>?_) fun _ _ z=>z)⟩
  exact h2 H0 Hb H σ1 ρ1 A1 ds l B2 Rr I1 e3 (fun a ha=>hB a (mem_append_right _ ha)) q
theorem Xiz {gs:TGs}{bs:List D→Yx→R Yx}{n:Nat}(hn:∀ds ρ ρ',bs ds ρ=.ok ρ'→ds.length=n)(h:Xpi K C Γ Δ gs bs):BOk K C Γ Δ (Ziz K n gs) (Dl.Ztd bs):=fun H0 Hb H σ ρ A d v B Rr I r hB p=>by
 cases d with
 | tup ds =>
  obtain ⟨a,xs,rfl,e2,e3⟩:=r
  have hl:xs.length=n:=by
   rw [e3.len]
   have p':Xt (bs ds ρ) (fun ρ'=>∀σ' A',Xc K C H0 Hb H Γ Δ σ' ρ' A'→Rr σ' H) (fun _ _=>False):=p
   cases e:bs ds ρ with
   | ok ρ'=>exact hn ds ρ ρ' e
   | err _ _=>rw [e] at p';exact p'.elim
   | bad=>rw [e] at p';exact p'.elim
  exact ⟨a,xs,rfl,SqT.of e2,hl,h H0 Hb H σ ρ A ds xs B Rr I e3 hB p⟩
 | _=>exact p.elim
theorem Xfl (ds:List D)(ρ ρ':Yx)(h:Dl.Ztq ds ρ=.ok ρ'):ds.length=0:=by
 cases ds with
 | nil=>rfl
 | cons _ _=>cases h
theorem Zyh {n:Nat}{b:FB}{bs:List D→Yx→R Yx}(hb:∀ds ρ ρ',bs ds ρ=.ok ρ'→ds.length=n)(ds:List D)(ρ ρ':Yx)(h:Dl.Zaj b bs ds ρ=.ok ρ'):ds.length=n+1:=by
 cases ds with
 | nil=>cases h
 | cons d ds =>
  have h:((b d ρ).bind fun ρ'=>bs ds ρ')=.ok ρ':=h
  cases e:b d ρ with
  | ok ρ1 =>
   rw [e] at h
   rw [length_cons,hb ds ρ1 ρ' h]
  | err _ _=>rw [e] at h;cases h
  | bad=>rw [e] at h;cases h
noncomputable def ownAt (A:Nat→List Addr)(Γ Δ:List Nat):List Addr:=Γ.flatMap (fun i=>(A i).take 1)++Δ.flatMap A
theorem Zdr {A:Nat→List Addr}{a:Addr}(h:a∈ownAt A Γ Δ):(∃i∈Γ,∃l,A i=a::l)∨∃i∈Δ,a∈A i:=by
 rcases List.mem_append.mp h with h | h
 ·obtain ⟨i,hi,h⟩:=List.mem_flatMap.mp h
  left
  refine ⟨i,hi,?_⟩
  cases e:A i with
  | nil=>rw [e] at h;cases h
  | cons b l =>
   rw [e] at h
   simp only [List.take_succ_cons,List.take_zero,List.mem_singleton] at h
   rw [h]
   exact ⟨l,rfl⟩
 ·obtain ⟨i,hi,h⟩:=List.mem_flatMap.mp h
  exact .inr ⟨i,hi,h⟩
theorem Zxv {A:Nat→List Addr}{i:Nat}(hi:i∈Γ){a:Addr}{l:List Addr}(e:A i=a::l):a∈ownAt A Γ Δ:=mem_append_left _ (List.mem_flatMap.mpr ⟨i,hi,by rw [e];simp⟩)
theorem Zrt {A:Nat→List Addr}{i:Nat}(hi:i∈Δ){a:Addr}(h:a∈A i):a∈ownAt A Γ Δ:=mem_append_right _ (List.mem_flatMap.mpr ⟨i,hi,h⟩)
theorem Zjl (b:FB)(s:FS)(xs:List D){i:Nat}{x:D}(h:xs[i]?=some x)(ρ:Yx):Dl.Zdz b s (xs.drop i) ρ=(b x ρ).calm.bind fun ρ1=>(s ρ1).bind fun fl=>match fl with
  | .nx ρ2=>Dl.Zdz b s (xs.drop (i+1)) ρ2
  | .cnt ρ2=>Dl.Zdz b s (xs.drop (i+1)) ρ2
  | .brk ρ2=>.ok (.nx ρ2)
  | .ret d=>.ok (.ret d):=by
 obtain ⟨hi,rfl⟩:=List.getElem?_eq_some_iff.mp h
 rw [List.drop_eq_getElem_cons hi]
 rfl
theorem Xgy {wi:TI}{g:TG}{tb:TS}{fi:FI}{fb:FB}{fs:FS}(hi:IOk K C E Γ Δ S wi fi)(hb:BOk K C Γl Δl g fb)(hs:SOk K C E mr Γl Δl Γl Δl Γl Δl tb fs)
    (h1:∀i∈Γl,i∈Γ:=by decide) (h2:∀i∈Δl,i∈Δ:=by decide) (h3:∀p∈S,p.1∉Γl∧p.1∉Δl:=by decide):SOk K C E mr Γk Δk Γ Δ Γl Δl (Xmj wi g tb) (Dl.Zjj fi fb fs):=fun H0 Hb H σ ρ A D I p=>by
  refine hi H0 Hb H σ ρ A _ I (Xt.imp (Xt.bind p) (fun ds q J H1 W g1 hW hlen hJ=>?_) fun c x q H' g'=>q H' (Xx.from0 I g'))
  have I1:=(I.mono g1).weak h1 h2
  have hlst:∀a∈ownAt A Γl Δl,∃o,H1 a=some o∧IsM o:=fun a ha=>by
    rcases Zdr ha with ⟨i,_,l,e⟩ | ⟨i,_,e⟩
    · exact I1.is (j:=i) (by rw [e];exact .head _)
    · exact I1.is e
  have hbn:∀a∈ownAt A Γl Δl,Hb a=none:=fun a ha=>by
    rcases Zdr ha with ⟨i,hi,l,e⟩ | ⟨i,hi,e⟩
    · exact (I1.top i hi a l e).1
    · exact (I1.deep i hi).2.2 a e
  have hout:∀a∈W,a∉ownAt A Γl Δl:=fun a ha ho=>by
    rcases (hW a ha).2 with z | z
    · rcases Zdr ho with ⟨i,hi,l,e⟩ | ⟨i,hi,e⟩
      · exact I.ne (j:=i) (by rw [e];exact .head _) z
      · exact I.ne e z
    · rcases Zdr ho with ⟨i,hi,l,e⟩ | ⟨i,hi,e⟩
      · exact I1.top_out hi (fun h=>(h3 _ h).1 hi) e z
      · exact I1.deep_out hi (fun p hp e'=>(h3 p hp).2 (by rw [e'];exact hi)) e z
  let Hc:Hp:=fun b=>if b∈ownAt A Γl Δl then none else H1 b
  have c1:Xx Hc H1:=fun b o h=>by
    show H1 b=some o
    have h:(if b∈ownAt A Γl Δl then none else H1 b)=some o:=h
    split at h
    · cases h
    · exact h
  have c2:Xx Hb Hc:=fun b o h=>by
    show (if b∈ownAt A Γl Δl then none else H1 b)=some o
    rw [if_neg fun ho=>by rw [hbn b ho] at h;cases h]
    exact I1.same b o h
  have c3:∀a,a∉ownAt A Γl Δl→Hc a=H1 a:=fun a ha=>if_neg ha
  have c4:∀a∈ownAt A Γl Δl,Hc a=none:=fun a ha=>if_pos ha
  have I2:Xc K C H0 Hc H1 Γl Δl σ ρ A:=⟨I1.s0.trans c2,c1,I1.len,I1.rep,I1.nil,I1.loc,fun i hi a l e=>⟨c4 a (Zxv hi e),(I1.top i hi a l e).2⟩,fun i hi=>⟨(I1.deep i hi).1,(I1.deep i hi).2.1,fun a ha=>c4 a (Zrt hi ha)⟩⟩
  have back:∀{σ':St} {ρ':Yx} {H':Hp} {A':Nat→List Addr},Xc K C H0 Hc H' Γl Δl σ' ρ' A'→Xc K C H0 Hb H' Γl Δl σ' ρ' A':=fun I' =>
    ⟨I1.s0,c2.trans I'.same,I'.len,I'.rep,I'.nil,I'.loc,fun i hi a l e=>⟨c2.free (I'.top i hi a l e).1,(I'.top i hi a l e).2⟩,fun i hi=>⟨(I'.deep i hi).1,(I'.deep i hi).2.1,fun a ha=>c2.free ((I'.deep i hi).2.2 a ha)⟩⟩
  have go:Goes K C J ds Hc:=hJ Hc ⟨fun a ha=>c3 a (hout a ha),fun b o h hn=>(c3 b fun ho=>by
    obtain ⟨xs,e,hm⟩:=hlst b ho
    rw [e] at h
    cases h
    exact hn hm).trans h⟩
  refine Zuv go (fun k σ' H'=>∃ρ' A',Xc K C H0 Hc H' Γl Δl σ' ρ' A'∧Znl K C E mr Γk Δk Γl Δl H0 Hb D (Dl.Zdz fb fs (ds.drop k) ρ')) ⟨ρ,A,I2,q⟩ (fun _ _ _ ⟨_,_,I',_⟩=>I'.same) ?_ ?_
  · rintro k d x Bx σ' Ha H' hd ⟨ρ',A',Ia,pq⟩ ga rx hBx
    have I':=Ia.mono ga
    rw [Zjl _ _ _ hd] at pq
    have pq':=Zco (Xt.bind pq)
    refine hb H0 Hc H' σ' ρ' A' d x Bx _ I' rx hBx (Xt.imp pq' (fun ρ1 pq σ1 A1 I1'=>?_) fun _ _ z=>z)
    refine hs H0 Hc H' σ1 ρ1 A1 _ I1' (Xt.imp (Xt.bind pq) (fun fl pq=>?_) fun _ _ z=>z)
    cases fl with
    | nx ρ2=>exact fun σ2 H2 A2 I2'=>⟨ρ2,A2,I2',pq⟩
    | cnt ρ2=>exact fun σ2 H2 A2 I2'=>⟨ρ2,A2,I2',pq⟩
    | brk ρ2=>exact fun σ2 H2 A2 I2'=>pq σ2 H2 A2 (back I2')
    | ret d=>exact pq
  · rintro σ' H' ⟨ρ',A',I',pq⟩
    rw [List.drop_length] at pq
    exact pq σ' H' A' (back I')
theorem Zyd {n:Nat}{tc:TT}{tb:TS}{fc:FT}{fs:FS}(hc:TOk K C E Γ Δ tc fc)(hs:SOk K C E mr Γ Δ Γ Δ Γ Δ tb fs):SOk K C E mr Γk Δk Γ Δ Γ Δ (Zkc tc tb) (Dl.Zek n fc fs):=fun H0 Hb H σ ρ A D I p=>by
 refine ⟨fun k σ' H'=>∃ρ' A',Xc K C H0 Hb H' Γ Δ σ' ρ' A'∧Znl K C E mr Γk Δk Γ Δ H0 Hb D (Dl.Jx fc fs k ρ'),⟨n,ρ,A,I,p⟩,?_⟩
 rintro k σ' H' ⟨ρ',A',I',pq⟩
 cases k with
 | zero=>exact pq.elim
 | succ k =>
  refine hc H0 Hb H' σ' ρ' A' _ I' (Xt.imp (Xt.bind pq) (fun b pq H1 g1=>?_) fun c x q H' g'=>q H' (Xx.from0 I' g'))
  cases b with
  | false =>
   simp only [Bool.false_eq_true,if_false] at pq ⊢
   exact pq σ' H1 A' (I'.mono g1)
  | true =>
   simp only [if_true] at pq ⊢
   refine ⟨fun σ2 H2=>∃ρ2 A2,Xc K C H0 Hb H2 Γ Δ σ2 ρ2 A2∧Znl K C E mr Γk Δk Γ Δ H0 Hb D (Dl.Jx fc fs k ρ2),fun σ2 H2 h=>⟨k,Nat.lt_succ_self k,h⟩,?_⟩
   refine hs H0 Hb H1 σ' ρ' A' _ (I'.mono g1) (Xt.imp (Xt.bind pq) (fun fl pq=>?_) fun _ _ z=>z)
   cases fl with
   | nx ρ2=>exact fun σ2 H2 A2 I2'=>⟨ρ2,A2,I2',pq⟩
   | cnt ρ2=>exact fun σ2 H2 A2 I2'=>⟨ρ2,A2,I2',pq⟩
   | brk ρ2=>exact fun σ2 H2 A2 I2'=>pq σ2 H2 A2 I2'
   | ret d=>exact pq
theorem Zmh {N:Nat}{ds:List D}{vs:List V}{B:List Addr}{H:Hp}(r:RpA K C H ds vs B):∃A,Xc K C H H H [] [] (vs.map some++List.replicate (N - vs.length) none) (ds.map some++List.replicate (N - ds.length) none) A:=by
 have hl:=r.len
 have key:∀{ds:List D} {vs:List V} {B:List Addr},RpA K C H ds vs B→∃A:Nat→List Addr,(∀(i:Nat) d,ds[i]?=some d→∃v,vs[i]?=some v∧Rp K C H d v (A i))∧∀i,ds.length≤i→A i=[]:=by
  intro ds
  induction ds with
  | nil=>intro vs B r;exact ⟨fun _=>[],fun i d h=>by simp at h,fun _ _=>rfl⟩
  | cons d ds ih =>
   intro vs B r
   obtain ⟨x,l,B1,B2,e1,e2,e3,e4⟩:=r
   obtain ⟨A,h1,h2⟩:=ih e3
   subst e1
   refine ⟨fun i=>match i with | 0=>B1 | i+1=>A i,fun i d' h=>?_,fun i h=>?_⟩
   ·cases i with
    | zero=>simp at h;subst h;exact ⟨x,rfl,e2⟩
    | succ i=>simp at h;obtain ⟨v,q1,q2⟩:=h1 i d' h;exact ⟨v,by simpa using q1,q2⟩
   ·cases i with
    | zero=>simp at h
    | succ i=>exact h2 i (by simpa using h)
 obtain ⟨A,h1,h2⟩:=key r
 refine ⟨A,Xx.refl _,Xx.refl _,by simp [hl],fun i d h=>?_,fun i h=>?_,(fun _ h=>nomatch h),(fun _ h=>nomatch h),(fun _ h=>nomatch h)⟩
 ·by_cases hi:i<ds.length
  ·rw [getElem?_append_left (by simpa using hi),getElem?_map] at h
   obtain ⟨d',hd,e⟩:=Option.map_eq_some_iff.mp h
   cases e
   obtain ⟨v,q1,q2⟩:=h1 i d hd
   refine ⟨v,?_,q2⟩
   rw [getElem?_append_left (by simp [hl,hi]),getElem?_map,q1]
   rfl
  ·rw [getElem?_append_right (by simpa using hi)] at h
   have:=mem_of_getElem? h
   rw [mem_replicate] at this
   exact absurd this.2 (by intro z;cases z)
 ·by_cases hi:i<ds.length
  ·exact absurd (by rw [getElem?_append_left (by simpa using hi),getElem?_map,getElem?_eq_getElem hi];rfl) (h ds[i])
  ·exact h2 i (by omega)
theorem Zlh {N:Nat}{t:TS}{f:FS}{E:XK}{ds:List D}{vs:List V}{B:List Addr}{H:Hp}{Q:VK}(h:SOk K C E mr [] [] [] [] Γ' Δ' t f)(r:RpA K C H ds vs B)
  (p:Xt (Dl.run N f ds) (fun d=>∀v H',Xx H H'→Res K C mr [] H (fun _=>[]) d v H'→Q v H') (fun c x=>∀H',Xx H H'→EC C E c x H')) :
  t {nx:=fun _ H'=>Q .non H',rt:=Q} (vs.map some++List.replicate (N - vs.length) none) H:=by
 obtain ⟨A,I⟩:=Zmh (N:=N) r
 refine h H H H _ _ A _ I (Xt.imp (Xt.bind p) (fun fl q=>?_) fun _ _ q=>q)
 cases fl with
 | nx ρ'=>exact fun σ' H' A' I'=>q _ H' I'.same (Res.flat ⟨rfl,rfl⟩)
 | ret d=>exact q
 | brk _=>exact q.elim
 | cnt _=>exact q.elim
end
structure JE (X:Cx)(C:String→Addr)(E:XK)(Γ Δ:List Nat)(m:Nat)(S:List (Nat×Bool))(e:Expr)(t:TE)(f:FE):Prop where
 q:QE X e t
 o:EOk X.K C E Γ Δ m S t f
structure JT (X:Cx)(C:String→Addr)(E:XK)(Γ Δ:List Nat)(e:Expr)(t:TT)(f:FT):Prop where
 q:QT X e t
 o:TOk X.K C E Γ Δ t f
structure JW (X:Cx)(C:String→Addr)(E:XK)(Γ Δ:List Nat)(e:Expr)(t:TT)(f:FT):Prop where
 q:QW X e t
 o:TOk X.K C E Γ Δ t f
structure JA (X:Cx)(C:String→Addr)(E:XK)(Γ Δ:List Nat)(m:Nat)(S:List (Nat×Bool))(e:List Expr)(n:Nat)(t:TA)(f:FA):Prop where
 q:QA X e t
 o:AOk X.K C E Γ Δ m S t f
 n:∀ρ ds,f ρ=.ok ds→ds.length=n
structure JO (X:Cx)(C:String→Addr)(E:XK)(Γ Δ:List Nat)(e:Option Expr)(t:TO)(f:FO):Prop where
 q:QO X e t
 o:OOk X.K C E Γ Δ t f
structure JI (X:Cx)(C:String→Addr)(E:XK)(Γ Δ:List Nat)(S:List (Nat×Bool))(tg e:Expr)(t:TI)(f:FI):Prop where
 q:QI X tg e t
 o:IOk X.K C E Γ Δ S t f
structure JG (X:Cx)(C:String→Addr)(Γ Δ:List Nat)(e:Expr)(t:TG)(f:FB):Prop where
 q:QG X e t
 o:BOk X.K C Γ Δ t f
structure JGs (X:Cx)(C:String→Addr)(Γ Δ:List Nat)(es:List Expr)(n:Nat)(t:TGs)(f:List D→Yx→R Yx):Prop where
 q:QGs X es t
 o:Xpi X.K C Γ Δ t f
 n:∀ds ρ ρ',f ds ρ=.ok ρ'→ds.length=n
structure JS (X:Cx)(C:String→Addr)(E:XK)(mr:Nat)(Γl Δl Γ Δ Γ' Δ':List Nat)(s:Stmt)(t:TS)(f:FS):Prop where
 q:QS X s t
 o:SOk X.K C E mr Γl Δl Γ Δ Γ' Δ' t f
structure JSs (X:Cx)(C:String→Addr)(E:XK)(mr:Nat)(Γl Δl Γ Δ Γ' Δ':List Nat)(s:List Stmt)(t:TS)(f:FS):Prop where
 q:QSs X s t
 o:SOk X.K C E mr Γl Δl Γ Δ Γ' Δ' t f
structure JIf (X:Cx)(C:String→Addr)(E:XK)(Γ Δ:List Nat)(e:List Expr)(t:TT)(f:FT):Prop where
 q:QIf X e t
 o:TOk X.K C E Γ Δ t f
section
variable {X:Cx}{C:String→Addr}{E:XK}{Γ Δ Γ' Δ' Γ1 Δ1 Γl Δl Γk Δk:List Nat}{m m1 m2 m3 mr:Nat}{S S1 S2 S3:List (Nat×Bool)}{a b c e st o tg iter:Expr}{es rest:List Expr}{ta tb tc te ts:TE}{fa fb fc fe fs:FE}{t:TA}{f:FA}{pos p p2 apos cpos:Pos}{n:Nat}
theorem Ze {i:Int}{j:Nat}:JE X C E Γ Δ 2 [] (.Constant (.int i) j pos) (tC (.int i)) (Dl.fC (.int i)):=⟨Xpw,Xcp fun _=>rpI⟩
theorem Zjb {i:Bool}{j:Nat}:JE X C E Γ Δ 2 [] (.Constant (.bool i) j pos) (tC (.bl i)) (Dl.fC (.bl i)):=⟨qe_bl,Xcp fun _=>rpB⟩
theorem Zkk {j:Nat}:JE X C E Γ Δ 2 [] (.Constant .none j pos) (tC .non) (Dl.fC .non):=⟨Xqs,Xcp fun _=>⟨rfl,rfl⟩⟩
theorem Zax {x:Str}{j:Nat}(h:PyData.strOk x=true:=by decide +kernel):JE X C E Γ Δ 2 [] (.Constant (.str x) j pos) (tC (.str x)) (Dl.fC (.str x)):=⟨Xol,Xcp fun _=>⟨rfl,h,rfl⟩⟩
theorem Zl (i:Nat){x:Str}(hN:X.N[i]?=some x:=by rfl)(hv:autoParam (Vis X.env.scope x) aT3._auto_1)(hd:(x==("__debug__":Str))=false:=by decide)
  (hcd:(x==("__classdict__":Str))=false:=by decide):JE X C E Γ Δ 0 [(i,false)] (.Name x pos) (Zoc i) (Dl.fV i):=⟨qv i hN hv hd hcd,eok_v⟩
theorem Znm (i:Nat){x:Str}(hi:i∈Δ:=by decide)(hN:X.N[i]?=some x:=by rfl)(hv:autoParam (Vis X.env.scope x) aT3._auto_1)(hd:(x==("__debug__":Str))=false:=by decide)
  (hcd:(x==("__classdict__":Str))=false:=by decide):JE X C E Γ Δ 2 [(i,false)] (.Name x pos) (Zoc i) (Dl.fV i):=⟨qv i hN hv hd hcd,Xon hi⟩
theorem Xm (h:JE X C E Γ Δ m S e te fe):JE X C E Γ Δ 2 [] e te (Dl.f1 Dl.Yd fe):=⟨h.q,Xba h.o⟩
theorem Zq {op:Operator}{r:R2}{g:D→D→Option D}(ho:OpR X (binaryOp op) r)(hg:GOk X.K C r g)(ha:JE X C E Γ Δ m1 S1 a ta fa)(hb:JE X C E Γ Δ m2 S2 b tb fb):JE X C E Γ Δ 2 [] (.BinOp a op b pos) (tOp r ta tb) (Dl.f2 g fa fb):=⟨qe_op ho ha.q hb.q,Zzj hg ha.o hb.o⟩
theorem Zdj (ha:JE X C E Γ Δ m1 S1 a ta fa):JE X C E Γ Δ 2 [] (.UnaryOp .USub a pos) (tUn (rU fun i=>.int (-i)) ta) (Dl.f1 Dl.Zof fa):=⟨qe_un Xod ha.q,Xmy (fun H x d vx Bx Q r e q=>by
  unfold Dl.Zof at e
  split at e
  · cases e
    obtain ⟨rfl,_⟩:=r
    exact rd_U (Out.flat q rpI)
  · cases e) ha.o⟩
theorem Xre {op:CmpOp}{r:R2}{g:D→D→Option D}(ho:OpR X (compareOp op) r)(hg:GOk X.K C r g)(ha:JE X C E Γ Δ m1 S1 a ta fa)(hb:JE X C E Γ Δ m2 S2 b tb fb)(hm:behindInMarks op b=false):JE X C E Γ Δ 2 [] (.Compare a [op] [b] pos) (tOp r ta tb) (Dl.f2 g fa fb):=⟨Xks ho ha.q hb.q hm,Zzj hg ha.o hb.o⟩
theorem Xz {op:CmpOp}{r:R2}{g:D→D→Option D}(ho:OpR X (compareOp op) r)(hg:GOk X.K C r g)(ha:JE X C E Γ Δ m1 S1 a ta fa)(hb:JE X C E Γ Δ m2 S2 b tb fb)(hm:behindInMarks op b=false):JT X C E Γ Δ (.Compare a [op] [b] pos) (Zot (tOp r ta tb)) (Dl.cE (Dl.f2 g fa fb)):=⟨Xhm ho ha.q hb.q hm,Zsk (Zzj hg ha.o hb.o)⟩
theorem Zln {op op':CmpOp}{r r':R2}{g g':D→D→Option D}(ho:OpR X (compareOp op) r)(ho':OpR X (compareOp op') r')(hg:GOk X.K C r g)(hg':GOk X.K C r' g')(hbl:∀{x y d},g x y=some d→∃b,d=.bl b)(ha:JE X C E Γ Δ m1 S1 a ta fa)(hb:JE X C E Γ Δ m2 S2 b tb fb)(hc:JE X C E Γ Δ m3 S3 c tc fc)
  (hm:lastMarks [op,op'] [b,c]=false:=by with_unfolding_all rfl):JT X C E Γ Δ (.Compare a [op,op'] [b,c] pos) (Zot (Zqb r r' ta tb tc)) (Dl.cE (Dl.Ziw g g' fa fb fc)):=⟨Xbx ho ho' ha.q hb.q hc.q hm,Zsk (Zyg hg hg' (fun _ _ _=>hbl) ha.o hb.o hc.o)⟩
theorem Xpx (h:JE X C E Γ Δ m S e te fe)(he:∀whole,isTrue e X.env whole=(do let v ← whole;standAt e.pos;holding [v] (truthy v)):=by intro _;rfl):JT X C E Γ Δ e (tB te) (Dl.cE fe):=⟨Xnq h.q he,tok_B h.o⟩
theorem Zwg {tA:TT}{fA:FT}(ha:JT X C E Γ Δ a tA fA):JT X C E Γ Δ (.UnaryOp .Not a pos) (tNot tA) (Dl.Xln fA):=⟨Xrh ha.q,Xis ha.o⟩
theorem Xhb {tA:TT}{fA:FT}(ha:JT X C E Γ Δ a tA fA):JW X C E Γ Δ (.BoolOp .And [a] pos) tA fA:=⟨Xkd ha.q,ha.o⟩
theorem Zxj {tA:TT}{fA:FT}(ha:JT X C E Γ Δ a tA fA):JW X C E Γ Δ (.BoolOp .Or [a] pos) tA fA:=⟨Xpt ha.q,ha.o⟩
theorem Xng {tA tB':TT}{fA fB:FT}(ha:JT X C E Γ Δ a tA fA)(hb:JW X C E Γ Δ (.BoolOp .And (b::rest) pos) tB' fB):JW X C E Γ Δ (.BoolOp .And (a::b::rest) pos) (tAnd tA tB') (Dl.Xmf fA fB):=⟨Xoo ha.q hb.q,Xhf ha.o hb.o⟩
theorem Xci {tA tB':TT}{fA fB:FT}(ha:JT X C E Γ Δ a tA fA)(hb:JW X C E Γ Δ (.BoolOp .Or (b::rest) pos) tB' fB):JW X C E Γ Δ (.BoolOp .Or (a::b::rest) pos) (tOr tA tB') (Dl.cOr fA fB):=⟨qw_or ha.q hb.q,Xoh ha.o hb.o⟩
theorem ct_w {tA:TT}{fA:FT}(h:JW X C E Γ Δ a tA fA):JT X C E Γ Δ a tA fA:=⟨qt_w h.q,h.o⟩
theorem Zg:JA X C E Γ Δ 2 [] [] 0 Zqa Dl.Zy:=⟨Znr,Xhc,Xgo⟩
theorem Zb (ha:JE X C E Γ Δ m1 S1 e te fe)(hr:JA X C E Γ Δ m2 S2 es n t f)(hs:starEach (e::es) X.env=(false,eval e X.env)::starEach es X.env):JA X C E Γ Δ 0 (S1++S2) (e::es) (n+1) (Zdn te t) (Dl.Zd fe f):=⟨Zfv ha.q hr.q hs,Xcb ha.o hr.o,Zrs hr.n⟩
theorem Zk (ha:JE X C E Γ Δ 2 [] e te fe)(hr:JA X C E Γ Δ 2 [] es n t f)(hs:starEach (e::es) X.env=(false,eval e X.env)::starEach es X.env):JA X C E Γ Δ 2 [] (e::es) (n+1) (Zdn te t) (Dl.Zd fe f):=
 ⟨Zfv ha.q hr.q hs,Zup (S1:=[]) (S2:=[]) ha.o hr.o (fun _ h=>nomatch h) (fun _ h=>nomatch h),Zrs hr.n⟩
theorem Zgn {x1:Nat}(h:JA X C E Γ Δ 2 S es n t f):JE X C E Γ Δ 2 S (.Tuple es x1 pos) (tTup t) (Dl.fA Dl.Ziz f):=⟨Xok h.q,Xjh (.inr rfl) h.o⟩
theorem Yo (h:JA X C E Γ Δ 2 S es n t f):JE X C E Γ Δ 2 S (.List es pos) (Xlx t) (Dl.fA Dl.Zal f):=⟨Xga h.q,Xii h.o⟩
theorem Zlk (h:JA X C E Γ Δ m S es n t f):JE X C E Γ Δ 1 S (.List es pos) (Xlx t) (Dl.fA Dl.Zal f):=⟨Xga h.q,Xcy h.o⟩
theorem Zs (K:Frag)(ha:JE X C E Γ Δ m1 S1 a ta fa)(hb:JE X C E Γ Δ m2 S2 b tb fb)(hs:Zck b)(hK:X.K=K:=by rfl):JE X C E Γ Δ 0 S1 (.Subscript a b pos) (tOp (rIx K) ta tb) (Dl.f2 Dl.gIx fa fb):=by
 subst hK
 exact ⟨Xpr Xfn ha.q hb.q hs,Xrn ha.o hb.o⟩
theorem Zlj:JO X C E Γ Δ none Zkm Dl.Zlx:=⟨Xkr,Xcf⟩
theorem Zde (h:JE X C E Γ Δ m S e te fe):JO X C E Γ Δ (some e) (Xdo te) (Dl.Zfx fe):=⟨Xgu h.q,Xel h.o⟩
theorem Zyc (K:Frag){lo hi:Option Expr}{tl th:TO}{fl fh:FO}(he:JE X C E Γ Δ m S e te fe)(hl:JO X C E Γ Δ lo tl fl)(hu:JO X C E Γ Δ hi th fh)(hK:X.K=K:=by rfl):JE X C E Γ Δ 2 [] (.Subscript e (.Slice lo hi none p2) pos) (tSl (Xml K) te tl th) (Dl.fSl Dl.gSl fe fl fh):=by
 subst hK
 exact ⟨Zsq Zxk he.q hl.q hu.q,Xqj he.o hl.o hu.o⟩
theorem Xrb (K:Frag)(he:JE X C E Γ Δ m S e te fe)(hst:JE X C E Γ Δ m2 S2 st ts fs)(hK:X.K=K:=by rfl):JE X C E Γ Δ 2 [] (.Subscript e (.Slice none none (some st) p2) pos) (tRev K te ts) (Dl.f2 Dl.Xmk fe fs):=by
 subst hK
 exact ⟨Xra he.q hst.q,Xgz he.o hst.o⟩
theorem Xf {K:Frag}{CX:CXT}{k:Nat}{ps:List Str}{F:List D→R D}{x:Str}(Df:Def X.prog X.w X.K X.mg X.base CX k x ps (spD K C n mr F))(hr:Zdy k X.A)(hg:Gl X x)(hx:Zgi CX X E)
  (ha:JA X C E Γ Δ m S (e::es) n t f) (hdb:(x==("__debug__":Str))=false:=by decide) (he:starEach (e::es) X.env=(false,eval e X.env)::starEach es X.env:=by rfl) (hpl:(backTo pos (starEach es X.env)).any (·.1)=false:=by rfl) (hK:X.K=K:=by rfl) :
  JE X C E Γ Δ mr [] (.Call (.Name x p) (e::es) [] pos) (Zks (spD K C n mr F) [] E t) (Dl.Xo F f):=by
 subst hK
 exact ⟨Zsf Df hr hg hx ha.q hdb he hpl,Zqp ha.o ha.n⟩
theorem Zr {x:Str}{id:String}{r:List V→Hp→VK→Prop}{g:List D→Option D}(hc:Zav X (.builtin id) r)(hgk:GAk X.K C r g)(hg:Gl X x)(hm:X.mg x=none)(hv:bootBuiltins x=some (.builtin id))(ha:JA X C E Γ Δ m S (e::es) n t f)(hn:x≠"__name__":=by decide)(hdb:(x==("__debug__":Str))=false:=by decide)
  (he:starEach (e::es) X.env=(false,eval e X.env)::starEach es X.env:=by rfl) (hpl:(backTo pos (starEach es X.env)).any (·.1)=false:=by rfl):JE X C E Γ Δ 2 [] (.Call (.Name x p) (e::es) [] pos) (tCB r t) (Dl.fA g f):=⟨Xca hc hg hm hv ha.q hn hdb he hpl,Xey hgk ha.o⟩
theorem Xb {x:Str}{T:String}{r:List V→Hp→VK→Prop}{g:List D→Option D}(hc:Zav X (.type T) r)(hgk:GAk X.K C r g)(hg:Gl X x)(hm:X.mg x=none)(hv:bootBuiltins x=some (.type T))(ha:JA X C E Γ Δ m S (e::es) n t f)(hn:x≠"__name__":=by decide)(hdb:(x==("__debug__":Str))=false:=by decide)
  (he:starEach (e::es) X.env=(false,eval e X.env)::starEach es X.env:=by rfl) (hpl:(backTo pos (starEach es X.env)).any (·.1)=false:=by rfl):JE X C E Γ Δ 2 [] (.Call (.Name x p) (e::es) [] pos) (tCB r t) (Dl.fA g f):=⟨Zwv hc hg hm hv ha.q hn hdb he hpl,Xey hgk ha.o⟩
theorem Zou (K:Frag)(hg:Gl X "list")(hm:X.mg "list"=none)(hg':Gl X "reversed")(hm':X.mg "reversed"=none)(he:JE X C E Γ Δ m S e te fe)(hs2:starEach [e] X.env=(false,eval e X.env)::starEach [] X.env)(hc:X.calm=true:=by rfl)(hK:X.K=K:=by rfl) :
  JE X C E Γ Δ 2 [] (.Call (.Name "list" p) [.Call (.Name "reversed" p2) [e] [] apos] [] cpos) (Xdv K te) (Dl.f1 Dl.Zhq fe):=by
 subst hK
 exact ⟨Xhy hg hm hg' hm' he.q hs2 hc,Xdt he.o⟩
theorem Zab (h:JE X C E Γ Δ m S e te fe):JI X C E Γ Δ S tg e (Xcu X.K te) (Dl.Zda fe):=⟨Xhx h.q,Xbg h.o⟩
theorem Zcq (hg:Gl X "range")(hm:X.mg "range"=none)(ha:JA X C E Γ Δ m S [a] n t f)(hs:starEach [a] X.env=[(false,eval a X.env)]:=by rfl):JI X C E Γ Δ [] tg (.Call (.Name "range" p) [a] [] pos) (Xbb t) (Dl.Zgf f):=⟨Zvk hg hm ha.q hs,Xai ha.o⟩
theorem Zox (hg:Gl X "range")(hm:X.mg "range"=none)(ha:JA X C E Γ Δ m S [a,b] n t f)(hs:starEach [a,b] X.env=[(false,eval a X.env),(false,eval b X.env)]:=by rfl)(hs2:starEach [b] X.env=[(false,eval b X.env)]:=by rfl):JI X C E Γ Δ [] tg (.Call (.Name "range" p) [a,b] [] pos) (Xaj t) (Dl.Zog f):=⟨Zxf hg hm ha.q hs hs2,Xah ha.o⟩
theorem Ja {i:Nat}{x:Str}(h1:i∉Γ:=by decide)(h2:i∉Δ:=by decide)(hN:X.N.Nodup)(hi:X.N[i]?=some x)(hx:Loc X.env.scope x)(hf:autoParam (X.fn x=true∨X.env.scope.names.lookup x=some .local) aT0._auto_1):JG X C Γ Δ (.Name x pos) (Zap i) (Dl.Xi i):=⟨Zkr hN hi hx hf,Xcj h1 h2⟩
theorem Zxw:JGs X C Γ Δ [] 0 Xmh Dl.Ztq:=⟨Zvc,Xlj,Xfl⟩
theorem Zdx {tt:TG}{u:TGs}{fb:FB}{fu:List D→Yx→R Yx}(h1:JG X C Γ Δ e tt fb)(h2:JGs X C Γ Δ es n u fu)(hs:(assignEach (e::es) X.env).map (·.2)=assign e X.env::(assignEach es X.env).map (·.2):=by rfl):JGs X C Γ Δ (e::es) (n+1) (Zuf tt u) (Dl.Zaj fb fu):=⟨Zqo h1.q h2.q hs,Xan h1.o h2.o,Zyh h2.n⟩
theorem Xfb {k:Nat}{u:TGs}{fu:List D→Yx→R Yx}(hc:X.calm=true)(h:JGs X C Γ Δ es n u fu)(hn:(assignEach es X.env).length=n:=by rfl)(hst:(assignEach es X.env).findIdx? (·.1)=none:=by rfl):JG X C Γ Δ (.Tuple es k pos) (Ziz X.K n u) (Dl.Ztd fu):=⟨Xgc hc h.q hn hst,Xiz h.n h.o⟩
theorem Zdk:JIf X C E Γ Δ [] tYes Dl.Znz:=⟨Xkz,Xka⟩
theorem Zom {tA:TT}{fA:FT}(h:JT X C E Γ Δ c tA fA):JIf X C E Γ Δ [c] tA fA:=⟨Xgv h.q,h.o⟩
structure JB (X:Cx)(C:String→Addr)(n k:Nat)(e:Expr)(t:TG)(f:FB):Prop where
 q:QG X e t
 o:NOk X.K C n k t f
structure JBs (X:Cx)(C:String→Addr)(n k:Nat)(es:List Expr)(l:Nat)(t:TGs)(f:List D→Yx→R Yx):Prop where
 q:QGs X es t
 o:NsOk X.K C n k t f
 n:∀ds ρ ρ',f ds ρ=.ok ρ'→ds.length=l
theorem Zbc {k:Nat}(i:Nat){x:Str}(hN:X.N.Nodup:=by decide +kernel)(hi:X.N[i]?=some x:=by rfl)(hx:Loc X.env.scope x:=by exact .inl rfl)(hf:X.fn x=true∨X.env.scope.names.lookup x=some .local:=by exact .inr rfl)(h1:n≤i:=by decide)(h2:i<n+k:=by decide):JB X C n k (.Name x pos) (Zap i) (Dl.Xi i):=⟨Zkr hN hi hx hf,Xar i h1 h2⟩
theorem Zet {elt:Expr}{ifs:List Expr}{sc:Scope}{wi:TI}{tc:TT}{gg:TG}{fi:FI}{fc:FT}{fg:FB}(esc:Scope)(N N2 xs:List Str)(B:Zul sc esc xs N N2)(hi:JI X C E Γ Δ S tg iter wi fi)(hg:∀cl C' s0 H0 fp,JB (X.blkN N2 xs sc cl C' s0 H0 fp) C n xs.length tg gg fg)(ht:∀cl C' s0 H0 fp,JIf (X.blkN N2 xs sc cl C' s0 H0 fp) C E0 [] [] ifs tc fc)(he:∀cl C' s0 H0 fp,JE (X.blkN N2 xs sc cl C' s0 H0 fp) C E0 [] [] 2 [] elt te fe)
  (hesc:X.env.scope=esc:=by rfl) (hN:X.N=N:=by rfl) (hc:X.calm=true:=by rfl) (hs:∀v,foldedSetIterable iter X.env v=pure v:=by intro _;rfl):JE X C E Γ Δ 2 [] (.ListComp elt [⟨tg,iter,ifs,0⟩] sc pos) (Zdt xs.length gg wi tc te) (Dl.Zcp n xs.length fi fg fc fe):=
 ⟨Xap esc N N2 xs B hi.q (fun cl C' s0 H0 fp=>(hg cl C' s0 H0 fp).q) (fun cl C' s0 H0 fp=>(ht cl C' s0 H0 fp).q) (fun cl C' s0 H0 fp=>(he cl C' s0 H0 fp).q) hesc hN hc hs,Zhc hi.o (hg [] 0 X.s₀ X.H₀ []).o (ht [] 0 X.s₀ X.H₀ []).o (he [] 0 X.s₀ X.H₀ []).o⟩
variable {s1:Stmt}{ss body other:List Stmt}{u v:TS}{g h:FS}{pos':Pos}
theorem Yk:JSs X C E mr Γl Δl Γ Δ Γ Δ [] Zuj Dl.sNx:=⟨Zyf,Xpk⟩
theorem Zf (Γ1 Δ1:List Nat)(h1:JS X C E mr Γl Δl Γ Δ Γ1 Δ1 s1 u g)(h2:JSs X C E mr Γl Δl Γ1 Δ1 Γ' Δ' ss v h):JSs X C E mr Γl Δl Γ Δ Γ' Δ' (s1::ss) (Xly u v) (Dl.Xp g h):=⟨Zsr h1.q h2.q,Xir h1.o h2.o⟩
theorem Zn (h1:JS X C E mr Γl Δl Γ Δ Γ' Δ' s1 u g):JSs X C E mr Γl Δl Γ Δ Γ' Δ' [s1] u g:=⟨Zwj h1.q,h1.o⟩
theorem Zcv (Γ1 Δ1:List Nat)(h:JSs X C E mr Γl Δl Γ Δ Γ1 Δ1 ss u g)(h1:∀i∈Γ',i∈Γ1:=by decide)(h2:∀i∈Δ',i∈Δ1:=by decide):JSs X C E mr Γl Δl Γ Δ Γ' Δ' ss u g:=⟨h.q,Xas h.o h1 h2⟩
theorem Zhi:JS X C E mr Γl Δl Γ Δ Γ' Δ' s1 Zrm Dl.Zih:=⟨Xcd,Zxh⟩
theorem Xs (he:JE X C E Γ Δ 2 S e te fe)(h0:∀p∈S,p.1∈Δ:=by decide):JS X C E 2 Γl Δl Γ Δ Γ' Δ' (.Return (some e) pos) (Xme te) (Dl.Zaq fe):=⟨Xft he.q,Xek he.o h0⟩
theorem Zar {tA:TT}{fA:FT}(hc:JT X C E Γ Δ c tA fA)(ha:JSs X C E mr Γl Δl Γ Δ Γ' Δ' body u g)(hb:JSs X C E mr Γl Δl Γ Δ Γ' Δ' other v h):JS X C E mr Γl Δl Γ Δ Γ' Δ' (.If c body other pos) (Xmg tA u v) (Dl.sIf fA g h):=⟨Xqy hc.q ha.q hb.q,Xpv hc.o ha.o hb.o⟩
theorem Zw {i:Nat}{x:Str}(hN:X.N.Nodup)(hi:X.N[i]?=some x)(hx:Loc X.env.scope x)(he:JE X C E Γ Δ 2 [] e te fe)(hs:swapsWith e (some (.Name x pos')) pos.line X.env=pure false:=by rfl)(hf:autoParam (X.fn x=true∨X.env.scope.names.lookup x=some .local) aT0._auto_1)
  (h1:∀j∈Γ',j=i∨j∈Γ:=by decide) (h2:∀j∈Δ',j=i∨j∈Δ:=by decide):JS X C E mr Γl Δl Γ Δ Γ' Δ' (.Assign [.Name x pos'] e pos) (Zjd te (Zap i)) (Dl.Yg i fe):=⟨Zro hN hi hx he.q hs hf,Zlt he.o h1 h2⟩
theorem Xhw {i:Nat}{x:Str}(hN:X.N.Nodup)(hi:X.N[i]?=some x)(hx:Loc X.env.scope x)(he:JE X C E Γ Δ m S e te fe)(hs:swapsWith e (some (.Name x pos')) pos.line X.env=pure false:=by rfl)(hf:autoParam (X.fn x=true∨X.env.scope.names.lookup x=some .local) aT0._auto_1)
  (h1:∀j∈Γ',j≠i∧j∈Γ∧(j,false)∉S:=by decide) (h2:∀j∈Δ',j≠i∧j∈Δ∧∀p∈S,p.1≠j:=by decide):JS X C E mr Γl Δl Γ Δ Γ' Δ' (.Assign [.Name x pos'] e pos) (Zjd te (Zap i)) (Dl.Yg i fe):=⟨Zro hN hi hx he.q hs hf,Xal he.o h1 h2⟩
theorem Zye {elt:Expr}{y:Str}{py spos:Pos}{ifs:List Expr}{sc:Scope}{wi:TI}{tc:TT}{gg:TG}{fi:FI}{fc:FT}{fg:FB}{i:Nat}(esc:Scope)(N N2 xs:List Str)(B:Zul sc esc xs N N2)(hy:N[i]?=some y)(hl:esc.names.lookup y=some .local)(hi:JI X C E Γ Δ S tg iter wi fi)(hg:∀cl C' s0 H0 fp,JB (X.blkN N2 xs sc cl C' s0 H0 fp) C n xs.length tg gg fg)(ht:∀cl C' s0 H0 fp,JIf (X.blkN N2 xs sc cl C' s0 H0 fp) C E0 [] [] ifs tc fc)(he:∀cl C' s0 H0 fp,JE (X.blkN N2 xs sc cl C' s0 H0 fp) C E0 [] [] 2 [] elt te fe)
  (hesc:X.env.scope=esc:=by rfl) (hN:X.N=N:=by rfl) (hc:X.calm=true:=by rfl) (hsw:swapsWith (.ListComp elt [⟨tg,iter,ifs,0⟩] sc pos) (some (.Name y py)) spos.line X.env=pure true:=by rfl) (hs:∀v,foldedSetIterable iter X.env v=pure v:=by intro _;rfl)
  (h1:∀j∈Γ',j=i∨j∈Γ:=by decide) (h2:∀j∈Δ',j=i∨j∈Δ:=by decide):JS X C E mr Γl Δl Γ Δ Γ' Δ' (.Assign [.Name y py] (.ListComp elt [⟨tg,iter,ifs,0⟩] sc pos) spos) (Zjd (Zdt xs.length gg wi tc te) (Zap i)) (Dl.Yg i (Dl.Zcp n xs.length fi fg fc fe)):=
 ⟨Xcr esc N N2 xs B hy hl hi.q (fun cl C' s0 H0 fp=>(hg cl C' s0 H0 fp).q) (fun cl C' s0 H0 fp=>(ht cl C' s0 H0 fp).q) (fun cl C' s0 H0 fp=>(he cl C' s0 H0 fp).q) hesc hN hc hsw hs,Zlt (Zhc hi.o (hg [] 0 X.s₀ X.H₀ []).o (ht [] 0 X.s₀ X.H₀ []).o (he [] 0 X.s₀ X.H₀ []).o) h1 h2⟩
theorem Zbm {i:Nat}{x:Str}(hi:i∈Γ:=by decide)(hN:X.N[i]?=some x:=by rfl)(hv:autoParam (Vis X.env.scope x) aT3._auto_1)(hd:(x==("__debug__":Str))=false:=by decide)(hcd:(x==("__classdict__":Str))=false:=by decide)
  (he:JE X C E Γ Δ 2 [] e te fe) (hse:starEach [e] X.env=(false,eval e X.env)::starEach [] X.env)
  (hbase:attributeBase (.Name x p) "append" X.env (eval (.Name x p) X.env)=eval (.Name x p) X.env:=by rfl)
  (hfew:((backTo cpos (starEach [e] X.env)).all (fun x=>!x.1)&&(backToKw cpos (keywordEach [] X.env)).all (fun x=>x.1.isSome)&&decide (([e]:List Expr).length+([]:List Keyword).length+(if ([]:List Keyword).isEmpty then 0 else 1)<30))=true:=by rfl)
  (hline:(apos.endLine==cpos.line)=true:=by rfl) (hplain:(backTo cpos (starEach ([]:List Expr) X.env)).any (·.1)=false:=by rfl) (hsw:swapsWith (.Call (.Attribute (.Name x p) "append" apos) [e] [] cpos) none pos.line X.env=pure false:=by rfl) :
  JS X C E mr Γl Δl Γ Δ Γ Δ (.Expr (.Call (.Attribute (.Name x p) "append" apos) [e] [] cpos) pos) (Zmc (tBM X.K "list" Zdf (Zoc i) (Zdn te Zqa))) (Dl.Zhg i fe):=
 ⟨Zpw (Zzy PySem.F.plainAttrs_list PySem.F.slot_list_append PySem.F.type_list_append Zio (qv i hN hv hd hcd) (Zfv he.q Znr hse) hbase hfew hline hse hplain) hsw,Xec hi he.o⟩
theorem Zbp {wi:TI}{tt:TG}{fi:FI}{fb:FB}(Γl Δl:List Nat)(hp:PassesOwn (model X.prog X.w) X.A X.env X.xe)(hc:X.calm=true)(hi:JI X C E Γ Δ S tg iter wi fi)(hg:JG X C Γl Δl tg tt fb)(hb:JSs X C E mr Γl Δl Γl Δl Γl Δl body u g)(hs:∀x,foldedSetIterable iter X.env x=pure x:=by intro _;rfl)
  (h1:∀i∈Γl,i∈Γ:=by decide) (h2:∀i∈Δl,i∈Δ:=by decide) (h3:∀p∈S,p.1∉Γl∧p.1∉Δl:=by decide):JS X C E mr Γk Δk Γ Δ Γl Δl (.For tg iter body [] pos) (Xmj wi tt u) (Dl.Zjj fi fb g):=⟨Xfw hp hc hi.q hg.q hb.q hs,Xgy hi.o hg.o hb.o h1 h2 h3⟩
theorem Zkp {tA:TT}{fA:FT}(k:Nat)(hp:PassesOwn (model X.prog X.w) X.A X.env X.xe)(hc:JT X C E Γ Δ c tA fA)(hb:JSs X C E mr Γ Δ Γ Δ Γ Δ body u g):JS X C E mr Γk Δk Γ Δ Γ Δ (.While c body [] pos) (Zkc tA u) (Dl.Zek k fA g):=⟨Zsa hp hc.q hb.q,Zyd hc.o hb.o⟩
end
theorem Fun.okC {P:Program}{w:World}{K:Frag}{C:String→Addr}{mg:Str→Option Value}{base:Heap}{x qual:Str}{st:Stmt}{f:Addr}{fd:FuncData}{N ps:List Str}{k n mr:Nat}{Γ' Δ':List Nat}{g:FS}(F:Fun K x qual st f fd)(S:Xg N ps (Zm st))(hn:ps.length=n)
    (hbody:∀(cdv:Value) (A:Around) (outer:List Env) (s:Shared) (H:Hp) (E:XK),Zdy k (A.deeper (envOfC qual (Zm st) s.heap.objs.size f cdv))→
      ∃t,JSs (Zyy CX0 P w K mg base N qual (Zm st) f cdv A outer s H E).nox C E0 mr [] [] [] [] Γ' Δ' (Zau st) t g):Zam P w K mg base CX0 (k+1) f fd ps (spD K C n mr fun ds=>(Dl.run N.length g ds).calm):=
  F.okQ S (fun vs H Q E h=>by
    obtain ⟨ds,B,h1,h2,_⟩:=h
    rw [h2.len,h1,hn]) fun cdv A outer s H vs Q E hr h=>by
    obtain ⟨ds,B,h1,h2,h3⟩:=h
    obtain ⟨t,ht⟩:=hbody cdv A outer s H E hr
    exact ⟨t,ht.q,Zlh (K:=K) ht.o h2 (Xt.imp (Zco h3) (fun _ q=>q) fun _ _ z=>z.elim)⟩
section
variable {K:Frag}{C:String→Addr}{E:XK}{Γ Δ Γ' Δ' Γ1 Δ1 Γl Δl Γk Δk:List Nat}{m m1 m2 m3 mr:Nat}{S S1 S2 S3:List (Nat×Bool)}{H:Hp}{Q:VK}
theorem Xjw {i:Nat}{f:Int→Int→Int}{g:D→D→Option D}(hg:∀x y d,g x y=some d→∃i j,x=.int i∧y=.int j∧d=.int (f i j)){te:TE}{fe:FE}(he:EOk K C E Γ Δ m S te fe)(h1:∀j∈Γ',j=i∨j∈Γ:=by decide)(h2:∀j∈Δ',j=i∨j∈Δ:=by decide) :
  SOk K C E mr Γl Δl Γ Δ Γ' Δ' (Xmc i te (ipI f)) (Dl.Zpu i g fe):=fun H0 Hb H σ ρ A D I p=>by
 unfold Dl.Zpu at p
 split at p
 ·rename_i x e
  obtain ⟨v,e1,r⟩:=I.rep i x e
  refine ⟨v,e1,he H0 Hb H σ ρ A _ I (Xt.imp (Xt.bind p) (fun y q w H1 g1 r1=>?_) fun c x q H' g'=>q H' (Xx.from0 I g'))⟩
  obtain ⟨z,ez,q⟩:=Zdl (Xt.bind q)
  obtain ⟨B,r1,_⟩:=r1
  obtain ⟨k,l,rfl,rfl,rfl⟩:=hg x y z ez
  obtain ⟨rfl,_⟩:=r
  obtain ⟨rfl,_⟩:=r1
  obtain ⟨A',I',_⟩:=(I.mono g1).put (Γ':=Γ') (Δ':=Δ') (i:=i) (d:=.int (f k l)) (v:=.int (f k l)) (B:=[]) rpI (fun j hj e=>⟨(h1 j hj).elim (fun z=>absurd z e) id,fun _ _ _ z=>nomatch z⟩)
   (fun _=>⟨(fun _ z=>nomatch z),(fun _ _ z=>nomatch z)⟩) (fun j hj e=>⟨(h2 j hj).elim (fun z=>absurd z e) id,fun _ _ z=>nomatch z⟩) (fun _=>⟨nodup_nil,(fun _ _ _ z=>nomatch z),(fun _ z=>nomatch z)⟩)
  exact ⟨k,l,rfl,rfl,q _ H1 A' I'⟩
 ·exact p.elim
theorem Xhn:∀x y d,Dl.Xad x y=some d→∃i j,x=.int i∧y=.int j∧d=.int (i+j):=fun x y d e=>by unfold Dl.Xad at e;split at e<;>cases e;exact ⟨_,_,rfl,rfl,rfl⟩
theorem Zir:∀x y d,Dl.Zbh x y=some d→∃i j,x=.int i∧y=.int j∧d=.int (i - j):=fun x y d e=>by unfold Dl.Zbh at e;split at e<;>cases e;exact ⟨_,_,rfl,rfl,rfl⟩
theorem Xc.rewrite {H0 Hb H H1:Hp}{σ:St}{ρ:Yx}{A:Nat→List Addr}{i:Nat}{a:Addr}{l B':List Addr}{es:List D}{ys:List V}(I:Xc K C H0 Hb H Γ Δ σ ρ A)(g1:Xx H H1)(hi:i∈Γ)(hA:A i=a::l)(hl:i<ρ.length)(s1:σ[i]?=some (some (.ref a)))(r:RpA K C H1 es ys B')
    (hB:∀b∈B',b∈l∨H b=none) (hD:i∈Δ→B'.Nodup):∃A',Xc K C H0 Hb (upd H1 a (.lst ys)) Γ Δ σ (ρ.set i (some (.lst es))) A':=by
  obtain ⟨tb,ta,tt⟩:=I.top i hi a l hA
  have ha:a∈A i:=by rw [hA];exact .head _
  have w1:∀b∈B',H0 b=none:=fun b hb=>(hB b hb).elim (fun z=>I.loc i hi b (by rw [hA];exact .tail _ z)) fun z=>I.s0.free (I.same.free z)
  have w0:a∉B':=fun z=>(hB a z).elim ta fun z=>I.ne ha z
  have w2:∀j∈Γ,j≠i→j∈Γ∧∀b l',A j=b::l'→b∉B':=fun j hj e=>⟨hj,fun b l' e' z=>(hB b z).elim
    (fun z=>(I.top j hj b l' e').2.2 i (fun w=>e w.symm) (by rw [hA];exact .tail _ z)) fun z=>I.ne (j:=j) (by rw [e'];exact .head _) z⟩
  have w3:∀j∈Δ,j≠i→j∈Δ∧∀b∈A j,b∉B':=fun j hj e=>⟨hj,fun b hb z=>(hB b z).elim
    (fun z=>(I.deep j hj).2.1 i (fun w=>e w.symm) b hb (by rw [hA];exact .tail _ z)) fun z=>I.ne hb z⟩
  have w4:i∈Δ→B'.Nodup∧(∀j,j≠i→∀b∈B',b∉A j)∧∀b∈B',Hb b=none:=fun hd=>by
    obtain ⟨d1,d2,d3⟩:=I.deep i hd
    rw [hA] at d2 d3
    exact ⟨hD hd,fun j hj b hb=>(hB b hb).elim (fun z=>d2 j hj b (.tail _ z)) fun z w=>I.ne w z,fun b hb=>(hB b hb).elim (fun z=>d3 b (.tail _ z)) fun z=>I.same.free z⟩
  exact (I.mono g1).write (Γ':=Γ) (Δ':=Δ) hi hA hl s1 r w1 w0 w2 w3 w4
theorem RpA.set:∀{ds:List D} {vs:List V} {A:List Addr} {j:Nat} {d:D} {v:V},RpA K C H ds vs A→Rp K C H d v []→Dl.Yj ds=true→RpA K C H (ds.set j d) (vs.set j v) []
 | [],_,_,_,_,_,r,_,_=>by rw [r.1];exact RpA.nil
 | x::ds,_,_,0,d,v,r,q,h=>by
  obtain ⟨y,l,B,B',e1,e2,e3,e4⟩:=r
  simp only [Dl.Yj,Bool.and_eq_true] at h
  subst e1
  exact ⟨v,l,[],[],rfl,q,e3.flat' h.2,rfl⟩
 | x::ds,_,_,j+1,d,v,r,q,h=>by
  obtain ⟨y,l,B,B',e1,e2,e3,e4⟩:=r
  simp only [Dl.Yj,Bool.and_eq_true] at h
  subst e1
  have z:=e2.flat h.1
  subst z
  exact ⟨y,_,[],[],rfl,e2,RpA.set e3 q h.2,rfl⟩
theorem Xlm {i:Nat}{te tk:TE}{fe fk:FE}(hi:i∈Γ:=by decide)(he:EOk K C E Γ Δ m1 S1 te fe)(hk:EOk K C E Γ Δ m2 S2 tk fk):SOk K C E mr Γl Δl Γ Δ Γ Δ (Zjd te (Zbh (Zoc i) tk Xjc)) (Dl.Xri i fk fe):=fun H0 Hb H σ ρ A D I p=>by
 refine he H0 Hb H σ ρ A _ I (Xt.imp (Xt.bind p) (fun d q v H1 g1 r=>?_) fun c x q H' g'=>q H' (Xx.from0 I g'))
 have I1:=I.mono g1
 split at q
 ·rename_i ds e
  obtain ⟨a,xs,l,s1,h1,r1,hA,hl⟩:=Zhe I1 e
  refine ⟨.ref a,s1,hk H0 Hb H1 σ ρ A _ I1 (Xt.imp (Xt.bind q) (fun z q w H2 g2 rz=>?_) fun c x q H' g'=>q H' (Xx.from0 I1 g'))⟩
  obtain ⟨Bz,rz,_⟩:=rz
  obtain ⟨B,rd,_⟩:=r
  cases z with
  | int n =>
   obtain ⟨rfl,_⟩:=rz
   simp only at q
   split at q
   ·rename_i hf
    split at q
    ·rename_i j ej
     have zB:=rd.flat hf.1
     subst zB
     obtain ⟨A',I'⟩:=I1.rewrite g2 hi hA hl s1 (RpA.set (j:=j) (r1.same g2) (rd.same g2) hf.2) (fun _ hb=>nomatch hb) fun _=>nodup_nil
     exact ⟨a,xs,n,j,rfl,rfl,g2 _ _ h1,by rw [r1.len];exact ej,q _ _ A' I'⟩
    ·exact q.elim
   ·exact q.elim
  | _=>exact q.elim
 ·exact q.elim
def BsN (K:Frag)(C:String→Addr)(Γ Δ Γ' Δ':List Nat)(g:TGs)(b:List D→Yx→R Yx):Prop:=∀(H0 Hb H:Hp) (σ:St) (ρ:Yx) (A:Nat→List Addr) (d:List D) (v:List V) (B:List Addr) (Rr:St→Hp→Prop),Xc K C H0 Hb H Γ Δ σ ρ A→RpA K C H d v B→B.Nodup→(∀a∈B,Hb a=none∧∀j,a∉A j)→
 Xt (b d ρ) (fun ρ'=>∀σ' A',Xc K C H0 Hb H Γ' Δ' σ' ρ' A'→Rr σ' H) (fun _ _=>False)→g v σ H Rr
theorem Xjv (h1:∀i∈Γ',i∈Γ)(h2:∀i∈Δ',i∈Δ):BsN K C Γ Δ Γ' Δ' Xmh Dl.Ztq:=fun H0 Hb H σ ρ A d v B Rr I r _ _ p=>by
 cases d with
 | nil=>exact ⟨r.1,p _ A (I.weak h1 h2)⟩
 | cons _ _=>exact p.elim
theorem Zzv {i:Nat}{gs:TGs}{bs:List D→Yx→R Yx}(h2:BsN K C (i::Γ) (i::Δ) Γ' Δ' gs bs):BsN K C Γ Δ Γ' Δ' (Zuf (Zap i) gs) (Dl.Zaj (Dl.Xi i) bs):=fun H0 Hb H σ ρ A d v B Rr I r nd hB p=>by
  cases d with
  | nil=>exact p.elim
  | cons d ds =>
    obtain ⟨x,l,B1,B2,e1,e2,e3,e4⟩:=r
    subst e1 e4
    obtain ⟨n1,n2,n3⟩:=List.nodup_append.mp nd
    have hB1:∀a∈B1,Hb a=none∧∀j,a∉A j:=fun a ha=>hB a (mem_append_left _ ha)
    obtain ⟨A',I',hA'⟩:=I.put (Γ':=i::Γ) (Δ':=i::Δ) (i:=i) e2
      (fun j hj e=>⟨(List.mem_cons.mp hj).elim (fun z=>absurd z e) id,fun a l' e' ha=>(hB1 a ha).2 j (by rw [e'];exact .head _)⟩)
      (fun _=>⟨fun a ha=>I.s0.free (hB1 a ha).1,fun a l' e=>by
        subst e
        exact ⟨(hB1 a (.head _)).1,(List.nodup_cons.mp n1).1,fun j _=>(hB1 a (.head _)).2 j⟩⟩)
      (fun j hj e=>⟨(List.mem_cons.mp hj).elim (fun z=>absurd z e) id,fun a ha hb=>(hB1 a hb).2 j ha⟩)
      (fun _=>⟨n1,fun j _ a ha=>(hB1 a ha).2 j,fun a ha=>(hB1 a ha).1⟩)
    exact ⟨x,l,rfl,h2 H0 Hb H _ _ A' ds l B2 Rr I' e3 n2 (fun a ha=>⟨(hB a (mem_append_right _ ha)).1,fun j h=>(hA' j a h).elim (fun z=>n3 a z a ha rfl) fun z=>(hB a (mem_append_right _ ha)).2 j z⟩) p⟩
theorem Zuh {te:TE}{gs:TGs}{fe:FE}{bs:List D→Yx→R Yx}{n:Nat}(hn:∀ds ρ ρ',bs ds ρ=.ok ρ'→ds.length=n)(he:EOk K C E Γ Δ 2 [] te fe)(hb:BsN K C Γ Δ Γ' Δ' gs bs):SOk K C E mr Γl Δl Γ Δ Γ' Δ' (Zjd te (Ziz K n gs)) (Dl.Xmb fe (Dl.Ztd bs)):=fun H0 Hb H σ ρ A D I p=>by
 refine he H0 Hb H σ ρ A _ I (Xt.imp (Xt.bind p) (fun d q v H1 g1 r=>?_) fun c x q H' g'=>q H' (Xx.from0 I g'))
 obtain ⟨B,r1,r2,_,r4⟩:=r
 have hn':∀a∈B,H a=none:=fun a ha=>(r2 a ha).elim id fun z=>z.none.elim
 have q':=Zco (Xt.bind q)
 cases d with
 | tup ds =>
  obtain ⟨a,xs,rfl,e2,e3⟩:=r1
  have q'':Xt (bs ds ρ) (fun ρ'=>∀σ' H' A',Xc K C H0 Hb H' Γ' Δ' σ' ρ' A'→D.nx σ' H') (fun _ _=>False):=q'
  have hl:xs.length=n:=by
   rw [e3.len]
   cases e:bs ds ρ with
   | ok ρ'=>exact hn ds ρ ρ' e
   | err _ _=>rw [e] at q'';exact q''.elim
   | bad=>rw [e] at q'';exact q''.elim
  exact ⟨a,xs,rfl,SqT.of e2,hl,hb H0 Hb H1 σ ρ A ds xs B D.nx (I.mono g1) e3 (r4 rfl) (fun a ha=>⟨I.same.free (hn' a ha),fun j z=>I.ne z (hn' a ha)⟩) (Xt.imp q'' (fun ρ' q σ' A' I'=>q σ' H1 A' I') fun _ _ z=>z)⟩
 | _=>exact q'.elim
end
section
variable {X:Cx}{C:String→Addr}{E:XK}{Γ Δ Γ' Δ' Γ1 Δ1 Γl Δl Γk Δk:List Nat}{m m1 m2 m3 mr:Nat}{S S1 S2 S3:List (Nat×Bool)}{a b c e st o tg iter:Expr}{es rest:List Expr}{ta tb tc te ts:TE}{fa fb fc fe fs:FE}{t:TA}{f:FA}{pos p p2 apos cpos pos':Pos}{n:Nat}
theorem Zsc {i:Nat}{x:Str}{op:Operator}{ff:Int→Int→Int}{g:D→D→Option D}(hg:∀x y d,g x y=some d→∃i j,x=.int i∧y=.int j∧d=.int (ff i j))(ho:PIp X op (ipI ff))(hN:X.N.Nodup)(hi:X.N[i]?=some x)(hx:Loc X.env.scope x)(he:JE X C E Γ Δ m S e te fe)
  (hf:autoParam (X.fn x=true∨X.env.scope.names.lookup x=some .local) aT0._auto_1) (h1:∀j∈Γ',j=i∨j∈Γ:=by decide) (h2:∀j∈Δ',j=i∨j∈Δ:=by decide):JS X C E mr Γl Δl Γ Δ Γ' Δ' (.AugAssign (.Name x pos') op e pos) (Xmc i te (ipI ff)) (Dl.Zpu i g fe):=⟨Xev hN hi hx he.q ho hf,Xjw hg he.o h1 h2⟩
theorem Xms {i:Nat}{x:Str}{kx:Expr}{tk:TE}{fk:FE}(hi:i∈Γ:=by decide)(hN:X.N[i]?=some x:=by rfl)(hv:autoParam (Vis X.env.scope x) aT3._auto_1)(hd:(x==("__debug__":Str))=false:=by decide)(hcd:(x==("__classdict__":Str))=false:=by decide)
    (he:JE X C E Γ Δ m1 S1 e te fe) (hk:JE X C E Γ Δ m2 S2 kx tk fk) (hs:swapsWithSole [.Subscript (.Name x p) kx p2] e pos.line X.env=pure false:=by rfl) (hw:swappedStores [.Subscript (.Name x p) kx p2] e X.env=pure none:=by rfl) (h1:(assignEach [.Subscript (.Name x p) kx p2] X.env).map (·.2)=[assign (.Subscript (.Name x p) kx p2) X.env]:=by rfl)
    (hq:∀v,assign (.Subscript (.Name x p) kx p2) X.env v=(do
      let ov ← holding [v] (eval (.Name x p) X.env)
      let iv ← holding [v,ov] (eval kx X.env)
      standAt p2
      holding [v,ov,iv] (setItem ov iv v)
      release [v,ov,iv] []):=by intro _;rfl) :
    JS X C E mr Γl Δl Γ Δ Γ Δ (.Assign [.Subscript (.Name x p) kx p2] e pos) (Zjd te (Zbh (Zoc i) tk Xjc)) (Dl.Xri i fk fe):=⟨Xff he.q (Xpo (qv i hN hv hd hcd) hk.q set_list hq) hs hw h1,Xlm hi he.o hk.o⟩
structure JN (X:Cx)(C:String→Addr)(Γ Δ Γ' Δ':List Nat)(es:List Expr)(n:Nat)(t:TGs)(f:List D→Yx→R Yx):Prop where
 q:QGs X es t
 o:BsN X.K C Γ Δ Γ' Δ' t f
 n:∀ds ρ ρ',f ds ρ=.ok ρ'→ds.length=n
theorem Xot (h1:∀i∈Γ',i∈Γ:=by decide)(h2:∀i∈Δ',i∈Δ:=by decide):JN X C Γ Δ Γ' Δ' [] 0 Xmh Dl.Ztq:=⟨Zvc,Xjv h1 h2,Xfl⟩
theorem Zvv {i:Nat}{x:Str}{u:TGs}{fu:List D→Yx→R Yx}(hN:X.N.Nodup)(hi:X.N[i]?=some x)(hx:Loc X.env.scope x)(h2:JN X C (i::Γ) (i::Δ) Γ' Δ' es n u fu)(hf:autoParam (X.fn x=true∨X.env.scope.names.lookup x=some .local) aT0._auto_1)
  (hs:(assignEach (.Name x p::es) X.env).map (·.2)=assign (.Name x p) X.env::(assignEach es X.env).map (·.2):=by rfl):JN X C Γ Δ Γ' Δ' (.Name x p::es) (n+1) (Zuf (Zap i) u) (Dl.Zaj (Dl.Xi i) fu):=⟨Zqo (Zkr hN hi hx hf) h2.q hs,Zzv h2.o,Zyh h2.n⟩
theorem Zwr {k:Nat}{u:TGs}{fu:List D→Yx→R Yx}(hc:X.calm=true)(he:JE X C E Γ Δ 2 [] e te fe)(hb:JN X C Γ Δ Γ' Δ' es n u fu)(hn:(assignEach es X.env).length=n:=by rfl)(hst:(assignEach es X.env).findIdx? (·.1)=none:=by rfl)
  (hs:swapsWithSole [.Tuple es k p] e pos.line X.env=pure false:=by rfl) (hw:swappedStores [.Tuple es k p] e X.env=pure none:=by rfl) (h1:(assignEach [.Tuple es k p] X.env).map (·.2)=[assign (.Tuple es k p) X.env]:=by rfl) :
  JS X C E mr Γl Δl Γ Δ Γ' Δ' (.Assign [.Tuple es k p] e pos) (Zjd te (Ziz X.K n u)) (Dl.Xmb fe (Dl.Ztd fu)):=⟨Xff he.q (Xgc hc hb.q hn hst) hs hw h1,Zuh hb.n he.o hb.o⟩
end
section
variable {K:Frag}{C:String→Addr}{E:XK}{Γ Δ Γ' Δ' Γ1 Δ1 Γl Δl Γk Δk:List Nat}{m m1 m2 m3 mr:Nat}{S S1 S2 S3:List (Nat×Bool)}{H:Hp}{Q:VK}
theorem Xiw {i:Nat}{tb:TE}{fb:FE}(hb:EOk K C E Γ Δ m2 S2 tb fb):EOk K C E Γ Δ 0 [(i,true)] (tOp (rIx K) (Zoc i) tb) (Dl.f2 Dl.Xav (Dl.fV i) fb):=fun H0 Hb H σ ρ A Q I p=>by
 obtain ⟨x,e,p⟩:=Xjq (Xt.bind p)
 obtain ⟨vx,e1,r1⟩:=I.rep i x e
 refine ⟨vx,e1,hb H0 Hb H σ ρ A _ I (Xt.imp (Xt.bind p) (fun y q vy H2 g2 r2=>?_) fun c x q H' g'=>q H' g')⟩
 obtain ⟨d,e',q2⟩:=Zdl q
 obtain ⟨By,r2,_⟩:=r2
 unfold Dl.Xav at e'
 split at e'
 ·exact Xes (r1.same g2) r2 e' fun v B r3 _ h=>q2 v H2 g2 ⟨B,r3,fun a ha=>.inr ⟨(i,true),.head _,h ⟨_,rfl⟩ a ha⟩,(fun z=>nomatch z),(fun z=>nomatch z)⟩
 ·cases e'
end
section
variable {X:Cx}{C:String→Addr}{E:XK}{Γ Δ Γ' Δ' Γ1 Δ1 Γl Δl Γk Δk:List Nat}{m m1 m2 m3 mr:Nat}{S S1 S2 S3:List (Nat×Bool)}{a b c e st o tg iter:Expr}{es rest:List Expr}{ta tb tc te ts:TE}{fa fb fc fe fs:FE}{t:TA}{f:FA}{pos p p2 apos cpos pos':Pos}{n:Nat}
theorem Xgf (K:Frag)(i:Nat){x:Str}(hb:JE X C E Γ Δ m2 S2 b tb fb)(hs:Zck b)(hN:X.N[i]?=some x:=by rfl)(hv:autoParam (Vis X.env.scope x) aT3._auto_1)(hd:(x==("__debug__":Str))=false:=by decide)
  (hcd:(x==("__classdict__":Str))=false:=by decide) (hK:X.K=K:=by rfl):JE X C E Γ Δ 0 [(i,true)] (.Subscript (.Name x p) b pos) (tOp (rIx K) (Zoc i) tb) (Dl.f2 Dl.Xav (Dl.fV i) fb):=by
 subst hK
 exact ⟨Xpr Xfn (qv i hN hv hd hcd) hb.q hs,Xiw hb.o⟩
end
section
variable {K:Frag}{C:String→Addr}{E:XK}{Γ Δ Γ' Δ' Γ1 Δ1 Γl Δl Γk Δk:List Nat}{m m1 m2 m3 mr:Nat}{S S1 S2 S3:List (Nat×Bool)}{H:Hp}{Q:VK}
def JOk (K:Frag)(C:String→Addr)(E:XK)(Γ Δ:List Nat)(t:TJ)(f:FA):Prop:=∀(H0 Hb H:Hp) (σ:St) (ρ:Yx) (A:Nat→List Addr) (Q:Hp→Prop),Xc K C H0 Hb H Γ Δ σ ρ A→
 Xt (f ρ) (fun _=>∀H',Xx H H'→Q H') (fun c x=>∀H',Xx H H'→EC C E c x H')→t σ H Q
end
section
variable {X:Cx}{C:String→Addr}{E:XK}{Γ Δ Γ' Δ' Γ1 Δ1 Γl Δl Γk Δk:List Nat}{m n mr:Nat}{S:List (Nat×Bool)}{e:Expr}{es:List Expr}{t:TA}{f:FA}{np cpos pos hpos:Pos}
end
section
variable {K:Frag}{C:String→Addr}{E:XK}{Γ Δ Γ' Δ' Γ1 Δ1 Γl Δl Γk Δk:List Nat}{m m1 m2 m3 mr:Nat}{S S1 S2 S3:List (Nat×Bool)}{H:Hp}{Q:VK}
theorem RpA.drop {ds:List D}{vs:List V}{A:List Addr}(r:RpA K C H ds vs A):∀n,∃B,RpA K C H (ds.drop n) (vs.drop n) B∧∀a∈B,a∈A:=by
 intro n
 induction ds generalizing vs A n with
 | nil=>rw [r.1];exact ⟨[],by simp;exact ⟨rfl,rfl⟩,fun _ h=>nomatch h⟩
 | cons d ds ih =>
  cases n with
  | zero=>exact ⟨A,r,fun _ h=>h⟩
  | succ n =>
   obtain ⟨x,l,B,B',e1,e2,e3,e4⟩:=r
   subst e1 e4
   obtain ⟨B2,q1,q2⟩:=ih e3 n
   exact ⟨B2,q1,fun a ha=>mem_append_right _ (q2 a ha)⟩
theorem RpA.take {ds:List D}{vs:List V}{A:List Addr}(r:RpA K C H ds vs A):∀n,∃B,RpA K C H (ds.take n) (vs.take n) B∧∀a∈B,a∈A:=by
 intro n
 induction ds generalizing vs A n with
 | nil=>rw [r.1];exact ⟨[],by simp;exact ⟨rfl,rfl⟩,fun _ h=>nomatch h⟩
 | cons d ds ih =>
  cases n with
  | zero=>exact ⟨[],⟨rfl,rfl⟩,fun _ h=>nomatch h⟩
  | succ n =>
   obtain ⟨x,l,B,B',e1,e2,e3,e4⟩:=r
   subst e1 e4
   obtain ⟨B2,q1,q2⟩:=ih e3 n
   exact ⟨B++B2,⟨x,_,B,B2,rfl,e2,q1,rfl⟩,fun a ha=>(List.mem_append.mp ha).elim (fun h=>mem_append_left _ h) fun h=>mem_append_right _ (q2 a h)⟩
theorem RpA.cutV {ds:List D}{vs:List V}{A:List Addr}(r:RpA K C H ds vs A)(lo hi:Option Int):∃B,RpA K C H (Dl.cut ds lo hi) (L2.cutV vs lo hi) B∧∀a∈B,a∈A:=by
 unfold Dl.cut L2.cutV
 rw [Zjy,Zjy,r.len]
 obtain ⟨B1,q1,q2⟩:=r.drop (HT.sIx ds.length 0 lo)
 obtain ⟨B2,p1,p2⟩:=q1.take (HT.sIx ds.length ds.length hi - HT.sIx ds.length 0 lo)
 exact ⟨B2,p1,fun a ha=>q2 a (p2 a ha)⟩
theorem Res.newTop {H H':Hp}{A:Nat→List Addr}{ds:List D}{vs:List V}{p:Addr}{B:List Addr}(g1:Xx H H')(r:RpA K C H' ds vs B)(hB:∀a∈B,H a=none∨InS A S a)(hp:H' p=none):Res K C 1 S H A (.lst ds) (.ref p) (upd H' p (.lst vs)):=by
 have g2:=sameNew hp (.lst vs)
 refine ⟨p::B,⟨p,vs,B,rfl,Yb,r.same g2,rfl⟩,fun b hb=>?_,fun _ b l e=>?_,(fun z=>nomatch z)⟩
 ·rcases List.mem_cons.mp hb with z | z
  ·rw [z];exact .inl (g1.free hp)
  ·exact hB b z
 ·cases e
  refine ⟨g1.free hp,fun h=>?_⟩
  obtain ⟨ys,w,_⟩:=r.isl p h
  rw [w] at hp
  cases hp
theorem Xlu {ta:TE}{tl th:TO}{fa:FE}{fl fh:FO}(ha:EOk K C E Γ Δ m S ta fa)(hl:OOk K C E Γ Δ tl fl)(hh:OOk K C E Γ Δ th fh):EOk K C E Γ Δ 1 S (tSl (Xml K) ta tl th) (Dl.fSl Dl.Xqo fa fl fh):=
  fun H0 Hb H σ ρ A Q I p=>ha H0 Hb H σ ρ A _ I (p.bind.imp (fun x q vx H1 g1 r1=>hl H0 Hb H1 σ ρ A _ (I.mono g1) (q.bind.imp (fun lo q H2 g2=>hh H0 Hb H2 σ ρ A _ (I.mono (g1.trans g2)) (q.bind.imp (fun hi q H3 g3=>by
    obtain ⟨d,e,q⟩:=Zdl q
    obtain ⟨B,r1,rB,_⟩:=r1
    have r1:=r1.same (g2.trans g3)
    have g13:=g1.trans (g2.trans g3)
    unfold Dl.Xqo at e
    split at e
    · cases e
      obtain ⟨a,ys,B',rfl,e2,e3,e4⟩:=r1
      subst e4
      obtain ⟨B2,q1,q2⟩:=e3.cutV lo hi
      exact Zzh (SqL.of e2) fun p hp=>q _ _ (g13.trans (sameNew hp _)) (Res.newTop g13 q1 (fun b hb=>rB b (.tail _ (q2 b hb))) hp)
    · cases e) fun c x q H' g'=>q H' ((g1.trans g2).trans g'))) fun c x q H' g'=>q H' (g1.trans g'))) fun c x q H' g'=>q H' g')
end
section
variable {X:Cx}{C:String→Addr}{E:XK}{Γ Δ Γ' Δ' Γ1 Δ1 Γl Δl Γk Δk:List Nat}{m m1 m2 m3 mr:Nat}{S S1 S2 S3:List (Nat×Bool)}{a b c e st o tg iter:Expr}{es rest:List Expr}{ta tb tc te ts:TE}{fa fb fc fe fs:FE}{t:TA}{f:FA}{pos p p2 apos cpos pos':Pos}{n:Nat}{body:List Stmt}{u:TS}{g:FS}
theorem Xow (K:Frag){lo hi:Option Expr}{tl th:TO}{fl fh:FO}(he:JE X C E Γ Δ m S e te fe)(hl:JO X C E Γ Δ lo tl fl)(hu:JO X C E Γ Δ hi th fh)(hK:X.K=K:=by rfl):JE X C E Γ Δ 1 S (.Subscript e (.Slice lo hi none p2) pos) (tSl (Xml K) te tl th) (Dl.fSl Dl.Xqo fe fl fh):=by
 subst hK
 exact ⟨Zsq Zxk he.q hl.q hu.q,Xlu he.o hl.o hu.o⟩
end
structure ClsIn (K:Frag)(C:Addr):Prop where
 ty:typeIn K (.ref C)=some (.type "type")
 cl:∃c,clsIn K C=some c
 se:subIn K (.ref C) (.ref C)=some true
section
variable {K:Frag}{C:String→Addr}{E:XK}{Γ Δ Γ' Δ' Γ1 Δ1 Γl Δl Γk Δk:List Nat}{m m1 m2 m3 mr:Nat}{S S1 S2 S3:List (Nat×Bool)}{H:Hp}{Q:VK}
theorem Xdz {i:Nat}{te:TE}{fe:FE}(hi:i∈Γ:=by decide)(he:EOk K C E Γ Δ m S te fe):SOk K C E mr Γl Δl Γ Δ Γ Δ (Zmc (tBM K "list" Zlc (Zoc i) (Zdn te Zqa))) (Dl.Zpl i fe):=fun H0 Hb H σ ρ A D I p=>by
 unfold Dl.Zpl at p
 split at p
 ·rename_i ds e
  obtain ⟨a,xs,l,s1,h1,r1,hA,hl⟩:=Zhe I e
  refine ⟨.ref a,s1,.inl ⟨rfl,xs,SqL.of h1⟩,he H0 Hb H σ ρ A _ I (Xt.imp (Xt.bind p) (fun d q v H1 g1 r=>?_) fun c x q H' g'=>q H' (Xx.from0 I g'))⟩
  obtain ⟨B,r2,r3,_⟩:=r
  cases d with
  | lst es =>
   simp only at q
   split at q
   ·rename_i hz
    obtain ⟨b,zs,B2,rfl,e2,e3,e4⟩:=r2
    have e3:=e3.flat' hz.2
    show Zlc (.ref a) [.ref b] H1 fun _ H3=>D.nx σ H3
    refine ⟨a,b,xs,zs,rfl,rfl,g1 _ _ h1,e2,by rw [r1.len,e3.len];exact Zdo hz.1,?_⟩
    have e5:=(r1.same g1).app e3
    rw [append_nil] at e5
    obtain ⟨A',I'⟩:=I.rewrite g1 hi hA hl s1 e5 (fun b hb=>.inl hb) fun hd=>by
     obtain ⟨d1,_⟩:=I.deep i hd
     rw [hA] at d1
     exact (List.nodup_cons.mp d1).2
    exact q _ _ A' I'
   ·exact q.elim
  | _=>exact q.elim
 ·exact p.elim
end
structure JJ (X:Cx)(C:String→Addr)(E:XK)(Γ Δ:List Nat)(es:List Expr)(t:TJ)(f:FA):Prop where
 q:QJ X es t
 o:JOk X.K C E Γ Δ t f
section
variable {X:Cx}{C:String→Addr}{E:XK}{Γ Δ Γ' Δ' Γ1 Δ1 Γl Δl Γk Δk:List Nat}{m m1 m2 m3 mr:Nat}{S S1 S2 S3:List (Nat×Bool)}{a b c e st o tg iter:Expr}{es rest:List Expr}{ta tb tc te ts:TE}{fa fb fc fe fs:FE}{t:TA}{f:FA}{pos p p2 apos cpos pos' np jp:Pos}{n:Nat}{body:List Stmt}{s:Stmt}{u:TS}{g:FS}{tj:TJ}
theorem Xkc {i:Nat}{x:Str}(hi:i∈Γ:=by decide)(hN:X.N[i]?=some x:=by rfl)(hv:autoParam (Vis X.env.scope x) aT3._auto_1)(hd:(x==("__debug__":Str))=false:=by decide)(hcd:(x==("__classdict__":Str))=false:=by decide)
  (he:JE X C E Γ Δ m S e te fe) (hse:starEach [e] X.env=(false,eval e X.env)::starEach [] X.env)
  (hbase:attributeBase (.Name x p) "extend" X.env (eval (.Name x p) X.env)=eval (.Name x p) X.env:=by rfl)
  (hfew:((backTo cpos (starEach [e] X.env)).all (fun x=>!x.1)&&(backToKw cpos (keywordEach [] X.env)).all (fun x=>x.1.isSome)&&decide (([e]:List Expr).length+([]:List Keyword).length+(if ([]:List Keyword).isEmpty then 0 else 1)<30))=true:=by rfl)
  (hline:(apos.endLine==cpos.line)=true:=by rfl) (hplain:(backTo cpos (starEach ([]:List Expr) X.env)).any (·.1)=false:=by rfl) (hsw:swapsWith (.Call (.Attribute (.Name x p) "extend" apos) [e] [] cpos) none pos.line X.env=pure false:=by rfl) :
  JS X C E mr Γl Δl Γ Δ Γ Δ (.Expr (.Call (.Attribute (.Name x p) "extend" apos) [e] [] cpos) pos) (Zmc (tBM X.K "list" Zlc (Zoc i) (Zdn te Zqa))) (Dl.Zpl i fe):=
 ⟨Zpw (Zzy PySem.F.plainAttrs_list PySem.F.slot_list_extend PySem.F.type_list_extend Zwz (qv i hN hv hd hcd) (Zfv he.q Znr hse) hbase hfew hline hse hplain) hsw,Xdz hi he.o⟩
end
section
variable {K:Frag}{C:String→Addr}{E:XK}{Γ Δ Γ' Δ' Γ1 Δ1 Γl Δl Γk Δk:List Nat}{m m1 m2 m3 mr:Nat}{S S1 S2 S3:List (Nat×Bool)}{H:Hp}{Q:VK}
end
section
variable {X:Cx}{C:String→Addr}{E:XK}{Γ Δ Γ' Δ' Γ1 Δ1 Γl Δl Γk Δk:List Nat}{m m1 m2 m3 mr:Nat}{S S1 S2 S3:List (Nat×Bool)}{a b c e st o tg iter:Expr}{es rest:List Expr}{ta tb tc te ts:TE}{fa fb fc fe fs:FE}{t:TA}{f:FA}{pos p p2 apos cpos pos' np jp:Pos}{n:Nat}{tj:TJ}
end
section
variable {K:Frag}{C:String→Addr}{E:XK}{Γ Δ Γ' Δ' Γ1 Δ1 Γl Δl Γk Δk:List Nat}{m m1 m2 m3 mr:Nat}{S S1 S2 S3:List (Nat×Bool)}{H:Hp}{Q:VK}
end
section
variable {X:Cx}{C:String→Addr}{E:XK}{Γ Δ:List Nat}{m:Nat}{S:List (Nat×Bool)}{e:Expr}{es:List Expr}{te:TE}{fe:FE}{f:FA}{pos:Pos}{tj:TJ}
end
section
variable {K:Frag}{C:String→Addr}{E:XK}{Γ Δ Γ' Δ' Γ1 Δ1 Γl Δl Γk Δk:List Nat}{m m1 m2 m3 mr:Nat}{S S1 S2 S3:List (Nat×Bool)}{H:Hp}{Q:VK}
end
section
variable {X:Cx}{C:String→Addr}{E:XK}{Γ Δ Γ' Δ' Γ1 Δ1 Γl Δl Γk Δk:List Nat}{mr:Nat}{np pos hpos:Pos}
end
section
variable {K:Frag}{C:String→Addr}{E:XK}{Γ Δ Γ' Δ' Γ1 Δ1 Γl Δl Γk Δk:List Nat}{m m1 m2 m3 mr:Nat}{S S1 S2 S3:List (Nat×Bool)}{H:Hp}{Q:VK}
end
section
variable {X:Cx}{C:String→Addr}{E:XK}{Γ Δ Γ' Δ' Γ1 Δ1 Γl Δl Γk Δk:List Nat}{m m1 m2 m3 mr:Nat}{S S1 S2 S3:List (Nat×Bool)}{a b c e st o tg iter:Expr}{es rest:List Expr}{ta tb tc te ts:TE}{fa fb fc fe fs:FE}{pos p p2 apos cpos pos':Pos}
variable {pins:List (Addr×Obj)}{σ:St}{H:Hp}{s:Shared}{h':Heap}
end
noncomputable def Itv (K:Frag)(a:Addr)(n:Nat):It:=
 ⟨fun i H=>∃xs,SqL K H a xs∧xs.length=n∧i<n,fun i H x H'=>H'=H∧∀xs,SqL K H a xs→xs[n - 1 - i]?=some x,fun i _=>n≤i⟩
theorem Xaw {P:Program}{w:World}{K:Frag}{tg:Expr}{a it:Addr}{n:Nat}:Turn P w K tg (Itv K a n) [it] it (fun i h=>i≤n∧h.IsRevIter it a ((n:Int) - 1 - i)) where
 mem:=by simp
 obj:=fun i h st b hb=>by
  have e:b=it:=by simpa using hb
  subst e
  obtain ⟨_,o,e,c,d⟩:=st
  exact ⟨o,e,fun v z=>by rw [d] at z;cases z⟩
 keep:=fun i h h' st k=>⟨st.1,st.2.at fun o e=>k it (by simp) o e⟩
 item:=by
  intro X hP hw hK hc i pins s σ H E I hf st hg
  subst hP hw hK
  obtain ⟨xs,hq,hl,hi⟩:=hg
  obtain ⟨its,rv,p,hz⟩:=I.list hq
  have hl':=rv.length
  have hlt:n - 1 - i<xs.length:=by omega
  obtain ⟨u,hu,ru⟩:=rv.get (getElem?_eq_getElem hlt)
  obtain ⟨f0,f1,f2,f3,f4,f5⟩:=hf it (by simp)
  have st2:=st.2
  rw [show (n:Int) - 1 - i=((n - 1 - i:Nat):Int) by omega] at st2
  refine wpAny_pyNext_rev_item st2 p.isList (x:=u) (by simpa using hu) fun h' st' sb=>?_
  have I1:Inv X pins σ H {s with heap:=h'}:=I.turned (t':=s.toks) (fun b o hb e=>(sb.2 b hb).trans e) f0 f1 f3 f4 f5
  obtain ⟨o,e,c,d⟩:=id st'
  refine ⟨u,rfl,Xki (s:={s with heap:=h'}) e c d (by decide) ⟨xs[n - 1 - i],H,I1,ru,⟨rfl,fun ys hy=>by rw [I.list_inj hy hq];exact getElem?_eq_getElem hlt⟩,⟨by omega,?_⟩,fun b hb=>(hf b hb).1⟩⟩
  rw [show (n:Int) - 1 - ((i+1:Nat):Int)=((n - 1 - i:Nat):Int) - 1 by omega]
  exact st'
 done:=by
  intro X hP hw hK hc i pins s σ H E I hf st hg
  subst hP hw hK
  obtain ⟨f0,f1,f2,f3,f4,f5⟩:=hf it (by simp)
  have hg':n≤i:=hg
  have st2:=st.2
  have hi:=st.1
  rw [show (n:Int) - 1 - i=-1 by omega] at st2
  exact wpAny_pyNext_rev_end (I.ok.hd hc) st2 fun h' eb=>⟨rfl,I.turned (t':=s.toks) (fun b o hb e=>eb b o hb e) f0 f1 f3 f4 f5⟩
 self:=fun _ _ _ _ _ st h=>wpAny_pyIter_revIter st.2 h
section
variable {X:Cx}{a b e:Expr}{ta tb te:TE}{elts:List Expr}{x1:Nat}{tpos p pos:Pos}{tg:Expr}
noncomputable def Xls (K:Frag)(ta:TE):TI:=fun σ H R=>Zdn ta Zqa σ H fun vs H1=>∃p xs,vs=[.ref p]∧SqL K H1 p xs∧R (Itv K p xs.length) H1
theorem Xld (hg:Gl X "reversed")(hm:X.mg "reversed"=none)(ha:PE X a ta)(hs:starEach [a] X.env=(false,eval a X.env)::starEach [] X.env)(hs3:starEach ([]:List Expr) X.env=[]:=by rfl) :
    PI X tg (.Call (.Name "reversed" p) [a] [] pos) (Xls X.K ta):=by
  intro pins s σ H R I h
  refine Call_ (Zgo I hg hm boot_reversed (PyProof.Rows.callWith_type1 (thn (Zku ha Zqd hs pos pins s σ H _ I h) fun us s1 ⟨vs,H1,I1,r1,q1⟩=>?_) (by rw [hs]) (by rw [hs3];rfl)))
  obtain ⟨l1,xs,rfl,hq1,q⟩:=q1
  obtain ⟨u,rfl,rx⟩:=vals1 r1
  cases rx
  obtain ⟨its1,rv1,p1,hz1⟩:=I1.list hq1
  have hl:=rv1.length
  refine call_reversed_list p1.isList ?_
  have st:Heap.IsRevIter (s1.heap.push (revObj l1 ((its1.toArray.size:Int) - 1))) s1.heap.objs.size l1 ((xs.length:Int) - 1 - ((0:Nat):Int)):=⟨_,get?_push_size _ rfl,rfl,by
    rw [show (xs.length:Int) - 1 - ((0:Nat):Int)=(its1.toArray.size:Int) - 1 by simp;omega]
    rfl⟩
  refine wpAny_pyIter_revIter st ?_
  refine ⟨_,[s1.heap.objs.size],_,_,H1,rfl,I1.kept (t':=s1.toks) fun b o e=>get?_push_of_some _ e,Xaw,⟨zero_le _,st⟩,fun c hc=>?_,q⟩
  have hc':s1.heap.objs.size≤c:=by
      simp only [List.mem_cons,List.not_mem_nil,or_false] at hc
      rw [hc];exact le_refl _
  exact I1.fpOk hc' (I1.hok.fresh hc')
end
section
variable {K:Frag}{C:String→Addr}{E:XK}{Γ Δ Γ' Δ':List Nat}{m m1 m2:Nat}{S S1 S2:List (Nat×Bool)}{H:Hp}
theorem Zvt {a:Addr}{ds:List D}{vs:List V}{B:List Addr}{Hc:Hp}(r:RpA K C Hc ds vs B)(h:∀H2,Xx Hc H2→SqL K H2 a vs):Goes K C (Itv K a vs.length) ds.reverse Hc:=fun H2 g=>by
 have q:=h H2 g
 have hl:=r.len
 refine ⟨fun i h=>⟨vs,q,rfl,by rw [length_reverse] at h;omega⟩,fun i h=>by rw [length_reverse] at h;show vs.length≤i;omega,fun i x H3 h y=>?_⟩
 rw [length_reverse] at h
 obtain ⟨rfl,y⟩:=y
 have hx:=y vs q
 obtain ⟨d,Bd,q1,q2,q3⟩:=r.get' hx
 refine ⟨Xx.refl _,d,Bd,?_,q2.same g,fun a ha z=>?_⟩
 ·rw [List.getElem?_reverse (by omega),← hl]
  exact q1
 ·obtain ⟨xs,e,_⟩:=q2.isl a ha
  rw [e] at z
  cases z
theorem Zzu {t:TE}{f:FE}(h:EOk K C E Γ Δ m S t f):IOk K C E Γ Δ S (Xls K t) (Dl.Xcc f):=fun H0 Hb H σ ρ A Rr I p=>h H0 Hb H σ ρ A _ I (p.bind.imp (fun d q v H' g r=>by
  obtain ⟨B,r,r',_⟩:=r
  cases d with
  | lst ds =>
    obtain ⟨a,xs,B',rfl,e2,e3,e4⟩:=r
    subst e4
    simp only at q
    split at q
    · rename_i hl
      refine ⟨a,xs,rfl,SqL.of e2,q _ H' (a::B') g (fun b hb=>?_) (by rw [length_reverse];exact hl) fun Hc h1=>?_⟩
      · rcases List.mem_cons.mp hb with z | z
        · rw [z]
          exact ⟨⟨_,e2,.lst⟩,r' a (.head _)⟩
        · exact ⟨e3.isl b z,r' b (.tail _ z)⟩
      · exact fun H2 g2=>Zvt (e3.agree h1 fun b hb=>.tail _ hb) (fun H2 g2=>SqL.of (g2 _ _ ((h1.1 a (.head _)).trans e2))) H2 g2
    · exact q.elim
  | _=>exact q.elim) fun c x q H' g'=>q H' g')
end
section
variable {X:Cx}{C:String→Addr}{E:XK}{Γ Δ Γ' Δ':List Nat}{m m1 m2:Nat}{S S1 S2:List (Nat×Bool)}{a b e:Expr}{ta tb te:TE}{fa fb fe:FE}{elts:List Expr}{x1:Nat}{tpos p pos:Pos}{tg:Expr}
theorem Xjk (hg:Gl X "reversed")(hm:X.mg "reversed"=none)(ha:JE X C E Γ Δ m1 S1 a ta fa)(hs:starEach [a] X.env=(false,eval a X.env)::starEach [] X.env) :
  JI X C E Γ Δ S1 tg (.Call (.Name "reversed" p) [a] [] pos) (Xls X.K ta) (Dl.Xcc fa):=⟨⟨Xld hg hm ha.q.out hs⟩,Zzu ha.o⟩
end
section
variable {X:Cx}
def Zyl (K:Frag):List V→Hp→VK→Prop:=fun vs H Q=>∃(a:Addr) (ns:List Int),vs=[.ref a]∧SqL K H a (ns.map V.int)∧ns.length<64∧∀(ns':List Int) (r:Addr),ns'.Perm ns→ns'.Pairwise (·≤·)→H r=none→Q (.ref r) (upd H r (.lst (ns'.map V.int)))
theorem Zip:Zav X (.builtin "sorted") (Zyl X.K):=by
 intro pins s σ H xs us Q I r h
 obtain ⟨a,ns,rfl,hq,hl,q⟩:=h
 obtain ⟨u,rfl,rx⟩:=vals1 r
 cases rx
 obtain ⟨its,rv,p,hz⟩:=I.list hq
 have hlen:=rv.length
 rw [length_map] at hlen
 refine sorted_ints p.isList (intsAre_of rv) (by omega) fun out ns' h1 h2 h3=>?_
 obtain ⟨e,he⟩:=sortedAll_at s.heap its out
 have hn:H (s.heap.objs.size+1)=none:=I.hok.fresh (le_succ _)
 have hv:=Zdh h1
 have hl':=hv.length
 have I2:=I.laid (t':=s.toks) (o:=.lst (ns'.map V.int)) (h':=sortedAll s.heap its out) (fun b o q=>sortedAll_old q) (le_succ _) ⟨by rw [length_map,h2.length_eq];exact le_of_lt (lt_of_lt_of_le hl (by decide)),out.toList,e,hv,by simpa [seqObj] using he⟩
 exact ⟨.ref (s.heap.objs.size+1),_,I2,rfl,q ns' _ h2 h3 hn⟩
variable {K:Frag}{C:String→Addr}{E:XK}{Γ Δ Γ' Δ' Γ1 Δ1 Γl Δl Γk Δk:List Nat}{m m1 m2 m3 mr:Nat}{S S1 S2 S3:List (Nat×Bool)}{H:Hp}{Q:VK}
theorem Zla {ns ns':List Int}(h:ns'.Perm ns)(o:ns'.Pairwise (·≤·)):ns'=Dl.sortI ns:=by
 refine PySem.W.ksm_same (h.trans (mergeSort_perm ns _).symm) o ?_
 have:=pairwise_mergeSort (le:=fun a b:Int=>decide (a≤b)) (fun a b c h1 h2=>by simp at *;omega) (fun a b=>by simp;omega) ns
 exact this.imp fun h=>by simpa using h
theorem Zqh:GAk K C (Zyl K) Dl.Zoe:=by
 intro H xs d vs Bx Q r e q
 unfold Dl.Zoe at e
 split at e
 ·rename_i ds
  obtain ⟨ns,h1,h2⟩:=Option.bind_eq_some_iff.mp e
  split at h2
  ·rename_i hl
   cases h2
   obtain ⟨v,rfl,r1⟩:=r.one'
   obtain ⟨a,ys,B,rfl,e2,e3,_⟩:=r1
   have z:=RpA.ofInts e3 h1
   subst z
   refine ⟨a,ns,rfl,SqL.of e2,hl,fun ns' r hp ho hr=>?_⟩
   rw [Zla hp ho]
   exact Out.lst q RpA.ints hr
  ·cases h2
 ·cases e
variable {kx e:Expr}{tk te:TE}{p p2 pos:Pos}{x:Str}{i:Nat}
end
section
variable {X:Cx}{C:String→Addr}{E:XK}{Γ Δ Γ' Δ' Γ1 Δ1 Γl Δl Γk Δk:List Nat}{m m1 m2 m3 mr:Nat}{S S1 S2 S3:List (Nat×Bool)}{a b c e st o tg iter:Expr}{es rest:List Expr}{ta tb tc te ts tk:TE}{fa fb fc fe fs fk:FE}{t:TA}{f:FA}{pos p p2 apos cpos pos' bpos:Pos}{n:Nat}
end
section
variable {X:Cx}{e:Expr}{te:TE}{p pos cp kp:Pos}{k:Nat}
def Zyi (K:Frag):V→List V→Hp→VK→Prop:=fun x vs H Q=>∃(a:Addr) (ns:List Int) (n:Int),x=.ref a∧vs=[.int n]∧SqL K H a (ns.map V.int)∧n∈ns∧Q (.int (ns.idxOf n:Nat)) H
theorem Xbz:MtR X "list.index" (Zyi X.K):=by
 intro pins s σ H x vs v us Q I rx rv h
 obtain ⟨a,ns,n,rfl,rfl,hq,hn,q⟩:=h
 cases rx
 obtain ⟨u,rfl,ru⟩:=rv.one
 obtain ⟨t,rfl⟩:=ru
 obtain ⟨its,rv2,pl,hz⟩:=I.list hq
 rw [length_map] at hz
 have hi:=intsAre_of rv2
 have hlen:=hi.length
 obtain ⟨⟨cl,dd,dat,sl⟩,ho,hc,k,hd⟩:=id pl.isList
 simp only at hc hd;subst hc hd
 have hj:ns.idxOf n<ns.length:=List.idxOf_lt_length_iff.mpr hn
 have hl:=Zhx
 refine call_meets PySem.F.slot_list_index ⟨_,ho,rfl⟩ PySem.F.entry_list_index (PySem.F.args_list_index_2 _ _) (PySem.SeqAt.list_indexAt a its.toArray k dd sl (.int n t) (isInt n) (ns.idxOf n) (by simpa [hlen] using hj) (by omega) ?_ ?_) ⟨ho,fun y hy=>(eq_isInt n t hi y (by simpa using hy)).at _ _,.int (ns.idxOf n:Nat),H,I.tok _,⟨_,rfl⟩,q⟩
 ·show isInt n its[ns.idxOf n]=true;rw [isInt_at n hi _ (by omega) hj];simpa using List.getElem_idxOf hj
 ·intro j hjs hlt;show isInt n its[j]=false;rw [isInt_at n hi j (by simpa using hjs) (by omega)];exact ne_of_lt_idxOf hlt _
end
section
variable {K:Frag}{C:String→Addr}{E:XK}{Γ Δ Γ' Δ' Γ1 Δ1 Γl Δl Γk Δk:List Nat}{m m1 m2 m3 mr:Nat}{S S1 S2 S3:List (Nat×Bool)}{H:Hp}{Q:VK}
theorem Zxi {ta tb:TE}{fa fb:FE}(ha:EOk K C E Γ Δ m1 S1 ta fa)(hb:EOk K C E Γ Δ m2 S2 tb fb):EOk K C E Γ Δ 2 [] (tBM K "list" (Zyi K) ta (Zdn tb Zqa)) (Dl.Zss fa fb):=
  fun H0 Hb H σ ρ A Q I p=>ha H0 Hb H σ ρ A _ I (p.bind.imp (fun x q vx H1 g1 r1=>by
    obtain ⟨Bx,r1,_⟩:=r1
    cases x with
    | lst ds =>
      obtain ⟨a,xs,B,rfl,e2,e3,_⟩:=r1
      refine ⟨.inl ⟨rfl,xs,SqL.of e2⟩,hb H0 Hb H1 σ ρ A _ (I.mono g1) (q.bind.imp (fun y q vy H2 g2 r2=>?_) fun c x q H' g'=>q H' (g1.trans g'))⟩
      obtain ⟨d,e,q⟩:=Zdl q
      obtain ⟨By,r2,_⟩:=r2
      cases y with
      | int n =>
        obtain ⟨rfl,_⟩:=r2
        obtain ⟨ns,h1,h2⟩:=Option.bind_eq_some_iff.mp (show (Dl.intsOf ds).bind (fun ns=>if n∈ns then some (D.int (ns.idxOf n:Nat)) else none)=some d from e)
        split at h2
        · rename_i hz
          cases h2
          have z:=RpA.ofInts e3 h1
          subst z
          exact ⟨a,ns,n,rfl,rfl,SqL.of (g2 _ _ e2),hz,q _ _ (g1.trans g2) (Res.flat rpI)⟩
        · cases h2
      | _=>cases e
    | _=>exact q.elim) fun c x q H' g'=>q H' g')
end
section
variable {X:Cx}{C:String→Addr}{E:XK}{Γ Δ Γ' Δ' Γ1 Δ1 Γl Δl Γk Δk:List Nat}{m m1 m2 m3 mr:Nat}{S S1 S2 S3:List (Nat×Bool)}{a b c e st o tg iter:Expr}{es rest:List Expr}{ta tb tc te ts:TE}{fa fb fc fe fs:FE}{pos p p2 apos cpos pos' cp kp:Pos}{k:Nat}
theorem Xao (K:Frag)(ho:JE X C E Γ Δ m1 S1 o ta fa)(he:JE X C E Γ Δ m2 S2 e tb fb)(hse:starEach [e] X.env=(false,eval e X.env)::starEach [] X.env)(hbase:attributeBase o "index" X.env (eval o X.env)=eval o X.env:=by rfl)
  (hfew:((backTo cpos (starEach [e] X.env)).all (fun x=>!x.1)&&(backToKw cpos (keywordEach [] X.env)).all (fun x=>x.1.isSome)&&decide (([e]:List Expr).length+([]:List Keyword).length+(if ([]:List Keyword).isEmpty then 0 else 1)<30))=true:=by rfl)
  (hline:(apos.endLine==cpos.line)=true:=by rfl) (hplain:(backTo cpos (starEach ([]:List Expr) X.env)).any (·.1)=false:=by rfl) (hK:X.K=K:=by rfl):JE X C E Γ Δ 2 [] (.Call (.Attribute o "index" apos) [e] [] cpos) (tBM K "list" (Zyi K) ta (Zdn tb Zqa)) (Dl.Zss fa fb):=by
 subst hK
 exact ⟨Zzy PySem.F.plainAttrs_list PySem.F.slot_list_index PySem.F.type_list_index Xbz ho.q (Zfv he.q Znr hse) hbase hfew hline hse hplain,Zxi ho.o he.o⟩
variable {pins:List (Addr×Obj)}{σ:St}{H:Hp}{s:Shared}
end
section
variable {X:Cx}{C:String→Addr}{E:XK}{Γ Δ Γ' Δ' Γk Δk:List Nat}{m mr:Nat}{S:List (Nat×Bool)}{c tg iter:Expr}{body:List Stmt}{u:TS}{g:FS}{pos:Pos}
end
section
variable {K:Frag}{C:String→Addr}{E:XK}{Γ Δ Γ' Δ' Γ1 Δ1 Γl Δl:List Nat}{m m1 m2 mr:Nat}{S S1 S2:List (Nat×Bool)}{H:Hp}
end
section
variable {X:Cx}{C:String→Addr}{E:XK}{Γ Δ Γ' Δ' Γl Δl:List Nat}{m mr:Nat}{a b:Expr}{t:TA}{f:FA}{p p1 p2 pos pt2:Pos}{x y:Str}{i j k k2:Nat}
end
section
variable {K:Frag}{C:String→Addr}{E:XK}{Γ Δ Γ' Δ' Γ1 Δ1 Γl Δl Γk Δk:List Nat}{m m1 m2 m3 mr:Nat}{S S1 S2 S3:List (Nat×Bool)}{H:Hp}{Q:VK}
noncomputable def AtP (K:Frag)(H:Hp):V→List Int→Addr→Prop
 | v,[],b=>v=.ref b
 | v,n::r,b=>∃p xs u,v=.ref p∧(H p=some (.lst xs)∨H p=some (.tup xs))∧atI xs n=some u∧AtP K H u r b
end
section
variable {X:Cx}{C:String→Addr}{E:XK}{Γ Δ Γ' Δ' Γ1 Δ1 Γl Δl Γk Δk:List Nat}{m m1 m2 m3 mr:Nat}{S S1 S2 S3:List (Nat×Bool)}{a b c e st o tg iter kx lx:Expr}{es rest:List Expr}{ta tb tc te ts tk tl:TE}{fa fb fc fe fs fk fl:FE}{pos p p1 p2 apos cpos pos':Pos}{n:Nat}
end
section
variable {K:Frag}{C:String→Addr}{E:XK}{Γ Δ Γ' Δ' Γ1 Δ1 Γl Δl Γk Δk:List Nat}{m m1 m2 m3 mr:Nat}{H:Hp}{Q:VK}
end
section
variable {X:Cx}{C:String→Addr}{E:XK}{Γ Δ Γ' Δ' Γl Δl:List Nat}{mr:Nat}{pos p p2 apos cpos:Pos}
end
section
variable {prog:Program}{w:World}{A:Around}{E:Value→Shared→Prop}{s:Shared}{a₀:Array Keyed}
variable {X:Cx}
variable {K:Frag}{C:String→Addr}
end
section
variable {K:Frag}{C:String→Addr}{E:XK}{Γ Δ Γ' Δ' Γl Δl:List Nat}{m mr:Nat}{S:List (Nat×Bool)}
end
section
variable {X:Cx}{C:String→Addr}{E:XK}{Γ Δ Γ' Δ' Γl Δl:List Nat}{m mr:Nat}{S:List (Nat×Bool)}{e:Expr}{te:TE}{fe:FE}{p p1 p2 pos:Pos}{x y:Str}{i j k:Nat}
theorem Xrf {st:Stmt}{t:TS}{f:FS}(Γ0 Δ0:List Nat)(h:JS X C E mr Γl Δl Γ0 Δ0 Γ' Δ' st t f)(h1:∀i∈Γ0,i∈Γ:=by decide)(h2:∀i∈Δ0,i∈Δ:=by decide):JS X C E mr Γl Δl Γ Δ Γ' Δ' st t f:=⟨h.q,fun H0 Hb H σ ρ A D I p=>h.o H0 Hb H σ ρ A D (I.weak h1 h2) p⟩
variable {tg:Expr}
end
section
variable {K:Frag}{C:String→Addr}{E:XK}{Γ Δ:List Nat}{m:Nat}{S:List (Nat×Bool)}{H:Hp}
end
section
variable {X:Cx}{C:String→Addr}{E:XK}{Γ Δ:List Nat}{m n:Nat}{S:List (Nat×Bool)}{tg a b c:Expr}{t:TA}{f:FA}{p pos:Pos}
end
section
variable {K:Frag}{C:String→Addr}
end
end L2
namespace L2
open PySem PySem.Spec PyProof.Rows
open Dl (D R FE FT FA FO FS FI FB Fl FM FMT)
section
variable {K:Frag}{C:String→Addr}{E:XK}{Γ Δ Γ' Δ' Γ1 Δ1 Γl Δl:List Nat}{m m1 m2 mr n:Nat}{S S1 S2:List (Nat×Bool)}{H:Hp}
def MOk (K:Frag)(C:String→Addr)(E:XK)(Γ Δ:List Nat)(t:TE)(f:FM):Prop:=∀(H0 Hb H:Hp) (σ:St) (ρ:Yx) (A:Nat→List Addr) (Q:VK),Xc K C H0 Hb H Γ Δ σ ρ A→
 Xt (f ρ) (fun p=>∀v H' A' B,Xc K C H0 Hb H' Γ Δ σ p.2 A'→Rp K C H' p.1 v B→B.Nodup→(∀a∈B,Hb a=none∧∀j,a∉A' j)→Q v H') (fun c x=>∀H',Xx H0 H'→EC C E c x H')→t σ H Q
def MTOk (K:Frag)(C:String→Addr)(E:XK)(Γ Δ:List Nat)(t:TT)(f:FMT):Prop:=∀(H0 Hb H:Hp) (σ:St) (ρ:Yx) (A:Nat→List Addr) (Q:Bool→Hp→Prop),Xc K C H0 Hb H Γ Δ σ ρ A→
 Xt (f ρ) (fun p=>∀H' A',Xc K C H0 Hb H' Γ Δ σ p.2 A'→Q p.1 H') (fun c x=>∀H',Xx H0 H'→EC C E c x H')→t σ H Q
def SOkP (K:Frag)(C:String→Addr)(E:XK)(Γ Δ Γ' Δ':List Nat)(t:TS)(f:FS):Prop:=∀(H0 Hb H:Hp) (σ:St) (ρ:Yx) (A:Nat→List Addr) (D:Ends),Xc K C H0 Hb H Γ Δ σ ρ A→
  Xt (f ρ) (fun fl=>match fl with
    | .nx ρ'=>∀σ' H' A',σ'[0]?=σ[0]?→Xc K C H0 Hb H' Γ' Δ' σ' ρ' A'→D.nx σ' H'
    | _=>False) (fun c x=>∀H',Xx H0 H'→EC C E c x H')→t D σ H
def MBOk (K:Frag)(C:String→Addr)(E:XK)(Γ Δ:List Nat)(t:TS)(G:FM):Prop:=∀(H0 Hb H:Hp) (σ:St) (ρ:Yx) (A:Nat→List Addr) (D:Ends) (Q:VK),Xc K C H0 Hb H Γ Δ σ ρ A→D.rt=Q→(D.nx=fun _ H'=>Q .non H')→
 Xt (G ρ) (fun p=>∀v H' σ' A' B,σ'[0]?=σ[0]?→Xc K C H0 Hb H' [0] [0] σ' p.2 A'→Rp K C H' p.1 v B→B.Nodup→(∀a∈B,Hb a=none∧∀j,a∉A' j)→Q v H') (fun c x=>∀H',Xx H0 H'→EC C E c x H')→t D σ H
theorem Xhu {ds:List D}{vs:List V}{B:List Addr}(r:RpA K C H ds vs B):∃A:Nat→List Addr,(∀(i:Nat) d,ds[i]?=some d→∃v,vs[i]?=some v∧Rp K C H d v (A i))∧(∀i,ds.length≤i→A i=[])∧∀i,∀a∈A i,a∈B:=by
 induction ds generalizing vs B with
 | nil=>exact ⟨fun _=>[],fun i d h=>by simp at h,fun _ _=>rfl,fun _ _ h=>nomatch h⟩
 | cons d ds ih =>
  obtain ⟨x,l,B1,B2,e1,e2,e3,e4⟩:=r
  obtain ⟨A,h1,h2,h3⟩:=ih e3
  subst e1 e4
  refine ⟨fun i=>match i with | 0=>B1 | i+1=>A i,fun i d' h=>?_,fun i h=>?_,fun i a ha=>?_⟩
  ·cases i with
   | zero=>simp at h;subst h;exact ⟨x,rfl,e2⟩
   | succ i=>simp at h;obtain ⟨v,q1,q2⟩:=h1 i d' h;exact ⟨v,by simpa using q1,q2⟩
  ·cases i with
   | zero=>simp at h
   | succ i=>exact h2 i (by simpa using h)
  ·cases i with
   | zero=>exact mem_append_left _ ha
   | succ i=>exact mem_append_right _ (h3 i a ha)
end
structure JM (X:Cx)(C:String→Addr)(E:XK)(Γ Δ:List Nat)(e:Expr)(t:TE)(f:FM):Prop where
 q:QE X e t
 o:MOk X.K C E Γ Δ t f
structure JMT (X:Cx)(C:String→Addr)(E:XK)(Γ Δ:List Nat)(e:Expr)(t:TT)(f:FMT):Prop where
 q:QT X e t
 o:MTOk X.K C E Γ Δ t f
structure JMW (X:Cx)(C:String→Addr)(E:XK)(Γ Δ:List Nat)(e:Expr)(t:TT)(f:FMT):Prop where
 q:QW X e t
 o:MTOk X.K C E Γ Δ t f
structure JP (X:Cx)(C:String→Addr)(E:XK)(Γ Δ Γ' Δ':List Nat)(s:Stmt)(t:TS)(f:FS):Prop where
 q:QS X s t
 o:SOkP X.K C E Γ Δ Γ' Δ' t f
structure JMB (X:Cx)(C:String→Addr)(E:XK)(Γ Δ:List Nat)(s:List Stmt)(t:TS)(f:FM):Prop where
 q:QSs X s t
 o:MBOk X.K C E Γ Δ t f
structure MDef (P:Program)(w:World)(K:Frag)(mg:Str→Option Value)(base:Heap)(CX:CXT)(k:Nat)(C:Addr)(x:Str)(ps:List Str)(sp:Sp):Prop where
 ex:∃f fd,Meth K C x f∧Binds K fd ps []∧Zam P w K mg base CX k f fd ps sp
structure MkDef (P:Program)(w:World)(K:Frag)(mg:Str→Option Value)(base:Heap)(CX:CXT)(k:Nat)(C:Addr)(ps:List Str)(sp:Sp):Prop where
 ex:∃f fd,Mk K C f∧Binds K fd ps []∧Zam P w K mg base CX k f fd ps sp
section
variable {X:Cx}{C:String→Addr}{E:XK}{Γ Δ Γ' Δ' Γ1 Δ1 Γl Δl:List Nat}{m m1 m2 mr n:Nat}{S S1 S2:List (Nat×Bool)}{a b e o:Expr}{es rest:List Expr}{te:TE}{fe:FE}{t:TA}{fa:FA}{pos p p2 apos cpos:Pos}{c:String}{f md x:Str}{CX:CXT}{k:Nat}{ps:List Str}{s:Stmt}{ss:List Stmt}{tm:TE}{fm:FM}{u:TS}{g:FS}
end
section
variable {K:Frag}{C:String→Addr}{E:XK}{Γ Δ Γ' Δ' Γ1 Δ1 Γl Δl:List Nat}{m m1 m2 mr n:Nat}{S S1 S2:List (Nat×Bool)}{H:Hp}
end
section
variable {X:Cx}{C:String→Addr}{E:XK}{Γ Δ Γ' Δ' Γl Δl:List Nat}{m1 m2 n:Nat}{S2:List (Nat×Bool)}{a b e:Expr}{es:List Expr}{ta tb:TE}{fa fb:FE}{t:TA}{ff:FA}{pos p p2 cpos:Pos}{x y:Str}{CX:CXT}{k:Nat}{ps:List Str}
end
theorem allN0 {P:List Value→Prop}(h:P []):∀us:List Value,us.length=0→P us
 | [],_=>h
theorem Xmq {P:List Value→Prop}(h:∀a0,P [a0])(us:List Value)(hl:us.length=1):P us:=by
 cases us with
 | nil=>exact absurd hl (by decide)
 | cons a us=>exact allN0 (P:=fun z=>P (a::z)) (h a) us (Nat.succ.inj hl)
theorem Zjk {P:List Value→Prop}(h:∀a0 a1,P [a0,a1])(us:List Value)(hl:us.length=2):P us:=by
 cases us with
 | nil=>exact absurd hl (by decide)
 | cons a us=>exact Xmq (P:=fun z=>P (a::z)) (h a) us (Nat.succ.inj hl)
theorem Zem {P:List Value→Prop}(h:∀a0 a1 a2,P [a0,a1,a2])(us:List Value)(hl:us.length=3):P us:=by
 cases us with
 | nil=>exact absurd hl (by decide)
 | cons a us=>exact Zjk (P:=fun z=>P (a::z)) (h a) us (Nat.succ.inj hl)
theorem Ztb {P:List Value→Prop}(h:∀a0 a1 a2 a3,P [a0,a1,a2,a3])(us:List Value)(hl:us.length=4):P us:=by
 cases us with
 | nil=>exact absurd hl (by decide)
 | cons a us=>exact Zem (P:=fun z=>P (a::z)) (h a) us (Nat.succ.inj hl)
theorem Xbp {q:Program}{loose:List Str}{XP:(Str→Option Value)→Heap→Prop}{K:Params→Frag}{as:List Addr}{n t:Nat}{r:PySem.W.RowW}{d:DefRec}{kwd:List (Str×Expr)}{run:Value→List Value→Sem Value}
  (e:∀P,as=(K P).map (·.1)) (W:PySem.W.WalkO q loose XP (PySem.W.InK K) r d kwd run):PySem.W.WalkX q loose XP (PySem.W.X.obsZ as) (PySem.W.X.valZ K n t) r d kwd run:=
 fun w s₀ s₁ mg mb G y a o pm cd doc dV kV ho hd hcd hD hmg hg args vals as' L hpre hlay hrd hwl hlo =>
  W w s₀ s₁ mg mb G (PySem.W.InK.keeps w _ _ (PySem.W.X.z_facts e y).2.1 (PySem.W.Laid.keeps L)) a o pm cd doc dV kV ho hd hcd hD hmg hg args vals as' hpre hlay hrd hwl hlo
end L2
namespace L2
open PySem PySem.Spec PyProof.Rows
open Dl (D R FE FT FA FO FS FI FB Fl)
section
variable {K:Frag}{C:String→Addr}{E:XK}{Γ Δ Γ' Δ' Γl Δl:List Nat}{mr:Nat}
end
section
variable {X:Cx}{C:String→Addr}{E:XK}{Γ Δ Γl Δl:List Nat}{m2 mr n k:Nat}{S2:List (Nat×Bool)}{es:List Expr}{t:TA}{ff:FA}{pos p p2 p3 cpos:Pos}{x y:Str}{CX:CXT}{ps:List Str}
end
end L2
namespace L2
open PySem PySem.Spec PyProof.Rows
noncomputable def Xpu (K:Frag)(C:Addr)(bmB:List Value)(newId:String)(fI:Addr):Bool:=match K.lookup C with
  | some ⟨.type "type",_,.cls cd,sl⟩=>(match cd.mro,sl.toList with
    | .ref C'::bm,[_,_,_,_,some (.builtin n),_]=>C'==C&&n==newId&&!cd.hasDel&&cd.hasDict&&PySem.W.tailIn K bmB bm&&PySem.W.nsOkIn K cd.ns&&nsIn K cd.ns "__init__"==some (some (.ref fI))
    | _,_=>false)
  | _=>false
section
variable {prog:Program}{w:World}{A:Around}{E:Value→Shared→Prop}{h:Heap}{g:Array GenState}{d:Drawn}{t:Nat}{os:OsState}
variable {nm q:Str}{C N:Addr}{bs bm bmB:List Value}{hdct:Bool}{sn:List Str}{sub:List Value}{ab:Bool}{col:Option Bool}{dd:Option Addr}{k0 k1 k2 k3 k5:Option Value}{B newId initId:String}
end
section
variable {prog:Program}{w:World}{A:Around}{E:Value→Shared→Prop}{s:Shared}{env:Env}
variable {nm q:Str}{C N:Addr}{bs bm bmB:List Value}{hdct:Bool}{sn:List Str}{sub:List Value}{ab:Bool}{col:Option Bool}{dd:Option Addr}{k0 k1 k2 k3 k5:Option Value}{B newId initId:String}
end
end L2
namespace L2
open PySem PySem.Spec PyProof.Rows
open PySem.W (Looks)
open Builtin Builtin.ObjectAttr
section
variable {prog:Program}{w:World}{A:Around}{E:Value→Shared→Prop}{h:Heap}{g:Array GenState}{d:Drawn}{t:Nat}{os:OsState}
variable {nm q:Str}{C N x:Addr}{bs bm bmB:List Value}{sn:List Str}{sub:List Value}{ab:Bool}{col:Option Bool}{dd:Option Addr}{k0 k1 k2 k3 k5:Option Value}{B newId sa owner:String}
 {name:Str} {v:Value} {fs:Array Value} {sl:Array (Option Value)}
end
end L2
namespace L2
open PySem PySem.Spec PyProof.Rows
open PySem.W (Looks)
section
variable {prog:Program}{w:World}{A:Around}{E:Value→Shared→Prop}{h:Heap}{g:Array GenState}{d:Drawn}{t:Nat}{os:OsState}
variable {nm q:Str}{C N x:Addr}{bs bm bmB:List Value}{hdct:Bool}{sn:List Str}{sub:List Value}{ab:Bool}{col:Option Bool}{dd:Option Addr}{k0 k1 k2 k3 k5:Option Value}{B newId initId:String}
end
section
variable {prog:Program}{w:World}{A:Around}{E:Value→Shared→Prop}{h:Heap}{g:Array GenState}{d:Drawn}{t:Nat}{os:OsState}{a C dx:Addr}{o:Obj}{vs:Array Value}{mA:Str→Option Value}{v:Value}{name:Str}
end
end L2
namespace L2
open PySem PySem.Spec PyProof.Rows
open Dl (D R FE FT FA FO FS FI FB Fl)
structure ErrF (K:Frag)(C:Addr)(nm:Str)(fI:Addr):Prop where
 exc:Xpu K C bmV "ValueError.__new__" fI=true
 sa:findIn K (.ref C) "__setattr__"=some (some (.builtin "object.__setattr__"))
 nf:findIn K (.ref C) nm=some none
 hd:PySem.W.hasDictIn K C=true
noncomputable def exA (e C:Addr)(dx:Option Addr):HO:=.ext fun h=>∃t sl,h.get? e=some {cls:=.ref C,dict:=dx,data:=.fields #[.ref t,.none,.none,.none,.bool false,.none],slots:=sl}
section
variable {X:Cx}{pins:List (Addr×Obj)}{σ:St}{H:Hp}{s:Shared}
end
structure BaseI (K:Frag)(B:Addr):Prop where
 sp:specialIn K (.ref B) "__getattribute__"=some (some (.builtin "type.__getattribute__"))
 rd:PySem.W.readsIn K B (.type "type")=true
 fc:PySem.W.findCls K (.ref B) (.type "type") "__init__"=some (.val (.builtin "ValueError.__init__"))
section
variable {X:Cx}{e o value:Expr}{es:List Expr}{t:TA}{ta tv:TE}{pos pos' apos np:Pos}{b f:Str}{B:Addr}
end
noncomputable def Xps (K:Frag)(nm:Str):Sp:=fun vs H Q _=>∃e C i fI,vs=[.ref e,.int i]∧H e=some (exA e C none)∧ErrF K C nm fI∧i.natAbs.log2<1920∧∀d,H d=none→Q .non (upd (upd H d (.xd [(nm,.int i)])) e (exA e C (some d)))
section
variable {P:Program}{w:World}{K:Frag}{mg:Str→Option Value}{base:Heap}
structure IDef (P:Program)(w:World)(K:Frag)(mg:Str→Option Value)(base:Heap)(C:Addr)(nm:Str):Prop where
 ex:∃fI fd ps,ErrF K C nm fI∧typeIn K (.ref fI)=some (.type "function")∧ps.length=2∧Binds K fd ps []∧Zam P w K mg base CX0 1 fI fd ps (Xps K nm)
variable {C:String→Addr}{E:XK}{Γ Δ Γ' Δ' Γl Δl:List Nat}{m mr:Nat}{S:List (Nat×Bool)}
end
section
variable {X:Cx}{C:String→Addr}{E:XK}{Γ Δ Γ' Δ' Γl Δl:List Nat}{m mr:Nat}{S:List (Nat×Bool)}{e:Expr}{te:TE}{fe:FE}{np cpos pos:Pos}
end
section
variable {K:Frag}{C:String→Addr}{E:XK}{Γ Δ Γ' Δ' Γl Δl:List Nat}{m mr:Nat}{S:List (Nat×Bool)}
end
section
variable {X:Cx}{C:String→Addr}{E:XK}{Γ Δ Γ' Δ' Γl Δl:List Nat}{m m1 m2 mr:Nat}{S S1 S2:List (Nat×Bool)}{a b e:Expr}{ta tb te:TE}{fa fb fe:FE}{pos pos':Pos}
end
section
variable {K:Frag}{C:String→Addr}{E:XK}{Γ Δ Γ' Δ' Γk Δk:List Nat}{mr:Nat}{S:List (Nat×Bool)}
end
section
variable {X:Cx}{C:String→Addr}{E:XK}{Γ Δ Γk Δk:List Nat}{mr:Nat}{S:List (Nat×Bool)}{c iter:Expr}{ret:List Stmt}{u:TS}{g:FS}{pos p ip:Pos}{x:Str}{k:Nat}
end
structure Clz where
 c:Value
 i:Option Nat
 th:TS
noncomputable def tClz (K:Frag)(N:Nat)(D:Ends)(e:Addr)(cls:Value)(dx:Option Addr)(H':Hp):List Clz→Prop
  | []=>False
  | z::r=>∃b,exmOne K cls z.c=some b∧if b=true then (match z.i with
      | some i=>∀σ':St,σ'.length=N→z.th {nx:=fun _ H2=>D.nx (List.replicate N none) H2,rt:=D.rt,bk:=fun _ H2=>D.bk (List.replicate N none) H2,ct:=fun _ H2=>D.ct (List.replicate N none) H2} (σ'.set i (some (.ref e))) (upd H' e (exO e cls dx))
      | none=>∀σ':St,σ'.length=N→z.th D σ' H')
    else tClz K N D e cls dx H' r
inductive PClz (X:Cx):List ExceptHandler→List Clz→Prop
 | nil:PClz X [] []
 | named {c n:Str} {np hpos:Pos} {C:Addr} {b₀:Stmt} {suite:List Stmt} {i:Nat} {th:TS} {hs:List ExceptHandler} {zs:List Clz} (hm:X.mg c=some (.ref C)) (hg:Gl X c) (hdb:(c==("__debug__":Str))=false) (hi:X.N[i]?=some n) (hl:X.env.scope.names.lookup n=some .local)
   (hh:∀e:Addr,PSs (X.hand e) (b₀::suite) th) (hr:PClz X hs zs):PClz X (.ExceptHandler (some (.Name c np)) (some n) (b₀::suite) hpos::hs) (⟨.ref C,some i,th⟩::zs)
 | plain {c:Str} {np hpos:Pos} {C:Addr} {b₀:Stmt} {suite:List Stmt} {th:TS} {hs:List ExceptHandler} {zs:List Clz} (hm:X.mg c=some (.ref C)) (hg:Gl X c) (hdb:(c==("__debug__":Str))=false)
   (hh:∀e:Addr,PSs (X.hand e) (b₀::suite) th) (hr:PClz X hs zs):PClz X (.ExceptHandler (some (.Name c np)) none (b₀::suite) hpos::hs) (⟨.ref C,none,th⟩::zs)
section
variable {K:Frag}{C:String→Addr}{E:XK}{Γ Δ Γ1 Δ1 Γl Δl:List Nat}{mr:Nat}
inductive OClz (K:Frag)(C:String→Addr)(N mr:Nat)(Γl Δl Γ1 Δ1:List Nat):List Clz→List (List (String×Bool)×Option Nat×FS)→Prop
 | nil:OClz K C N mr Γl Δl Γ1 Δ1 [] []
 | named {c:Addr} {i:Nat} {th:TS} {fh:FS} {tb:List (String×Bool)} {Γ2 Δ2:List Nat} {Eh:XK} {zs:List Clz} {ds:List (List (String×Bool)×Option Nat×FS)} (ht:∀p∈tb,exmOne K (.ref (C p.1)) (.ref c)=some p.2) (hi:i<N) (hh:SOk K C Eh mr [] [] [] [] Γ2 Δ2 th fh)
   (hr:OClz K C N mr Γl Δl Γ1 Δ1 zs ds):OClz K C N mr Γl Δl Γ1 Δ1 (⟨.ref c,some i,th⟩::zs) ((tb,some i,fh)::ds)
 | plain {c:Addr} {th:TS} {fh:FS} {tb:List (String×Bool)} {Eh:XK} {zs:List Clz} {ds:List (List (String×Bool)×Option Nat×FS)} (ht:∀p∈tb,exmOne K (.ref (C p.1)) (.ref c)=some p.2) (hh:SOk K C Eh mr Γl Δl [] [] Γ1 Δ1 th fh)
   (hr:OClz K C N mr Γl Δl Γ1 Δ1 zs ds):OClz K C N mr Γl Δl Γ1 Δ1 (⟨.ref c,none,th⟩::zs) ((tb,none,fh)::ds)
end
inductive JClz (X:Cx)(C:String→Addr)(mr:Nat)(Γl Δl Γ1 Δ1:List Nat):List ExceptHandler→List Clz→List (List (String×Bool)×Option Nat×FS)→Prop
 | mk {hs:List ExceptHandler} {zs:List Clz} {ds:List (List (String×Bool)×Option Nat×FS)} (p:PClz X hs zs) (o:OClz X.K C X.N.length mr Γl Δl Γ1 Δ1 zs ds):JClz X C mr Γl Δl Γ1 Δ1 hs zs ds
section
variable {X:Cx}{C:String→Addr}{E:XK}{Γ Δ Γ1 Δ1 Γl Δl:List Nat}{mr:Nat}{np hpos pos:Pos}{hs:List ExceptHandler}{zs:List Clz}{ds:List (List (String×Bool)×Option Nat×FS)}{b₀:Stmt}{suite:List Stmt}{th:TS}{fh:FS}
end
section
variable {X:Cx}{C:String→Addr}{E:XK}{Γ Δ Γl Δl:List Nat}{mr:Nat}{e:Expr}{te:TE}{fe:FE}{pos p apos cpos:Pos}
end
section
variable {K:Frag}{C:String→Addr}{E:XK}{Γ Δ Γl Δl:List Nat}{m m1 m2 mr:Nat}{S S1 S2:List (Nat×Bool)}{H:Hp}
end
section
variable {X:Cx}{C:String→Addr}{E:XK}{Γ Δ Γ' Δ' Γl Δl:List Nat}{m m1 m2 mr:Nat}{S S1 S2:List (Nat×Bool)}{a b e tg:Expr}{ta tb te:TE}{fa fb fe:FE}{p p2 pos:Pos}
noncomputable abbrev TX:=Str→St→Hp→VK→Prop
def PX (X:Cx)(es:List Expr)(t:TX):Prop:=
 ∀(out:Str) (pins:List (Addr×Obj)) (s:Shared) (σ:St) (H:Hp) (Q:VK),Inv X pins σ H s→out.length+2000*es.length≤sizeLine→t out σ H Q→
  wpAny (model X.prog X.w) X.A (joinParts out (evalEach es X.env)) (EP X pins σ Q) X.xe s
end
section
variable {K:Frag}{C:String→Addr}{E:XK}{Γ Δ:List Nat}{m m1 m2:Nat}{S S1 S2:List (Nat×Bool)}{H:Hp}
noncomputable def joinL (c:Nat):List (List Nat)→List Nat
 | []=>[]
 | [w]=>w
 | w::v::r=>w++32::c::32::joinL c (v::r)
def XOk (K:Frag)(C:String→Addr)(E:XK)(Γ Δ:List Nat)(t:TX)(f:FA):Prop:=∀(H0 Hb H:Hp) (σ:St) (ρ:Dl.Env) (A:Nat→List Addr) (Q:VK) (out:Str),PyData.strOk out=true→Xc K C H0 Hb H Γ Δ σ ρ A→
 Xt ((f ρ).bind fun xs=>Dl.oR (Dl.catO out xs)) (fun d=>∀v H',Xx H H'→Res K C 2 [] H A d v H'→Q v H') (fun c x=>∀H',Xx H H'→EC C E c x H')→t out σ H Q
end
structure JX (X:Cx)(C:String→Addr)(E:XK)(Γ Δ:List Nat)(es:List Expr)(t:TX)(f:FA):Prop where
 q:PX X es t
 o:XOk X.K C E Γ Δ t f
section
variable {X:Cx}{C:String→Addr}{E:XK}{Γ Δ:List Nat}{m m1 m2:Nat}{S S1 S2:List (Nat×Bool)}{a b e o:Expr}{es:List Expr}{ta tb te:TE}{tx:TX}{fa fb fe:FE}{f:FA}{pos p apos cpos:Pos}
end
section
variable {K:Frag}{C:String→Addr}{E:XK}{Γ Δ Γl Δl:List Nat}{m m1 m2 m3 mr:Nat}{S S1 S2 S3:List (Nat×Bool)}{H:Hp}
end
section
variable {X:Cx}{C:String→Addr}{E:XK}{Γ Δ Γ' Δ' Γl Δl:List Nat}{m m1 m2 m3 mr:Nat}{S S1 S2 S3:List (Nat×Bool)}{a b c e o:Expr}{ta tb tc te:TE}{fa fb fc fe:FE}{p p2 pos apos cpos:Pos}
end
section
variable {K:Frag}{C:String→Addr}{E:XK}{Γ Δ:List Nat}
end
section
variable {X:Cx}{C:String→Addr}{E:XK}{mr:Nat}{Γ Δ Γ' Δ' Γl Δl:List Nat}{n:Nat}{pos:Pos}
end
end L2
namespace L2
open PySem PyProof.Rows
structure Ask (prog:Program)(w:World)(A:Around)(s:Shared)(κ:SortKind)(P:Keyed→Prop)(r:Keyed→Keyed→Bool)(lat:Keyed→Keyed→Prop:=fun _ _=>True):Prop where
 run:∀{x y:Keyed} {Q:Bool→Shared→Prop} {E:Value→Shared→Prop},P x→P y→lat x y→Q (r x y) s→wpAny (model prog w) A (keyLt' κ x.1 y.1) Q E s
 tr:∀{x y z:Keyed},P x→P y→P z→r y x=false→r z y=false→r z x=false
 as:∀{x y:Keyed},P x→P y→r x y=true→r y x=false
section
variable {prog:Program}{w:World}{A:Around}{E:Value→Shared→Prop}{s:Shared}{κ:SortKind}{P:Keyed→Prop}{r:Keyed→Keyed→Bool}{lat:Keyed→Keyed→Prop}{st:SortSt}
theorem Xno {x y:Keyed}{Q:Option Bool→SortSt→Prop}(K:Ask prog w A s κ P r lat)(hk:kindOf st=κ)(hx:P x)(hy:P y)(h:Q (some (r x y)) st)(hl:lat x y:=by trivial):wpS (model prog w) A E s (lt' x y) Q st:=by
 rw [lt'_eq]
 refine wpS_bind (wpS_get ?_)
 rw [hk]
 exact wpS_bind (wpS_lift (wpAny_attempt (K.run hx hy hl ⟨rfl,wpS_pure h⟩)))
theorem Zru {arr:Array Keyed}{i:Nat}{x:Keyed}{Q:Keyed→SortSt→Prop}(e:arr[i]?=some x)(h:Q x st):wpS (model prog w) A E s (elem' arr i) Q st:=by
 rw [elem'_eq,e]
 exact wpS_pure h
end
section
variable {r:Keyed→Keyed→Bool}
def Up (r:Keyed→Keyed→Bool)(l:List Keyed):Prop:=l.Pairwise fun x y=>r y x=false
structure MI (r:Keyed→Keyed→Bool)(a b out:List Keyed)(ia ib:Nat):Prop where
 pm:out.Perm (a.take ia++b.take ib)
 so:Up r out
 le:∀x∈out,∀y,(y∈a.drop ia∨y∈b.drop ib)→r y x=false
variable {a b out:List Keyed}{ia ib:Nat}{x:Keyed}
structure MJ (r:Keyed→Keyed→Bool)(a b out:List Keyed)(na nb:Nat):Prop where
 pm:out.Perm (a.drop na++b.drop nb)
 so:Up r out
 le:∀x∈out,∀y,(y∈a.take na∨y∈b.take nb)→r x y=false
end
structure SG (st st':SortSt):Prop where
 k:kindOf st'=kindOf st
 a:arrOf st'=arrOf st
 p:pendingOf st'=pendingOf st
 f:failedOf st'=failedOf st
section
variable {prog:Program}{w:World}{A:Around}{E:Value→Shared→Prop}{s:Shared}{κ:SortKind}{P:Keyed→Prop}{r:Keyed→Keyed→Bool}{lat:Keyed→Keyed→Prop}{st:SortSt}
theorem Ask.ir {x:Keyed}(K:Ask prog w A s κ P r lat)(hx:P x):r x x=false:=by
 cases e:r x x with
 | false=>rfl
 | true=>rw [K.as hx hx e] at e;cases e
theorem Zcg {α:Type}{c:Prop}[Decidable c]{x y:StateT SortSt Sem α}{Q:α→SortSt→Prop}(h1:c→wpS (model prog w) A E s x Q st)(h2:¬c→wpS (model prog w) A E s y Q st):wpS (model prog w) A E s (if c then x else y) Q st:=by
 by_cases h:c
 ·rw [if_pos h]
  exact h1 h
 ·rw [if_neg h]
  exact h2 h
theorem nbeq {m n:Nat}(h:¬(m==n)=true):m≠n:=fun z=>h (by rw [z];exact beq_self_eq_true _)
variable {α:Type}
end
section
variable {prog:Program}{w:World}{A:Around}{E:Value→Shared→Prop}{s:Shared}{κ:SortKind}{P:Keyed→Prop}{r:Keyed→Keyed→Bool}{st:SortSt}
theorem Xbh {i j:Nat}{x y:Keyed}{Q:Option Bool→SortSt→Prop}(K:Ask prog w A s κ P r)(hk:kindOf st=κ)(hi:(arrOf st)[i]?=some x)(hj:(arrOf st)[j]?=some y)(hx:P x)(hy:P y)(h:Q (some (r x y)) st):wpS (model prog w) A E s (ltAt' i j) Q st:=by
 rw [ltAt'_eq]
 exact wpS_bind (wpS_get (wpS_bind (Zru hi (wpS_bind (Zru hj (Xno K hk hx hy h))))))
structure SC (κ:SortKind)(lo:Nat)(st st':SortSt):Prop where
 k:kindOf st'=κ
 f:failedOf st'=none
 p:pendingOf st'=pendingOf st
 m:(arrOf st').Perm (arrOf st)
 o:∀i,i<lo→(arrOf st')[i]?=(arrOf st)[i]?
theorem SC.size {lo:Nat}{st st':SortSt}(c:SC κ lo st st'):(arrOf st').size=(arrOf st).size:=c.m.size_eq
theorem SC.put {lo:Nat}{st st':SortSt}(c:SC κ lo st st'){a:Array Keyed}(hm:a.Perm (arrOf st'))(ho:∀i,i<lo→a[i]?=(arrOf st')[i]?):SC κ lo st (setArr st' a):=⟨c.k,c.f,c.p,hm.trans c.m,fun i hi=>(ho i hi).trans (c.o i hi)⟩
noncomputable def gx (d0:Keyed)(lo:Nat)(a:Array Keyed)(i:Nat):Keyed:=(a[lo+i]?).getD d0
theorem Xkp {d0:Keyed}{lo i:Nat}{a:Array Keyed}(h:lo+i<a.size):a[lo+i]?=some (gx d0 lo a i):=by
 unfold gx
 rw [Array.getElem?_eq_getElem h]
 rfl
theorem Zfp {d0:Keyed}{lo i j:Nat}{a b:Array Keyed}(h:a[lo+i]?=b[lo+j]?):gx d0 lo a i=gx d0 lo b j:=by unfold gx;rw [h]
variable {d0:Keyed}{lo nrem:Nat}
theorem Zzq (hP:∀x∈(arrOf st).toList,P x){st':SortSt}(c:SC κ lo st st')(hn:lo+nrem≤(arrOf st).size){i:Nat}(hi:i<nrem):P (gx d0 lo (arrOf st') i):=by
 have e:=Xkp (d0:=d0) (a:=arrOf st') (lo:=lo) (i:=i) (by rw [c.size];omega)
 have hm:gx d0 lo (arrOf st') i∈(arrOf st').toList:=mem_of_getElem? (by rw [getElem?_toList];exact e)
 exact hP _ (c.m.toList.mem_iff.mp hm)
theorem Zmr (K:Ask prog w A s κ P r)(hP:∀x∈(arrOf st).toList,P x)(hn:lo+nrem≤(arrOf st).size){st':SortSt}(c:SC κ lo st st'){i j i' j':Nat}(hi:i<nrem)(hj:j<nrem)(ei:i'=lo+i)(ej:j'=lo+j){Q:Option Bool→SortSt→Prop}(h:Q (some (r (gx d0 lo (arrOf st') i) (gx d0 lo (arrOf st') j))) st'):wpS (model prog w) A E s (ltAt' i' j') Q st':=by
 subst ei ej
 exact Xbh K c.k (Xkp (by rw [c.size];omega)) (Xkp (by rw [c.size];omega)) (Zzq hP c hn hi) (Zzq hP c hn hj) h
theorem Zgu {a:Array Keyed}{i j:Nat}(hj:lo+j≤a.size)(k:Nat):gx d0 lo (mirror a (lo+i) (lo+j) ((lo+j - (lo+i)) / 2)) k=if i≤k∧k<j then gx d0 lo a (i+j - 1 - k) else gx d0 lo a k:=by
 have e:=getElem?_mirror_all (i:=lo+i) hj (lo+k)
 by_cases c:i≤k∧k<j
 ·rw [if_pos c]
  rw [if_pos (by omega)] at e
  exact Zfp (e.trans (by congr 1;omega))
 ·rw [if_neg c]
  rw [if_neg (by omega)] at e
  exact Zfp e
theorem Zpj {a:Array Keyed}{i j:Nat}(hj:lo+j≤a.size)(k:Nat)(hk:k<lo):(mirror a (lo+i) (lo+j) ((lo+j - (lo+i)) / 2))[k]?=a[k]?:=by
 rw [getElem?_mirror_all (i:=lo+i) hj k,if_neg (by omega)]
def Xdl (r:Keyed→Keyed→Bool)(g:Nat→Keyed)(n:Nat):Prop:=∀i j,i≤j→j<n→r (g j) (g i)=false
def Eqv (r:Keyed→Keyed→Bool)(x y:Keyed):Prop:=r x y=false∧r y x=false
theorem Xdl.snoc (K:Ask prog w A s κ P r){g:Nat→Keyed}{n:Nat}(hp:∀i,i<n+1→P (g i))(h1:1≤n)(h:Xdl r g n)(q:r (g n) (g (n - 1))=false):Xdl r g (n+1):=fun i j hij hj=>by
 by_cases e:j<n
 ·exact h i j hij e
 ·have ej:j=n:=by omega
  subst ej
  by_cases ei:i=j
  ·subst ei
   exact K.ir (hp i hj)
  ·exact K.tr (hp i (by omega)) (hp (j - 1) (by omega)) (hp j hj) (h i (j - 1) (by omega) (by omega)) q
theorem Zzp (K:Ask prog w A s κ P r)(hP:∀x∈(arrOf st).toList,P x)(hn:lo+nrem≤(arrOf st).size){st':SortSt}(c:SC κ lo st st'){a:Nat}(ha:1≤a)(han:a≤nrem)(hs:Xdl r (gx d0 lo (arrOf st')) a)
  {f:Nat→Option (Option Nat)×Nat→StateT SortSt Sem (ForInStep (Option (Option Nat)×Nat))} {Q:Option (Option Nat)×Nat→SortSt→Prop}
  (hf:∀x n (Q':ForInStep (Option (Option Nat)×Nat)→SortSt→Prop),wpS (model prog w) A E s (ltAt' (lo+n) (lo+n - 1)) (fun b st''=>st''=st'∧∃b',b=some b'∧(b'=true→Q' (.done (none,n)) st')∧(b'=false→Q' (.yield (none,n+1)) st')) st'→wpS (model prog w) A E s (f x (none,n)) Q' st')
  (h:∀n,a≤n→n≤nrem→Xdl r (gx d0 lo (arrOf st')) n→(n=nrem∨r (gx d0 lo (arrOf st') n) (gx d0 lo (arrOf st') (n - 1))=true)→Q (none,n) st') :
  wpS (model prog w) A E s (forIn [a:nrem] ((none,a):Option (Option Nat)×Nat) f) Q st':=by
 refine wpS_forRange (I:=fun x c st''=>st''=st'∧c=(none,x)∧Xdl r (gx d0 lo (arrOf st')) x) ?step ?fin ⟨rfl,rfl,hs⟩
 case fin =>
  rintro c st'' ⟨rfl,rfl,hs'⟩
  rw [show max a nrem=nrem by omega] at hs' ⊢
  exact h nrem han (le_refl _) hs' (.inl rfl)
 case step =>
  rintro x c st'' hax hxn ⟨rfl,rfl,hs'⟩
  have hp:∀i,i<x+1→P (gx d0 lo (arrOf st'') i):=fun i hi=>Zzq hP c hn (by omega)
  refine hf x x _ (Zmr (d0:=d0) K hP hn c (i:=x) (j:=x - 1) (by omega) (by omega) rfl (by omega) ⟨rfl,_,rfl,fun e=>?_,fun e=>?_⟩)
  ·exact h x hax (by omega) hs' (.inr e)
  ·exact ⟨rfl,rfl,Xdl.snoc K hp (by omega) hs' e⟩
theorem Eqv.via (K:Ask prog w A s κ P r){x y z:Keyed}(hx:P x)(hy:P y)(hz:P z)(h1:Eqv r x y)(h2:Eqv r z y):Eqv r x z:=⟨K.tr hz hy hx h2.2 h1.1,K.tr hx hy hz h1.2 h2.1⟩
theorem Zly {st':SortSt}{i j i' j':Nat}{Q:Unit→SortSt→Prop}(ei:i'=lo+i)(ej:j'=lo+j)(h:Q () (setArr st' (mirror (arrOf st') (lo+i) (lo+j) ((lo+j - (lo+i)) / 2)))):wpS (model prog w) A E s (reverseSlice' i' j') Q st':=by
 subst ei ej
 exact wpS_reverse h
variable {d0:Keyed}{lo nrem:Nat}
theorem Zra {a:Array Keyed}{k l:Nat}(hk:lo+k<a.size)(hl:l≤k)(i:Nat):gx d0 lo (bubble a (lo+k) (lo+k - (lo+l))) i=if i=l then gx d0 lo a k else if l<i∧i≤k then gx d0 lo a (i - 1) else gx d0 lo a i:=by
 have e:=getElem?_bubble hk (lo+k - (lo+l)) (by omega) (lo+i)
 rw [show lo+k - (lo+k - (lo+l))=lo+l by omega] at e
 by_cases c:i=l
 ·rw [if_pos c]
  rw [if_pos (by omega)] at e
  exact Zfp e
 ·rw [if_neg c]
  rw [if_neg (by omega)] at e
  by_cases c2:l<i∧i≤k
  ·rw [if_pos c2]
   rw [if_pos (by omega)] at e
   exact Zfp (e.trans (by congr 1;omega))
  ·rw [if_neg c2]
   rw [if_neg (by omega)] at e
   exact Zfp e
theorem Xin {a:Array Keyed}{k l:Nat}(hk:lo+k<a.size)(hl:l≤k)(i:Nat)(hi:i<lo):(bubble a (lo+k) (lo+k - (lo+l)))[i]?=a[i]?:=by
 rw [getElem?_bubble hk (lo+k - (lo+l)) (by omega) i,if_neg (by omega),if_neg (by omega)]
end
noncomputable abbrev Pn:=Nat×Nat×Nat
noncomputable def Pend:Nat→List (List Keyed)→List Pn→Prop
 | _,[],[]=>True
 | off,R::Rs,p::ps=>p.1=off∧p.2.1=R.length∧Pend (off+R.length) Rs ps
 | _,_,_=>False
structure RI (κ:SortKind)(r:Keyed→Keyed→Bool)(a0:List Keyed)(st:SortSt)(Rs:List (List Keyed))(Z:List Keyed):Prop where
 k:kindOf st=κ
 f:failedOf st=none
 m:(arrOf st).toList.Perm a0
 l:(arrOf st).toList=Rs.flatten++Z
 p:Pend 0 Rs (pendingOf st).toList
 u:∀R∈Rs,Up r R∧1≤R.length
section
variable {prog:Program}{w:World}{A:Around}{E:Value→Shared→Prop}{s:Shared}{κ:SortKind}{P:Keyed→Prop}{r:Keyed→Keyed→Bool}{lat:Keyed→Keyed→Prop}{st:SortSt}{d0:Keyed}{a0 Z:List Keyed}{Rs:List (List Keyed)}
end
end L2
namespace L2
open PySem PySem.SeqAt PySem.MeetsSeq PySem.MeetsSeq3
open AutoSeq1 (wpAny_loadPart')
noncomputable def lexI (e l:Nat→Bool)(m n:Nat):List Nat→Bool
 | []=>decide (m<n)
 | j::js=>if e j=true then lexI e l m n js else l j
end L2
namespace L2
open PySem PySem.SeqAt PyProof.Rows
open Dl (Pc sLt pcLt Xmu)
noncomputable def pP (p:Pc):PyData:=.tuple [.int p.1,.str p.2]
noncomputable def cP (c:List Pc):PyData:=.list (c.map pP)
section
variable {A:Around}{s:Shared}
end
theorem Zyj (x:Str):sLt x x=false:=decide_eq_false (List.lt_irrefl _)
theorem Xez {x y z:Str}(h:sLt x y=true)(h2:sLt y z=true):sLt x z=true:=decide_eq_true (List.lt_trans (of_decide_eq_true h) (of_decide_eq_true h2))
theorem Zwk {x y:Str}(h:x≠y):sLt x y=true∨sLt y x=true:=by
 have hne:x.cps.toList≠y.cps.toList:=fun e=>h (by cases x;cases y;congr 1;exact Array.toList_inj.mp e)
 by_cases q:x.cps.toList<y.cps.toList
 ·exact .inl (decide_eq_true q)
 ·rcases List.le_iff_lt_or_eq.mp (List.not_lt.mp q) with h' | h'
  ·exact .inr (decide_eq_true h')
  ·exact absurd h'.symm hne
noncomputable def cutOf (h:Heap)(v:Value):List Pc:=open Classical in if q:∃c as,Reads h v (cP c) as then q.choose else []
section
variable {prog:Program}{w:World}{A:Around}{E:Value→Shared→Prop}{s:Shared}
theorem Zlz:∀vs:List Value,vs.zip vs=vs.map fun v=>(v,v)
 | []=>rfl
 | v::vs=>by rw [List.zip_cons_cons,map_cons,Zlz vs]
theorem Zbq (vs:List Value):(vs.toArray.zip vs.toArray).toList=vs.map fun v=>(v,v):=by
 rw [← Zlz]
 simp
end
end L2
namespace L2
open PySem PySem.SeqAt PyProof.Rows
open Dl (sLt Pr kLt Zeq)
noncomputable def side (b:Bool):Int ⊕ Str→Prop
 | .inl _=>b=true
 | .inr _=>b=false
theorem Xhv (x:Int ⊕ Str):kLt x x=false:=by
 cases x with
 | inl a=>exact decide_eq_false (Int.lt_irrefl a)
 | inr a=>exact Zyj a
theorem Xpp {x y:Int ⊕ Str}(h:kLt x y=true):kLt y x=false:=by
 cases x with
 | inl a =>
  cases y with
  | inl b=>exact decide_eq_false (by have:=of_decide_eq_true (show decide (a<b)=true from h);omega)
  | inr b=>rfl
 | inr a =>
  cases y with
  | inl b=>rfl
  | inr b =>
   cases e:kLt (.inr b) (.inr a) with
   | false=>rfl
   | true =>
    have:=Xez (show sLt a b=true from h) (show sLt b a=true from e)
    rw [Zyj] at this
    cases this
theorem Xpy {b:Bool}{x y z:Int ⊕ Str}(hx:side b x)(hy:side b y)(hz:side b z)(h:kLt y x=false)(h2:kLt z y=false):kLt z x=false:=by
 cases x with
 | inl x =>
  cases y with
  | inr y=>unfold side at hx hy;rw [hx] at hy;cases hy
  | inl y =>
   cases z with
   | inr z=>unfold side at hx hz;rw [hx] at hz;cases hz
   | inl z =>
    have h:=of_decide_eq_false (show decide (y<x)=false from h)
    have h2:=of_decide_eq_false (show decide (z<y)=false from h2)
    exact decide_eq_false (by omega)
 | inr x =>
  cases y with
  | inl y=>unfold side at hx hy;rw [hx] at hy;cases hy
  | inr y =>
   cases z with
   | inl z=>unfold side at hx hz;rw [hx] at hz;cases hz
   | inr z =>
    cases e:kLt (.inr z) (.inr x) with
    | false=>rfl
    | true =>
     have e:sLt z x=true:=e
     have h:sLt y x=false:=h
     have h2:sLt z y=false:=h2
     by_cases q:x=y
     ·subst q
      rw [e] at h2;cases h2
     ·rcases Zwk q with w | w
      ·have:=Xez e w
       rw [h2] at this;cases this
      ·rw [h] at w;cases w
theorem Zpc {p q:Pr}(h:Zeq p q=true):Zeq q p=false:=by
 unfold Zeq at *
 by_cases e:p.1=q.1
 ·rw [if_pos e] at h
  rw [if_pos e.symm]
  exact Xpp h
 ·rw [if_neg e] at h
  rw [if_neg fun z=>e z.symm]
  have:=of_decide_eq_true h
  exact decide_eq_false (by omega)
theorem Zxg {b:Bool}{p q t:Pr}(hp:side b p.2)(hq:side b q.2)(ht:side b t.2)(h:Zeq q p=false)(h2:Zeq t q=false):Zeq t p=false:=by
 unfold Zeq at *
 by_cases e1:q.1=p.1
 ·rw [if_pos e1] at h
  by_cases e2:t.1=q.1
  ·rw [if_pos e2] at h2
   rw [if_pos (e2.trans e1)]
   exact Xpy hp hq ht h h2
  ·rw [if_neg e2] at h2
   rw [if_neg (by omega)]
   have:=of_decide_eq_false h2
   exact decide_eq_false (by omega)
 ·rw [if_neg e1] at h
  have h:=of_decide_eq_false h
  by_cases e2:t.1=q.1
  ·rw [if_neg (by omega)]
   exact decide_eq_false (by omega)
  ·rw [if_neg e2] at h2
   have:=of_decide_eq_false h2
   rw [if_neg (by omega)]
   exact decide_eq_false (by omega)
noncomputable def prV:Value→Int ⊕ Str
 | .int y _=>.inl y
 | .str y _=>.inr y
 | _=>.inl 0
noncomputable def prI:Value→Int
 | .int y _=>y
 | _=>0
noncomputable def prO (o:Obj):Pr:=match o.data with
 | .seq its _=>(((its[0]?).map prI).getD 0,((its[1]?).map prV).getD (.inl 0))
 | _=>(0,.inl 0)
noncomputable def Zdw (h:Heap):Value→Pr
 | .ref a=>((h.get? a).map prO).getD (0,.inl 0)
 | _=>(0,.inl 0)
def Ztx (b:Bool)(h:Heap)(v:Value):Prop:=∃(a:Addr) (o:Obj) (x:Int) (t:Tok) (u:Value) (n:Nat),v=.ref a∧h.get? a=some o∧o.cls=.type "tuple"∧o.data=.seq #[.int x t,u] n∧((b=true∧∃y t',u=.int y t')∨(b=false∧∃y t',u=.str y t'))
theorem Zen {h:Heap}{a:Addr}{o:Obj}{x:Int}{t:Tok}{u:Value}{n:Nat}(h1:h.get? a=some o)(h2:o.data=.seq #[.int x t,u] n):Zdw h (.ref a)=(x,prV u):=by
 show ((h.get? a).map prO).getD (0,.inl 0)=_
 rw [h1]
 show prO o=_
 unfold prO
 rw [h2]
 rfl
theorem Ztx.keeps {b:Bool}{h h':Heap}{v:Value}(i:Ztx b h v)(k:∀b o,h.get? b=some o→h'.get? b=some o):Ztx b h' v∧Zdw h' v=Zdw h v:=by
 obtain ⟨a,o,x,t,u,n,rfl,h1,h2,h3,h4⟩:=i
 exact ⟨⟨a,o,x,t,u,n,rfl,k _ _ h1,h2,h3,h4⟩,(Zen (k _ _ h1) h3).trans (Zen h1 h3).symm⟩
theorem Ztx.side {b:Bool}{h:Heap}{v:Value}(i:Ztx b h v):side b (Zdw h v).2:=by
 obtain ⟨a,o,x,t,u,n,rfl,h1,h2,h3,h4⟩:=i
 rw [Zen h1 h3]
 rcases h4 with ⟨hb,y,t',rfl⟩ | ⟨hb,y,t',rfl⟩
 ·exact hb
 ·exact hb
section
variable {prog:Program}{w:World}{A:Around}{E:Value→Shared→Prop}{s:Shared}
noncomputable def Xkn (h:Heap)(v:Value):Value:=match v with
 | .ref a=>(((h.get? a).bind fun o=>match o.data with | .seq its _=>its[0]? | _=>none)).getD .none
 | _=>.none
theorem Xfp {h:Heap}{a:Addr}{o:Obj}{x:Int}{t:Tok}{u:Value}{n:Nat}(h1:h.get? a=some o)(h2:o.data=.seq #[.int x t,u] n):Xkn h (.ref a)=.int x t:=by
 show (((h.get? a).bind fun o=>match o.data with | .seq its _=>its[0]? | _=>none)).getD .none=_
 rw [h1]
 show ((match o.data with | .seq its _=>its[0]? | _=>none):Option Value).getD .none=_
 rw [h2]
 rfl
theorem Zux {b:Bool}{h:Heap}:∀{vs:List Value},(∀v∈vs,Ztx b h v)→PySem.W.KatTups h vs (vs.map (Xkn h))
 | [],_=>PySem.W.KatTups.nil
 | v::vs,hv=>by
  obtain ⟨a,o,x,t,u,n,rfl,h1,h2,h3,h4⟩:=hv v (.head _)
  refine PySem.W.KatTups.cons h1 h2 h3 ?_ (Zux fun v hv'=>hv v (.tail _ hv'))
  rw [Xfp h1 h3]
  rfl
theorem Xcq {M:Model}{b:Bool}{h:Heap}{vs:List Value}(hv:∀v∈vs,Ztx b h v):∀v∈vs.map (Xkn h),PySem.W.Looks M h (typeOf v) (.type "int"):=fun f hf=>by
 obtain ⟨v,hm,rfl⟩:=List.mem_map.mp hf
 obtain ⟨a,o,x,t,u,n,rfl,h1,h2,h3,h4⟩:=hv v hm
 rw [Xfp h1 h3]
 exact .now
theorem Xkg {b:Bool}(hu:A.units+8<cLine):Ask prog w A s (tuples' true) (fun x=>Ztx b s.heap x.1) (fun x y=>Zeq (Zdw s.heap x.1) (Zdw s.heap y.1)) where
 run:=fun {x y Q E} hx hy _ q=>by
  obtain ⟨a,o,i,t,u,n,e1,h1,h2,h3,h4⟩:=hx
  obtain ⟨a',o',i',t',u',n',e1',h1',h2',h3',h4'⟩:=hy
  rw [e1,e1'] at q ⊢
  rw [Zen h1 h3,Zen h1' h3'] at q
  refine PySem.W.kat_lt h1 h3 h1' h3' ?_
  show PySem.W.KatLex prog w A true (decide (2<2)) Q [(.int i t,.int i' t'),(u,u')] 0 s
  refine PySem.W.kat_cons (wpAny_eqBool_int ?_)
  by_cases e:i=i'
  ·have q:Q (kLt (prV u) (prV u')) s:=by
    unfold Zeq at q
    rwa [if_pos e] at q
   rw [show (i==i')=true from by simpa using e]
   refine kat_yes (PySem.W.kat_cons ?_)
   rcases h4 with ⟨hb,z,tz,rfl⟩ | ⟨hb,z,tz,rfl⟩<;>rcases h4' with ⟨hb',z',tz',rfl⟩ | ⟨hb',z',tz',rfl⟩
   ·refine wpAny_eqBool_int ?_
    by_cases ez:z=z'
    ·rw [show (z==z')=true from by simpa using ez]
     refine kat_yes (PySem.W.kat_nil ?_)
     have:kLt (prV (.int z tz)) (prV (.int z' tz'))=false:=decide_eq_false (by omega)
     rw [this] at q
     exact q
    ·rw [show (z==z')=false from by simpa using ez]
     exact kat_no (PySem.W.kat_one _ _ (PySem.P.lt_int q))
   ·rw [hb] at hb';cases hb'
   ·rw [hb] at hb';cases hb'
   ·refine wpAny_eqBool_str ?_
    by_cases ez:z=z'
    ·rw [decide_eq_true ez]
     refine kat_yes (PySem.W.kat_nil ?_)
     have:kLt (prV (.str z tz)) (prV (.str z' tz'))=false:=by rw [ez];exact Xhv _
     rw [this] at q
     exact q
    ·rw [decide_eq_false ez]
     exact kat_no (PySem.W.kat_one _ _ (PySem.P.lt_str q))
  ·have q:Q (decide (i<i')) s:=by
    unfold Zeq at q
    rwa [if_neg e] at q
   rw [show (i==i')=false from by simpa using e]
   exact kat_no (oneLt_int q)
 tr:=fun hx hy hz h1 h2=>Zxg hx.side hy.side hz.side h1 h2
 as:=fun _ _ h=>Zpc h
end
end L2
namespace L2
open PySem PySem.Spec PyProof.Rows
open Dl (D R FE FT FA FO FS FI FB Fl Pc Xmu)
section
variable {K:Frag}{C:String→Addr}{E:XK}{Γ Δ Γl Δl:List Nat}{m m1 m2 m3 mr:Nat}{S S1 S2 S3:List (Nat×Bool)}{H:Hp}
end
theorem Znt:∀{bs:List Addr} {its:List Value},Yw (bs.map V.ref) its→its=bs.map Value.ref
 | [],_,.nil=>rfl
 | b::bs,_,.cons r rs=>by
  rw [show _=Value.ref b from r,Znt rs]
  rfl
theorem Zoa:∀(bs:List Addr),Yw (bs.map V.ref) (bs.map Value.ref)
 | []=>.nil
 | b::bs=>.cons rfl (Zoa bs)
noncomputable def adr:Value→Addr
 | .ref a=>a
 | _=>0
section
variable {X:Cx}
variable {K:Frag}{C:String→Addr}{E:XK}{Γ Δ Γl Δl:List Nat}{m m1 m2 m3 mr:Nat}{S S1 S2 S3:List (Nat×Bool)}{H:Hp}
end
section
variable {X:Cx}{C:String→Addr}{E:XK}{Γ Δ Γ' Δ' Γl Δl:List Nat}{m m1 m2 m3 mr:Nat}{S S1 S2 S3:List (Nat×Bool)}{a b c e o kx:Expr}{ta tb tc te tk:TE}{fa fb fc fe fk:FE}{p p1 p2 pos apos cpos:Pos}
end
end L2
namespace L2
open PySem PySem.Spec PyProof.Rows
open Dl (D R FE FT FA FO FS FI FB Fl)
structure RoomH (k:Nat)(A:Around):Prop where
 dp:A.depth+3*k+5<recursionLimit
 un:A.units+16*k+200<cLine
structure FnOkH (P:Program)(w:World)(K:Frag)(mg:Str→Option Value)(base:Heap)(k:Nat)(f:Addr)(fd:FuncData)(ps:List Str)(sp:Sp):Prop where
 len:∀vs H Q E,sp vs H Q E→vs.length=ps.length
 run:∀(A:Around) (outer:List Env) (s:Shared) (H:Hp) (args:Args) (us:List Value) (vs:List V) (Q:VK) (E:XK),RoomH k A→Xmi P w K mg base A outer s H→BindsTo s fd args (ps.zip us)→Yw vs us→sp vs H Q E→
  codeAny (model P w) A (.call (.ref f) args) (CR CX0 outer P w H s Q E) s
structure DefH (P:Program)(w:World)(K:Frag)(mg:Str→Option Value)(base:Heap)(k:Nat)(x:Str)(ps:List Str)(sp:Sp):Prop where
 ex:∃f fd,mg x=some (.ref f)∧keepIn K (.ref f)=true∧Binds K fd ps []∧FnOkH P w K mg base k f fd ps sp
noncomputable abbrev Cx.wild (X:Cx):Cx:={X with calm:=false,xe:=fun _ _=>False}
section
variable {X:Cx}{C:String→Addr}{E:XK}{Γ Δ:List Nat}{m n mr k:Nat}{S:List (Nat×Bool)}{x:Str}{p pos:Pos}{e:Expr}{es:List Expr}{t:TA}
end
end L2
namespace L2
open PySem PySem.Spec PyProof.Rows
open Dl (D R FE FT FA FO FS FI FB Fl Pc Xmu)
section
variable {K:Frag}{C:String→Addr}{E:XK}{Γ Δ Γl Δl:List Nat}{m m1 m2 m3 mr:Nat}{S S1 S2 S3:List (Nat×Bool)}{H:Hp}
variable {X:Cx}
end
section
variable {X:Cx}{C:String→Addr}{E:XK}{Γ Δ Γ' Δ' Γl Δl:List Nat}{m m1 m2 m3 mr:Nat}{S S1 S2 S3:List (Nat×Bool)}{a b c e o kx:Expr}{ta tb tc te tk:TE}{fa fb fc fe fk:FE}{p p1 p2 pos apos cpos:Pos}
end
end L2
namespace L2
open PySem PySem.Spec PyProof.Rows
open Dl (D R FE FT FA FO FS FI FB Fl)
section
variable {prog:Program}{w:World}{K:Type}[DecidableEq K]{knd:HeapKind prog w K}{A:Around}{E:Value→Shared→Prop}{s:Shared}
end
section
variable {X:Cx}
variable {K:Frag}{C:String→Addr}{E:XK}{Γ Δ:List Nat}{m:Nat}{S:List (Nat×Bool)}{H:Hp}
variable {e:Expr}{te:TE}{fe:FE}{p pos:Pos}
variable {tg:Expr}
end
section
variable {X:Cx}{C:String→Addr}{E:XK}{Γ Δ:List Nat}{m n:Nat}{S:List (Nat×Bool)}{tg a b c:Expr}{t:TA}{f:FA}{p pos:Pos}
end
end L2
namespace L2
open PySem PySem.Spec PyProof.Rows
noncomputable def cxL (X:Cx)(A:Around)(N:List Str)(qual:Str)(sc:Scope)(f:Addr)(cd:Value)(cl:List (Str×Addr))(s:Shared)(H:Hp):Cx where
 prog:=X.prog
 w:=X.w
 K:=X.K
 mg:=X.mg
 base:=X.base
 A:=A.deeper (envX qual sc s.heap.objs.size f cd cl)
 N:=N
 s₀:=s
 H₀:=H
 env:=envX qual sc s.heap.objs.size f cd cl
 outer:=X.stack
 stack:=envX qual sc s.heap.objs.size f cd cl::X.stack
 ex:=[]
 calm:=true
 fn:=fun x=>(cl.lookup x).isNone
 pn:=[]
 xe:=fun _ _=>False
structure Xil (X:Cx)(N:List Str)(p:Str)(sc:Scope)(cl:List (Str×Addr)):Prop where
 kind:sc.kind=.function
 co:sc.isCoroutine=false
 gen:sc.isGenerator=false
 nocell:∀x∈sc.names,x.2≠.cell
 par:sc.names.lookup p=some .local
 nd:N.Nodup
 hd:N.head?=some p
 tl:∀x∈N.tail,sc.names.lookup x=some .free
 fr:∀x,sc.names.lookup x=some .free→∃c,cl.lookup x=some c
 cls:∀x c,cl.lookup x=some c→X.env.cells.lookup x=some c
def Xlh (X:Cx)(σ:St)(N:List Str)(vs:List V):Prop:=∀(i:Nat) (x:Str) (v:V),N[i]?=some x→vs[i]?=some v→∃j:Nat,X.N[j]?=some x∧σ[j]?=some (some v)∧Vis X.env.scope x∧X.env.kindOf x≠some .local
section
variable {X:Cx}{pins:List (Addr×Obj)}{σ:St}{H:Hp}{s:Shared}
theorem Xic {A:Around}{N:List Str}{p qual:Str}{sc:Scope}{f:Addr}{cd u:Value}{v:V}{vs:List V}{cl:List (Str×Addr)}{h₁:Heap}{tk:Nat}(I:Inv X pins σ H s)(S:Xil X N p sc cl)(hA:A.frames=some X.stack)(hh:A.handled=none)
    (hl:vs.length+1=N.length) (hf:Xlh X σ N.tail vs) (rv:RelV v u)
    (hns:h₁.Ns s.heap.objs.size (fun x=>[(p,u)].reverse.lookup x)) (hk:∀b o,s.heap.get? b=some o→h₁.get? b=some o) :
    Inv (cxL X A N qual sc f cd cl s H) [] ((v::vs).map some) H {s with heap:=h₁,toks:=tk}:=by
  have e0:=I.env0
  have noA:∀b:Addr,b∉(cxL X A N qual sc f cd cl s H).ex:=fun b z=>absurd (show b∈([]:List Addr) from z) (by simp)
  refine ⟨⟨e0.mod,S.kind,rfl,rfl,le_refl _,fun y z c h1 h2=>I.ok.inj y z c (S.cls y c h1) (S.cls z c h2),fun y hy=>?_,fun y c h0 h=>?_,fun _=>hh,Around.frames_deeper hA,.inr ⟨rfl,rfl⟩,fun b z=>absurd z (noA b),e0.bs,e0.bsz,fun b _ _=>noA b,fun b z=>absurd z (noA b),e0.funs,e0.frf⟩,
    rfl,e0.bare,Un.kept hk,⟨_,hns,fun i y w h1 h2 h3=>?_⟩,fun y c h=>?_,e0.hok.fresh (le_refl _),fun y c h=>I.freeC y c (S.cls y c h),fun q hp=>absurd (show q∈([]:List (Addr×Obj)) from hp) (by simp),e0.hok.kept hk,?_⟩
  · have hy:sc.names.lookup y=some .cell∨sc.names.lookup y=some .free:=hy
    rcases hy with hy | hy
    · exact absurd rfl (S.nocell _ (PySem.mem_of_lookup hy))
    · exact S.fr y hy
  · have h0:(cl.lookup y).isNone=true:=h0
    have h:cl.lookup y=some c:=h
    rw [h] at h0
    cases h0
  · have h1:N[i]?=some y:=h1
    obtain ⟨a,r,rfl⟩:∃a r,N=a::r:=by
      cases N with
      | nil=>simp at hl
      | cons a r=>exact ⟨a,r,rfl⟩
    have ha:a=p:=Option.some.inj S.hd
    subst ha
    cases i with
    | zero =>
      cases h1
      cases h2
      refine ⟨u,rv,.inl ⟨S.par,?_⟩⟩
      show List.lookup y [(y,u)]=some u
      rw [List.lookup_cons_self]
    | succ i =>
      have h1:r[i]?=some y:=h1
      have h2:vs[i]?=some w:=by
        have:(vs.map some)[i]?=some (some w):=h2
        rw [getElem?_map] at this
        cases e:vs[i]? with
        | none=>rw [e] at this;cases this
        | some z=>rw [e] at this;cases this;rfl
      obtain ⟨j,j1,j2,j3,j4⟩:=hf i y w h1 h2
      obtain ⟨m,hm,lk⟩:=I.loc
      obtain ⟨u',ru,lo⟩:=lk j y w j1 j2 j3
      refine ⟨u',ru,?_⟩
      rcases lo with ⟨k1,_⟩ | ⟨_,c,e1,e2⟩
      · exact absurd k1 j4
      · have hy:=S.tl y (mem_of_getElem? h1)
        obtain ⟨c',e3⟩:=S.fr y hy
        have:=S.cls y c' e3
        rw [e1] at this
        cases this
        obtain ⟨o,ho,hd⟩:=e2
        exact .inr ⟨.inr hy,c,e3,o,hk _ _ ho,hd⟩
  · obtain ⟨w,o,ho,hd⟩:=I.cell y c (S.cls y c h)
    exact ⟨w,o,hk _ _ ho,hd⟩
  · show ((v::vs).map some).length=N.length
    rw [length_map,length_cons,hl]
theorem Xji {A:Around}{N:List Str}{p name qual:Str}{sc:Scope}{params:Arguments}{body:Expr}{f c:Addr}{pm ctv u:Value}{v:V}{vs:List V}{cl:List (Str×Addr)}{te:TE}{Q:VK}(I:Inv X pins σ H s)(S:Xil X N p sc cl)(hA:A.frames=some X.stack)(hh:A.handled=none)(hroom:A.depth<recursionLimit)
    (hl:vs.length+1=N.length) (hf:Xlh X σ N.tail vs) (rv:RelV v u)
    (ho:s.heap.get? f=some (kla_obj name qual params body sc cl pm c ctv)) (hcd:s.heap.CodeRec (.ref c) qual)
    (hb:bindArgs (kla_fn name qual params body sc cl pm (.ref c) ctv) ⟨[u],[]⟩=pure [(p,u)])
    (ht:PE (cxL X A N qual sc f (.ref c) cl s H) body te) (hq:te ((v::vs).map some) H Q) :
    codeAny (model X.prog X.w) A (.call (.ref f) ⟨[u],[]⟩) (fun r s'=>match r with
      | .ok (.ret u')=>CE X.stack X.prog X.w H s Q u' s'
      | _=>False) s:=by
  refine PySem.W.kla_callFunE hroom ho rfl S.co S.gen rfl hcd ?_
  rw [hb]
  refine wpAny_pure (wpAny_newFunctionEnv S.nocell (fun x hx=>by rw [List.mem_singleton.mp hx];exact S.par) (fun h₁ hns hsb=>⟨I.nolimit.fresh _ hsb,?_⟩) S.kind)
  have hk:∀b o,s.heap.get? b=some o→h₁.get? b=some o:=fun b o e=>hsb.extBut b o (ne_of_lt (lt_size e)) (get?_push_of_some _ e)
  have J:=Xic (A:=A) (qual:=qual) (f:=f) (cd:=.ref c) (tk:=s.toks+1) I S hA hh hl hf rv hns hk
  show codeAny _ _ (.expr body (envX qual sc s.heap.objs.size f (.ref c) cl)) _ _
  refine PySem.W.kla_codeExpr (wpAny_mono (ht [] _ _ H _ J hq) (fun u' s' h=>?_) fun e s' h=>False.elim h)
  obtain ⟨w,H',J',r,q⟩:=h
  exact ⟨w,H',J'.os,J'.bare,J'.base,J'.hok,r,q⟩
end
def BMod (base:Heap)(mg:Str→Option Value):Prop:=∃bm ob,mg "__builtins__"=some (.ref bm)∧bm≠builtinsNs∧base.get? bm=some ob∧ob.cls=.type "module"∧ob.dict=some builtinsNs∧ob.data=.plain
def Zwq (H:Hp)(f:Addr)(qual:Str)(params:Arguments)(body:Expr)(sc:Scope)(cl:List (Str×Addr)):Prop:=
 ∃c pm ctv oc vs t,H f=some (.frz (kla_obj "<lambda>" qual params body sc cl pm c ctv) (.own 0))∧H c=some (.frz oc (.own 0))∧oc.data=.fields vs∧vs[1]?=some (.str qual t)
section
variable {X:Cx}{pins:List (Addr×Obj)}{σ:St}{H:Hp}{s:Shared}{P c:Addr}{pos:Pos}{qual:Str}{params:Arguments}{body:Expr}{sc:Scope}{cl:List (Str×Addr)}{E:Value→Shared→Prop}
theorem Inv.bat (I:Inv X pins σ H s)(hB:BMod X.base X.mg)(hP:H P=some (.tbl pos qual)):s.heap.BuiltinsAt X.mg P∧mainGlobals≠P:=by
 obtain ⟨bm,ob,b1,b2,b3,b4,b5,b6⟩:=hB
 obtain ⟨e1,e2⟩:=I.bs bm ob b3
 obtain ⟨og,es,ep,g1,g2,g3⟩:=I.mod.glob
 have n1:bm≠mainGlobals:=fun z=>by
  rw [z,g1] at b3
  cases b3
  rw [g2] at b6
  cases b6
 have n2:bm≠P:=fun z=>by rw [z,hP] at e2;cases e2
 refine ⟨⟨bm,ob,b1,b2,n1,n2,e1,b4,b5,b6⟩,fun z=>?_⟩
 have:=(I.bs mainGlobals og g1).2
 rw [z,hP] at this
 cases this
theorem Inv.lay2 {h':Heap}{fo:Obj}{tk:Nat}(I:Inv X pins σ H s)(hk:∀b o,s.heap.get? b=some o→h'.get? b=some o)(hs:s.heap.objs.size≤h'.objs.size)(hfree:fo.isFreed=false):Inv X pins σ (upd H h'.objs.size (.frz fo (.own 0))) {s with heap:=h'.push fo,toks:=tk}:=by
 have e:=get?_push_size h' (o:=fo) hfree
 exact I.laid (fun b o q=>get?_push_of_some _ (hk b o q)) hs (show Zbx X.prog X.w _ (h'.push fo) _ (.frz fo (.own 0)) from ⟨e,_,e⟩)
theorem Xky {v:Value}{ps:Array Value}{Q:Value→Shared→Prop}(I:Inv X pins σ H s)(hB:BMod X.base X.mg)(hP:H P=some (.tbl pos qual))(hcode:X.env.code=.ref c)(C:CodeHd X.base c P)(hcl:closureFor sc X.env=pure cl)
  (e:s.heap.get? P=some (tabObj ps)) (tr:TriplesOk ps.toList) (hv:codeAmong pos ps.toList=some v) (hc:∀v,codeAmong pos ps.toList=some v→∃c o vs t,v=.ref c∧H c=some (.frz o (.own 0))∧o.data=.fields vs∧vs[1]?=some (.str qual t))
  (h:∀f H' s',Inv X pins σ H' s'→(∀b o,H b=some o→H' b=some o)→Zwq H' f qual params body sc cl→Q (.ref f) s') :
  wpAny (model X.prog X.w) X.A (makeFunction "<lambda>" qual params (.expr body) sc X.env [] [] [] pos pos.line) Q E s:=by
 obtain ⟨b1,b2⟩:=I.bat hB hP
 obtain ⟨c',o,vs,t,rfl,e2,e3,e4⟩:=hc v hv
 refine PySem.W.kla_makeFunctionHit (mg:=X.mg) hcl I.ok.glob (I.mod.glob.keeps I.bk) hcode (C.keeps I.bk) e tr hv b1 fun ctv h' tk hk hs=>?_
 have J:=I.lay2 (fo:=kla_obj "<lambda>" qual params body sc cl ((X.mg "__name__").getD .none) c' ctv) (tk:=tk) hk hs rfl
 have hn:H h'.objs.size=none:=I.hok.fresh hs
 refine h _ _ _ J (fun b o q=>by rw [Xw (Xn q hn)];exact q) ⟨c',_,ctv,o,vs,t,Yb,?_,e3,e4⟩
 rw [Xw (Xn e2 hn)]
 exact e2
theorem Xhe {ps:Array Value}{Q:Value→Shared→Prop}(I:Inv X pins σ H s)(hB:BMod X.base X.mg)(hP:H P=some (.tbl pos qual))(hcode:X.env.code=.ref c)(C:CodeHd X.base c P)(hcl:closureFor sc X.env=pure cl)
  (e:s.heap.get? P=some (tabObj ps)) (tr:TriplesOk ps.toList) (hv:codeAmong pos ps.toList=none)
  (h:∀f H' s',Inv X pins σ H' s'→(∀b o,H b=some o→H' b=some o)→Zwq H' f qual params body sc cl→Q (.ref f) s') :
  wpAny (model X.prog X.w) X.A (makeFunction "<lambda>" qual params (.expr body) sc X.env [] [] [] pos pos.line) Q E s:=by
 obtain ⟨b1,b2⟩:=I.bat hB hP
 refine PySem.W.kla_makeFunction (mg:=X.mg) hcl I.ok.glob (I.mod.glob.keeps I.bk) hcode (C.keeps I.bk) e tr hv b2 b1 fun c' ctv h' tk hx hge hlt hrec htb=>?_
 obtain ⟨c2,oc,vs,t,e1,e2,e3,e4⟩:=hrec
 cases e1
 have hcn:H c'=none:=I.hok.fresh hge
 have ne:∀b u,H b=some u→b≠c':=fun b u q z=>by rw [z,hcn] at q;cases q
 have sub:∀b u,H b=some u→upd H c' (.frz oc (.own 0)) b=some u:=fun b u q=>by rw [Xw (ne b u q)];exact q
 have tab:codeAmong pos (ps++#[rawInt pos.line,rawInt pos.col,.ref c']).toList=some (.ref c'):=by
  rw [Array.toList_append]
  exact codeAmong_snoc ps.toList tr hv
 have tr2:TriplesOk (ps++#[rawInt pos.line,rawInt pos.col,.ref c']).toList:=by
  rw [Array.toList_append]
  exact TriplesOk_snoc pos.line pos.col (.ref c') ps.toList tr
 have J1:Inv X pins σ (upd H c' (.frz oc (.own 0))) {s with heap:=h',toks:=tk}:=by
  refine I.un ⟨fun b o q n _ _=>hx b o (fun z=>by rw [z,hP] at n;cases n) q,fun b o q n _ _=>⟨o.slots,hx b o (fun z=>by rw [z,hP] at n;cases n) q⟩,fun b o q n _=>by rw [Xw (ne_of_lt (lt_of_lt_of_le (lt_size q) hge))];exact n,fun b o q _=>?_,fun b xs q=>sub b _ q,fun b o u q=>sub b _ q,fun b p n q=>sub b _ q⟩ fun b u q=>?_
  ·by_cases hb:b=P
   ·exact ⟨_,by rw [hb];exact htb⟩
   ·exact ⟨o,hx b o hb q⟩
  ·by_cases hb:b=c'
   ·subst hb
    rw [Yb] at q
    cases q
    exact ⟨e2,_,e2⟩
   ·rw [Xw hb] at q
    by_cases hp:b=P
    ·subst hp
     rw [hP] at q
     cases q
     refine ⟨_,htb,tr2,fun v hv'=>?_⟩
     rw [tab] at hv'
     cases hv'
     exact ⟨c',oc,vs,t,rfl,Yb,e3,e4⟩
    ·refine (I.hok b u q).stay (fun d w hd q2=>hx d w (fun z=>?_) q2) (fun d q2=>sub d _ q2) (fun d xs q2=>sub d _ q2) fun d o u q2=>sub d _ q2
     rcases hd with z2 | z2
     ·exact hp (z2.symm.trans z)
     ·rw [z,hP] at z2
      cases z2
 have J:=J1.lay2 (h':=h') (fo:=kla_obj "<lambda>" qual params body sc cl ((X.mg "__name__").getD .none) c' ctv) (tk:=tk) (fun _ _ q=>q) (le_refl _) rfl
 have hn:upd H c' (.frz oc (.own 0)) h'.objs.size=none:=J1.hok.fresh (le_refl _)
 refine h _ _ _ J (fun b o q=>by rw [Xw (Xn (sub b o q) hn)];exact sub b o q) ⟨c',_,ctv,oc,vs,t,Yb,?_,e3,e4⟩
 rw [Xw (Xn Yb hn)]
 exact Yb
theorem Xcn {Q:Value→Shared→Prop}(I:Inv X pins σ H s)(hB:BMod X.base X.mg)(hP:H P=some (.tbl pos qual))(hcode:X.env.code=.ref c)(C:CodeHd X.base c P)(hcl:closureFor sc X.env=pure cl)(hq:X.env.qual++"<lambda>"=qual)(hdef:defaultsOf params X.env=([],[]))
  (h:∀f H' s',Inv X pins σ H' s'→(∀b o,H b=some o→H' b=some o)→Zwq H' f qual params body sc cl→Q (.ref f) s') :
  wpAny (model X.prog X.w) X.A (eval (.Lambda params body sc pos) X.env) Q E s:=by
 refine PySem.W.kla_eval hdef ?_
 rw [hq]
 obtain ⟨ps,e,tr,hc⟩:=(show Zbx X.prog X.w H s.heap P (.tbl pos qual) from I.hok P _ hP)
 cases hv:codeAmong pos ps.toList with
 | none=>exact Xhe I hB hP hcode C hcl e tr hv h
 | some v=>exact Xky I hB hP hcode C hcl e tr hv hc h
end
noncomputable def keysT (K:Frag)(a:Addr)(xs:List V)(tb:V→Hp→VK→Prop):List V→Hp→(List Int→Hp→Prop)→Prop
 | [],H,Q=>Q [] H
 | x::r,H,Q=>tb x H fun v H'=>∃k,v=.int k∧SqL K H' a xs∧keysT K a xs tb r H' fun ks H2=>Q (k::ks) H2
theorem Inv.pinIt {X:Cx}{pins:List (Addr×Obj)}{σ:St}{H:Hp}{s:Shared}{b:Addr}{o:Obj}(I:Inv X pins σ H s)(e:s.heap.get? b=some o)(f:Zor X pins H b)(hd:∀v,o.data≠.cell v):Inv X ((b,o)::pins) σ H s:=
  ⟨I.ok,I.os,I.bare,I.base,I.loc,I.cell,I.free,I.freeC,fun p hp=>by
    rcases List.mem_append.mp hp with z | z
    · exact I.pin p (mem_append_left _ z)
    · rcases List.mem_cons.mp z with z | z
      · subst z
        exact ⟨e,f.1,f.2.1,f.2.2.1,hd⟩
      · exact I.pin p (mem_append_right _ z),I.hok,I.len⟩
theorem Inv.unpin {X:Cx}{pins:List (Addr×Obj)}{σ:St}{H:Hp}{s:Shared}{q:Addr×Obj}(I:Inv X (q::pins) σ H s):Inv X pins σ H s:=
 ⟨I.ok,I.os,I.bare,I.base,I.loc,I.cell,I.free,I.freeC,fun p hp=>I.pin p ((List.mem_append.mp hp).elim (mem_append_left _) fun z=>mem_append_right _ (.tail _ z)),I.hok,I.len⟩
def FpX (X:Cx)(pins:List (Addr×Obj))(b:Addr):Prop:=b≠X.env.locals∧b∉X.fs∧(b∈X.ex∨X.s₀.heap.objs.size≤b)∧(∀x c,X.env.cells.lookup x=some c→c≠b)∧∀p∈X.pn++pins,p.1≠b
section
variable {X:Cx}{pins:List (Addr×Obj)}{σ:St}{H:Hp}{s:Shared}{a f I S:Addr}{xs:List V}{tb:V→Hp→VK→Prop}{R:Result→Shared→Prop}{Q:V→Hp→Prop}
def Xfy (X:Cx)(pins:List (Addr×Obj))(σ:St)(f:Addr)(LP:Hp→Prop)(tb:V→Hp→VK→Prop)(A:Around):Prop:=∀(own:List (Addr×Obj)) (H:Hp) (s:Shared) (x:V) (u:Value) (Q:VK),Inv X (own++pins) σ H s→LP H→RelV x u→tb x H Q→
 wpAny (model X.prog X.w) A (call (.ref f) [u]) (fun u' s'=>∃v H',Inv X (own++pins) σ H' s'∧LP H'∧RelV v u'∧Q v H') (fun _ _=>False) s
end
section
variable {X:Cx}{pins:List (Addr×Obj)}{σ:St}{H:Hp}{s:Shared}{a f:Addr}{xs:List V}{tb:V→Hp→VK→Prop}{Q:VK}
end
structure Zvf (X:Cx)(N:List Str)(p qual:Str)(params:Arguments)(body:Expr)(sc:Scope)(cl:List (Str×Addr))(js:List Nat)(P c:Addr)(lpos:Pos):Prop where
 bm:BMod X.base X.mg
 tab:X.H₀ P=some (.tbl lpos qual)
 code:X.env.code=.ref c
 hd:CodeHd X.base c P
 clo:closureFor sc X.env=pure cl
 qu:X.env.qual++"<lambda>"=qual
 df:defaultsOf params X.env=([],[])
 lsc:Xil X N p sc cl
 jsx:∀(i:Nat) (x:Str),N.tail[i]?=some x→∃j:Nat,js[i]?=some j∧X.N[j]?=some x∧Vis X.env.scope x∧X.env.kindOf x≠some .local
 len:js.length+1=N.length
 bind:∀(u pm ctv:Value) (c:Addr),bindArgs (kla_fn "<lambda>" qual params body sc cl pm (.ref c) ctv) ⟨[u],[]⟩=pure [(p,u)]
 dep:X.A.in1.depth<recursionLimit
 calm:X.calm=true
section
variable {X:Cx}{pins:List (Addr×Obj)}{σ:St}{H:Hp}{s:Shared}{N:List Str}{p qual:Str}{params:Arguments}{body:Expr}{sc:Scope}{cl:List (Str×Addr)}{js:List Nat}{P c:Addr}{lpos:Pos}
theorem Xkb {L:Zvf X N p qual params body sc cl js P c lpos}{vs:List V}(e:js.map (fun j=>σ[j]?)=vs.map (fun v=>some (some v))):Xlh X σ N.tail vs:=fun i x v h1 h2=>by
 obtain ⟨j,j1,j2,j3,j4⟩:=L.jsx i x h1
 refine ⟨j,j2,?_,j3,j4⟩
 have:=congrArg (fun l=>l[i]?) e
 simp only [getElem?_map,j1,h2,Option.map_some] at this
 exact Option.some.inj this
variable {np pos kp:Pos}{e:Expr}{te tb:TE}
end
end L2
namespace L2
open PySem PySem.Spec PyProof.Rows
open Dl (D R FE FT FA FO FS FI FB Fl)
section
variable {K:Frag}{C:String→Addr}{E:XK}{Γ Δ Γ' Δ':List Nat}{m m1 m2 mb:Nat}{S Sb:List (Nat×Bool)}{H:Hp}
theorem Zxr {H0 Hb H:Hp}{σ:St}{ρ:Yx}{A:Nat→List Addr}(I:Xc K C H0 Hb H Γ Δ σ ρ A):∀{js:List Nat} {fs:List D},Dl.Zgz js ρ=.ok fs→∃ws B,js.map (fun j=>σ[j]?)=ws.map (fun v=>some (some v))∧RpA K C H fs ws B
 | [],fs,e=>by
  cases e
  exact ⟨[],[],rfl,rfl,rfl⟩
 | j::r,fs,e=>by
  have e:(Dl.fV j ρ).bind (fun x=>(Dl.Zgz r ρ).bind fun xs=>.ok (x::xs))=.ok fs:=e
  cases h1:Dl.fV j ρ with
  | bad=>rw [h1] at e;cases e
  | err c x=>rw [h1] at e;cases e
  | ok d =>
   rw [h1] at e
   cases h2:Dl.Zgz r ρ with
   | bad =>
    have e:(Dl.Zgz r ρ).bind (fun xs=>R.ok (d::xs))=.ok fs:=e
    rw [h2] at e
    cases e
   | err c x =>
    have e:(Dl.Zgz r ρ).bind (fun xs=>R.ok (d::xs))=.ok fs:=e
    rw [h2] at e
    cases e
   | ok xs =>
    have e:(Dl.Zgz r ρ).bind (fun xs=>R.ok (d::xs))=.ok fs:=e
    rw [h2] at e
    cases e
    obtain ⟨ws,B,e1,e2⟩:=Zxr I h2
    have hd:ρ[j]?=some (some d):=by
     unfold Dl.fV at h1
     split at h1
     ·rename_i d' hd
      cases h1
      exact hd
     ·cases h1
    obtain ⟨v,s1,s2⟩:=I.rep j d hd
    exact ⟨v::ws,A j++B,by rw [map_cons,map_cons,s1,e1],v,ws,A j,B,rfl,s2,e2,rfl⟩
end
section
variable {X:Cx}{C:String→Addr}{E:XK}{Γ Δ Γ' Δ' Γl Δl:List Nat}{m mb mr:Nat}{S Sb:List (Nat×Bool)}{N:List Str}{p qual:Str}{params:Arguments}{body:Expr}{sc:Scope}{cl:List (Str×Addr)}{js:List Nat}{P c:Addr}{lpos np pos kp p2:Pos}{e:Expr}{te tb:TE}{fe fb:FE}{x y:Str}{i j:Nat}
end
section
variable {K:Frag}{C:String→Addr}{E:XK}{Γ Δ Γ' Δ' Γl Δl:List Nat}{m mr:Nat}{S:List (Nat×Bool)}{H:Hp}
end
section
variable {X:Cx}{C:String→Addr}{E:XK}{Γ Δ Γ' Δ' Γl Δl:List Nat}{m mr:Nat}{e:Expr}{te:TE}{fe:FE}{pos pos':Pos}{x:Str}{i j:Nat}
end
def Zcd (ts:List (Addr×Pos×Str))(H:Hp):Prop:=∀t∈ts,H t.1=some (.tbl t.2.1 t.2.2)
noncomputable def spL (ts:List (Addr×Pos×Str))(sp:Sp):Sp:=fun vs H Q E=>Zcd ts H∧sp vs H Q E
structure Xjm (K:Frag)(x qual:Str)(st:Stmt)(f:Addr)(fd:FuncData)(c:Addr):Prop where
 ex:∃(oc:Value) (od:Option Addr) (kV doc pm:Value) (an:Option Addr) (ct:Value) (osl:Array (Option Value)),
  fd=fnOf x qual (Zgc st) (Zau st) (Zm st) .none kV doc pm an (.ref c) ct∧K.lookup f=some ⟨oc,od,.func fd,osl⟩∧codeIn K (.ref c) qual=true
 kp:keepIn K (.ref f)=true
theorem Xjm.one {K:Frag}{x qual:Str}{st:Stmt}{f:Addr}{fd:FuncData}{c:Addr}(F:Xjm K x qual st f fd c):Fun K x qual st f fd:=by
 obtain ⟨oc,od,kV,doc,pm,an,ct,osl,h1,h2,h3⟩:=F.ex
 exact ⟨⟨oc,od,kV,doc,pm,an,.ref c,ct,osl,h1,h2,h3⟩,F.kp⟩
section
variable {P:Program}{w:World}{K:Frag}{C:String→Addr}{mg:Str→Option Value}{base:Heap}{x qual:Str}{st:Stmt}{f c:Addr}{fd:FuncData}{N ps:List Str}{k n mr:Nat}{Γ' Δ':List Nat}{g:FS}{ts:List (Addr×Pos×Str)}
theorem Fun.okL (F:Fun K x qual st f fd)(S:Xg N ps (Zm st))(hn:ps.length=n)
    (hbody:∀(cdv:Value) (A:Around) (outer:List Env) (s:Shared) (H:Hp) (E:XK),Zdy k (A.deeper (envOfC qual (Zm st) s.heap.objs.size f cdv))→Zcd ts H→
      ∃t,JSs (Zyy CX0 P w K mg base N qual (Zm st) f cdv A outer s H E).nox C E0 mr [] [] [] [] Γ' Δ' (Zau st) t g):Zam P w K mg base CX0 (k+1) f fd ps (spL ts (spD K C n mr fun ds=>(Dl.run N.length g ds).calm)):=
  F.okQ S (fun vs H Q E h=>by
    obtain ⟨_,ds,B,h1,h2,_⟩:=h
    rw [h2.len,h1,hn]) fun cdv A outer s H vs Q E hr h=>by
    obtain ⟨h0,ds,B,h1,h2,h3⟩:=h
    obtain ⟨t,ht⟩:=hbody cdv A outer s H E hr h0
    exact ⟨t,ht.q,Zlh (K:=K) ht.o h2 (Xt.imp (Zco h3) (fun _ q=>q) fun _ _ z=>z.elim)⟩
theorem Xjm.okL (F:Xjm K x qual st f fd c)(S:Xg N ps (Zm st))(hn:ps.length=n)
    (hbody:∀(A:Around) (outer:List Env) (s:Shared) (H:Hp) (E:XK),Zdy k (A.deeper (envOfC qual (Zm st) s.heap.objs.size f (.ref c)))→Zcd ts H→
      ∃t,JSs (Zyy CX0 P w K mg base N qual (Zm st) f (.ref c) A outer s H E).nox C E0 mr [] [] [] [] Γ' Δ' (Zau st) t g):Zam P w K mg base CX0 (k+1) f fd ps (spL ts (spD K C n mr fun ds=>(Dl.run N.length g ds).calm)):=by
  obtain ⟨oc,od,kV,doc,pm,an,ct,osl,rfl,lk,hcd⟩:=F.ex
  refine Xoy lk hcd S (fun vs H Q E h=>by
    obtain ⟨_,ds,B,h1,h2,_⟩:=h
    rw [h2.len,h1,hn]) fun A outer s H vs Q E hr h=>?_
  obtain ⟨h0,ds,B,h1,h2,h3⟩:=h
  obtain ⟨t,ht⟩:=hbody A outer s H E hr h0
  exact ⟨t,ht.q.out.nox,Zlh (K:=K) ht.o h2 (Xt.imp (Zco h3) (fun _ q=>q) fun _ _ z=>z.elim)⟩
end
section
variable {X:Cx}{C:String→Addr}{E:XK}{Γ Δ:List Nat}{m n mr k:Nat}{S:List (Nat×Bool)}{x:Str}{p pos:Pos}{e:Expr}{es:List Expr}{t:TA}{ts:List (Addr×Pos×Str)}
theorem Zbv {K:Frag}{ps:List Str}{F:List D→R D}{f:FA}(Df:Def X.prog X.w X.K X.mg X.base CX0 k x ps (spL ts (spD K C n mr F)))(hr:Zdy k X.A)(hg:Gl X x)(hx:Zgi CX0 X E)(hL:Zcd ts X.H₀)
  (ha:JA X C E Γ Δ m S (e::es) n t f) (hdb:(x==("__debug__":Str))=false:=by decide) (he:starEach (e::es) X.env=(false,eval e X.env)::starEach es X.env:=by rfl) (hpl:(backTo pos (starEach es X.env)).any (·.1)=false:=by rfl) (hK:X.K=K:=by rfl) :
  JE X C E Γ Δ mr [] (.Call (.Name x p) (e::es) [] pos) (Zks (spD K C n mr F) [] E t) (Dl.Xo F f):=by
 subst hK
 refine ⟨⟨fun pins s σ H Q I h=>?_⟩,Zqp ha.o ha.n⟩
 have ha':PA X (e::es) fun σ H Q=>∃Q0:List V→Hp→Prop,t σ H Q0∧∀vs H1,Q0 vs H1→Zcd ts H1→Q vs H1:=fun pos pins s σ H Q I ⟨Q0,h,hq⟩ =>
  thn (ha.q.out pos pins s σ H Q0 I h) fun us s1 ⟨vs,H1,I1,r,q⟩=>⟨vs,H1,I1,r,hq vs H1 q fun t ht=>I1.base.tbls _ _ _ (hL t ht)⟩
 exact Zrb Df hr hg hx ha' hdb he hpl pins s σ H Q I ⟨_,h,fun vs H1 q l=>⟨l,q⟩⟩
end
end L2
namespace L2
open PySem PySem.Spec PyProof.Rows
noncomputable def Zat (T:List Addr)(K:Frag):Frag:=K.filter fun p=>!T.contains p.1
theorem Zfh {T:List Addr}{a:Addr}(h:T.contains a=true):∀K:Frag,(Zat T K).lookup a=none
 | []=>rfl
 | (b,o)::K=>by
  unfold Zat
  rw [List.filter_cons]
  split
  ·rename_i hb
   rw [lookup_cons]
   split
   ·rename_i e
    have e:=eq_of_beq e
    subst e
    have hb:(!T.contains a)=true:=hb
    rw [h] at hb
    cases hb
   ·exact Zfh h K
  ·exact Zfh h K
theorem Jb {T:List Addr}{a:Addr}(h:T.contains a=false):∀K:Frag,(Zat T K).lookup a=K.lookup a
 | []=>rfl
 | (b,o)::K=>by
  unfold Zat
  rw [List.filter_cons,lookup_cons]
  split
  ·rw [lookup_cons]
   split
   ·rfl
   ·exact Jb h K
  ·rename_i hb
   have hb:¬(!T.contains b)=true:=hb
   split
   ·rename_i e
    have e:=eq_of_beq e
    subst e
    rw [h] at hb
    exact absurd rfl hb
   ·exact Jb h K
theorem Zrz {T:List Addr}{K:Frag}{h:Heap}(x:K.In h):(Zat T K).In h:=fun a o e=>by
 cases q:T.contains a with
 | true=>rw [Zfh q] at e;cases e
 | false=>rw [Jb q] at e;exact x a o e
section
variable {T:List Addr}{K:Frag}{a f c:Addr}{n x qual:Str}{v:Option Value}
theorem Zv (e:nsIn K a n=some v)(h:T.contains a=false:=by decide):nsIn (Zat T K) a n=some v:=by
 unfold nsIn at e ⊢
 rw [Jb h]
 exact e
theorem Zth (e:codeIn K (.ref c) qual=true)(h:T.contains c=false:=by decide):codeIn (Zat T K) (.ref c) qual=true:=by
 unfold codeIn at e ⊢
 simp only [Jb h]
 exact e
theorem Xei {P:Addr}(e:codeHdIn K c P=true)(h:T.contains c=false:=by decide):codeHdIn (Zat T K) c P=true:=by
 unfold codeHdIn at e ⊢
 rw [Jb h]
 exact e
theorem Ztm {oc:Value}{od:Option Addr}{fd:FuncData}{osl:Array (Option Value)}(l:K.lookup f=some ⟨oc,od,.func fd,osl⟩)(h:T.contains f=false:=by decide):keepIn (Zat T K) (.ref f)=true:=by
 unfold keepIn
 simp only [Jb h,l]
theorem Xr {st:Stmt}{oc:Value}{od an:Option Addr}{osl:Array (Option Value)}{kV doc pm ct:Value}(l:K.lookup f=some ⟨oc,od,.func (fnOf x qual (Zgc st) (Zau st) (Zm st) .none kV doc pm an (.ref c) ct),osl⟩)
  (cd:codeIn K (.ref c) qual=true) (hf:T.contains f=false:=by decide) (hc:T.contains c=false:=by decide):Xjm (Zat T K) x qual st f (fnOf x qual (Zgc st) (Zau st) (Zm st) .none kV doc pm an (.ref c) ct) c:=
 ⟨⟨oc,od,kV,doc,pm,an,ct,osl,rfl,by rw [Jb hf];exact l,Zth cd hc⟩,Ztm l hf⟩
theorem Zta {o:Obj}(l:K.lookup a=some o)(h:T.contains a=false:=by decide):(Zat T K).lookup a=some o:=by
 rw [Jb h]
 exact l
theorem Xlp {base:Heap}{mg:Str→Option Value}{bm:Addr}{ob:Obj}(KX:K.In base)(G:base.Ns mainGlobals mg)(e:nsIn K mainGlobals "__builtins__"=some (some (.ref bm)))(l:K.lookup bm=some ob)(h:bm≠builtinsNs∧ob.cls=.type "module"∧ob.dict=some builtinsNs∧ob.data=.plain):BMod base mg:=
 ⟨bm,_,mg_of KX G e,h.1,KX _ _ l,h.2.1,h.2.2.1,h.2.2.2⟩
end
def Xbf (ts:List (Addr×Pos×Str))(H:Hp):Prop:=∀b,H b=none∨(∃o xs,H b=some (.frz o (.lst xs)))∨∃t∈ts,b=t.1∧H b=some (.tbl t.2.1 t.2.2)
theorem Zyt {P:Program}{w:World}{K0:Frag}{ts:List (Addr×Pos×Str)}{mg mb:Str→Option Value}{CX:CXT}{k:Nat}{fa a:Addr}{fd:FuncData}{x:Str}{sp:Sp}{s₁:Shared}{vs:List Value}{ns:List Int}
    (KX:K0.In s₁.heap) (hT:∀t∈ts,K0.lookup t.1=some (tabObj #[])) (hC:∀t∈ts,isCodeTable s₁.heap t.1) (hnd:(ts.map (·.1)).Nodup)
    (hns:s₁.heap.Ns mainGlobals mg) (hb:s₁.heap.Ns builtinsNs mb) (hbb:∀x:Str,x≠"__name__"→mb x=bootBuiltins x) (hlim:s₁.heap.NoLimit) (hg:s₁.gens=#[])
    (ha:s₁.heap.get? a=some {cls:=.type "list",data:=.seq vs.toArray}) (hi:IntsAre vs ns) (hl:ns.length≤sizeLine) (hr:Zdy k callerA)
    (F:∀base:Heap,(Zat (ts.map (·.1)) K0).In base→base.Ns mainGlobals mg→Zam P w (Zat (ts.map (·.1)) K0) mg base CX k fa fd [x] sp) (hbind:∀(s:Shared) (u:Value),BindsTo s fd ⟨[u],[]⟩ [(x,u)])
    (hsp:∀H:Hp,Zcd ts H→Xbf ts H→SqL (Zat (ts.map (·.1)) K0) H a (ns.map V.int)→sp [.ref a] H (fun v _=>v=.bl true) fun _ _ _=>False)
    (hCX:∀H e s',CX [] H s₁ (fun _ _ _=>False) e s'→False) :
    codeAny (model P w) callerA (.call (.ref fa) ⟨[.ref a],[]⟩) (fun r s'=>r=.ok (.ret (.bool true))∧OldK s₁.heap s'.heap∧s'.os=s₁.os∧AllBare s'.gens) s₁:=by
  have rv:=Zdh hi
  have lenV:=hi.length
  have tObj:∀t∈ts,s₁.heap.get? t.1=some (tabObj #[]):=fun t ht=>KX _ _ (hT t ht)
  have aT:∀t∈ts,t.1≠a:=fun t ht z=>by
    have:=tObj t ht
    rw [z,ha] at this
    cases this
  have find:∀b,(∃t∈ts,t.1=b)∨∀t∈ts,t.1≠b:=fun b=>by
    by_cases h:∃t∈ts,t.1=b
    · exact .inl h
    · exact .inr fun t ht e=>h ⟨t,ht,e⟩
  have one:∀{t u:Addr×Pos×Str},t∈ts→u∈ts→t.1=u.1→t=u:=fun {t u} ht hu e=>by
    have:∀(l:List (Addr×Pos×Str)),(l.map (·.1)).Nodup→t∈l→u∈l→t=u:=fun l=>by
      induction l with
      | nil=>intro _ h;cases h
      | cons y l ih =>
        intro nd h1 h2
        rw [map_cons,List.nodup_cons] at nd
        rcases List.mem_cons.mp h1 with z1 | z1<;>rcases List.mem_cons.mp h2 with z2 | z2
        · rw [z1,z2]
        · exact absurd (List.mem_map.mpr ⟨u,z2,by rw [← e,z1]⟩) nd.1
        · exact absurd (List.mem_map.mpr ⟨t,z1,by rw [e,z2]⟩) nd.1
        · exact ih nd.2 z1 z2
    exact this ts hnd ht hu
  have core:∀H:Hp,Zcd ts H→Xbf ts H→SqL (Zat (ts.map (·.1)) K0) H a (ns.map V.int)→HOk P w H s₁.heap→(∀b,H b≠none→b=a∨∃t∈ts,t.1=b)→(H a≠none→K0.lookup a=none)→
      codeAny (model P w) callerA (.call (.ref fa) ⟨[.ref a],[]⟩) (fun r s'=>r=.ok (.ret (.bool true))∧OldK s₁.heap s'.heap∧s'.os=s₁.os∧AllBare s'.gens) s₁:=by
    intro H hLm hO hS hok hA hK
    have base_of:∀{b:Addr} {o:Obj},s₁.heap.get? b=some o→H b=none→(Zsd s₁.heap H).get? b=some o:=fun e n=>Zqj e n
    have noA:∀{b:Addr} {o:Obj} {es:Array DictEntry} {ep:Nat},s₁.heap.get? b=some o→o.data=.dict es ep→H b=none:=fun {b o es ep} e d=>by
      cases q:H b with
      | none=>rfl
      | some u =>
        rcases hA b (by rw [q];simp) with e' | ⟨t,ht,e'⟩
        · subst e'
          rw [ha] at e;cases e
          have d':Data.seq vs.toArray _=Data.dict es ep:=d
          cases d'
        · subst e'
          rw [tObj t ht] at e;cases e
          have d':Data.fields #[]=Data.dict es ep:=d
          cases d'
    have nsK:∀{b:Addr} {m:Str→Option Value},s₁.heap.Ns b m→(Zsd s₁.heap H).Ns b m:=fun {b m} ⟨o,es,ep,e,d,r⟩=>⟨o,es,ep,base_of e (noA e d),d,r⟩
    have hKb:(Zat (ts.map (·.1)) K0).In (Zsd s₁.heap H):=fun b o e=>base_of (Zrz KX b o e) (by
      cases q:H b with
      | none=>rfl
      | some u =>
        cases q2:(ts.map (·.1)).contains b with
        | true=>rw [Zfh q2] at e;cases e
        | false =>
          rcases hA b (by rw [q];simp) with e' | ⟨t,ht,e'⟩
          · subst e'
            rw [Jb q2,hK (by rw [q];simp)] at e;cases e
          · have:(ts.map (·.1)).contains b=true:=List.contains_iff_mem.mpr (List.mem_map.mpr ⟨t,ht,e'⟩)
            rw [this] at q2;cases q2)
    have hM:Mod (Zat (ts.map (·.1)) K0) mg (Zsd s₁.heap H):=⟨hKb,nsK hns,⟨mb,nsK hb,hbb⟩,let ⟨mc,h1,h2⟩:=hlim;⟨mc,nsK h1,h2⟩⟩
    have e0:Xmi P w (Zat (ts.map (·.1)) K0) mg (Zsd s₁.heap H) callerA [] s₁ H:=⟨rfl,hM,fun b o e=>Zvq e,le_of_eq (Zny _ _),trivial,fun b hb=>absurd (show b∈([]:List Addr) from hb) (by simp),hok,.of_eq hg⟩
    refine codeAny_mono ((F _ hKb (nsK hns)).run callerA [] s₁ H ⟨[.ref a],[]⟩ [.ref a] [.ref a] _ _ hr e0 (hbind s₁ (.ref a)) (.cons rfl .nil) (hsp H hLm hO hS)) fun r s' h=>?_
    cases r with
    | error e=>exact (hCX H e s' h).elim
    | ok fl =>
      cases fl with
      | next=>exact False.elim h
      | brk=>exact False.elim h
      | cont=>exact False.elim h
      | ret u =>
        obtain ⟨v,H',os,bare,un,hok',r',q⟩:=h
        have q':v=.bl true:=q
        subst q'
        obtain rfl:u=Value.bool true:=r'
        refine ⟨rfl,⟨fun b o e=>?_,fun b o e=>un.there b o e (by simp)⟩,os,bare⟩
        cases q:H b with
        | none=>exact .inl (un.keep b o e q (by intro z;exact absurd (show b∈([]:List Addr) from z) (by simp)) (by simp))
        | some u =>
          rcases hO b with z | ⟨ob,xs,z⟩ | ⟨t,ht,hbt,z⟩
          · rw [q] at z;cases z
          · have z2:=un.frzs b ob _ z
            obtain ⟨e1,_⟩:=hok b _ z
            obtain ⟨e2,_⟩:=hok' b _ z2
            rw [e] at e1;cases e1
            exact .inl e2
          · subst hbt
            have z2:=un.tbls _ _ _ z
            obtain ⟨ps,e2,_⟩:=hok' t.1 _ z2
            rw [tObj t ht] at e
            cases e
            refine .inr (.inl ⟨hC t ht,rfl,#[],ps,rfl,?_⟩)
            rw [e2]
            simp
  have tabs:∃H:Hp,Zcd ts H∧(∀b,(∀t∈ts,t.1≠b)→H b=none):=by
    refine ⟨fun b=>(ts.find? fun t=>t.1==b).map fun t=>.tbl t.2.1 t.2.2,fun t ht=>?_,fun b hb=>?_⟩
    · have:ts.find? (fun u=>u.1==t.1)=some t:=by
        cases q:ts.find? (fun u=>u.1==t.1) with
        | none=>exact absurd (List.find?_eq_none.mp q t ht) (by simp)
        | some u=>rw [one (List.mem_of_find?_eq_some q) ht (by simpa using List.find?_some q)]
      show (ts.find? fun u=>u.1==t.1).map _=_
      rw [this];rfl
    · have:ts.find? (fun u=>u.1==b)=none:=List.find?_eq_none.mpr fun t ht=>by simpa using hb t ht
      show (ts.find? fun u=>u.1==b).map _=_
      rw [this];rfl
  obtain ⟨H1,hL1,hN1⟩:=tabs
  have okT:∀(H:Hp) (t:Addr×Pos×Str),t∈ts→Zbx P w H s₁.heap t.1 (.tbl t.2.1 t.2.2):=fun H t ht=>⟨#[],tObj t ht,by exact trivial,fun v hv=>by cases hv⟩
  cases hk:K0.lookup a with
  | some o =>
    have e:=KX a o hk
    rw [ha] at e
    cases e
    have na:(ts.map (·.1)).contains a=false:=by
      cases q:(ts.map (·.1)).contains a with
      | false=>rfl
      | true =>
        obtain ⟨t,ht,e⟩:=List.mem_map.mp (List.contains_iff_mem.mp q)
        exact absurd e (aT t ht)
    refine core H1 hL1 (fun b=>?_) (.inr ⟨_,vs.toArray,_,by rw [Jb na];exact hk,rfl,rfl,rfl,by rw [size_toArray,lenV];exact hl,by simpa using rv⟩) (fun b u z=>?_) (fun b z=>?_) fun z=>absurd (hN1 a aT) z
    · rcases find b with ⟨t,ht,e⟩ | h
      · exact .inr (.inr ⟨t,ht,e.symm,by rw [← e];exact hL1 t ht⟩)
      · exact .inl (hN1 b h)
    · rcases find b with ⟨t,ht,e⟩ | h
      · subst e
        rw [hL1 t ht] at z
        cases z
        exact okT H1 t ht
      · rw [hN1 b h] at z;cases z
    · rcases find b with h | h
      · exact .inr h
      · exact absurd (hN1 b h) z
  | none =>
    have hne:∀t∈ts,t.1≠a:=aT
    refine core (fun b=>if b=a then some (.frz {cls:=.type "list",data:=.seq vs.toArray} (.lst (ns.map V.int))) else H1 b) (fun t ht=>(if_neg (hne t ht)).trans (hL1 t ht)) (fun b=>?_) (.inl (.inr ⟨{cls:=.type "list",data:=.seq vs.toArray},if_pos rfl⟩)) (fun b u z=>?_) (fun b z=>?_) fun _=>hk
    · by_cases hb:b=a
      · exact .inr (.inl ⟨_,_,if_pos hb⟩)
      · rcases find b with ⟨t,ht,e⟩ | h
        · exact .inr (.inr ⟨t,ht,e.symm,(if_neg hb).trans (by rw [← e];exact hL1 t ht)⟩)
        · exact .inl ((if_neg hb).trans (hN1 b h))
    · by_cases hb:b=a
      · have z':=(if_pos hb).symm.trans z
        cases z'
        subst hb
        exact ⟨ha,by rw [length_map];exact hl,vs,_,rv,ha⟩
      · have z':=(if_neg hb).symm.trans z
        rcases find b with ⟨t,ht,e⟩ | h
        · subst e
          rw [hL1 t ht] at z'
          cases z'
          exact okT _ t ht
        · rw [hN1 b h] at z';cases z'
    · by_cases hb:b=a
      · exact .inl hb
      · rcases find b with h | h
        · exact .inr h
        · exact absurd ((if_neg hb).trans (hN1 b h)) z
theorem Xco {l:PySem.W.OpenLaw}{n k:Nat}{q:Program}{loose:List Str}{XP:(Str→Option Value)→Heap→Prop}{YP:World→Heap→Prop}{d:DefRec}{K:Params→Frag}{ts:List (Addr×Pos×Str)}{CX:World→CXT}{sp:World→Sp}{x:Str}
    (hn:l.most=some n) (hn2:n≤sizeLine) (hdf:d.params.defaults=[]) (hr:Zdy k callerA)
    (hY:∀(w:World) (h:Heap),YP w h→(K w.params).In h)
    (hT:∀w:World,∀t∈ts,(K w.params).lookup t.1=some (tabObj #[])∧∃c,codeHdIn (K w.params) c t.1=true) (hnd:(ts.map (·.1)).Nodup)
    (F:∀(w:World) (mg:Str→Option Value) (fa:Addr) (h:Heap),(K w.params).In h→h.Ns mainGlobals mg→mg d.name=some (.ref fa)→
      ∃fd:FuncData,(∀(s:Shared) (u:Value),BindsTo s fd ⟨[u],[]⟩ [(x,u)])∧
        ∀base:Heap,(Zat (ts.map (·.1)) (K w.params)).In base→base.Ns mainGlobals mg→Zam l.prog w (Zat (ts.map (·.1)) (K w.params)) mg base (CX w) k fa fd [x] (sp w))
    (hsp:∀(w:World) (H:Hp) (a:Addr) (ns:List Int),ns.length≤n→Zcd ts H→Xbf ts H→SqL (Zat (ts.map (·.1)) (K w.params)) H a (ns.map V.int)→sp w [.ref a] H (fun v _=>v=.bl true) fun _ _ _=>False)
    (hCX:∀(w:World) (H:Hp) (s:Shared) (e:Value) (s':Shared),CX w [] H s (fun _ _ _=>False) e s'→False) :
    PySem.W.WalkO q loose XP YP l.row.toRowW d [] (fun f vs=>PySem.call f vs):=by
  refine Att.attach_call hn hdf fun w s₀ s₁ mg mb fa o pm cd doc a vs ns G Y ho hd hcd hmg hobj hints hlen hg=>?_
  have KX:=hY w _ Y
  obtain ⟨fd,hb,hF⟩:=F w mg fa _ KX G.T.g hmg
  exact Zyt KX (fun t ht=>(hT w t ht).1) (fun t ht=>by
    obtain ⟨c,e⟩:=(hT w t ht).2
    obtain ⟨o,vs,_,_,_,_,_,_,_,h1,h2,h3,h4,_⟩:=PySem.W.codeHd_of_K KX e
    exact ⟨c,o,vs,h1,h2,h3,h4⟩) hnd G.T.g G.T.b G.T.builtins G.T.nolimit hg hobj hints (le_trans hlen hn2) hr hF hb (fun H hL hO hS=>hsp w H a ns hlen hL hO hS) fun H e s'=>hCX w H s₁ e s'
end L2
namespace L2
open PySem PySem.Spec PyProof.Rows
open Dl (D R FE FT FA FO FS FI FB Fl)
theorem Xjo {k:Option NameKind}(h:k=some .cell):k≠some .local:=fun z=>by rw [h] at z;cases z
theorem Xns {X:Cx}{N:List Str}{p qual:Str}{params:Arguments}{body:Expr}{sc:Scope}{cl:List (Str×Addr)}{js:List Nat}{P c:Addr}{lpos:Pos}{k:Nat}
    (bm:BMod X.base X.mg) (tab:X.H₀ P=some (.tbl lpos qual)) (hd:CodeHd X.base c P) (hr:Zdy (k+1) X.A) (calm:X.calm=true)
    (clo:closureFor sc X.env=pure cl) (c1:∀q∈cl,X.env.cells.lookup q.1=some q.2) (c2:∀x∈N.tail,∃c,cl.lookup x=some c)
    (j1:js.map (fun j=>X.N[j]?)=N.tail.map some) (j2:∀x∈N.tail,Vis X.env.scope x∧X.env.kindOf x≠some .local)
    (code:X.env.code=.ref c:=by rfl) (qu:X.env.qual++"<lambda>"=qual:=by rfl) (df:defaultsOf params X.env=([],[]):=by rfl)
    (k1:sc.kind=.function:=by rfl) (k2:sc.isCoroutine=false:=by rfl) (k3:sc.isGenerator=false:=by rfl) (k4:(sc.names.all fun x=>x.2 != .cell)=true:=by rfl) (k5:sc.names.lookup p=some .local:=by rfl) (k6:N.Nodup:=by decide +kernel) (k7:N.head?=some p:=by rfl)
    (k8:(N.tail.all fun x=>sc.names.lookup x==some .free)=true:=by rfl) (k9:(sc.names.all fun y=>y.2 != .free||N.tail.contains y.1)=true:=by rfl) (k10:js.length+1=N.length:=by rfl)
    (bind:∀(u pm ctv:Value) (c:Addr),bindArgs (kla_fn "<lambda>" qual params body sc cl pm (.ref c) ctv) ⟨[u],[]⟩=pure [(p,u)]:=by intros;rfl):Zvf X N p qual params body sc cl js P c lpos where
  bm:=bm
  tab:=tab
  code:=code
  hd:=hd
  clo:=clo
  qu:=qu
  df:=df
  lsc:={
    kind:=k1,co:=k2,gen:=k3,par:=k5,nd:=k6,hd:=k7
    nocell:=fun x hx z=>by
      have:=List.all_eq_true.mp k4 x hx
      rw [z] at this
      cases this
    tl:=fun x hx=>eq_of_beq (List.all_eq_true.mp k8 x hx)
    fr:=fun x hx=>by
      obtain ⟨y,hy,e⟩:∃y∈sc.names,y=(x,NameKind.free):=by
        have:∀l:List (Str×NameKind),l.lookup x=some .free→(x,NameKind.free)∈l:=fun l=>by
          induction l with
          | nil=>intro h;cases h
          | cons a l ih =>
            obtain ⟨b,kd⟩:=a
            intro h
            rw [lookup_cons] at h
            split at h
            · rename_i e
              cases h
              rw [eq_of_beq e]
              exact .head _
            · exact .tail _ (ih h)
        exact ⟨_,this _ hx,rfl⟩
      subst e
      have:=List.all_eq_true.mp k9 _ hy
      have:N.tail.contains x=true:=by simpa using this
      exact c2 x (List.contains_iff_mem.mp this)
    cls:=fun x c hx=>by
      have:∀l:List (Str×Addr),l.lookup x=some c→(x,c)∈l:=fun l=>by
        induction l with
        | nil=>intro h;cases h
        | cons a l ih =>
          obtain ⟨b,kd⟩:=a
          intro h
          rw [lookup_cons] at h
          split at h
          · rename_i e
            cases h
            rw [eq_of_beq e]
            exact .head _
          · exact .tail _ (ih h)
      exact c1 (x,c) (this _ hx)}
  jsx:=fun i x hi=>by
    have:=congrArg (fun l=>l[i]?) j1
    simp only [getElem?_map,hi,Option.map_some] at this
    cases q:js[i]? with
    | none=>rw [q] at this;cases this
    | some j =>
      rw [q] at this
      have h2:X.N[j]?=some x:=Option.some.inj this
      obtain ⟨v1,v2⟩:=j2 x (mem_of_getElem? hi)
      exact ⟨j,rfl,h2,v1,v2⟩
  len:=k10
  bind:=bind
  dep:=hr.in1.depth
  calm:=calm
theorem Xmn {K:Frag}{ts:List (Addr×Pos×Str)}{H:Hp}{a:Addr}{xs:List V}(hO:Xbf ts H)(h:SqL K H a xs):FzL K H a xs:=by
 rcases h with (h | h) | h
 ·rcases hO a with z | ⟨o,ys,z⟩ | ⟨t,_,_,z⟩<;>· rw [h] at z;cases z
 ·exact .inl h
 ·exact .inr h
section
variable {K:Frag}{C:String→Addr}{E:XK}{Γ Δ Γ' Δ' Γk Δk:List Nat}{m mr:Nat}{H H2:Hp}
end
section
variable {X:Cx}{C:String→Addr}{E:XK}{Γ Δ Γ' Δ' Γk Δk:List Nat}{m mr:Nat}{e:Expr}{te:TE}{fe:FE}{pos p p1 p2 pa pb pc pd apos cpos:Pos}
end
end L2
namespace L2
open PySem PySem.Spec PyProof.Rows
section
variable {P:Program}{w:World}{H H':Hp}{h h':Heap}{a:Addr}{o:HO}
end
section
variable {X:Cx}{pins:List (Addr×Obj)}{σ:St}{H H':Hp}{s:Shared}{a:Addr}{u u':HO}{o:Obj}
variable {tg:Expr}
end
end L2
namespace L2
open PySem PySem.Spec PyProof.Rows
open Dl (D R FE FT FA FO FS FI FB Fl)
section
variable {K:Frag}{C:String→Addr}{E:XK}{Γ Δ Γl Δl:List Nat}{m m1 m2 m3 mr:Nat}{S S1 S2 S3:List (Nat×Bool)}{H:Hp}
end
section
variable {X:Cx}{C:String→Addr}{E:XK}{Γ Δ Γ' Δ' Γl Δl:List Nat}{m m1 m2 m3 mr:Nat}{S S1 S2 S3:List (Nat×Bool)}{a b c e o:Expr}{ta tb tc te:TE}{fa fb fc fe:FE}{p p2 pos apos cpos:Pos}{n:Nat}
end
section
variable {K:Frag}{C:String→Addr}{E:XK}{Γ Δ Γ' Δ' Γ1 Δ1 Γl Δl Γk Δk:List Nat}{m m1 m2 m3 mr:Nat}{H:Hp}{Q:VK}
end
section
variable {X:Cx}{C:String→Addr}{E:XK}{Γ Δ Γ' Δ' Γl Δl:List Nat}{m1 m2 mr:Nat}{pos pos2 p1 p2:Pos}{e1 e2:Expr}{t1 t2:TE}{f1 f2:FE}{x y:Str}{ss:List Stmt}{v:TS}{h:FS}
end
end L2
namespace L2
open PySem PySem.Spec PyProof.Rows
open Dl (D R FE FT FA FO FS FI FB FM Fl)
section
variable {K:Frag}{C:String→Addr}{E:XK}{Γ Δ Γ' Δ' Γ1 Δ1 Γl Δl Γk Δk:List Nat}{m m1 m2 m3 mr n:Nat}{S:List (Nat×Bool)}{H:Hp}{Q:VK}
def MOkF (K:Frag)(C:String→Addr)(E:XK)(Γ Δ:List Nat)(i:Nat)(t:TE)(f:FM):Prop:=∀(H0 Hb H:Hp) (σ:St) (ρ:Yx) (A:Nat→List Addr) (Q:VK),Xc K C H0 Hb H Γ Δ σ ρ A→
 Xt (f ρ) (fun p=>∀v H' A' B,Xc K C H0 Hb H' Γ Δ σ p.2 A'→(∀b o,b∉A i→H b=some o→H' b=some o)→(∀j,j≠i→p.2[j]?=ρ[j]?∧A' j=A j)→Rp K C H' p.1 v B→B.Nodup→(∀a∈B,Hb a=none∧∀j,a∉A' j)→Q v H') (fun c x=>∀H',Xx H0 H'→EC C E c x H')→t σ H Q
end
section
variable {X:Cx}{C:String→Addr}{E:XK}{Γ Δ Γ' Δ' Γl Δl:List Nat}{m m2 mr n:Nat}{S2:List (Nat×Bool)}{e:Expr}{es:List Expr}{t:TA}{fa:FA}{pos p p1 p2 p3 p4 p5 apos cpos mpos mapos:Pos}{c:String}{md x y kx:Str}{CX:CXT}{k:Nat}{ps:List Str}{tm:TE}{fm:FM}
structure JMF (X:Cx)(C:String→Addr)(E:XK)(Γ Δ:List Nat)(j:Nat)(e:Expr)(t:TE)(f:FM):Prop where
 q:QE X e t
 o:MOkF X.K C E Γ Δ j t f
end
end L2
namespace L2
open PySem PySem.Spec PyProof.Rows
@[reducible] noncomputable def Cx.blkC (X:Cx)(N2:List Str)(y:Str)(sc:Scope)(cl:List (Str×Addr))(C:Addr)(s0:Shared)(H0:Hp)(fp:List Addr):Cx:=
 {X with N:=N2++[y],s₀:=s0,H₀:=H0,env:=compEnvC sc cl C X.env,outer:=X.stack,ex:=fp,fn:=fun z=>z==y,pn:=[],xe:=fun _ _=>False}
structure BlkC (sc esc:Scope)(y:Str)(N N2:List Str):Prop where
 kind:sc.kind=.function
 cell:∀n acc,cellsFrom n sc.names acc=(y,n)::acc
 one:∀z∈sc.names,z.2=.cell→z.1=y
 nfree:∀z∈sc.names,z.2=.free→z.1≠y
 loc:∀z∈sc.names,z.2=.local→sc.names.lookup z.1=some .local
 free:∀z∈sc.names,z.2=.free→esc.names.lookup z.1=some .cell∨esc.names.lookup z.1=some .free
 out:∀z∈N2,sc.names.lookup z≠some .local∧z≠y
 nd:N.Nodup
 len:N2.length=N.length
 ren:∀p∈N.zip N2,p.2=p.1∨sc.names.lookup p.2=none
section
variable {X:Cx}{elt iter tg:Expr}{y:Str}{pos:Pos}{g:TG}{ifs:List Expr}{sc:Scope}{N2:List Str}{wi:TI}{tc:TT}{te:TE}
end
end L2
namespace L2
open PySem PySem.Spec PyProof.Rows
open Dl (D R FE FT FA FO FS FI FB FM Fl)
section
variable {K:Frag}{C:String→Addr}{E:XK}{Γ Δ:List Nat}{S:List (Nat×Bool)}
end
section
variable {X:Cx}{C:String→Addr}{E:XK}{mr:Nat}{Γ Δ Γ' Δ' Γl Δl:List Nat}{S:List (Nat×Bool)}{n:Nat}{pos:Pos}{elt iter:Expr}{ifs:List Expr}{sc:Scope}{wi:TI}{tc:TT}{te:TE}{gg:TG}{fi:FI}{fc:FT}{fg:FB}{fe:FE}
end
end L2
namespace L2
open PySem PySem.Spec PyProof.Rows
open Dl (D R FE FT FA FO FS FI FB FM FMT Fl)
section
variable {K:Frag}{C:String→Addr}{E:XK}{Γ Δ Γ' Δ' Γ1 Δ1 Γl Δl Γk Δk:List Nat}{m m1 m2 mr n:Nat}{S S1 S2:List (Nat×Bool)}
end
section
variable {X:Cx}{C:String→Addr}{E:XK}{Γ Δ Γ' Δ' Γ1 Δ1 Γk Δk Γl Δl:List Nat}{m m1 m2 mr n k:Nat}{S S1 S2:List (Nat×Bool)}{a b e:Expr}{es:List Expr}{te:TE}{fe:FE}{t:TA}{fa:FA}{tm:TE}{fm:FM}{pos p p1 p2 apos cpos q3:Pos}{x y:Str}{CX:CXT}{ps:List Str}
end
section
variable {K:Frag}{C:String→Addr}{E:XK}{Γ Δ Γ' Δ' Γ1 Δ1 Γl Δl:List Nat}{m mr n:Nat}{S:List (Nat×Bool)}{H:Hp}
end
section
variable {X:Cx}{C:String→Addr}{E:XK}{Γ Δ Γ' Δ' Γl Δl:List Nat}{m2 mr n k:Nat}{S2:List (Nat×Bool)}{es:List Expr}{t:TA}{ff:FA}{pos p p2 p3 cpos:Pos}{x y z:Str}{CX:CXT}{ps:List Str}
end
section
variable {X:Cx}{C:String→Addr}{E:XK}{Γ Δ:List Nat}{m2:Nat}{S2:List (Nat×Bool)}{a b:Expr}{tm te:TE}{fm:FM}{fe:FE}{pos:Pos}
end
section
variable {K:Frag}{C:String→Addr}{E:XK}{Γ Δ:List Nat}{m n:Nat}{S:List (Nat×Bool)}
noncomputable def spR (K:Frag)(C:String→Addr)(n:Nat)(F:List D→R D):Sp:=fun vs H Q E=>∃ds B,ds.length=n∧RpA K C H ds vs B∧
 Xt (F ds) (fun d=>∀v H' Br,Xx H H'→Rp K C H' d v Br→(∀a∈Br,a∈B∨H a=none)→Q v H') (fun c x=>∀H',Xx H H'→EC C E c x H')
def SOkT (K:Frag)(C:String→Addr)(E:XK)(t:TS)(f:FS):Prop:=∀(H0 Hb H:Hp) (σ:St) (ρ:Yx) (A:Nat→List Addr) (D:Ends),Xc K C H0 Hb H [] [] σ ρ A→
  Xt (f ρ) (fun fl=>match fl with
    | .ret d=>∀v H' Br,Xx H H'→Rp K C H' d v Br→(∀a∈Br,(∃j,a∈A j)∨H a=none)→D.rt v H'
    | _=>False) (fun c x=>∀H',Xx H H'→EC C E c x H')→t D σ H
theorem Ztt {N:Nat}{ds:List D}{vs:List V}{B:List Addr}{H:Hp}(r:RpA K C H ds vs B):∃A,Xc K C H H H [] [] (vs.map some++List.replicate (N - vs.length) none) (ds.map some++List.replicate (N - ds.length) none) A∧∀j,∀a∈A j,a∈B:=by
 have hl:=r.len
 obtain ⟨A,h1,h2,h3⟩:=Xhu r
 refine ⟨A,⟨Xx.refl _,Xx.refl _,by simp [hl],fun i d h=>?_,fun i h=>?_,(fun _ h=>nomatch h),(fun _ h=>nomatch h),(fun _ h=>nomatch h)⟩,h3⟩
 ·by_cases hi:i<ds.length
  ·rw [getElem?_append_left (by simpa using hi),getElem?_map] at h
   obtain ⟨d',hd,e⟩:=Option.map_eq_some_iff.mp h
   cases e
   obtain ⟨v,q1,q2⟩:=h1 i d hd
   refine ⟨v,?_,q2⟩
   rw [getElem?_append_left (by simp [hl,hi]),getElem?_map,q1]
   rfl
  ·rw [getElem?_append_right (by simpa using hi)] at h
   have hm:=mem_of_getElem? h
   rw [mem_replicate] at hm
   cases hm.2
 ·by_cases hi:i<ds.length
  ·exact absurd (by rw [getElem?_append_left (by simpa using hi),getElem?_map,getElem?_eq_getElem hi];rfl) (h ds[i])
  ·exact h2 i (by omega)
theorem Zvj {F:List D→R D}{t:TA}{f:FA}(ha:AOk K C E Γ Δ m S t f)(hn:∀ρ ds,f ρ=.ok ds→ds.length=n):EOk K C E Γ Δ 0 S (Zks (spR K C n F) [] E t) (Dl.Xo F f):=fun H0 Hb H σ ρ A Q I p=>Zxb (ha H0 Hb H σ ρ A _ I (by
  have p':=p.bind
  cases e:f ρ with
  | bad=>rw [e] at p';exact p'
  | err c x=>rw [e] at p';exact p'
  | ok ds =>
    rw [e] at p'
    intro vs H1 g1 r
    obtain ⟨B,r1,r2,_⟩:=r
    refine ⟨ds,B,hn ρ ds e,r1,Xt.imp p' (fun d q v H' Br g rr hB=>?_) fun c x q H' g'=>q H' (g1.trans g')⟩
    exact q v H' (g1.trans g) ⟨Br,rr,fun a ha=>(hB a ha).elim (fun z=>r2 a z) fun z=>.inl (g1.free z),(fun z=>by omega),fun z=>by omega⟩))
end
structure JTs (X:Cx)(C:String→Addr)(E:XK)(ss:List Stmt)(t:TS)(f:FS):Prop where
 q:QSs X ss t
 o:SOkT X.K C E t f
 n:∀ρ ρ',f ρ≠.ok (.nx ρ')
section
variable {X:Cx}{C:String→Addr}{E:XK}{Γ Δ:List Nat}{m mr n k:Nat}{S:List (Nat×Bool)}{e:Expr}{es:List Expr}{ss:List Stmt}{t:TA}{f:FA}{te:TE}{fe:FE}{u:TS}{g:FS}{pos pos' p:Pos}{x:Str}{CX:CXT}{ps:List Str}
theorem Zrx {K:Frag}{F:List D→R D}(Df:Def X.prog X.w X.K X.mg X.base CX k x ps (spR K C n F))(hr:Zdy k X.A)(hg:Gl X x)(hx:Zgi CX X E)
  (ha:JA X C E Γ Δ m S (e::es) n t f) (hdb:(x==("__debug__":Str))=false:=by decide) (he:starEach (e::es) X.env=(false,eval e X.env)::starEach es X.env:=by rfl) (hpl:(backTo pos (starEach es X.env)).any (·.1)=false:=by rfl) (hK:X.K=K:=by rfl) :
  JE X C E Γ Δ 0 S (.Call (.Name x p) (e::es) [] pos) (Zks (spR K C n F) [] E t) (Dl.Xo F f):=by
 subst hK
 exact ⟨Zsf Df hr hg hx ha.q hdb he hpl,Zvj ha.o ha.n⟩
end
end L2
namespace L2
open PySem PySem.Spec PyProof.Rows
open Dl (D R FE FT FA FO FS FI FB FM FMT Fl Pr kLt Zeq)
theorem Zhs (c:Pr):∀l,(Dl.Xfh c l).Perm (c::l)
 | []=>List.Perm.refl _
 | d::l=>by
  unfold Dl.Xfh
  split
  ·exact List.Perm.refl _
  ·exact ((Zhs c l).cons d).trans (List.Perm.swap c d l)
theorem Zdu:∀l,(Dl.Zlm l).Perm l
 | []=>List.Perm.refl _
 | c::l=>(Zhs c _).trans ((Zdu l).cons c)
theorem Zzo {b:Bool}(c:Pr)(hc:side b c.2):∀l,(∀x∈l,side b x.2)→l.Pairwise (fun x y=>Zeq y x=false)→(Dl.Xfh c l).Pairwise (fun x y=>Zeq y x=false)
 | [],_,_=>List.pairwise_singleton _ _
 | d::l,hs,h=>by
  obtain ⟨h1,h2⟩:=List.pairwise_cons.mp h
  unfold Dl.Xfh
  split
  ·rename_i q
   refine List.pairwise_cons.mpr ⟨fun y hy=>?_,h⟩
   rcases List.mem_cons.mp hy with e | e
   ·rw [e]
    exact Zpc q
   ·exact Zxg hc (hs d (.head _)) (hs y (.tail _ e)) (Zpc q) (h1 y e)
  ·rename_i q
   refine List.pairwise_cons.mpr ⟨fun y hy=>?_,Zzo c hc l (fun x hx=>hs x (.tail _ hx)) h2⟩
   rcases List.mem_cons.mp ((Zhs c l).mem_iff.mp hy) with e | e
   ·rw [e]
    exact Bool.eq_false_iff.mpr q
   ·exact h1 y e
theorem Zsv {b:Bool}:∀l,(∀x∈l,side b x.2)→(Dl.Zlm l).Pairwise (fun x y=>Zeq y x=false)
 | [],_=>List.Pairwise.nil
 | c::l,hs=>Zzo c (hs c (.head _)) _ (fun x hx=>hs x (.tail _ ((Zdu l).mem_iff.mp hx))) (Zsv l fun x hx=>hs x (.tail _ hx))
theorem Zuq {b:Bool}{p q:Pr}(hp:side b p.2)(hq:side b q.2)(h1:Zeq q p=false)(h2:Zeq p q=false):p=q:=by
 unfold Zeq at *
 by_cases e:p.1=q.1
 ·rw [if_pos e.symm] at h1
  rw [if_pos e] at h2
  refine Prod.ext e ?_
  cases ep:p.2 with
  | inl x =>
   cases eq:q.2 with
   | inl y =>
    rw [ep,eq] at h1 h2
    have h1:=of_decide_eq_false (show decide (y<x)=false from h1)
    have h2:=of_decide_eq_false (show decide (x<y)=false from h2)
    rw [show x=y by omega]
   | inr y =>
    rw [ep] at hp
    rw [eq] at hq
    unfold side at hp hq
    rw [hp] at hq;cases hq
  | inr x =>
   cases eq:q.2 with
   | inl y =>
    rw [ep] at hp
    rw [eq] at hq
    unfold side at hp hq
    rw [hp] at hq;cases hq
   | inr y =>
    rw [ep,eq] at h1 h2
    by_cases z:x=y
    ·rw [z]
    ·rcases Zwk z with w | w
     ·rw [show kLt (.inr x) (.inr y)=Dl.sLt x y from rfl,w] at h2;cases h2
     ·rw [show kLt (.inr y) (.inr x)=Dl.sLt y x from rfl,w] at h1;cases h1
 ·rw [if_neg fun z=>e z.symm] at h1
  rw [if_neg e] at h2
  have h1:=of_decide_eq_false h1
  have h2:=of_decide_eq_false h2
  exact absurd (show p.1=q.1 by omega) e
theorem Xbo {b:Bool}{l l':List Pr}(hs:∀x∈l,side b x.2)(hp:l'.Perm l)(hu:l'.Pairwise (fun x y=>Zeq y x=false)):Dl.Zlm l=l':=
 List.Perm.eq_of_pairwise (fun x y hx hy h1 h2=>Zuq (hs x ((Zdu l).mem_iff.mp hx)) (hs y (hp.mem_iff.mp hy)) h1 h2) (Zsv l hs) hu ((Zdu l).trans hp.symm)
section
variable {X:Cx}
theorem Xnx {pins:List (Addr×Obj)}{σ:St}{H:Hp}{s:Shared}{b:Bool}{a:Addr}{p:Pr}(I:Inv X pins σ H s)(h:H a=some (.tup [.int p.1,kV p.2]))(hs:side b p.2):Ztx b s.heap (.ref a)∧Zdw s.heap (.ref a)=p:=by
 obtain ⟨its,rv,⟨o,h1,h2,n,h3⟩,_⟩:=I.tuple (SqT.of h)
 cases rv with
 | cons r1 rv =>
  cases rv with
  | cons r2 rv =>
   cases rv
   obtain ⟨t,rfl⟩:=r1
   obtain ⟨i,k⟩:=p
   cases k with
   | inl y =>
    obtain ⟨t',rfl⟩:=r2
    exact ⟨⟨a,o,i,t,.int y t',n,rfl,h1,h2,h3,.inl ⟨hs,y,t',rfl⟩⟩,Zen h1 h3⟩
   | inr y =>
    obtain ⟨t',rfl⟩:=r2
    exact ⟨⟨a,o,i,t,.str y t',n,rfl,h1,h2,h3,.inr ⟨hs,y,t',rfl⟩⟩,Zen h1 h3⟩
variable {K:Frag}{C:String→Addr}{H:Hp}
theorem Xbk {d:D}{p:Pr}(h:Dl.Zwc d=some p):d=Dl.prD p:=by
 unfold Dl.Zwc at h
 split at h
 ·cases h;rfl
 ·cases h;rfl
 ·cases h
theorem Xae (p:Pr):Dl.flat (Dl.prD p)=true:=by
 obtain ⟨i,k⟩:=p
 cases k<;>rfl
theorem Xqg {p:Pr}{v:V}{B:List Addr}(r:Rp K C H (Dl.prD p) v B):∃b,v=.ref b∧H b=some (.tup [.int p.1,kV p.2])∧Rp K C H (Dl.prD p) (.ref b) []:=by
 have e:=r.flat (Xae p)
 subst e
 obtain ⟨b,vs,rfl,h1,h2⟩:=id r
 refine ⟨b,rfl,?_,r⟩
 obtain ⟨x,l,B1,B2,rfl,r1,r2,_⟩:=h2
 obtain ⟨y,l2,B3,B4,rfl,r3,r4,_⟩:=r2
 obtain ⟨rfl,_⟩:=r4
 rw [h1]
 obtain ⟨rfl,_⟩:=r1
 obtain ⟨i,k⟩:=p
 cases k with
 | inl z =>
  obtain ⟨rfl,_⟩:=r3
  rfl
 | inr z =>
  obtain ⟨rfl,_⟩:=r3
  rfl
theorem Zvn:∀{ds:List D} {cs:List Pr} {ys:List V} {B:List Addr},Dl.Zpx ds=some cs→RpA K C H ds ys B→∃L:List (Addr×Pr),ys=L.map (fun x=>V.ref x.1)∧cs=L.map (·.2)∧∀x∈L,H x.1=some (.tup [.int x.2.1,kV x.2.2])∧Rp K C H (Dl.prD x.2) (.ref x.1) []
 | [],cs,ys,B,e,r=>by
  cases e
  exact ⟨[],r.1,rfl,fun _ h=>nomatch h⟩
 | d::ds,cs,ys,B,e,r=>by
  obtain ⟨p,e1,e⟩:=Option.bind_eq_some_iff.mp (show ((Dl.Zwc d).bind fun c=>(Dl.Zpx ds).bind fun cs=>some (c::cs))=some cs from e)
  obtain ⟨ps,e2,e⟩:=Option.bind_eq_some_iff.mp e
  cases e
  obtain ⟨x,l,B1,B2,rfl,h1,h2,_⟩:=r
  rw [Xbk e1] at h1
  obtain ⟨b,rfl,q1,q2⟩:=Xqg h1
  obtain ⟨L,rfl,rfl,hL⟩:=Zvn e2 h2
  refine ⟨(b,p)::L,rfl,rfl,fun x hx=>?_⟩
  rcases List.mem_cons.mp hx with z | z
  ·subst z;exact ⟨q1,q2⟩
  ·exact hL x z
theorem Zqf:∀{L:List (Addr×Pr)},(∀x∈L,Rp K C H (Dl.prD x.2) (.ref x.1) [])→RpA K C H ((L.map (·.2)).map Dl.prD) (L.map fun x=>V.ref x.1) []
 | [],_=>RpA.nil
 | x::L,h=>⟨_,_,[],[],rfl,h x (.head _),Zqf fun y hy=>h y (.tail _ hy),rfl⟩
end
end L2
namespace L2
open PySem PySem.Spec PyProof.Rows
open Dl (D R FE FT FA FO FS FI FB FM FMT Fl)
section
variable {X:Cx}
variable {K:Frag}{C:String→Addr}
end
end L2
namespace L2
open PySem PySem.Spec PyProof.Rows
section
variable {prog:Program}{w:World}{A:Around}{E:Value→Shared→Prop}{s:Shared}
variable {X:Cx}{tg:Expr}
end
open Dl (D R FE FT FA FO FS FI FB FM FMT Fl) in
section
variable {K:Frag}{C:String→Addr}{E:XK}{Γ Δ Γ' Δ' Γk Δk:List Nat}{mr:Nat}
end
section
variable {X:Cx}{C:String→Addr}{E:XK}{Γ Δ Γ' Δ' Γk Δk:List Nat}{mr:Nat}{c e:Expr}{tA:TT}{fA:Dl.FT}{pos p p1 ip rp:Pos}{x y:Str}
end
end L2
namespace L2
open PySem
def UpP (a:Array Nat):Prop:=∀(i j x y:Nat),i<j→a[i]?=some x→a[j]?=some y→x<y
structure TabU (t:SetTable):Prop where
 no:t.dummies=#[]
 up:UpP t.place
end L2
namespace L2
open PySem PySem.Spec PyProof.Rows
open Dl (Xjs Zwb)
noncomputable def keyI:Value→Int
 | .int n _=>n
 | _=>0
noncomputable def keysOf (es:Array (Int×Value)):List Int:=es.toList.map fun e=>keyI e.2
def SW (prog:Program)(w:World)(h:Heap)(a:Addr)(ks:List Int):Prop:=
 ∃o es ep t,h.get? a=some o∧o.ExactSet∧o.data=.set es ep t∧ElemsOf (intKind prog w) es.toList∧(keysOf es).Perm ks∧es.size<scanBound∧t.fits es.size=true∧TabU t∧t.led=!(w.params.followText "set-order")
section
variable {prog:Program}{w:World}{A:Around}{E:Value→Shared→Prop}{s:Shared}{a:Addr}{ks:List Int}
end
end L2
namespace L2
open PySem PySem.Spec PyProof.Rows
section
variable {prog:Program}{w:World}{A:Around}{E:Value→Shared→Prop}{s:Shared}{it a:Addr}{es:Array (Int×Value)}{ep i:Nat}{t:SetTable}
theorem fp2 {b n a:Nat}(h:b∈[n,a]):b=a∨n≤b:=by
 simp at h
 omega
end
end L2
namespace L2
open PySem PySem.Spec PyProof.Rows
open Dl (Xjs Zwb)
section
variable {prog:Program}{w:World}{A:Around}{E:Value→Shared→Prop}{s:Shared}
set_option maxHeartbeats 4000000 in
end
end L2
namespace L2
open PySem PySem.Spec PyProof.Rows
section
variable {prog:Program}{w:World}{A:Around}{E:Value→Shared→Prop}{s:Shared}{a:Addr}{ks:List Int}
end
end L2
namespace L2
open PySem PySem.Spec PyProof.Rows
open Dl (D R FE FT FA FO FS FI FB Fl)
section
variable {X:Cx}{pins:List (Addr×Obj)}{σ:St}{H:Hp}{s:Shared}{e:Expr}{te:TE}{p p' pos pos':Pos}
variable {K:Frag}{C:String→Addr}{E:XK}{Γ Δ:List Nat}{m1:Nat}{S1:List (Nat×Bool)}
end
section
variable {X:Cx}{C:String→Addr}{E:XK}{Γ Δ:List Nat}{m:Nat}{S:List (Nat×Bool)}{e:Expr}{te:TE}{fe:FE}{p p2 apos cpos:Pos}
end
end L2
namespace L2
open PySem PyProof.Rows
def SB (r:Keyed→Keyed→Bool)(ps:Keyed→Int)(x y:Keyed):Prop:=r y x=false∧(r x y=false→ps x<ps y)
def SUp (r:Keyed→Keyed→Bool)(ps:Keyed→Int)(g:Nat→Keyed)(n:Nat):Prop:=∀i j,i<j→j<n→SB r ps (g i) (g j)
def Tl (ps:Keyed→Int)(g:Nat→Keyed)(n m:Nat):Prop:=∀i j,i<j→n≤j→j<m→ps (g i)<ps (g j)
section
variable {prog:Program}{w:World}{A:Around}{E:Value→Shared→Prop}{s:Shared}{κ:SortKind}{P:Keyed→Prop}{r:Keyed→Keyed→Bool}{st:SortSt}{ps:Keyed→Int}{d0:Keyed}{lo nrem:Nat}
theorem SUp.upS (K:Ask prog w A s κ P r){g:Nat→Keyed}{n:Nat}(hp:∀i,i<n→P (g i))(h:SUp r ps g n):Xdl r g n:=fun i j hij hj=>by
 by_cases e:i=j
 ·subst e
  exact K.ir (hp i hj)
 ·exact (h i j (by omega) hj).1
theorem SUp.ofS (K:Ask prog w A s κ P r){g:Nat→Keyed}{n m:Nat}(h:Xdl r g n){a:Nat}(hs:SUp r ps g a)(ht:Tl ps g a m)(hn:n≤m):SUp r ps g n:=fun i j hij hj=>by
 by_cases e:j<a
 ·exact hs i j hij e
 ·exact ⟨h i j (by omega) hj,fun _=>ht i j hij (by omega) (by omega)⟩
theorem Tl.monoS {g:Nat→Keyed}{n n' m:Nat}(h:Tl ps g n m)(hn:n≤n'):Tl ps g n' m:=fun i j hij hj hm=>h i j hij (by omega) hm
theorem Tl.mirS {a:Array Keyed}{i j n m:Nat}(hj:lo+j≤a.size)(hjn:j≤n)(h:Tl ps (gx d0 lo a) n m):Tl ps (gx d0 lo (mirror a (lo+i) (lo+j) ((lo+j - (lo+i)) / 2))) n m:=fun k l hkl hl hm=>by
 rw [Zgu hj,Zgu hj,if_neg (c:=i≤l∧l<j) (by omega)]
 split
 ·exact h _ _ (by omega) hl hm
 ·exact h _ _ hkl hl hm
structure DnL (r:Keyed→Keyed→Bool)(ps:Keyed→Int)(g:Nat→Keyed)(x q m:Nat):Prop where
 fall:∀i j,i<j→j<x→i<x - (q+1)→SB r ps (g j) (g i)
 like:∀i j,x - (q+1)≤i→i<x→x - (q+1)≤j→j<x→Eqv r (g i) (g j)
 tail:Tl ps g (x - (q+1)) m
 q1:q+1≤x
theorem DnL.turnS {a:Array Keyed}{x q m:Nat}(hx:lo+x≤a.size)(hm:x≤m)(d:DnL r ps (gx d0 lo a) x q m):(∀i j,i<j→j<x→SB r ps (gx d0 lo (mirror a (lo+(x - (q+1))) (lo+x) ((lo+x - (lo+(x - (q+1)))) / 2)) j) (gx d0 lo (mirror a (lo+(x - (q+1))) (lo+x) ((lo+x - (lo+(x - (q+1)))) / 2)) i))∧Tl ps (gx d0 lo (mirror a (lo+(x - (q+1))) (lo+x) ((lo+x - (lo+(x - (q+1)))) / 2))) x m:=by
 have hq:=d.q1
 refine ⟨fun i j hij hj=>?_,(d.tail.monoS (sub_le _ _)).mirS hx (le_refl _)⟩
 rw [Zgu hx,Zgu hx]
 by_cases c1:x - (q+1)≤i
 ·rw [if_pos (by omega),if_pos (by omega)]
  have e:=d.like (x - (q+1)+x - 1 - j) (x - (q+1)+x - 1 - i) (by omega) (by omega) (by omega) (by omega)
  exact ⟨e.2,fun _=>d.tail _ _ (by omega) (by omega) (by omega)⟩
 ·rw [if_neg (c:=x - (q+1)≤i∧i<x) (by omega)]
  split
  ·exact d.fall i _ (by omega) (by omega) (by omega)
  ·exact d.fall i j hij hj (by omega)
theorem DnL.lessS (K:Ask prog w A s κ P r){g:Nat→Keyed}{x m:Nat}(hp:∀i,i<x+1→P (g i))(h1:1≤x)(hf:∀i j,i<j→j<x→SB r ps (g j) (g i))(ht:Tl ps g x m)(e:r (g x) (g (x - 1))=true):DnL r ps g (x+1) 0 m where
 fall:=fun i j hij hj hi=>by
  by_cases z:j<x
  ·exact hf i j hij z
  ·have:j=x:=by omega
   subst this
   have lt:r (g j) (g i)=true:=by
    cases q:r (g j) (g i) with
    | true=>rfl
    | false =>
     by_cases c:i=j - 1
     ·subst c;rw [q] at e;exact e
     ·have h2:=(hf i (j - 1) (by omega) (by omega)).1
      have:=K.tr (hp (j - 1) (by omega)) (hp i (by omega)) (hp j (by omega)) h2 q
      rw [this] at e
      exact e
   exact ⟨K.as (hp j (by omega)) (hp i (by omega)) lt,fun z=>by rw [lt] at z;cases z⟩
 like:=fun i j h1 h2 h3 h4=>by
  rw [show i=x by omega,show j=x by omega]
  exact ⟨K.ir (hp x (by omega)),K.ir (hp x (by omega))⟩
 tail:=fun i j hij hi hj=>ht i j hij (by omega) hj
 q1:=by omega
theorem DnL.moreS (K:Ask prog w A s κ P r){g:Nat→Keyed}{x q m:Nat}(hp:∀i,i<x+1→P (g i))(hx:x<m)(d:DnL r ps g x q m)(e1:r (g x) (g (x - 1))=false)(e2:r (g (x - 1)) (g x)=false):DnL r ps g (x+1) (q+1) m:=by
 have hq:=d.q1
 have lk:∀i,x - (q+1)≤i→i<x→Eqv r (g i) (g x):=fun i h1 h2=>Eqv.via K (hp i (by omega)) (hp (x - 1) (by omega)) (hp x (by omega)) (d.like i (x - 1) h1 h2 (by omega) (by omega)) ⟨e1,e2⟩
 refine ⟨fun i j hij hj hi=>?_,fun i j h1 h2 h3 h4=>?_,fun i j hij hi hj=>d.tail i j hij (by omega) hj,by omega⟩
 ·by_cases z:j<x
  ·exact d.fall i j hij z (by omega)
  ·have:j=x:=by omega
   subst this
   obtain ⟨h1,h2⟩:=d.fall i (j - 1) (by omega) (by omega) (by omega)
   refine ⟨K.tr (hp j (by omega)) (hp (j - 1) (by omega)) (hp i (by omega)) e2 h1,fun z=>?_⟩
   have:=h2 (K.tr (hp i (by omega)) (hp j (by omega)) (hp (j - 1) (by omega)) z e2)
   have t1:=d.tail i (j - 1) (by omega) (by omega) (by omega)
   omega
 ·by_cases c1:i<x
  ·by_cases c2:j<x
   ·exact d.like i j (by omega) c1 (by omega) c2
   ·rw [show j=x by omega]
    exact lk i (by omega) c1
  ·rw [show i=x by omega]
   by_cases c2:j<x
   ·exact ⟨(lk j (by omega) c2).2,(lk j (by omega) c2).1⟩
   ·rw [show j=x by omega]
    exact ⟨K.ir (hp x (by omega)),K.ir (hp x (by omega))⟩
end
section
variable {prog:Program}{w:World}{A:Around}{E:Value→Shared→Prop}{s:Shared}{κ:SortKind}{P:Keyed→Prop}{r:Keyed→Keyed→Bool}{st:SortSt}{ps:Keyed→Int}{lo nrem:Nat}
theorem DnL.stepS (d0:Keyed)(K:Ask prog w A s κ P r)(hP:∀x∈(arrOf st).toList,P x)(hn:lo+nrem≤(arrOf st).size){st':SortSt}(c:SC κ lo st st'){x q:Nat}(hx:x<nrem)(d:DnL r ps (gx d0 lo (arrOf st')) x q nrem)(e:r (gx d0 lo (arrOf st') x) (gx d0 lo (arrOf st') (x - 1))=true) :
  SC κ lo st (setArr st' (mirror (arrOf st') (lo+(x - (q+1))) (lo+x) ((lo+x - (lo+(x - (q+1)))) / 2)))∧DnL r ps (gx d0 lo (mirror (arrOf st') (lo+(x - (q+1))) (lo+x) ((lo+x - (lo+(x - (q+1)))) / 2))) (x+1) 0 nrem:=by
 have hsz:lo+x≤(arrOf st').size:=by rw [c.size];omega
 have hq:=d.q1
 have c':SC κ lo st (setArr st' (mirror (arrOf st') (lo+(x - (q+1))) (lo+x) ((lo+x - (lo+(x - (q+1)))) / 2))):=c.put (mirror_perm _ _ _ _) (fun k hk=>Zpj hsz k hk)
 obtain ⟨h1,h2⟩:=d.turnS hsz (by omega)
 have hp:∀i,i<nrem→P (gx d0 lo (arrOf st') i):=fun i hi=>Zzq hP c hn hi
 refine ⟨c',DnL.lessS K (fun i hi=>Zzq (d0:=d0) hP c' hn (by omega)) (by omega) h1 h2 ?_⟩
 rw [Zgu hsz,Zgu hsz,if_neg (by omega),if_pos (by omega)]
 cases z:r (gx d0 lo (arrOf st') x) (gx d0 lo (arrOf st') (x - (q+1)+x - 1 - (x - 1))) with
 | true=>rfl
 | false =>
  have l:=d.like (x - (q+1)+x - 1 - (x - 1)) (x - 1) (by omega) (by omega) (by omega) (by omega)
  have:=K.tr (hp (x - 1) (by omega)) (hp _ (by omega)) (hp x hx) l.1 z
  rw [this] at e
  exact e
theorem Zwa {Q:Option Nat→SortSt→Prop}(d0:Keyed)(K:Ask prog w A s κ P r)(hP:∀x∈(arrOf st).toList,P x)(hk:kindOf st=κ)(hf:failedOf st=none)(hn:lo+nrem≤(arrOf st).size)(h1:1≤nrem)(t0:Tl ps (gx d0 lo (arrOf st)) 0 nrem)
    (h:∀m st',SC κ lo st st'→1≤m→m≤nrem→SUp r ps (gx d0 lo (arrOf st')) m→Tl ps (gx d0 lo (arrOf st')) m nrem→Q (some m) st'):wpS (model prog w) A E s (countRun' lo nrem) Q st:=by
  have c0:SC κ lo st st:=⟨hk,hf,rfl,Array.Perm.refl _,fun _ _=>rfl⟩
  refine wpS_bind (Zzp (d0:=d0) K hP hn c0 (le_refl 1) h1 (fun i j hij hj=>by rw [show i=0 by omega,show j=0 by omega];exact K.ir (Zzq hP c0 hn (by omega))) (fun x n Q' q=>?_) fun n n1 n2 n3 n4=>?_)
  · refine wpS_bind (wpS_mono q ?_)
    rintro b st'' ⟨rfl,b',rfl,q1,q2⟩
    dsimp only
    cases b' with
    | true =>
      rw [if_pos rfl]
      exact wpS_pure (q1 rfl)
    | false =>
      rw [if_neg Bool.false_ne_true]
      exact wpS_pure (q2 rfl)
  have s3:SUp r ps (gx d0 lo (arrOf st)) n:=SUp.ofS K n3 (a:=0) (fun i j _ hj=>by omega) t0 n2
  have t3:Tl ps (gx d0 lo (arrOf st)) n nrem:=t0.monoS (zero_le _)
  refine Zcg (fun c1=>?_) (fun c1=>?_)
  · exact wpS_pure (h n st c0 n1 n2 s3 t3)
  have c1':n≠nrem:=nbeq c1
  have n4':r (gx d0 lo (arrOf st) n) (gx d0 lo (arrOf st) (n - 1))=true:=n4.resolve_left c1'
  have hp0:∀i,i<nrem→P (gx d0 lo (arrOf st) i):=fun i hi=>Zzq hP c0 hn hi
  extract_lets -underBinder jp
  have hd:∀st1,SC κ lo st st1→DnL r ps (gx d0 lo (arrOf st1)) (n+1) 0 nrem→wpS (model prog w) A E s (jp ()) Q st1:=fun st1 sc1 dn1=>by
    refine wpS_bind (wpS_lift (wpAny_rule ⟨rfl,?_⟩))
    refine wpS_bind (wpS_mono (wpS_forRange (I:=fun x c st2=>∃q,c=(none,x,q)∧SC κ lo st st2∧DnL r ps (gx d0 lo (arrOf st2)) x q nrem)
      (Q:=fun c st2=>∃m q,c=(none,m,q)∧n+1≤m∧m≤nrem∧SC κ lo st st2∧DnL r ps (gx d0 lo (arrOf st2)) m q nrem) ?step ?fin ⟨0,rfl,sc1,dn1⟩) ?post)
    case fin =>
      rintro c st2 ⟨q,rfl,sc,dn⟩
      rw [show max (n+1) nrem=nrem by omega] at dn ⊢
      exact ⟨nrem,q,rfl,by omega,le_refl _,sc,dn⟩
    case step =>
      rintro x c st2 hx1 hx2 ⟨q,rfl,sc,dn⟩
      have hp:∀i,i<nrem→P (gx d0 lo (arrOf st2) i):=fun i hi=>Zzq hP sc hn hi
      refine wpS_bind (Zmr (d0:=d0) K hP hn sc (i:=x) (j:=x - 1) hx2 (by omega) rfl (by show lo+x - 1=_;omega) ?_)
      cases e:r (gx d0 lo (arrOf st2) x) (gx d0 lo (arrOf st2) (x - 1)) with
      | true =>
        refine Zcg (fun _=>?_) (fun z=>absurd rfl z)
        refine Zcg (fun q0=>?_) (fun q0=>?_)
        · obtain ⟨c2,d2⟩:=dn.stepS d0 K hP hn sc hx2 e
          have hq:=dn.q1
          refine wpS_bind (Zly (i:=x - (q+1)) (j:=x) (by show lo+x - (q+1)=_;omega) rfl ?_)
          exact wpS_pure ⟨0,rfl,c2,d2⟩
        · have q0:¬q > 0:=q0
          have:q=0:=by omega
          subst this
          exact wpS_pure ⟨0,rfl,sc,DnL.lessS K (fun i hi=>hp i (by omega)) (by omega) (fun i j hij hj=>dn.fall i j hij hj (by omega)) (dn.tail.monoS (sub_le _ _)) e⟩
      | false =>
        refine Zcg (fun z=>absurd z Bool.false_ne_true) (fun _=>?_)
        refine wpS_bind (Zmr (d0:=d0) K hP hn sc (i:=x - 1) (j:=x) (by omega) hx2 (by show lo+x - 1=_;omega) rfl ?_)
        cases e2:r (gx d0 lo (arrOf st2) (x - 1)) (gx d0 lo (arrOf st2) x) with
        | true =>
          refine Zcg (fun _=>?_) (fun z=>absurd rfl z)
          exact wpS_pure ⟨x,q,rfl,hx1,by omega,sc,dn⟩
        | false =>
          refine Zcg (fun z=>absurd z Bool.false_ne_true) (fun _=>?_)
          exact wpS_pure ⟨q+1,rfl,sc,dn.moreS K (fun i hi=>hp i (by omega)) hx2 e e2⟩
    case post =>
      rintro c st2 ⟨m,q,rfl,m1,m2,sc,dn⟩
      dsimp -zeta -zetaHave only
      extract_lets -underBinder u1 u2 u3 u4
      dsimp -zeta -zetaHave only [u1]
      extract_lets -underBinder jp4
      have hd3:∀st3,SC κ lo st st3→(∀i j,i<j→j<m→SB r ps (gx d0 lo (arrOf st3) j) (gx d0 lo (arrOf st3) i))→Tl ps (gx d0 lo (arrOf st3)) m nrem→wpS (model prog w) A E s (jp4 ()) Q st3:=fun st3 sc3 f3 tl3=>by
        refine wpS_bind (Zly (lo:=lo) (i:=0) (j:=m) rfl rfl ?_)
        have hsz:lo+m≤(arrOf st3).size:=by rw [sc3.size];omega
        have c4:SC κ lo st (setArr st3 (mirror (arrOf st3) (lo+0) (lo+m) ((lo+m - (lo+0)) / 2))):=sc3.put (mirror_perm _ _ _ _) (fun k hk=>Zpj hsz k hk)
        have s4:SUp r ps (gx d0 lo (mirror (arrOf st3) (lo+0) (lo+m) ((lo+m - (lo+0)) / 2))) m:=fun i j hij hj=>by
          rw [Zgu hsz,Zgu hsz,if_pos (by omega),if_pos (by omega)]
          exact f3 _ _ (by omega) (by omega)
        have t4:Tl ps (gx d0 lo (mirror (arrOf st3) (lo+0) (lo+m) ((lo+m - (lo+0)) / 2))) m nrem:=tl3.mirS hsz (le_refl _)
        refine wpS_bind (Zzp (d0:=d0) K hP hn c4 (by omega) m2 (s4.upS K fun i hi=>Zzq (d0:=d0) hP c4 hn (by omega)) (fun x n Q' q=>?_) fun n g1 g2 g3 _=>wpS_pure (h n _ c4 (by omega) g2 (SUp.ofS K g3 s4 t4 g2) (t4.monoS g1)))
        refine wpS_bind (wpS_mono q ?_)
        rintro b st'' ⟨rfl,b',rfl,q1,q2⟩
        dsimp only
        cases b' with
        | true =>
          rw [if_pos rfl]
          exact wpS_pure (q1 rfl)
        | false =>
          rw [if_neg Bool.false_ne_true]
          exact wpS_pure (q2 rfl)
      refine Zcg (fun q0=>?_) (fun q0=>?_)
      · have hsz:lo+m≤(arrOf st2).size:=by rw [sc.size];omega
        have hq:=dn.q1
        have c2:SC κ lo st (setArr st2 (mirror (arrOf st2) (lo+(m - (q+1))) (lo+m) ((lo+m - (lo+(m - (q+1)))) / 2))):=sc.put (mirror_perm _ _ _ _) (fun k hk=>Zpj hsz k hk)
        obtain ⟨f2,t2⟩:=dn.turnS hsz m2
        refine wpS_bind (Zly (i:=m - (q+1)) (j:=m) (by show lo+m - (q+1)=_;omega) rfl ?_)
        exact hd3 _ c2 f2 t2
      · have q0:¬q > 0:=q0
        have:q=0:=by omega
        subst this
        exact hd3 _ sc (fun i j hij hj=>dn.fall i j hij hj (by omega)) (dn.tail.monoS (sub_le _ _))
  refine Zcg (fun c2=>?_) (fun c2=>?_)
  · refine wpS_bind (Zmr (d0:=d0) K hP hn c0 (i:=0) (j:=n - 1) (by omega) (by omega) rfl (by show lo+n - 1=_;omega) ?_)
    cases e:r (gx d0 lo (arrOf st) 0) (gx d0 lo (arrOf st) (n - 1)) with
    | true =>
      refine Zcg (fun _=>?_) (fun z=>absurd rfl z)
      exact wpS_pure (h n st c0 n1 n2 s3 t3)
    | false =>
      refine Zcg (fun z=>absurd z Bool.false_ne_true) (fun _=>?_)
      have all:∀k,k<n→Eqv r (gx d0 lo (arrOf st) k) (gx d0 lo (arrOf st) (n - 1)):=fun k hk =>
        ⟨K.tr (hp0 (n - 1) (by omega)) (hp0 0 (by omega)) (hp0 k (by omega)) e (n3 0 k (zero_le _) hk),n3 k (n - 1) (by omega) (by omega)⟩
      have dn:DnL r ps (gx d0 lo (arrOf st)) n (n - 1) nrem:=⟨fun i j _ _ hi=>by omega,fun i j _ hi _ hj=>Eqv.via K (hp0 i (by omega)) (hp0 (n - 1) (by omega)) (hp0 j (by omega)) (all i hi) (all j hj),t0.monoS (zero_le _),by omega⟩
      obtain ⟨c3,d3⟩:=dn.stepS d0 K hP hn c0 (by omega) n4'
      rw [show n - (n - 1+1)=0 by omega] at c3 d3
      refine wpS_bind (Zly (lo:=lo) (i:=0) (j:=n) rfl rfl ?_)
      exact hd _ c3 d3
  · have e1:n=1:=by omega
    subst e1
    exact hd _ c0 (DnL.lessS K (fun i hi=>hp0 i (by omega)) (le_refl 1) (fun i j hij hj=>by omega) (t0.monoS (zero_le _)) n4')
theorem Xlf {Q:Bool→SortSt→Prop}(d0:Keyed)(K:Ask prog w A s κ P r)(hP:∀x∈(arrOf st).toList,P x)(hn:lo+nrem≤(arrOf st).size){st1:SortSt}(c1:SC κ lo st st1){n ok:Nat}(hnn:n≤nrem)(hok:ok≤n)(h1:1≤n)(hs:SUp r ps (gx d0 lo (arrOf st1)) ok)(ht:Tl ps (gx d0 lo (arrOf st1)) ok nrem)
    (h:∀st',SC κ lo st st'→SUp r ps (gx d0 lo (arrOf st')) n→Tl ps (gx d0 lo (arrOf st')) n nrem→Q true st'):wpS (model prog w) A E s (binarySort' lo n ok) Q st1:=by
  refine wpS_bind (wpS_mono (wpS_forRange (I:=fun k c st'=>c.1=none∧SC κ lo st st'∧SUp r ps (gx d0 lo (arrOf st')) (min k n)∧Tl ps (gx d0 lo (arrOf st')) (min k n) nrem) (Q:=fun c st'=>c.1=none∧SC κ lo st st'∧SUp r ps (gx d0 lo (arrOf st')) n∧Tl ps (gx d0 lo (arrOf st')) n nrem) ?step ?fin ?init) ?post)
  case post =>
    rintro ⟨c,_⟩ st' ⟨e,sc,u,t⟩
    have e:c=none:=e
    subst e
    exact wpS_pure (h st' sc u t)
  case init =>
    refine ⟨rfl,c1,fun i j hij hj=>?_,?_⟩
    · exact hs i j hij (by omega)
    · exact ht.monoS (by omega)
  case fin =>
    rintro c st' ⟨e,sc,u,t⟩
    rw [show min (max (max ok 1) n) n=n by omega] at u t
    exact ⟨e,sc,u,t⟩
  case step =>
    rintro k ⟨c,_⟩ st' hk1 hk2 ⟨e,sc,us,tl⟩
    have e:c=none:=e
    subst e
    rw [show min k n=k by omega] at us tl
    have hp:∀i,i<nrem→P (gx d0 lo (arrOf st') i):=fun i hi=>Zzq hP sc hn hi
    have u:=us.upS K fun i hi=>hp i (by omega)
    refine wpS_bind (wpS_mono (wpS_forRange (I:=fun x c st2=>st2=st'∧∃l m,c=(none,l,m)∧l≤m∧m≤k∧m - l≤k - x∧(∀i,i<l→r (gx d0 lo (arrOf st') k) (gx d0 lo (arrOf st') i)=false)∧(∀i,m≤i→i<k→r (gx d0 lo (arrOf st') k) (gx d0 lo (arrOf st') i)=true))
      (Q:=fun c st2=>st2=st'∧∃l m,c=(none,l,m)∧l≤k∧(∀i,i<l→r (gx d0 lo (arrOf st') k) (gx d0 lo (arrOf st') i)=false)∧(∀i,l≤i→i<k→r (gx d0 lo (arrOf st') k) (gx d0 lo (arrOf st') i)=true)) ?istep ?ifin ⟨rfl,0,k,rfl,zero_le _,le_refl _,by omega,fun i hi=>by omega,fun i q1 q2=>by omega⟩) ?ipost)
    case ifin =>
      rintro c st2 ⟨rfl,l,m,rfl,q1,q2,q3,q4,q5⟩
      have:l=m:=by omega
      subst this
      exact ⟨rfl,l,l,rfl,q2,q4,q5⟩
    case istep =>
      rintro x c st2 _ hx ⟨rfl,l,m,rfl,q1,q2,q3,q4,q5⟩
      refine Zcg (fun z=>?_) (fun z=>?_)
      · have z:l≥m:=z
        have:l=m:=by omega
        subst this
        exact wpS_pure ⟨rfl,l,l,rfl,q2,q4,q5⟩
      · have z:¬l≥m:=z
        refine wpS_bind (Zmr (d0:=d0) K hP hn sc (i:=k) (j:=(l+m) / 2) (by omega) (by omega) rfl rfl ?_)
        cases e:r (gx d0 lo (arrOf st2) k) (gx d0 lo (arrOf st2) ((l+m) / 2)) with
        | true =>
          refine Zcg (fun _=>?_) (fun z=>absurd rfl z)
          refine wpS_pure ⟨rfl,l,(l+m) / 2,rfl,by omega,by omega,by omega,q4,fun i i1 i2=>?_⟩
          cases e2:r (gx d0 lo (arrOf st2) k) (gx d0 lo (arrOf st2) i) with
          | true=>rfl
          | false=>rw [K.tr (hp _ (by omega)) (hp i (by omega)) (hp k (by omega)) (u ((l+m) / 2) i i1 i2) e2] at e;cases e
        | false =>
          refine Zcg (fun z=>absurd z Bool.false_ne_true) (fun _=>?_)
          exact wpS_pure ⟨rfl,(l+m) / 2+1,m,rfl,by omega,q2,by omega,fun i i1=>K.tr (hp i (by omega)) (hp _ (by omega)) (hp k (by omega)) (u i ((l+m) / 2) (by omega) (by omega)) e,q5⟩
    case ipost =>
      rintro c st2 ⟨rfl,l,m,rfl,q1,q2,q3⟩
      have hks:lo+k<(arrOf st2).size:=by rw [sc.size];omega
      refine wpS_bind (wpS_modify (wpS_pure ⟨rfl,sc.put (bubble_perm _ _ _) (fun i hi=>Xin (by rw [sc.size];omega) q1 i hi),?_,?_⟩))
      · rw [show min (k+1) n=k+1 by omega]
        intro i j hij hj
        show SB r ps (gx d0 lo (bubble (arrOf st2) (lo+k) (lo+k - (lo+l))) i) (gx d0 lo (bubble (arrOf st2) (lo+k) (lo+k - (lo+l))) j)
        rw [Zra hks q1,Zra hks q1]
        repeat' split
        all_goals first
          | (exfalso;omega)
          | exact ⟨q2 _ (by omega),fun _=>tl _ _ (by omega) (by omega) (by omega)⟩
          | exact ⟨K.as (hp _ (by omega)) (hp _ (by omega)) (q3 _ (by omega) (by omega)),fun z=>by rw [q3 _ (by omega) (by omega)] at z;cases z⟩
          | exact us _ _ (by omega) (by omega)
      · rw [show min (k+1) n=k+1 by omega]
        intro i j hij hj hm
        show ps (gx d0 lo (bubble (arrOf st2) (lo+k) (lo+k - (lo+l))) i)<ps (gx d0 lo (bubble (arrOf st2) (lo+k) (lo+k - (lo+l))) j)
        rw [Zra hks q1,Zra hks q1]
        repeat' split
        all_goals first
          | (exfalso;omega)
          | exact tl _ _ (by omega) (by omega) (by omega)
variable {d0:Keyed}{a0 Z:List Keyed}{Rs:List (List Keyed)}
structure Od (ps:Keyed→Int)(Rs:List (List Keyed))(Z:List Keyed):Prop where
 runs:Rs.Pairwise fun A B=>∀x∈A,∀y∈B,ps x<ps y
 rest:∀R∈Rs,∀x∈R,∀y∈Z,ps x<ps y
 tail:Z.Pairwise fun x y=>ps x<ps y
end
end L2
namespace L2
open PySem PySem.Spec PyProof.Rows
noncomputable def Zvx (tb:V→Hp→VK→Prop):List Int→Hp→(List Int→Hp→Prop)→Prop
 | [],H,Q=>Q [] H
 | x::r,H,Q=>tb (.int x) H fun v H'=>∃k,v=.int k∧Zvx tb r H' fun ks H2=>Q (k::ks) H2
def KO (p q:Int×Int):Prop:=q.1<p.1∨(q.1=p.1∧p.2≤q.2)
noncomputable def nLt (x y:Keyed):Bool:=decide (numOf x.1<numOf y.1)
noncomputable def nPs (x:Keyed):Int:=- numOf x.2
theorem Xaa {prog:Program}{w:World}{A:Around}{s:Shared}:Ask prog w A s oneType' (fun x=>∃n t,x.1=.int n t) nLt where
 run:=fun {x y Q E} hx hy _ q=>by
  obtain ⟨n,t,e⟩:=hx
  obtain ⟨m,u,e2⟩:=hy
  rw [keyLt'_oneType,e,e2]
  unfold nLt at q
  rw [e,e2] at q
  exact oneLt_int q
 tr:=fun {x y z} _ _ _ h1 h2=>by
  unfold nLt at *
  simp only [decide_eq_false_iff_not] at *
  omega
 as:=fun {x y} _ _ h=>by
  unfold nLt at *
  simp only [decide_eq_false_iff_not,decide_eq_true_eq] at *
  omega
noncomputable def kp (x:Keyed):Int×Int:=(numOf x.1,numOf x.2)
theorem Xou {ks vs:List Value}{kz cs:List Int}(hk:IntsAre ks kz)(hv:IntsAre vs cs):(ks.zip vs).map kp=kz.zip cs:=by
 rw [← hk.nums,← hv.nums,List.zip_map]
 exact map_congr_left fun ⟨x,y⟩ _=>rfl
theorem kp_tl {ks vs:List Value}{cs:List Int}(hl:ks.length=vs.length)(hv:IntsAre vs cs)(hr:cs.Pairwise (·<·)):(ks.zip vs).reverse.Pairwise fun x y=>nPs x<nPs y:=by
 rw [List.pairwise_reverse]
 have e:(ks.zip vs).map (fun x=>numOf x.2)=cs:=by
  rw [← hv.nums,show (fun x:Keyed=>numOf x.2)=numOf∘Prod.snd from rfl,← map_map,List.map_snd_zip (by omega)]
 rw [← e,pairwise_map] at hr
 exact hr.imp fun h=>by unfold nPs;omega
section
variable {prog:Program}{w:World}{A:Around}{E:Value→Shared→Prop}{s:Shared}{a kS:Addr}{vs:List Value}{kz cs:List Int}{keys:Array Value}{e e1:Nat}{P:PySem.Fin→Shared→Prop}
set_option maxHeartbeats 2000000 in
end
section
variable {X:Cx}{pins:List (Addr×Obj)}{σ:St}{H:Hp}{s:Shared}{a f:Addr}{tb:V→Hp→VK→Prop}{A:Around}{E:Value→Shared→Prop}{P:PySem.Fin→Shared→Prop}{vs:List Value}{cs:List Int}{QQ:List Int→Hp→Prop}
theorem FpX.ok {b:Addr}(f:FpX X pins b)(h:H b=none):Zor X pins H b:=⟨h,f⟩
theorem Inv.turned2 {h':Heap}{b1 b2:Addr}(I:Inv X pins σ H s)(k:∀b o,b≠b1→b≠b2→s.heap.get? b=some o→h'.get? b=some o)(n1:H b1=none)(n2:H b2=none)(f1:FpX X pins b1)(f2:FpX X pins b2):Inv X pins σ H {s with heap:=h'}:=by
 have nit:∀b u,H b=some u→b≠b1∧b≠b2:=fun b u e=>⟨fun z=>(by rw [z,n1] at e;cases e),fun z=>(by rw [z,n2] at e;cases e)⟩
 have kk:∀b o,b∉[b1,b2]→s.heap.get? b=some o→h'.get? b=some o:=fun b o hb e=>k b o (fun z=>hb (by simp [z])) (fun z=>hb (by simp [z])) e
 refine I.step (t':=s.toks) (g':=s.gens) (d':=s.drawn) (ch:=[b1,b2]) (fun b hb=>?_) (fun b o _ _ hc e _=>kk b o hc e) (fun b o _ _ hc e _=>⟨o.slots,kk b o hc e⟩) (fun _ _ _ _ n=>n) (fun b o hc e=>⟨o,kk b o hc e⟩) (fun _ _ e=>e) (fun _ _ _ e=>e) (fun _ _ _ e=>e) (fun m hm=>?_) (fun b u e=>?_) I.bare
 ·rcases List.mem_cons.mp hb with z | z
  ·rw [z];exact ⟨f1.2.2.1,f1.1,f1.2.2.2.1,f1.2.2.2.2⟩
  ·rw [List.mem_singleton.mp z];exact ⟨f2.2.2.1,f2.1,f2.2.2.2.1,f2.2.2.2.2⟩
 ·obtain ⟨o,es,ep,ho,r⟩:=hm
  exact ⟨o,es,ep,k _ o (Ne.symm f1.1) (Ne.symm f2.1) ho,r⟩
 ·refine (I.hok b u e).stay (fun c v hc q=>?_) (fun _ q=>q) (fun _ _ q=>q) fun _ _ _ q=>q
  rcases hc with z | z
  ·rw [z] at q ⊢;exact k b v (nit b u e).1 (nit b u e).2 q
  ·exact k c v (nit c _ z).1 (nit c _ z).2 q
end
noncomputable def Zsh (lo:Int)(n:Nat):List Int:=(List.range n).map fun k:Nat=>lo+(k:Int)
theorem Zhh (lo:Int)(n:Nat):(Zsh lo n).length=n:=by simp [Zsh]
theorem Xjd (lo:Int)(n:Nat):(Zsh lo n).Pairwise (·<·):=by
 unfold Zsh
 rw [pairwise_map]
 exact List.pairwise_lt_range.imp fun h=>by omega
section
variable {prog:Program}{w:World}{A:Around}{E:Value→Shared→Prop}{s:Shared}
theorem Zza {lo:Int}{n:Nat}{acc:Array Value}(h:ItemsOf (fun i v=>∃t,v=.int (lo+i*1) t) acc n):IntsAre acc.toList (Zsh lo n):=by
 obtain ⟨h1,h2⟩:=h
 have hall:∀v∈acc.toList,∃a t,v=Value.int a t:=fun v hv=>by
  obtain ⟨i,hi⟩:=List.mem_iff_getElem?.mp hv
  rw [getElem?_toList] at hi
  obtain ⟨t,e⟩:=h2 i v hi
  exact ⟨_,t,e⟩
 have q:=intsAre_ofList _ hall
 have e:numsOf acc.toList=Zsh lo n:=by
  rw [← q.nums]
  refine List.ext_getElem? fun i=>?_
  rw [getElem?_map,getElem?_toList]
  by_cases hi:i<acc.size
  ·obtain ⟨t,e⟩:=h2 i acc[i] (Array.getElem?_eq_getElem hi)
   rw [Array.getElem?_eq_getElem hi,e]
   unfold Zsh
   rw [getElem?_map,getElem?_eq_getElem (by simp;omega)]
   simp [numOf]
  ·rw [Array.getElem?_eq_none (by omega),List.getElem?_eq_none (by rw [Zhh];omega)]
   rfl
 rw [e] at q
 exact q
theorem Zpm {r:Addr}{lo:Int}{n:Nat}{hi:Int}{t u v:Tok}{Q:List Value→Shared→Prop}(hh:A.handled=none)(hr:IsRange s.heap r lo hi 1 t u v)(hs:Builtin.Range.small lo hi 1=true)(hn:Builtin.Range.rangeSize lo hi 1=n)(hl:n≤2 ^ 24)
  (q:∀h' tk vs,IntsAre vs (Zsh lo n)→(∀b o,s.heap.get? b=some o→h'.get? b=some o)→s.heap.objs.size≤h'.objs.size→Q vs {s with heap:=h',toks:=tk}):wpAny (model prog w) A (collect (.ref r)) Q E s:=by
 unfold collect
 refine wpAny_bind (wpAny_runValue (codeAny_builtin PySem.F.entry_proto_collect ?_))
 rw [Around.under_plainId PySem.F.plain_proto_collect _]
 change wpAny _ A.in1 (newList [] >>= fun l=>again (.builtin "list.__iadd__" ⟨[l,.ref r],[]⟩)) _ _ s
 refine wpAny_bind (wpAny_newObj_type (wpAny_pure ⟨plainId_quiet PySem.F.plain_list_iadd _,codeAny_builtin PySem.F.entry_list_iadd ?_⟩))
 rw [Around.under_plainId PySem.F.plain_list_iadd _]
 have hr1:IsRange (s.heap.push {cls:=.type "list",data:=.seq ([]:List Value).toArray}) r lo hi 1 t u v:=get?_push_of_some _ hr
 have hS:(s.heap.push {cls:=.type "list",data:=.seq ([]:List Value).toArray}).get? s.heap.objs.size=some {cls:=.type "list",data:=.seq #[] 0}:=get?_push_size _ rfl
 change wpAny _ A.in1 (Builtin.List.listExtendWith (.ref s.heap.objs.size) (.ref r) (.ref s.heap.objs.size)) _ _ _
 refine wpAny_extend_range (R:=fun r s'=>match r with | .ok (.ret v)=>wpAny (model prog w) A (match v with | .ref a=>(load a >>= fun o=>match o.data with | .seq xs _=>pure xs.toList | _=>unsupported "internal:collect") | _=>unsupported "internal:collect") Q E s' | .ok _=>False | .error e=>E e s') (s:={s with heap:=s.heap.push {cls:=.type "list",data:=.seq ([]:List Value).toArray}}) hh hr1 hs hn hl s.heap.objs.size (.ref s.heap.objs.size) 0 hS fun h' tk acc c k g it=>?_
 change wpAny _ A (load s.heap.objs.size >>= _) _ _ _
 refine wpAny_bind (wpAny_load g (wpAny_pure (q h' tk _ (Zza it) (fun b o e=>k b o (ne_of_lt (lt_size e)) (get?_push_of_some _ e)) (le_of_lt (lt_size g)))))
end
section
variable {X:Cx}{pins:List (Addr×Obj)}{σ:St}{H:Hp}{s:Shared}{N:List Str}{p qual:Str}{params:Arguments}{body:Expr}{sc:Scope}{cl:List (Str×Addr)}{js:List Nat}{P c:Addr}{lpos np pos kp kp2 cp:Pos}{e:Expr}{te tb:TE}{k:Nat}
theorem Inv.adopt {a:Addr}{o:HO}(I:Inv X pins σ H s)(f:FpX X pins a)(n:H a=none)(new:Zbx X.prog X.w (upd H a o) s.heap a o):Inv X pins σ (upd H a o) s:=by
 refine I.step (h':=s.heap) (H':=upd H a o) (t':=s.toks) (g':=s.gens) (d':=s.drawn) (ch:=[a]) (fun b hb=>?_) (fun _ _ _ _ _ e _=>e) (fun _ o _ _ _ e _=>⟨o.slots,e⟩) (fun b o hb _ z=>?_) (fun _ o _ e=>⟨o,e⟩) (fun b xs q=>?_) (fun b ob u q=>?_) (fun b p m q=>?_) (fun _ z=>z) (fun b u e=>?_) I.bare
 ·rw [List.mem_singleton.mp hb]
  exact ⟨f.2.2.1,f.1,f.2.2.2.1,f.2.2.2.2⟩
 ·rw [Xw fun z=>hb (by rw [z];exact List.mem_singleton.mpr rfl)]
  exact z
 ·rw [Xw (Xn q n)];exact q
 ·rw [Xw (Xn q n)];exact q
 ·rw [Xw (Xn q n)];exact q
 ·by_cases z:b=a
  ·subst z
   rw [Yb] at e
   cases e
   exact new
  ·rw [Xw z] at e
   exact (I.hok b u e).stay (fun c v _ q=>q) (fun c q=>by rw [Xw (Xn q n)];exact q) (fun c xs q=>by rw [Xw (Xn q n)];exact q) fun c ob u q=>by rw [Xw (Xn q n)];exact q
theorem Xde {vs:List V}{f:Addr}{tb:TE}(L:Zvf X N p qual params body sc cl js P c lpos)(e:js.map (fun j=>σ[j]?)=vs.map (fun v=>some (some v)))(hb:∀f c s H,PE (cxL X X.A.in1.in1 N qual sc f (.ref c) cl s H) body tb) :
  Xfy X pins σ f (fun H=>Zwq H f qual params body sc cl) (fun x H Q=>tb ((x::vs).map some) H Q) X.A.in1.in1:=fun own H s x u Q I lam rx q=>by
 obtain ⟨c',pm,ctv,oc,ws,t,e1,e2,e3,e4⟩:=lam
 obtain ⟨g1,_⟩:=(show Zbx X.prog X.w H s.heap f (.frz _ (.own 0)) from I.hok f _ e1)
 obtain ⟨g2,_⟩:=(show Zbx X.prog X.w H s.heap c' (.frz _ (.own 0)) from I.hok c' _ e2)
 have hl:vs.length+1=N.length:=by
  have:=congrArg List.length e
  rw [length_map,length_map] at this
  rw [← this]
  exact L.len
 refine wpAny_call (codeAny_mono (Xji I L.lsc I.ok.frames (I.ok.hd L.calm) L.dep hl (Xkb (L:=L) e) rx g1 ⟨c',oc,ws,t,rfl,g2,e3,e4⟩ (L.bind u pm ctv c') (hb f c' s H) q) fun r s' hr=>?_)
 cases r with
 | error e=>exact hr.elim
 | ok fl =>
  cases fl with
  | ret u' =>
   obtain ⟨v,H',os,bare,un,hok,r,q⟩:=hr
   obtain ⟨v2,H2,J,r2,q2,l2⟩:=I.after (Q:=fun v H=>Q v H∧Zwq H f qual params body sc cl) ⟨v,H',os,bare,un,hok,r,q,c',pm,ctv,oc,ws,t,un.frzs _ _ _ e1,un.frzs _ _ _ e2,e3,e4⟩
   exact ⟨v2,H2,J,l2,r2,q2⟩
  | next=>exact hr.elim
  | brk=>exact hr.elim
  | cont=>exact hr.elim
end
end L2
namespace L2
open PySem PySem.Spec PyProof.Rows
open Dl (D R FE FT FA FO FS FI FB Fl)
theorem Xdp {l m:List (Int×Int)}(hp:m.Perm l)(hu:m.Pairwise KO):Dl.Znc l=m:=by
 have h1:=mergeSort_perm l (fun p q:Int×Int=>decide (q.1<p.1)||(decide (q.1=p.1)&&decide (p.2≤q.2)))
 have h2:=pairwise_mergeSort (le:=fun p q:Int×Int=>decide (q.1<p.1)||(decide (q.1=p.1)&&decide (p.2≤q.2))) (fun a b c h1 h2=>by simp at *;omega) (fun a b=>by simp;omega) l
 refine List.Perm.eq_of_pairwise (le:=fun p q:Int×Int=>q.1<p.1∨(q.1=p.1∧p.2≤q.2)) (fun x y _ _ g1 g2=>?_) (h2.imp fun h=>by simpa using h) hu (h1.trans hp.symm)
 exact Prod.ext (by omega) (by omega)
section
variable {K:Frag}{C:String→Addr}{E:XK}{Γ Δ Γ' Δ':List Nat}{m m1 m2 mb:Nat}{S Sb:List (Nat×Bool)}{H:Hp}
theorem Zri {tb:TE}{fb:FE}{fs:List D}{ws:List V}(hb:EOk K C E0 [] [] mb Sb tb fb):∀{cs:List Int} {Bf:List Addr} {H2:Hp} {ks:List Int} {Q:List Int→Hp→Prop},RpA K C H2 fs ws Bf→Dl.Zcz fb (fs.map some) (cs.map D.int)=.ok ks→(∀H3,Xx H2 H3→Q ks H3)→
  Zvx (fun x H Q=>tb ((x::ws).map some) H Q) cs H2 Q
 | [],Bf,H2,ks,Q,rf,e,q=>by
  cases e
  exact q H2 (Xx.refl _)
 | x::cs,Bf,H2,ks,Q,rf,e,q=>by
  have e:(fb (some (D.int x)::fs.map some)).calm.bind (fun k=>match k with | .int k=>(Dl.Zcz fb (fs.map some) (cs.map D.int)).bind fun ks=>.ok (k::ks) | _=>.bad)=.ok ks:=e
  obtain ⟨A,I⟩:=Zmh (N:=0) (K:=K) (C:=C) (ds:=D.int x::fs) (vs:=V.int x::ws) (B:=[]++Bf) (H:=H2) ⟨V.int x,ws,[],Bf,rfl,rpI,rf,rfl⟩
  have hl:(ws.length:Nat)=fs.length:=rf.len
  have I':Xc K C H2 H2 H2 [] [] ((V.int x::ws).map some) ((D.int x::fs).map some) A:=by
   simpa [hl] using I
  show tb ((V.int x::ws).map some) H2 _
  refine hb H2 H2 H2 _ _ A _ I' ?_
  show Xt (fb (some (D.int x)::fs.map some)) _ _
  cases h1:fb (some (D.int x)::fs.map some) with
  | bad=>rw [h1] at e;cases e
  | err c x=>rw [h1] at e;cases e
  | ok k =>
   rw [h1] at e
   intro v H' g' rs
   obtain ⟨Bv,rv,_⟩:=rs
   cases k with
   | int k =>
    have e:(Dl.Zcz fb (fs.map some) (cs.map D.int)).bind (fun ks=>R.ok (k::ks))=.ok ks:=e
    cases h2:Dl.Zcz fb (fs.map some) (cs.map D.int) with
    | bad=>rw [h2] at e;cases e
    | err c x=>rw [h2] at e;cases e
    | ok ks2 =>
     rw [h2] at e
     cases e
     exact ⟨k,rv.1,Zri hb (rf.same g') h2 fun H3 g3=>q H3 (g'.trans g3)⟩
   | _=>cases e
theorem Zik (fb:FE)(fs:List (Option D)):∀(l:List D) c x,Dl.Zcz fb fs l≠.err c x
 | [],c,x,z=>by cases z
 | y::l,c,x,z=>by
  have z:(fb (some y::fs)).calm.bind (fun k=>match k with | .int k=>(Dl.Zcz fb fs l).bind fun ks=>.ok (k::ks) | _=>.bad)=.err c x:=z
  cases h3:fb (some y::fs) with
  | bad=>rw [h3] at z;cases z
  | err c x=>rw [h3] at z;cases z
  | ok k =>
   rw [h3] at z
   cases k with
   | int k =>
    have z:(Dl.Zcz fb fs l).bind (fun ks=>R.ok (k::ks))=.err c x:=z
    cases h4:Dl.Zcz fb fs l with
    | bad=>rw [h4] at z;cases z
    | err c' x'=>exact Zik fb fs l c' x' h4
    | ok ks=>rw [h4] at z;cases z
   | _=>cases z
theorem Zyw (lo:Int)(n:Nat):Dl.Zca lo n=(Zsh lo n).map D.int:=by
 unfold Dl.Zca Zsh
 rw [map_map]
 rfl
end
section
variable {X:Cx}{C:String→Addr}{E:XK}{Γ Δ:List Nat}{m mb:Nat}{S Sb:List (Nat×Bool)}{N:List Str}{p qual:Str}{params:Arguments}{body:Expr}{sc:Scope}{cl:List (Str×Addr)}{js:List Nat}{P c:Addr}{lpos np pos kp kp2 cp:Pos}{e:Expr}{te tb:TE}{fe fb:FE}{k:Nat}
end
section
variable {X:Cx}{K:Frag}{C:String→Addr}{E:XK}{Γ Δ Γ' Δ' Γl Δl:List Nat}{mr:Nat}{pos:Pos}
theorem Xiy (h1:∀i∈Γl,i∈Γ:=by decide)(h2:∀i∈Δl,i∈Δ:=by decide):SOk K C E mr Γl Δl Γ Δ Γ' Δ' Zyz Dl.sBrk:=fun _ _ H σ _ A _ I p=>p σ H A (I.weak h1 h2)
theorem Xnv (h1:∀i∈Γl,i∈Γ:=by decide)(h2:∀i∈Δl,i∈Δ:=by decide):JS X C E mr Γl Δl Γ Δ Γ' Δ' (.Break pos) Zyz Dl.sBrk:=⟨⟨Xdh⟩,Xiy h1 h2⟩
end
section
variable {prog:Program}{w:World}{A:Around}{E:Value→Shared→Prop}{s:Shared}
variable {X:Cx}
variable {K:Frag}{C:String→Addr}
end
section
variable {K:Frag}{C:String→Addr}{E:XK}{Γ Δ Γ' Δ' Γ1 Δ1 Γl Δl:List Nat}{m n:Nat}{S:List (Nat×Bool)}
def Xgk (H0:Hp)(A:Nat→List Addr):Prop:=∀j,∀a∈A j,H0 a=none
def Xay (K:Frag)(C:String→Addr)(E:XK)(Γl Δl Γ' Δ':List Nat)(H0 Hb:Hp)(D:Ends)(r:R Fl):Prop:=Xt r (fun fl=>match fl with
    | .nx ρ'=>∀σ' H' A',Xc K C H0 Hb H' Γ' Δ' σ' ρ' A'→Xgk H0 A'→D.nx σ' H'
    | .ret d=>∀v H' B,Xx Hb H'→Rp K C H' d v B→(∀a∈B,H0 a=none)→D.rt v H'
    | .brk ρ'=>∀σ' H' A',Xc K C H0 Hb H' Γl Δl σ' ρ' A'→Xgk H0 A'→D.bk σ' H'
    | .cnt ρ'=>∀σ' H' A',Xc K C H0 Hb H' Γl Δl σ' ρ' A'→Xgk H0 A'→D.ct σ' H')
  (fun c x=>∀H',Xx Hb H'→EC C E c x H')
def Zin (K:Frag)(C:String→Addr)(E:XK)(Γl Δl Γ Δ Γ' Δ':List Nat)(t:TS)(f:FS):Prop:=∀(H0 Hb H:Hp) (σ:St) (ρ:Yx) (A:Nat→List Addr) (D:Ends),Xc K C H0 Hb H Γ Δ σ ρ A→Xgk H0 A→Xay K C E Γl Δl Γ' Δ' H0 Hb D (f ρ)→t D σ H
theorem Res.allN {H0 Hb H H':Hp}{σ:St}{ρ:Yx}{A:Nat→List Addr}{d:D}{v:V}(I:Xc K C H0 Hb H Γ Δ σ ρ A)(N:Xgk H0 A){B:List Addr}(h:∀a∈B,H a=none∨InS A S a):∀a∈B,H0 a=none:=fun a ha=>(h a ha).elim (fun z=>I.s0.free (I.same.free z)) fun z=>by
 obtain ⟨p,_,z⟩:=z.mem
 exact N p.1 a z
theorem Xoc:Zin K C E Γl Δl Γ Δ Γ Δ Zuj Dl.sNx:=fun _ _ H σ _ A _ I N p=>p σ H A I N
theorem Xen {t:TS}{f:FS}(h:Zin K C E Γl Δl Γ Δ Γ1 Δ1 t f)(h1:∀i∈Γ',i∈Γ1)(h2:∀i∈Δ',i∈Δ1):Zin K C E Γl Δl Γ Δ Γ' Δ' t f:=fun H0 Hb H σ ρ A D I N p =>
  h H0 Hb H σ ρ A D I N (Xt.imp p (fun fl q=>by
    cases fl with
    | nx ρ'=>exact fun σ' H' A' I' N'=>q σ' H' A' (I'.weak h1 h2) N'
    | ret d=>exact q
    | brk _=>exact q
    | cnt _=>exact q) fun _ _ q=>q)
theorem Xle {t:TS}{f:FS}(h:Zin K C E Γl Δl Γ1 Δ1 Γ' Δ' t f)(h1:∀i∈Γ1,i∈Γ)(h2:∀i∈Δ1,i∈Δ):Zin K C E Γl Δl Γ Δ Γ' Δ' t f:=fun H0 Hb H σ ρ A D I N p=>h H0 Hb H σ ρ A D (I.weak h1 h2) N p
theorem Xjz {t u:TS}{f g:FS}(h1:Zin K C E Γl Δl Γ Δ Γ1 Δ1 t f)(h2:Zin K C E Γl Δl Γ1 Δ1 Γ' Δ' u g):Zin K C E Γl Δl Γ Δ Γ' Δ' (Xly t u) (Dl.Xp f g):=fun H0 Hb H σ ρ A D I N p =>
  h1 H0 Hb H σ ρ A _ I N (Xt.imp (Xt.bind p) (fun fl q=>by
    cases fl with
    | nx ρ'=>exact fun σ' H' A' I' N'=>h2 H0 Hb H' σ' ρ' A' D I' N' q
    | ret d=>exact q
    | brk ρ'=>exact q
    | cnt ρ'=>exact q) fun _ _ q=>q)
theorem Xdn {i:Nat}{te:TE}{fe:FE}(he:EOk K C E Γ Δ 2 [] te fe)(h1:∀j∈Γ',j=i∨j∈Γ)(h2:∀j∈Δ',j=i∨j∈Δ):Zin K C E Γl Δl Γ Δ Γ' Δ' (Zjd te (Zap i)) (Dl.Yg i fe):=fun H0 Hb H σ ρ A D I N p =>
  he H0 Hb H σ ρ A _ I (Xt.imp (Xt.bind p) (fun d q v H1 g1 r=>by
    obtain ⟨B,r1,r2,r3,r4⟩:=r
    have hn:∀a∈B,H a=none:=fun a ha=>(r2 a ha).elim id fun z=>z.none.elim
    have nd:=r4 rfl
    obtain ⟨A',I',hA'⟩:=(I.mono g1).put (Γ':=Γ') (Δ':=Δ') (i:=i) r1 (fun j hj e=>⟨(h1 j hj).elim (fun z=>absurd z e) id,fun a l e' ha=>I.ne (j:=j) (by rw [e'];exact .head _) (hn a ha)⟩)
      (fun _=>⟨fun a ha=>I.s0.free (I.same.free (hn a ha)),fun a l e=>by subst e;exact ⟨I.same.free (hn a (.head _)),(List.nodup_cons.mp nd).1,fun j _ h=>I.ne h (hn a (.head _))⟩⟩)
      (fun j hj e=>⟨(h2 j hj).elim (fun z=>absurd z e) id,fun a ha hB=>I.ne ha (hn a hB)⟩)
      (fun _=>⟨nd,fun j _ a ha h=>I.ne h (hn a ha),fun a ha=>I.same.free (hn a ha)⟩)
    exact q _ H1 A' I' fun j a ha=>(hA' j a ha).elim (fun z=>I.s0.free (I.same.free (hn a z))) (N j a)) fun c x q H' g'=>q H' (I.same.trans g'))
theorem Xef {i:Nat}{te:TE}{fe:FE}(he:EOk K C E Γ Δ m S te fe)(h1:∀j∈Γ',j≠i∧j∈Γ∧(j,false)∉S)(h2:∀j∈Δ',j≠i∧j∈Δ∧∀p∈S,p.1≠j):Zin K C E Γl Δl Γ Δ Γ' Δ' (Zjd te (Zap i)) (Dl.Yg i fe):=fun H0 Hb H σ ρ A D I N p =>
  he H0 Hb H σ ρ A _ I (Xt.imp (Xt.bind p) (fun d q v H1 g1 r=>by
    obtain ⟨B,r1,r2,r3,r4⟩:=r
    obtain ⟨A',I',hA'⟩:=(I.mono g1).put (Γ':=Γ') (Δ':=Δ') (i:=i) r1 (fun j hj e=>by
        obtain ⟨_,q1,q2⟩:=h1 j hj
        exact ⟨q1,fun a l e' ha=>(r2 a ha).elim (fun z=>I.ne (j:=j) (by rw [e'];exact .head _) z) (I.top_out q1 q2 e')⟩)
      (fun hj=>absurd rfl (h1 i hj).1)
      (fun j hj e=>⟨(h2 j hj).2.1,fun a ha hB=>(r2 a hB).elim (fun z=>I.ne ha z) (I.deep_out (h2 j hj).2.1 (h2 j hj).2.2 ha)⟩)
      (fun hj=>absurd rfl (h2 i hj).1)
    have hB:=Res.allN (d:=d) (v:=v) (H':=H1) I N r2
    exact q _ H1 A' I' fun j a ha=>(hA' j a ha).elim (hB a) (N j a)) fun c x q H' g'=>q H' (I.same.trans g'))
theorem Xkv {i:Nat}{f:Int→Int→Int}{g:D→D→Option D}(hg:∀x y d,g x y=some d→∃i j,x=.int i∧y=.int j∧d=.int (f i j)){te:TE}{fe:FE}(he:EOk K C E Γ Δ m S te fe)(h1:∀j∈Γ',j=i∨j∈Γ)(h2:∀j∈Δ',j=i∨j∈Δ) :
  Zin K C E Γl Δl Γ Δ Γ' Δ' (Xmc i te (ipI f)) (Dl.Zpu i g fe):=fun H0 Hb H σ ρ A D I N p=>by
 unfold Dl.Zpu at p
 split at p
 ·rename_i x e
  obtain ⟨v,e1,r⟩:=I.rep i x e
  refine ⟨v,e1,he H0 Hb H σ ρ A _ I (Xt.imp (Xt.bind p) (fun y q w H1 g1 r1=>?_) fun c x q H' g'=>q H' (I.same.trans g'))⟩
  obtain ⟨z,ez,q⟩:=Zdl (Xt.bind q)
  obtain ⟨B,r1,_⟩:=r1
  obtain ⟨k,l,rfl,rfl,rfl⟩:=hg x y z ez
  obtain ⟨rfl,_⟩:=r
  obtain ⟨rfl,_⟩:=r1
  obtain ⟨A',I',hA'⟩:=(I.mono g1).put (Γ':=Γ') (Δ':=Δ') (i:=i) (d:=.int (f k l)) (v:=.int (f k l)) (B:=[]) rpI (fun j hj e=>⟨(h1 j hj).elim (fun z=>absurd z e) id,fun _ _ _ z=>nomatch z⟩)
   (fun _=>⟨(fun _ z=>nomatch z),(fun _ _ z=>nomatch z)⟩) (fun j hj e=>⟨(h2 j hj).elim (fun z=>absurd z e) id,fun _ _ z=>nomatch z⟩) (fun _=>⟨nodup_nil,(fun _ _ _ z=>nomatch z),(fun _ z=>nomatch z)⟩)
  exact ⟨k,l,rfl,rfl,q _ H1 A' I' fun j a ha=>(hA' j a ha).elim (fun z=>nomatch z) (N j a)⟩
 ·exact p.elim
theorem Xlo {te:TE}{fe:FE}(he:EOk K C E Γ Δ m S te fe):Zin K C E Γl Δl Γ Δ Γ' Δ' (Xme te) (Dl.Zaq fe):=fun H0 Hb H σ ρ A D I N p =>
  he H0 Hb H σ ρ A _ I (Xt.imp (Xt.bind p) (fun d q v H1 g1 r=>by
    obtain ⟨B,r1,r2,_,_⟩:=r
    exact q v H1 B (I.same.trans g1) r1 (Res.allN (d:=d) (v:=v) (H':=H1) I N r2)) fun c x q H' g'=>q H' (I.same.trans g'))
theorem Xmm {tc:TT}{t u:TS}{fc:FT}{f g:FS}(hc:TOk K C E Γ Δ tc fc)(h1:Zin K C E Γl Δl Γ Δ Γ' Δ' t f)(h2:Zin K C E Γl Δl Γ Δ Γ' Δ' u g):Zin K C E Γl Δl Γ Δ Γ' Δ' (Xmg tc t u) (Dl.sIf fc f g):=fun H0 Hb H σ ρ A D I N p =>
  hc H0 Hb H σ ρ A _ I (Xt.imp (Xt.bind p) (fun b q H1 g1=>by
    cases b with
    | true=>exact h1 H0 Hb H1 σ ρ A D (I.mono g1) N q
    | false=>exact h2 H0 Hb H1 σ ρ A D (I.mono g1) N q) fun c x q H' g'=>q H' (I.same.trans g'))
theorem Xjf {i:Nat}{te:TE}{fe:FE}(hi:i∈Γ)(he:EOk K C E Γ Δ m S te fe)(hS:∀p∈S,p.1≠i)(h1:∀j∈Γ',j∈Γ∧(j=i∨(j,false)∉S))(h2:∀j∈Δ',j≠i∧j∈Δ∧∀p∈S,p.1≠j) :
  Zin K C E Γl Δl Γ Δ Γ' Δ' (Zmc (tBM K "list" Zdf (Zoc i) (Zdn te Zqa))) (Dl.Zhg i fe):=fun H0 Hb H σ ρ A D I N p=>by
 unfold Dl.Zhg at p
 split at p
 ·rename_i ds e
  obtain ⟨a,xs,l,s1,h1',r1,hA,hl⟩:=Zhe I e
  refine ⟨.ref a,s1,.inl ⟨rfl,xs,SqL.of h1'⟩,he H0 Hb H σ ρ A _ I (Xt.imp (Xt.bind p) (fun d q v H1 g1 r=>?_) fun c x q H' g'=>q H' (I.same.trans g'))⟩
  split at q
  ·rename_i hz
   obtain ⟨B,r2,r3,_⟩:=r
   show Zdf (.ref a) [v] H1 fun _ H3=>D.nx σ H3
   refine Xfx (g1 _ _ h1') (by rw [r1.len];exact Zko hz) ?_
   obtain ⟨tb,ta,tt⟩:=I.top i hi a l hA
   have ha:a∈A i:=by rw [hA];exact .head _
   have w0:a∉l++B:=fun z=>(List.mem_append.mp z).elim ta fun z=>(r3 a z).elim (fun w=>I.ne ha w) fun w=>by
    obtain ⟨p,hp,w⟩:=w.mem
    exact tt p.1 (hS p hp) w
   have hB:=Res.allN (d:=d) (v:=v) (H':=H1) I N r3
   have w1:∀b∈l++B,H0 b=none:=fun b hb=>(List.mem_append.mp hb).elim (fun z=>N i b (by rw [hA];exact .tail _ z)) (hB b)
   have w2:∀j∈Γ',j≠i→j∈Γ∧∀b l',A j=b::l'→b∉l++B:=fun j hj e=>by
    obtain ⟨q1,q2⟩:=h1 j hj
    refine ⟨q1,fun b l' e' z=>(List.mem_append.mp z).elim (fun z=>(I.top j q1 b l' e').2.2 i (fun w=>e w.symm) (by rw [hA];exact .tail _ z)) fun z=>(r3 b z).elim (fun w=>I.ne (j:=j) (by rw [e'];exact .head _) w) ?_⟩
    exact I.top_out q1 (q2.elim (fun z=>absurd z e) id) e'
   have w3:∀j∈Δ',j≠i→j∈Δ∧∀b∈A j,b∉l++B:=fun j hj e=>⟨(h2 j hj).2.1,fun b hb z=>(List.mem_append.mp z).elim (fun z=>(I.deep j (h2 j hj).2.1).2.1 i (fun w=>e w.symm) b hb (by rw [hA];exact .tail _ z)) fun z=>(r3 b z).elim (fun w=>I.ne hb w) (I.deep_out (h2 j hj).2.1 (h2 j hj).2.2 hb)⟩
   obtain ⟨A',I',hA'⟩:=(I.mono g1).writeA (Γ':=Γ') (Δ':=Δ') (d':=.lst (ds++[d])) hi hA hl s1 (fun _ q1 q2=>⟨a,_,_,rfl,q1,q2,rfl⟩) ((r1.same g1).app (RpA.one r2)) w1 w0 w2 w3 (fun hd=>absurd rfl (h2 i hd).1)
   exact q _ _ A' I' fun j b hb=>(hA' j b hb).elim (fun z=>(List.mem_cons.mp z).elim (fun z=>by rw [z];exact N i a ha) (w1 b)) (N j b)
  ·exact q.elim
 ·exact p.elim
theorem Zxz {k:Nat}{tc:TT}{tb:TS}{fc:FT}{fs:FS}(hc:TOk K C E Γ Δ tc fc)(hs:Zin K C E Γ Δ Γ Δ Γ Δ tb fs):Zin K C E Γl Δl Γ Δ Γ Δ (Zkc tc tb) (Dl.Zek k fc fs):=fun H0 Hb H σ ρ A D I N p=>by
 refine ⟨fun k σ' H'=>∃ρ' A',Xc K C H0 Hb H' Γ Δ σ' ρ' A'∧Xgk H0 A'∧Xay K C E Γl Δl Γ Δ H0 Hb D (Dl.Jx fc fs k ρ'),⟨k,ρ,A,I,N,p⟩,?_⟩
 rintro k σ' H' ⟨ρ',A',I',N',pq⟩
 cases k with
 | zero=>exact pq.elim
 | succ k =>
  refine hc H0 Hb H' σ' ρ' A' _ I' (Xt.imp (Xt.bind pq) (fun b pq H1 g1=>?_) fun c x q H' g'=>q H' (I'.same.trans g'))
  cases b with
  | false =>
   simp only [Bool.false_eq_true,if_false] at pq ⊢
   exact pq σ' H1 A' (I'.mono g1) N'
  | true =>
   simp only [if_true] at pq ⊢
   refine ⟨fun σ2 H2=>∃ρ2 A2,Xc K C H0 Hb H2 Γ Δ σ2 ρ2 A2∧Xgk H0 A2∧Xay K C E Γl Δl Γ Δ H0 Hb D (Dl.Jx fc fs k ρ2),fun σ2 H2 h=>⟨k,Nat.lt_succ_self k,h⟩,?_⟩
   refine hs H0 Hb H1 σ' ρ' A' _ (I'.mono g1) N' (Xt.imp (Xt.bind pq) (fun fl pq=>?_) fun _ _ z=>z)
   cases fl with
   | nx ρ2=>exact fun σ2 H2 A2 I2' N2=>⟨ρ2,A2,I2',N2,pq⟩
   | cnt ρ2=>exact fun σ2 H2 A2 I2' N2=>⟨ρ2,A2,I2',N2,pq⟩
   | brk ρ2=>exact fun σ2 H2 A2 I2' N2=>pq σ2 H2 A2 I2' N2
   | ret d=>exact pq
theorem Xlr {i:Nat}{wi:TI}{tb:TS}{fi:FI}{fs:FS}(hi:IOk K C E Γ Δ S wi fi)(hs:Zin K C E Γ1 Δ1 Γ1 Δ1 Γ1 Δ1 tb fs)(k1:i∉Γ1)(k2:i∉Δ1)(h1:∀i∈Γ1,i∈Γ)(h2:∀i∈Δ1,i∈Δ)(h3:∀p∈S,p.1∉Γ1∧p.1∉Δ1):Zin K C E Γl Δl Γ Δ Γ1 Δ1 (Xmj wi (Zap i) tb) (Dl.Zjj fi (Dl.Xi i) fs):=fun H0 Hb H σ ρ A D I N p=>by
 refine hi H0 Hb H σ ρ A _ I (Xt.imp (Xt.bind p) (fun ds q J H1 W g1 hW hlen hJ=>?_) fun c x q H' g'=>q H' (I.same.trans g'))
 have I1:=(I.mono g1).weak h1 h2
 have hlst:∀a∈ownAt A Γ1 Δ1,∃o,H1 a=some o∧IsM o:=fun a ha=>by
  rcases Zdr ha with ⟨i,_,l,e⟩ | ⟨i,_,e⟩
  ·exact I1.is (j:=i) (by rw [e];exact .head _)
  ·exact I1.is e
 have hbn:∀a∈ownAt A Γ1 Δ1,Hb a=none:=fun a ha=>by
  rcases Zdr ha with ⟨i,hi,l,e⟩ | ⟨i,hi,e⟩
  ·exact (I1.top i hi a l e).1
  ·exact (I1.deep i hi).2.2 a e
 have hout:∀a∈W,a∉ownAt A Γ1 Δ1:=fun a ha ho=>by
  rcases (hW a ha).2 with z | z
  ·rcases Zdr ho with ⟨i,hi,l,e⟩ | ⟨i,hi,e⟩
   ·exact I.ne (j:=i) (by rw [e];exact .head _) z
   ·exact I.ne e z
  ·rcases Zdr ho with ⟨i,hi,l,e⟩ | ⟨i,hi,e⟩
   ·exact I1.top_out hi (fun h=>(h3 _ h).1 hi) e z
   ·exact I1.deep_out hi (fun p hp e'=>(h3 p hp).2 (by rw [e'];exact hi)) e z
 let Hc:Hp:=fun b=>if b∈ownAt A Γ1 Δ1 then none else H1 b
 have c1:Xx Hc H1:=fun b o h=>by
  show H1 b=some o
  have h:(if b∈ownAt A Γ1 Δ1 then none else H1 b)=some o:=h
  split at h
  ·cases h
  ·exact h
 have c2:Xx Hb Hc:=fun b o h=>by
  show (if b∈ownAt A Γ1 Δ1 then none else H1 b)=some o
  rw [if_neg fun ho=>by rw [hbn b ho] at h;cases h]
  exact I1.same b o h
 have c3:∀a,a∉ownAt A Γ1 Δ1→Hc a=H1 a:=fun a ha=>if_neg ha
 have c4:∀a∈ownAt A Γ1 Δ1,Hc a=none:=fun a ha=>if_pos ha
 let Hd:Hp:=fun b=>match H1 b with
  | none=>none
  | some o=>@ite _ (b∈W∨¬IsM o) (Classical.propDecidable _) (some o) none
 have d1:∀a∈W,Hd a=H1 a:=fun a ha=>by
  show (match H1 a with | none=>none | some o=>@ite _ (a∈W∨¬IsM o) (Classical.propDecidable _) (some o) none)=H1 a
  cases H1 a with
  | none=>rfl
  | some o=>exact if_pos (.inl ha)
 have d2:∀b o,H1 b=some o→¬IsM o→Hd b=some o:=fun b o h hn=>by
  show (match H1 b with | none=>none | some o=>@ite _ (b∈W∨¬IsM o) (Classical.propDecidable _) (some o) none)=some o
  rw [h]
  exact if_pos (.inr hn)
 have d3:∀b o,Hd b=some o→H1 b=some o∧(b∈W∨¬IsM o):=fun b o h=>by
  have h:(match H1 b with | none=>none | some o=>@ite _ (b∈W∨¬IsM o) (Classical.propDecidable _) (some o) none)=some o:=h
  cases e:H1 b with
  | none=>rw [e] at h;cases h
  | some o' =>
   rw [e] at h
   have h:(@ite _ (b∈W∨¬IsM o') (Classical.propDecidable _) (some o') none)=some o:=h
   by_cases z:b∈W∨¬IsM o'
   ·rw [if_pos z] at h
    cases h
    exact ⟨rfl,z⟩
   ·rw [if_neg z] at h
    cases h
 have d4:Xx Hd Hc:=fun b o h=>by
  obtain ⟨z1,z2⟩:=d3 b o h
  refine (c3 b fun ho=>?_).trans z1
  obtain ⟨o',e,hm⟩:=hlst b ho
  rw [z1] at e
  cases e
  exact z2.elim (fun z=>hout b z ho) fun z=>z hm
 have I2:Xc K C H0 Hc H1 Γ1 Δ1 σ ρ A:=⟨I1.s0.trans c2,c1,I1.len,I1.rep,I1.nil,I1.loc,fun i hi a l e=>⟨c4 a (Zxv hi e),(I1.top i hi a l e).2⟩,fun i hi=>⟨(I1.deep i hi).1,(I1.deep i hi).2.1,fun a ha=>c4 a (Zrt hi ha)⟩⟩
 have back:∀{σ':St} {ρ':Yx} {H':Hp} {A':Nat→List Addr},Xc K C H0 Hc H' Γ1 Δ1 σ' ρ' A'→Xc K C H0 Hb H' Γ1 Δ1 σ' ρ' A':=fun I' =>
  ⟨I1.s0,c2.trans I'.same,I'.len,I'.rep,I'.nil,I'.loc,fun i hi a l e=>⟨c2.free (I'.top i hi a l e).1,(I'.top i hi a l e).2⟩,fun i hi=>⟨(I'.deep i hi).1,(I'.deep i hi).2.1,fun a ha=>c2.free ((I'.deep i hi).2.2 a ha)⟩⟩
 have go:Goes K C J ds Hd:=hJ Hd ⟨d1,d2⟩
 refine Zuv go (fun k σ' H'=>∃ρ' A',Xc K C H0 Hc H' Γ1 Δ1 σ' ρ' A'∧Xgk H0 A'∧Xay K C E Γl Δl Γ1 Δ1 H0 Hb D (Dl.Zdz (Dl.Xi i) fs (ds.drop k) ρ')) ⟨ρ,A,I2,N,q⟩ (fun _ _ _ ⟨_,_,I',_⟩=>d4.trans I'.same) ?_ ?_
 ·rintro k d x Bx σ' Ha H' hd ⟨ρ',A',Ia,Na,pq⟩ ga rx hBx
  have I':=Ia.mono ga
  rw [Zjl _ _ _ hd] at pq
  have pq':=Zco (Xt.bind pq)
  have hBW:∀a∈Bx,a∈W:=fun a ha=>by
   obtain ⟨o,e,hm⟩:=rx.isl a ha
   cases e2:Hd a with
   | none=>exact absurd e2 (hBx a ha)
   | some o' =>
    have:=d4.trans I'.same a o' e2
    rw [e] at this
    cases this
    exact (d3 a o e2).2.elim id fun z=>absurd hm z
  have hBc:∀a∈Bx,Hc a≠none:=fun a ha z=>by
   cases e2:Hd a with
   | none=>exact hBx a ha e2
   | some o'=>rw [d4 a o' e2] at z;cases z
  have hB0:∀a∈Bx,H0 a=none:=fun a ha=>((hW a (hBW a ha)).2).elim (fun z=>I.s0.free (I.same.free z)) fun z=>by
   obtain ⟨p,_,z⟩:=z.mem
   exact N p.1 a z
  obtain ⟨A1,I1',hA1⟩:=I'.put (Γ':=Γ1) (Δ':=Δ1) (i:=i) rx (fun j hj e=>⟨hj,fun a l e' ha=>hBc a ha (I'.top j hj a l e').1⟩) (fun hj=>absurd hj k1) (fun j hj e=>⟨hj,fun a ha hb=>hBc a hb ((I'.deep j hj).2.2 a ha)⟩) (fun hj=>absurd hj k2)
  refine hs H0 Hc H' _ _ A1 _ I1' (fun j a ha=>(hA1 j a ha).elim (hB0 a) (Na j a)) (Xt.imp (Xt.bind pq') (fun fl pq=>?_) fun _ _ z=>?_)
  ·cases fl with
   | nx ρ2=>exact fun σ2 H2 A2 I2' N2=>⟨ρ2,A2,I2',N2,pq⟩
   | cnt ρ2=>exact fun σ2 H2 A2 I2' N2=>⟨ρ2,A2,I2',N2,pq⟩
   | brk ρ2=>exact fun σ2 H2 A2 I2' N2=>pq σ2 H2 A2 (back I2') N2
   | ret d=>exact fun v H2 B g rr hB=>pq v H2 B (c2.trans g) rr hB
  ·exact fun H2 g=>z H2 (c2.trans g)
 ·rintro σ' H' ⟨ρ',A',I',N',pq⟩
  rw [List.drop_length] at pq
  exact pq σ' H' A' (back I') N'
theorem Zxp {N:Nat}{t:TS}{f:FS}{E:XK}{ds:List D}{vs:List V}{B:List Addr}{H:Hp}{Q:VK}(h:Zin K C E [] [] [] [] Γ' Δ' t f)(r:RpA K C H ds vs B)
  (p:Xt (Dl.run N f ds) (fun d=>∀v H' Br,Xx H H'→Rp K C H' d v Br→(∀a∈Br,a∈B∨H a=none)→Q v H') (fun c x=>∀H',Xx H H'→EC C E c x H')) :
  t {nx:=fun _ H'=>Q .non H',rt:=Q} (vs.map some++List.replicate (N - vs.length) none) H:=by
 obtain ⟨A,I,hA⟩:=Ztt (N:=N) r
 have s0:Xx (fun b=>if b∈B then none else H b) H:=fun b o h=>by
  have h:(if b∈B then none else H b)=some o:=h
  split at h
  ·cases h
  ·exact h
 have fr:∀{a},(if a∈B then none else H a)=none→a∈B∨H a=none:=fun {a} h=>by
  split at h
  ·exact .inl (by assumption)
  ·exact .inr h
 have I0:Xc K C (fun b=>if b∈B then none else H b) H H [] [] (vs.map some++List.replicate (N - vs.length) none) (ds.map some++List.replicate (N - ds.length) none) A:=⟨s0,I.same,I.len,I.rep,I.nil,(fun _ h=>nomatch h),I.top,I.deep⟩
 refine h _ H H _ _ A _ I0 (fun j a ha=>if_pos (hA j a ha)) (Xt.imp (Xt.bind p) (fun fl q=>?_) fun _ _ q=>q)
 cases fl with
 | nx ρ'=>exact fun σ' H' A' I' _=>q .non H' [] I'.same ⟨rfl,rfl⟩ (fun _ h=>nomatch h)
 | ret d=>exact fun v H' Br g rr hB=>q v H' Br g rr fun a ha=>fr (hB a ha)
 | brk _=>exact q.elim
 | cnt _=>exact q.elim
end
structure JU (X:Cx)(C:String→Addr)(E:XK)(Γl Δl Γ Δ Γ' Δ':List Nat)(s:Stmt)(t:TS)(f:FS):Prop where
 q:QS X s t
 o:Zin X.K C E Γl Δl Γ Δ Γ' Δ' t f
structure JUs (X:Cx)(C:String→Addr)(E:XK)(Γl Δl Γ Δ Γ' Δ':List Nat)(ss:List Stmt)(t:TS)(f:FS):Prop where
 q:QSs X ss t
 o:Zin X.K C E Γl Δl Γ Δ Γ' Δ' t f
section
variable {X:Cx}{C:String→Addr}{E:XK}{Γ Δ Γ' Δ' Γ1 Δ1 Γl Δl:List Nat}{m n mr k:Nat}{S:List (Nat×Bool)}{c e iter tg:Expr}{s1:Stmt}{ss body other:List Stmt}{te:TE}{fe:FE}{u v:TS}{g h:FS}{pos pos' p apos cpos:Pos}
theorem Zzk:JUs X C E Γl Δl Γ Δ Γ Δ [] Zuj Dl.sNx:=⟨Zyf,Xoc⟩
theorem Zae (Γ1 Δ1:List Nat)(h1:JU X C E Γl Δl Γ Δ Γ1 Δ1 s1 u g)(h2:JUs X C E Γl Δl Γ1 Δ1 Γ' Δ' ss v h):JUs X C E Γl Δl Γ Δ Γ' Δ' (s1::ss) (Xly u v) (Dl.Xp g h):=⟨Zsr h1.q h2.q,Xjz h1.o h2.o⟩
theorem Zdi (h1:JU X C E Γl Δl Γ Δ Γ' Δ' s1 u g):JUs X C E Γl Δl Γ Δ Γ' Δ' [s1] u g:=⟨Zwj h1.q,h1.o⟩
theorem Zrp (Γ1 Δ1:List Nat)(h:JUs X C E Γl Δl Γ Δ Γ1 Δ1 ss u g)(h1:∀i∈Γ',i∈Γ1:=by decide)(h2:∀i∈Δ',i∈Δ1:=by decide):JUs X C E Γl Δl Γ Δ Γ' Δ' ss u g:=⟨h.q,Xen h.o h1 h2⟩
theorem Xmx (Γ1 Δ1:List Nat)(h:JU X C E Γl Δl Γ1 Δ1 Γ' Δ' s1 u g)(h1:∀i∈Γ1,i∈Γ:=by decide)(h2:∀i∈Δ1,i∈Δ:=by decide):JU X C E Γl Δl Γ Δ Γ' Δ' s1 u g:=⟨h.q,Xle h.o h1 h2⟩
theorem Zsl (he:JE X C E Γ Δ m S e te fe):JU X C E Γl Δl Γ Δ Γ' Δ' (.Return (some e) pos) (Xme te) (Dl.Zaq fe):=⟨Xft he.q,Xlo he.o⟩
theorem Xid {tA:TT}{fA:FT}(hc:JT X C E Γ Δ c tA fA)(ha:JUs X C E Γl Δl Γ Δ Γ' Δ' body u g)(hb:JUs X C E Γl Δl Γ Δ Γ' Δ' other v h):JU X C E Γl Δl Γ Δ Γ' Δ' (.If c body other pos) (Xmg tA u v) (Dl.sIf fA g h):=⟨Xqy hc.q ha.q hb.q,Xmm hc.o ha.o hb.o⟩
theorem Zob {i:Nat}{x:Str}(hN:X.N.Nodup)(hi:X.N[i]?=some x)(hx:Loc X.env.scope x)(he:JE X C E Γ Δ 2 [] e te fe)(hs:swapsWith e (some (.Name x pos')) pos.line X.env=pure false:=by rfl)(hf:autoParam (X.fn x=true∨X.env.scope.names.lookup x=some .local) aT0._auto_1)
  (h1:∀j∈Γ',j=i∨j∈Γ:=by decide) (h2:∀j∈Δ',j=i∨j∈Δ:=by decide):JU X C E Γl Δl Γ Δ Γ' Δ' (.Assign [.Name x pos'] e pos) (Zjd te (Zap i)) (Dl.Yg i fe):=⟨Zro hN hi hx he.q hs hf,Xdn he.o h1 h2⟩
theorem Xhz {i:Nat}{x:Str}(hN:X.N.Nodup)(hi:X.N[i]?=some x)(hx:Loc X.env.scope x)(he:JE X C E Γ Δ m S e te fe)(hs:swapsWith e (some (.Name x pos')) pos.line X.env=pure false:=by rfl)(hf:autoParam (X.fn x=true∨X.env.scope.names.lookup x=some .local) aT0._auto_1)
  (h1:∀j∈Γ',j≠i∧j∈Γ∧(j,false)∉S:=by decide) (h2:∀j∈Δ',j≠i∧j∈Δ∧∀p∈S,p.1≠j:=by decide):JU X C E Γl Δl Γ Δ Γ' Δ' (.Assign [.Name x pos'] e pos) (Zjd te (Zap i)) (Dl.Yg i fe):=⟨Zro hN hi hx he.q hs hf,Xef he.o h1 h2⟩
theorem Xfi {i:Nat}{x:Str}{op:Operator}{ff:Int→Int→Int}{g:D→D→Option D}(hg:∀x y d,g x y=some d→∃i j,x=.int i∧y=.int j∧d=.int (ff i j))(ho:PIp X op (ipI ff))(hN:X.N.Nodup)(hi:X.N[i]?=some x)(hx:Loc X.env.scope x)(he:JE X C E Γ Δ m S e te fe)
  (hf:autoParam (X.fn x=true∨X.env.scope.names.lookup x=some .local) aT0._auto_1) (h1:∀j∈Γ',j=i∨j∈Γ:=by decide) (h2:∀j∈Δ',j=i∨j∈Δ:=by decide):JU X C E Γl Δl Γ Δ Γ' Δ' (.AugAssign (.Name x pos') op e pos) (Xmc i te (ipI ff)) (Dl.Zpu i g fe):=⟨Xev hN hi hx he.q ho hf,Xkv hg he.o h1 h2⟩
theorem Xqe {i:Nat}{x:Str}(hi:i∈Γ:=by decide)(hN:X.N[i]?=some x:=by rfl)(hv:autoParam (Vis X.env.scope x) aT3._auto_1)(hd:(x==("__debug__":Str))=false:=by decide)(hcd:(x==("__classdict__":Str))=false:=by decide)
  (he:JE X C E Γ Δ m S e te fe) (hse:starEach [e] X.env=(false,eval e X.env)::starEach [] X.env)
  (hbase:attributeBase (.Name x p) "append" X.env (eval (.Name x p) X.env)=eval (.Name x p) X.env:=by rfl)
  (hfew:((backTo cpos (starEach [e] X.env)).all (fun x=>!x.1)&&(backToKw cpos (keywordEach [] X.env)).all (fun x=>x.1.isSome)&&decide (([e]:List Expr).length+([]:List Keyword).length+(if ([]:List Keyword).isEmpty then 0 else 1)<30))=true:=by rfl)
  (hline:(apos.endLine==cpos.line)=true:=by rfl) (hplain:(backTo cpos (starEach ([]:List Expr) X.env)).any (·.1)=false:=by rfl) (hsw:swapsWith (.Call (.Attribute (.Name x p) "append" apos) [e] [] cpos) none pos.line X.env=pure false:=by rfl)
  (hS:∀p∈S,p.1≠i:=by decide) (h1:∀j∈Γ',j∈Γ∧(j=i∨(j,false)∉S):=by decide) (h2:∀j∈Δ',j≠i∧j∈Δ∧∀p∈S,p.1≠j:=by decide) :
  JU X C E Γl Δl Γ Δ Γ' Δ' (.Expr (.Call (.Attribute (.Name x p) "append" apos) [e] [] cpos) pos) (Zmc (tBM X.K "list" Zdf (Zoc i) (Zdn te Zqa))) (Dl.Zhg i fe):=
 ⟨Zpw (Zzy PySem.F.plainAttrs_list PySem.F.slot_list_append PySem.F.type_list_append Zio (qv i hN hv hd hcd) (Zfv he.q Znr hse) hbase hfew hline hse hplain) hsw,Xjf hi he.o hS h1 h2⟩
theorem Xbr {tA:TT}{fA:FT}(k:Nat)(hp:PassesOwn (model X.prog X.w) X.A X.env X.xe)(hc:JT X C E Γ Δ c tA fA)(hb:JUs X C E Γ Δ Γ Δ Γ Δ body u g):JU X C E Γl Δl Γ Δ Γ Δ (.While c body [] pos) (Zkc tA u) (Dl.Zek k fA g):=⟨Zsa hp hc.q hb.q,Zxz hc.o hb.o⟩
theorem Xmo {i:Nat}{x:Str}{wi:TI}{fi:FI}(Γ1 Δ1:List Nat)(hp:PassesOwn (model X.prog X.w) X.A X.env X.xe)(hc:X.calm=true)(hi:JI X C E Γ Δ S (.Name x p) iter wi fi)(hN:X.N.Nodup)(hNi:X.N[i]?=some x)(hx:Loc X.env.scope x)(hb:JUs X C E Γ1 Δ1 Γ1 Δ1 Γ1 Δ1 body u g)(hs:∀x,foldedSetIterable iter X.env x=pure x:=by intro _;rfl)
  (k1:i∉Γ1:=by decide) (k2:i∉Δ1:=by decide) (hf:autoParam (X.fn x=true∨X.env.scope.names.lookup x=some .local) aT0._auto_1) (h1:∀i∈Γ1,i∈Γ:=by decide) (h2:∀i∈Δ1,i∈Δ:=by decide) (h3:∀p∈S,p.1∉Γ1∧p.1∉Δ1:=by decide) :
  JU X C E Γl Δl Γ Δ Γ1 Δ1 (.For (.Name x p) iter body [] pos) (Xmj wi (Zap i) u) (Dl.Zjj fi (Dl.Xi i) g):=⟨Xfw hp hc hi.q (Zkr hN hNi hx hf) hb.q hs,Xlr hi.o hb.o k1 k2 h1 h2 h3⟩
end
theorem Fun.okU {P:Program}{w:World}{K:Frag}{C:String→Addr}{mg:Str→Option Value}{base:Heap}{x qual:Str}{st:Stmt}{f:Addr}{fd:FuncData}{N ps:List Str}{k n:Nat}{Γ' Δ':List Nat}{g:FS}(F:Fun K x qual st f fd)(S:Xg N ps (Zm st))(hn:ps.length=n)
    (hbody:∀(cdv:Value) (A:Around) (outer:List Env) (s:Shared) (H:Hp) (E:XK),Zdy k (A.deeper (envOfC qual (Zm st) s.heap.objs.size f cdv))→
      ∃t,JUs (Zyy CX0 P w K mg base N qual (Zm st) f cdv A outer s H E).nox C E0 [] [] [] [] Γ' Δ' (Zau st) t g):Zam P w K mg base CX0 (k+1) f fd ps (spR K C n fun ds=>(Dl.run N.length g ds).calm):=
  F.okQ S (fun vs H Q E h=>by
    obtain ⟨ds,B,h1,h2,_⟩:=h
    rw [h2.len,h1,hn]) fun cdv A outer s H vs Q E hr h=>by
    obtain ⟨ds,B,h1,r,p⟩:=h
    obtain ⟨t,ht⟩:=hbody cdv A outer s H E hr
    exact ⟨t,ht.q,Zxp (K:=K) ht.o r (Xt.imp (Zco p) (fun _ q=>q) fun _ _ z=>z.elim)⟩
theorem Zcd.tbk {ts:List (Addr×Pos×Str)}{H H':Hp}(h:Zcd ts H)(g:Tk H H'):Zcd ts H':=fun t ht=>g _ _ _ (h t ht)
section
variable {X:Cx}{C:String→Addr}{E:XK}{Γ Δ Γ' Δ' Γl Δl:List Nat}{mr n:Nat}{S:List (Nat×Bool)}{elt iter tg:Expr}{pos:Pos}{ifs:List Expr}{sc:Scope}{wi:TI}{tc:TT}{gg:TG}{te:TE}{fi:FI}{fc:FT}{fg:FB}{fe:FE}
theorem Xdf (esc:Scope)(N N2 xs:List Str)(B:Zul sc esc xs N N2)(hi:JI X C E Γ Δ S tg iter wi fi)(hg:∀cl C' s0 H0 fp,JB (X.blkN N2 xs sc cl C' s0 H0 fp) C n xs.length tg gg fg)(ht:∀cl C' s0 H0 fp,JIf (X.blkN N2 xs sc cl C' s0 H0 fp) C E0 [] [] ifs tc fc)(he:∀cl C' s0 H0 fp,Tk X.H₀ H0→JE (X.blkN N2 xs sc cl C' s0 H0 fp) C E0 [] [] 2 [] elt te fe)
  (hesc:X.env.scope=esc:=by rfl) (hN:X.N=N:=by rfl) (hc:X.calm=true:=by rfl) (hs:∀v,foldedSetIterable iter X.env v=pure v:=by intro _;rfl):JE X C E Γ Δ 2 [] (.ListComp elt [⟨tg,iter,ifs,0⟩] sc pos) (Zdt xs.length gg wi tc te) (Dl.Zcp n xs.length fi fg fc fe):=
 ⟨Zod esc N N2 xs B hi.q (fun cl C' s0 H0 fp _=>(hg cl C' s0 H0 fp).q) (fun cl C' s0 H0 fp _=>(ht cl C' s0 H0 fp).q) (fun cl C' s0 H0 fp z=>(he cl C' s0 H0 fp z).q) hesc hN hc hs,Zhc hi.o (hg [] 0 X.s₀ X.H₀ []).o (ht [] 0 X.s₀ X.H₀ []).o (he [] 0 X.s₀ X.H₀ [] (Tk.refl _)).o⟩
theorem Zzw {y:Str}{py spos:Pos}{i:Nat}(esc:Scope)(N N2 xs:List Str)(B:Zul sc esc xs N N2)(hy:N[i]?=some y)(hl:esc.names.lookup y=some .local)(hi:JI X C E Γ Δ S tg iter wi fi)(hg:∀cl C' s0 H0 fp,JB (X.blkN N2 xs sc cl C' s0 H0 fp) C n xs.length tg gg fg)(ht:∀cl C' s0 H0 fp,JIf (X.blkN N2 xs sc cl C' s0 H0 fp) C E0 [] [] ifs tc fc)(he:∀cl C' s0 H0 fp,Tk X.H₀ H0→JE (X.blkN N2 xs sc cl C' s0 H0 fp) C E0 [] [] 2 [] elt te fe)
  (hesc:X.env.scope=esc:=by rfl) (hN:X.N=N:=by rfl) (hc:X.calm=true:=by rfl) (hsw:swapsWith (.ListComp elt [⟨tg,iter,ifs,0⟩] sc pos) (some (.Name y py)) spos.line X.env=pure true:=by rfl) (hs:∀v,foldedSetIterable iter X.env v=pure v:=by intro _;rfl)
  (h1:∀j∈Γ',j=i∨j∈Γ:=by decide) (h2:∀j∈Δ',j=i∨j∈Δ:=by decide):JS X C E mr Γl Δl Γ Δ Γ' Δ' (.Assign [.Name y py] (.ListComp elt [⟨tg,iter,ifs,0⟩] sc pos) spos) (Zjd (Zdt xs.length gg wi tc te) (Zap i)) (Dl.Yg i (Dl.Zcp n xs.length fi fg fc fe)):=
 ⟨Zmp esc N N2 xs B hy hl hi.q (fun cl C' s0 H0 fp _=>(hg cl C' s0 H0 fp).q) (fun cl C' s0 H0 fp _=>(ht cl C' s0 H0 fp).q) (fun cl C' s0 H0 fp z=>(he cl C' s0 H0 fp z).q) hesc hN hc hsw hs,Zlt (Zhc hi.o (hg [] 0 X.s₀ X.H₀ []).o (ht [] 0 X.s₀ X.H₀ []).o (he [] 0 X.s₀ X.H₀ [] (Tk.refl _)).o) h1 h2⟩
end
section
variable {K:Frag}{C:String→Addr}{E:XK}{Γ Δ Γl Δl:List Nat}{mr:Nat}
end
section
variable {X:Cx}{C:String→Addr}{E:XK}{Γ Δ Γl Δl:List Nat}{mr:Nat}{pos p apos cpos:Pos}
end
section
variable {X:Cx}{C:String→Addr}{E:XK}{Γ Δ Γl Δl:List Nat}{m mr:Nat}{S:List (Nat×Bool)}{e:Expr}{te:TE}{fe:FE}{p p1 p2 p3 pos:Pos}{x y z:Str}{i j l k:Nat}
end
end L2
namespace L2
open PySem PyProof.Rows
section
variable {prog:Program}{w:World}{A:Around}{E:Value→Shared→Prop}{s:Shared}{κ:SortKind}{P:Keyed→Prop}{r:Keyed→Keyed→Bool}{st:SortSt}{ps:Keyed→Int}
def Zxa (r:Keyed→Keyed→Bool)(ps:Keyed→Int)(d0:Keyed)(st st':SortSt):Prop:=(arrOf st').Perm (arrOf st)∧failedOf st'=none∧pendingOf st'=#[(0,(arrOf st).size,0)]∧SUp r ps (gx d0 0 (arrOf st')) (arrOf st).size
theorem SC.oneS {d0:Keyed}{st':SortSt}(hp:pendingOf st=#[])(c:SC κ 0 st st')(u:SUp r ps (gx d0 0 (arrOf st')) (arrOf st).size):Zxa r ps d0 st (setPending st' ((pendingOf st').push (0,(arrOf st).size,0))):=
 ⟨c.m,c.f,by show (pendingOf st').push _=_;rw [c.p,hp];rfl,u⟩
theorem Xau {Q:Unit→SortSt→Prop}(d0:Keyed)(K:Ask prog w A s κ P r)(hP:∀x∈(arrOf st).toList,P x)(hk:kindOf st=κ)(hf:failedOf st=none)(hp:pendingOf st=#[])(h2:1≤(arrOf st).size)(h64:(arrOf st).size<64)(t0:Tl ps (gx d0 0 (arrOf st)) 0 (arrOf st).size)
  (h:∀st',(arrOf st').Perm (arrOf st)→failedOf st'=none→SUp r ps (gx d0 0 (arrOf st')) (arrOf st).size→Q () st'):wpS (model prog w) A E s sortRuns' Q st:=by
 rw [sortRuns'_eq]
 refine wpS_bind (wpS_get ?_)
 dsimp only
 obtain ⟨n,hn⟩:∃n,n=(arrOf st).size:=⟨_,rfl⟩
 have hmr:minRun' n n 0=n:=by
  obtain ⟨f,hf⟩:∃f,n=f+1:=⟨n - 1,by omega⟩
  have z:minRun' (f+1) n 0=n:=by rw [minRun'_succ,if_pos (by omega)];rfl
  rwa [← hf] at z
 rw [← hn] at h2 h64 t0 h ⊢
 rw [hmr]
 refine wpS_bind (wpS_mono (wpS_forRange (I:=fun x c st'=>(x=0∧c=(none,0)∧st'=st)∨(1≤x∧c=(none,n)∧Zxa r ps d0 st st')) (Q:=fun c st'=>c=(none,n)∧Zxa r ps d0 st st') ?step ?fin (.inl ⟨rfl,rfl,rfl⟩)) ?post)
 case fin =>
  rintro c st' (⟨hx,_,_⟩ | ⟨_,hc,hD⟩)
  ·omega
  ·exact ⟨hc,hD⟩
 case step =>
  rintro x c st' _ hx (⟨rfl,rfl,rfl⟩ | ⟨hx1,rfl,hD⟩)
  ·dsimp only
   rw [if_neg (by omega)]
   simp only [sub_zero,Nat.min_self,zero_add]
   refine wpS_bind (Zwa (lo:=0) (nrem:=n) d0 K hP hk hf (by omega) h2 t0 fun m st2 c2 m1 m2 s2 t2=>?_)
   dsimp only
   by_cases hlt:m<n
   ·rw [if_pos hlt]
    refine wpS_bind (wpS_lift (wpAny_rule ⟨rfl,wpS_bind (Xlf (lo:=0) (nrem:=n) d0 K hP (by omega) c2 (le_refl n) m2 h2 s2 t2 fun st3 c3 s3 _=>?_)⟩))
    simp only [Bool.not_true,Bool.false_eq_true,if_false]
    refine wpS_bind (wpS_get ?_)
    rw [show (pendingOf st3).back?=none by rw [c3.p,hp];rfl]
    dsimp only
    refine wpS_bind (wpS_modify (wpS_pure (.inr ⟨by omega,rfl,?_⟩)))
    have:=c3.oneS hp (hn▸s3)
    rw [← hn] at this
    exact this
   ·rw [if_neg hlt]
    have hm:m=n:=by omega
    subst hm
    refine wpS_bind (wpS_get ?_)
    rw [show (pendingOf st2).back?=none by rw [c2.p,hp];rfl]
    dsimp only
    refine wpS_bind (wpS_modify (wpS_pure (.inr ⟨by omega,rfl,?_⟩)))
    have:=c2.oneS hp (hn▸s2)
    rw [← hn] at this
    exact this
  ·dsimp only
   rw [if_pos (le_refl _)]
   exact wpS_pure ⟨rfl,hD⟩
 case post =>
  rintro c st' ⟨rfl,h3,h4,h5,h6⟩
  dsimp only
  refine wpS_bind (wpS_mono (wpS_forRange (I:=fun _ c st''=>st''=st'∧c=(none,())) (Q:=fun c st''=>st''=st'∧c=(none,())) ?_ (fun _ _ hh=>hh) ⟨rfl,rfl⟩) ?_)
  ·rintro x c st'' _ _ ⟨rfl,rfl⟩
   refine wpS_bind (wpS_get ?_)
   rw [if_pos (by rw [h5];exact le_refl 1)]
   exact wpS_pure ⟨rfl,rfl⟩
  ·rintro c st'' ⟨rfl,rfl⟩
   rw [← hn] at h6
   exact wpS_pure (h _ h3 h4 h6)
theorem Zlo (d0:Keyed)(a:Array Keyed){i:Nat}(h:i<a.toList.length):gx d0 0 a i=a.toList[i]:=by
 unfold gx
 have h2:i<a.size:=by rwa [length_toList] at h
 rw [zero_add,Array.getElem?_eq_getElem h2]
 rfl
theorem Zmt {Q:Unit→SortSt→Prop}(d0:Keyed)(K:Ask prog w A s κ P r)(hP:∀x∈(arrOf st).toList,P x)(hk:kindOf st=κ)(hf:failedOf st=none)(hp:pendingOf st=#[])(h2:1≤(arrOf st).size)(h64:(arrOf st).size<64)(t0:(arrOf st).toList.Pairwise fun x y=>ps x<ps y)
  (h:∀st',(arrOf st').toList.Perm (arrOf st).toList→failedOf st'=none→(arrOf st').toList.Pairwise (SB r ps)→Q () st'):wpS (model prog w) A E s sortRuns' Q st:=by
 refine Xau (ps:=ps) d0 K hP hk hf hp h2 h64 (fun i j hij _ hj=>?_) fun st' q1 q2 q3=>h st' (Array.perm_iff_toList_perm.mp q1) q2 ?_
 ·rw [← length_toList] at hj
  rw [Zlo d0 _ (by omega),Zlo d0 _ hj]
  exact List.pairwise_iff_getElem.mp t0 i j _ hj hij
 ·refine List.pairwise_iff_getElem.mpr fun i j hi hj hij=>?_
  rw [← Zlo d0 _ hi,← Zlo d0 _ hj]
  refine q3 i j hij ?_
  rw [← q1.size_eq,← length_toList]
  exact hj
end
theorem Xim {l:List Keyed}(hu:l.Pairwise (SB nLt nPs)):(l.reverse.map kp).Pairwise KO:=by
 rw [map_reverse,List.pairwise_reverse,pairwise_map]
 refine hu.imp fun {x y} h=>?_
 obtain ⟨h1,h2⟩:=h
 unfold nLt at h1 h2
 simp only [decide_eq_false_iff_not] at h1 h2
 unfold nPs at h2
 show KO (kp _) (kp _)
 unfold KO kp
 simp only
 by_cases c:numOf x.1<numOf y.1
 ·exact .inl c
 ·have:=h2 c
  exact .inr ⟨by omega,by omega⟩
section
variable {prog:Program}{w:World}{A:Around}{E:Value→Shared→Prop}{s:Shared}{a kS:Addr}{vs:List Value}{kz cs:List Int}{keys:Array Value}{e e1:Nat}{P:PySem.Fin→Shared→Prop}
set_option maxHeartbeats 2000000 in
theorem Xak (hka:kS≠a)(gk:s.heap.get? kS=some (seqObj "list" keys e))(ga:s.heap.get? a=some (seqObj "list" #[] e1))(hk:IntsAre keys.toList kz)(hv:IntsAre vs cs)(hr:cs.Pairwise (·<·))(hl:kz.length=cs.length)(h64:cs.length≤63)
  (h:∀h' out c (ol:List (Int×Int)),(∀b o,b≠kS→b≠a→s.heap.get? b=some o→h'.get? b=some o)→h'.get? a=some (seqObj "list" out c)→ol.Perm (kz.zip cs)→ol.Pairwise KO→IntsAre out.toList (ol.map (·.2))→P (.done (.ret .none)) {s with heap:=h'}) :
  wpAny (model prog w) A (ksk_end a true vs.toArray e1 (.ref kS) keys) P E s:=by
 have lk:keys.size=kz.length:=Array.length_toList.symm.trans hk.length
 have lv:=hv.length
 have hzz:(keys.zip vs.toArray).toList=keys.toList.zip vs:=ksk_zip keys vs
 have hsz:(keys.zip vs.toArray).reverse.size=vs.length:=by rw [Array.size_reverse,Array.size_zip,lk,size_toArray];omega
 have fin:∀(st:SortSt),(arrOf st).Perm (keys.zip vs.toArray).reverse→failedOf st=none→((arrOf st).toList.reverse.map kp).Pairwise KO→wpAny (model prog w) A (ksk_tail a true e1 (.ref kS) st) P E s:=fun st hp hf hs=>by
  have hout:((arrOf st).map (·.2)).reverse.size=vs.length:=by rw [Array.size_reverse,Array.size_map,hp.size_eq,hsz]
  have s1:=Heap.SameBut.update s.heap kS (Obj.mapSeq fun _=>(#[]:Array Value))
  have ga1:(s.heap.update kS (Obj.mapSeq fun _=>(#[]:Array Value))).get? a=some (seqObj "list" #[] e1):=(s1.2 a hka.symm).trans ga
  have s2:=Heap.SameBut.update (s.heap.update kS (Obj.mapSeq fun _=>(#[]:Array Value))) a (Obj.mapSeq fun _=>((arrOf st).map (·.2)).reverse)
  obtain ⟨c2,g2⟩:∃c2,((s.heap.update kS (Obj.mapSeq fun _=>(#[]:Array Value))).update a (Obj.mapSeq fun _=>((arrOf st).map (·.2)).reverse)).get? a=some (seqObj "list" ((arrOf st).map (·.2)).reverse c2):=⟨_,get?_update_seq ga1 fun _=>((arrOf st).map (·.2)).reverse⟩
  unfold ksk_tail
  try dsimp only
  refine wpAny_bind (listUpdate_at gk rfl (wpAny_bind (wpAny_letGo (wpAny_bind (seqEpoch_at ga1 rfl (wpAny_bind (listUpdate_at ga1 rfl ?_ (zero_le _) (le_trans (le_of_eq hout) (by rw [sizeLine_eq];omega)))))))) (by rw [sizeLine_eq];omega) (zero_le _))
  rw [hf]
  simp only [bne_self_eq_false,Bool.false_eq_true,if_false]
  have hpl:(arrOf st).toList.reverse.Perm (keys.toList.zip vs):=by
   have:=Array.perm_iff_toList_perm.mp hp
   rw [toList_reverse,hzz] at this
   exact (reverse_perm _).trans (this.trans (reverse_perm _))
  refine wpAny_pure (h _ _ c2 ((arrOf st).toList.reverse.map kp) (fun b o h1 h2 q=>(s2.2 b h2).trans ((s1.2 b h1).trans q)) g2 ?_ hs ?_)
  ·rw [← Xou hk hv]
   exact hpl.map _
  ·have e3:(((arrOf st).map (·.2)).reverse).toList=(arrOf st).toList.reverse.map (·.2):=by rw [toList_reverse,toList_map,map_reverse]
   rw [e3,map_map]
   have hall:∀v∈(arrOf st).toList.reverse.map (·.2),∃n t,v=Value.int n t:=fun v hv'=>by
    obtain ⟨x,hx,rfl⟩:=List.mem_map.mp hv'
    have:=hpl.mem_iff.mp hx
    obtain ⟨p,q⟩:=x
    exact hv.all _ (of_mem_zip this).2
   have:=intsAre_ofList _ hall
   rw [show numsOf ((arrOf st).toList.reverse.map (·.2))=((arrOf st).toList.reverse.map (·.2)).map numOf from (this.nums).symm,map_map] at this
   exact this
 unfold ksk_end
 try dsimp only
 refine wpAny_bind (wpAny_rule ?_)
 by_cases h2:vs.toArray.size<2
 ·rw [if_pos h2,if_pos h2]
  refine wpAny_bind (wpAny_pure ?_)
  rw [StateT.run_pure]
  refine wpAny_bind (wpAny_pure ?_)
  try dsimp only
  refine fin (SortSt.mk' general' (keys.zip vs.toArray).reverse #[] 7 none) (Array.Perm.refl _) rfl ?_
  show (((keys.zip vs.toArray).reverse).toList.reverse.map kp).Pairwise KO
  rw [size_toArray] at h2
  have hlen:(((keys.zip vs.toArray).reverse).toList.reverse.map kp).length<2:=by rw [length_map,length_reverse,length_toList,hsz];exact h2
  match ((keys.zip vs.toArray).reverse).toList.reverse.map kp,hlen with
  | [],_=>exact .nil
  | [x],_=>exact List.pairwise_singleton _ _
 ·rw [if_neg h2,if_neg h2]
  rw [size_toArray] at h2
  rw [ksk_kind hk (by omega)]
  refine wpAny_bind (wpAny_pure ?_)
  have t0:((keys.zip vs.toArray).reverse).toList.Pairwise fun x y=>nPs x<nPs y:=by
   rw [toList_reverse,hzz]
   exact kp_tl (by rw [length_toList];omega) hv hr
  refine wpAny_bind (wpAny_mono (Zmt (st:=SortSt.mk' oneType' (keys.zip vs.toArray).reverse #[] 7 none) (ps:=nPs) (Q:=fun _ st'=>(arrOf st').Perm (keys.zip vs.toArray).reverse∧failedOf st'=none∧((arrOf st').toList.reverse.map kp).Pairwise KO) (Value.none,Value.none) Xaa (fun x hx=>?_) rfl rfl rfl ?_ (by show (keys.zip vs.toArray).reverse.size<64;omega) t0 fun st' q1 q2 q3=>⟨Array.perm_iff_toList_perm.mpr q1,q2,Xim q3⟩) ?_ fun _ _ z=>z)
  ·have hx:x∈((keys.zip vs.toArray).reverse).toList:=hx
   rw [toList_reverse,hzz] at hx
   obtain ⟨p,q⟩:=x
   exact hk.all _ (of_mem_zip (List.mem_reverse.mp hx)).1
  ·show 1≤(keys.zip vs.toArray).reverse.size
   omega
  ·rintro ⟨⟨⟩,st'⟩ s' ⟨rfl,q1,q2,q3⟩
   exact fin st' q1 q2 q3
end
end L2
namespace L2
open PySem PySem.Spec PyProof.Rows
section
variable {X:Cx}{pins:List (Addr×Obj)}{σ:St}{H:Hp}{s:Shared}{a f:Addr}{tb:V→Hp→VK→Prop}{A:Around}{E:Value→Shared→Prop}{P:PySem.Fin→Shared→Prop}{vs:List Value}{cs:List Int}{QQ:List Int→Hp→Prop}
theorem Zyn {LP:Hp→Prop}{n:Nat}(hK:Xfy X pins σ f LP tb A)(J:Inv X pins σ H s)(hf:LP H)(ho:s.heap.get? a=some (seqObj "list" vs.toArray n))(fa:FpX X pins a)(hna:H a=none)(hv:IntsAre vs cs)(hr:cs.Pairwise (·<·))(h64:cs.length≤63)
  (q:Zvx tb cs H QQ)
  (h:∀ks H' s' out c (ol:List (Int×Int)),Inv X pins σ H' s'→QQ ks H'→H' a=none→s'.heap.get? a=some (seqObj "list" out c)→ks.length=cs.length→ol.Perm (ks.zip cs)→ol.Pairwise KO→IntsAre out.toList (ol.map (·.2))→P (.done (.ret .none)) s') :
  wpAny (model X.prog X.w) A (ksk_tree a (.ref f) true) P E s:=by
 have lv:=hv.length
 have ha:a<s.heap.objs.size:=lt_size ho
 have s1:=Heap.SameBut.update s.heap a (Obj.mapSeq fun _=>(#[]:Array Value))
 obtain ⟨e1,ho1⟩:∃e1,(s.heap.update a (Obj.mapSeq fun _=>(#[]:Array Value))).get? a=some (seqObj "list" #[] e1):=⟨_,get?_update_seq ho fun _=>#[]⟩
 have J1:Inv X pins σ H {s with heap:=s.heap.update a (Obj.mapSeq fun _=>(#[]:Array Value))}:=J.turned (t':=s.toks) (fun b o hb e=>(s1.2 b hb).trans e) hna fa.1 fa.2.2.1 fa.2.2.2.1 fa.2.2.2.2
 obtain ⟨h2,eh2⟩:∃h2,h2=(s.heap.update a (Obj.mapSeq fun _=>(#[]:Array Value))).push (seqObj "tuple" vs.toArray 0):=⟨_,rfl⟩
 obtain ⟨kS,ekS⟩:∃kS,kS=h2.objs.size:=⟨_,rfl⟩
 obtain ⟨h3,eh3⟩:∃h3,h3=h2.push (seqObj "list" #[] 0):=⟨_,rfl⟩
 have k2:∀b o,(s.heap.update a (Obj.mapSeq fun _=>(#[]:Array Value))).get? b=some o→h3.get? b=some o:=fun b o e=>by rw [eh3,eh2];exact get?_push_of_some _ (get?_push_of_some _ e)
 have z2:h2.objs.size=s.heap.objs.size+1:=by rw [eh2,size_push',size_update]
 have hsz:(s.heap.update a (Obj.mapSeq fun _=>(#[]:Array Value))).objs.size≤kS:=by rw [ekS,z2,size_update];exact le_succ _
 have fk:Zor X pins H kS:=J1.fpOk hsz (J1.hok.fresh hsz)
 have hka:kS≠a:=by rw [ekS,z2];exact ne_of_gt (Nat.lt_succ_of_lt ha)
 have gk:h3.get? kS=some (seqObj "list" #[] 0):=by rw [eh3,ekS];exact get?_push_size _ rfl
 have J3:Inv X pins σ H {s with heap:=h3}:=J1.kept (t':=s.toks) fun b o e=>k2 b o e
 unfold ksk_tree
 refine wpAny_bind (listItems_at ho rfl (wpAny_bind (listUpdate_at ho rfl (wpAny_bind (seqEpoch_at ho1 rfl (wpAny_bind (wpAny_newTuple (wpAny_bind (wpAny_newList (wpAny_holding ?_) (zero_le _))) (by show vs.length≤_;rw [sizeLine_eq];omega))))) (by rw [size_toArray,sizeLine_eq];omega) (zero_le _))))
 rw [← eh2,← ekS]
 show wpAny _ A _ P E {s with heap:=h2.push (seqObj "list" #[] 0)}
 rw [← eh3]
 unfold ksk_rest
 refine wpAny_bind (wpAny_rule ?_)
 first
  | rw [List.forIn_toArray]
  | (rw [← Array.forIn_toList];simp only [List.toList_toArray])
  | rw [← Array.forIn_toList]
 refine wpAny_bind (ksk_fold (fun i s'=>∃H' kA e dn,Inv X pins σ H' s'∧LP H'∧H' a=none∧H' kS=none∧s'.heap.get? kS=some (seqObj "list" kA e)∧s'.heap.get? a=some (seqObj "list" #[] e1)∧IntsAre kA.toList dn∧dn.length=i∧Zvx tb (cs.drop i) H' (fun ks H2=>QQ (dn++ks) H2)) vs 0 _ ⟨H,#[],0,[],J3,hf,hna,fk.1,gk,k2 _ _ ho1,.nil,rfl,q⟩ ?step ?done)
 case step =>
  rintro j x s' hx ⟨H',kA,e,dn,I,hf',na,nk,gk',ga',hd,hl,qq⟩
  have hj:j<vs.length:=(List.getElem?_eq_some_iff.mp hx).1
  rw [zero_add] at hl qq ⊢
  have hjc:j<cs.length:=by omega
  have hcx:∃t,x=.int cs[j] t:=by
   obtain ⟨t,z⟩:=IntsAre.int_at hv j x hx
   exact ⟨t,by rw [z];simp [List.getD_eq_getElem?_getD,hjc]⟩
  obtain ⟨t,rfl⟩:=hcx
  rw [List.drop_eq_getElem_cons hjc] at qq
  have fp2:∀p∈X.pn++((a,seqObj "list" #[] e1)::pins),p.1≠kS:=fun p hp=>(List.mem_append.mp hp).elim (fun z=>fk.2.2.2.2.2 p (mem_append_left _ z)) fun z=>(List.mem_cons.mp z).elim (fun z=>by rw [z];exact hka.symm) fun z=>fk.2.2.2.2.2 p (mem_append_right _ z)
  have I2:Inv X ([(kS,seqObj "list" kA e),(a,seqObj "list" #[] e1)]++pins) σ H' s':=
   (I.pinIt ga' (fa.ok na) (fun v z=>by cases z)).pinIt gk' ⟨nk,fk.2.1,fk.2.2.1,fk.2.2.2.1,fk.2.2.2.2.1,fp2⟩ (fun v z=>by cases z)
  refine wpAny_bind (wpAny_attempt (wpAny_mono (hK _ H' s' (.int cs[j]) (.int cs[j] t) _ I2 hf' ⟨t,rfl⟩ qq) (fun u' s2 he=>?_) fun _ _ z=>z.elim))
  obtain ⟨v,H2,J4,hf2,ru,k,rfl,q2⟩:=he
  obtain ⟨t2,rfl⟩:=ru
  obtain ⟨pk,pk1,_⟩:=J4.pin (kS,seqObj "list" kA e) (mem_append_right _ (.head _))
  obtain ⟨pa,pa1,_⟩:=J4.pin (a,seqObj "list" #[] e1) (mem_append_right _ (.tail _ (.head _)))
  have J5:Inv X pins σ H2 s2:=Inv.unpin (Inv.unpin J4)
  have s3:=Heap.SameBut.update s2.heap kS (Obj.mapSeq (·.push (.int k t2)))
  obtain ⟨c2,g2⟩:∃c2,(s2.heap.update kS (Obj.mapSeq (·.push (.int k t2)))).get? kS=some (seqObj "list" (kA.push (.int k t2)) c2):=⟨_,get?_update_seq pk (·.push (.int k t2))⟩
  have hkl:kA.size=dn.length:=Array.length_toList.symm.trans hd.length
  refine wpAny_bind (listUpdate_at pk rfl (wpAny_pure ⟨rfl,H2,kA.push (.int k t2),c2,dn++[k],J5.turned (t':=s2.toks) (fun b o hb e=>(s3.2 b hb).trans e) pk1 fk.2.1 fk.2.2.2.1 fk.2.2.2.2.1 fk.2.2.2.2.2,hf2,pa1,pk1,g2,(s3.2 a hka.symm).trans pa,?_,by rw [length_append,hl];rfl,?_⟩) (by rw [hkl,sizeLine_eq];omega) (le_trans (le_of_eq (Array.size_push ..)) (by rw [hkl,sizeLine_eq];omega)))
  ·rw [Array.toList_push]
   exact ksk_snoc hd
  ·have ee:(fun ks H2=>QQ (dn++[k]++ks) H2)=fun ks H2=>QQ (dn++k::ks) H2:=by
    funext ks H2
    rw [append_assoc]
    rfl
   rw [ee]
   exact q2
 case done =>
  rintro s' ⟨H',kA,e,dn,I,hf',na,nk,gk',ga',hd,hl,qq⟩
  rw [zero_add] at hl qq
  rw [List.drop_eq_nil_of_le (by omega)] at qq
  have qq:QQ (dn++[]) H':=qq
  rw [append_nil] at qq
  refine wpAny_bind (listItems_at gk' rfl ?_)
  refine Xak hka gk' ga' hd hv hr (by omega) h64 fun h' out c ol kp2 g2 h4 h5 h6=>?_
  have Ia:Inv X pins σ H' {s' with heap:=h'}:=I.turned2 (fun b o h1 h2 e=>kp2 b o h1 h2 e) nk na fk.2 fa
  exact h dn H' _ out c ol Ia qq na g2 (by omega) h4 h5 h6
end
section
variable {X:Cx}{pins:List (Addr×Obj)}{σ:St}{H:Hp}{s:Shared}{N:List Str}{p qual:Str}{params:Arguments}{body:Expr}{sc:Scope}{cl:List (Str×Addr)}{js:List Nat}{P c:Addr}{lpos np pos kp kp2 cp:Pos}{e:Expr}{te tb:TE}{k:Nat}
def Zzn (te:TE)(js:List Nat)(tb:TE):TE:=fun σ H Q=>Zdn te Zqa σ H fun vs H1=>∃r lo n ws,vs=[.ref r]∧H1 r=some (.rng lo (lo+(n:Nat)))∧-(2 ^ 62)≤lo∧lo+(n:Nat)<2 ^ 62∧n≤63∧js.map (fun j=>σ[j]?)=ws.map (fun v=>some (some v))∧
 ∀H2,(∀b o,H1 b=some o→H2 b=some o)→Zvx (fun x H Q=>tb ((x::ws).map some) H Q) (Zsh lo n) H2 fun ks H3=>ks.length=n→∀(ol:List (Int×Int)) l,ol.Perm (ks.zip (Zsh lo n))→ol.Pairwise KO→H3 l=none→Q (.ref l) (upd H3 l (.lst (ol.map fun p=>V.int p.2)))
theorem Xac (hg:Gl X "sorted")(hm:X.mg "sorted"=none)(he:PE X e te)(L:Zvf X N p qual params body sc cl js P c lpos)(hb:∀f c s H,PE (cxL X X.A.in1.in1 N qual sc f (.ref c) cl s H) body tb)(hs:starEach [e] X.env=(false,eval e X.env)::starEach [] X.env)(hs3:starEach ([]:List Expr) X.env=[]:=by rfl) :
    PE X (.Call (.Name "sorted" np) [e] [⟨some "key",.Lambda params body sc lpos,kp⟩,⟨some "reverse",.Constant (.bool true) k cp,kp2⟩] pos) (Zzn te js tb):=by
  intro pins s σ H Q I h
  refine wpAny_Call_Name_kw (Zgo I hg hm boot_sorted ?_ (by decide) (by decide))
  refine callWith_kw (thn (Zku he Zqd hs pos pins s σ H _ I h) fun us s1 hz9=>?_) (by rw [hs,hs3];rfl) (by rw [hs,hs3];rfl) rfl rfl
  obtain ⟨vs,H1,I1,r1,q1⟩:=hz9
  obtain ⟨r,lo,n,ws,rfl,hq,b1,b2,h64,ew,q⟩:=q1
  obtain ⟨u,rfl,rx⟩:=vals1 r1
  cases rx
  refine kws_cons (Xcn I1 L.bm (I1.base.tbls P lpos qual L.tab) L.code L.hd L.clo L.qu L.df fun f H' s' J sub lam=>?_)
  refine kws_cons (thn (Xnn pins s' σ H' (fun y H2=>y=.bl true∧H2=H') J ⟨rfl,rfl⟩) fun u2 s2 hz8=>?_)
  obtain ⟨y,H2,I2,ry,ey,eH⟩:=hz8
  subst ey eH
  cases ry
  refine kws_nil ?_
  obtain ⟨t1,t2,t3,hR⟩:=(show Zbx X.prog X.w H2 s2.heap r (.rng lo (lo+(n:Nat))) from I2.hok r _ (sub _ _ hq))
  have hh:X.A.in1.handled=none:=I2.ok.hd L.calm
  refine call_function_entry_kw kind_sorted plain_sorted entry_sorted (ksk_s2 _ _ _) ?_
  unfold Builtin.«sorted»
  refine wpAny_bind (m:=checkCount "sorted" 1 1 _) (wpAny_pure (wpAny_bind (Zpm (A:=X.A.in1) hh hR (small_one b1 (by omega) (by omega) b2) (n:=n) (by rw [rangeSize_one];split<;>omega) (by omega) fun h1 tk1 vs hi k1 z1=>wpAny_bind (wpAny_newList ?_ (by
    have:=hi.length
    rw [Zhh] at this
    rw [sizeLine_eq]
    omega)))))
  have I3:Inv X pins σ H2 {s2 with heap:=h1,toks:=tk1}:=I2.kept (t':=tk1) k1
  obtain ⟨a,ea⟩:∃a,a=h1.objs.size:=⟨_,rfl⟩
  obtain ⟨h2,eh2⟩:∃h2,h2=h1.push (seqObj "list" vs.toArray 0):=⟨_,rfl⟩
  have fa:Zor X pins H2 a:=I3.fpOk (by rw [ea];exact le_refl _) (I3.hok.fresh (by rw [ea];exact le_refl _))
  have ga:h2.get? a=some (seqObj "list" vs.toArray 0):=by rw [eh2,ea];exact get?_push_size _ rfl
  have I4:Inv X pins σ H2 {s2 with heap:=h2,toks:=tk1}:=I3.kept (t':=tk1) fun b o e=>by rw [eh2];exact get?_push_of_some _ e
  rw [← ea]
  change wpAny _ _ _ _ _ {s2 with heap:=h1.push (seqObj "list" vs.toArray 0),toks:=tk1}
  rw [← eh2]
  refine wpAny_bind (wpAny_holding (wpAny_call_entry_kw slot_list_sort ⟨_,ga,rfl⟩ entry_list_sort ?_ (ksk_l2 _ _ _)))
  change wpAny _ X.A.in1.in1 (Builtin.«list.sort» ⟨[.ref a],[(Str.ofString "key",.ref f),(Str.ofString "reverse",.bool true)]⟩) _ _ _
  rw [ksk_t2]
  refine Zyn (Xde L ew hb) I4 lam ga fa.2 fa.1 hi (Xjd lo n) (by rw [Zhh];exact h64) (q H2 sub) fun ks H' s' out c ol J' qq na g' lk h4 h5 h6=>⟨_,rfl,wpAny_pure ⟨_,rfl,?_⟩⟩
  rw [Zhh] at lk
  have hv:=Zdh h6
  have hlo:ol.length≤n:=by
    rw [h4.length_eq,List.length_zip]
    omega
  have J5:Inv X pins σ (upd H' a (.lst (ol.map fun p=>V.int p.2))) s':=J'.adopt fa.2 na ⟨by rw [length_map];exact le_trans hlo (le_trans h64 (by decide)),out.toList,c,by rw [map_map] at hv;exact hv,by simpa [seqObj] using g'⟩
  exact ⟨.ref a,_,J5,rfl,qq lk ol a h4 h5 na⟩
end
end L2
namespace L2
open PySem PySem.Spec PyProof.Rows
open Dl (D R FE FT FA FO FS FI FB Fl)
section
variable {K:Frag}{C:String→Addr}{E:XK}{Γ Δ Γ' Δ':List Nat}{m m1 m2 mb:Nat}{S Sb:List (Nat×Bool)}{H:Hp}
theorem Xea {fe fb:FE}{js:List Nat}{ρ:Yx}{ok:D→Prop}{er:String→Option Int→Prop}(p:Xt (Dl.Zki fe js fb ρ) ok er):Xt (fe ρ) (fun d=>∃lo n fs ks,d=.rng lo (lo+(n:Nat))∧-(2 ^ 62)≤lo∧lo+(n:Nat)<2 ^ 62∧n≤63∧Dl.Zgz js ρ=.ok fs∧Dl.Zcz fb (fs.map some) ((Zsh lo n).map D.int)=.ok ks∧ok (.lst ((Dl.Znc (ks.zip (Zsh lo n))).map fun p=>D.int p.2))) er:=by
 refine Xt.imp (Xt.bind p) (fun d q=>?_) fun c x q=>q
 cases d with
 | rng lo hi =>
  have q:Xt (if -(2 ^ 62)≤lo∧hi<2 ^ 62∧lo≤hi∧hi - lo≤63 then (Dl.Zgz js ρ).calm.bind fun fs=>(Dl.Zcz fb (fs.map some) (Dl.Zca lo (hi - lo).toNat)).bind fun ks=>R.ok (.lst ((Dl.Znc (ks.zip (Dl.Xqf lo (hi - lo).toNat))).map fun p=>D.int p.2)) else R.bad) ok er:=q
  split at q
  ·rename_i hc
   cases h1:Dl.Zgz js ρ with
   | bad=>rw [h1] at q;exact q.elim
   | err c x=>rw [h1] at q;exact q.elim
   | ok fs =>
    rw [h1] at q
    have q:Xt ((Dl.Zcz fb (fs.map some) (Dl.Zca lo (hi - lo).toNat)).bind fun ks=>R.ok (.lst ((Dl.Znc (ks.zip (Dl.Xqf lo (hi - lo).toNat))).map fun p=>D.int p.2))) ok er:=q
    cases h2:Dl.Zcz fb (fs.map some) (Dl.Zca lo (hi - lo).toNat) with
    | bad=>rw [h2] at q;exact q.elim
    | err c x=>exact absurd h2 (Zik _ _ _ c x)
    | ok ks =>
     rw [h2] at q
     rw [Zyw] at h2
     exact ⟨lo,(hi - lo).toNat,fs,ks,by rw [show lo+((hi - lo).toNat:Nat)=hi by omega],hc.1,by omega,by omega,rfl,h2,q⟩
  ·exact q.elim
 | _=>exact q.elim
theorem Zyv {te tb:TE}{fe fb:FE}{js:List Nat}(he:EOk K C E Γ Δ m S te fe)(hb:EOk K C E0 [] [] mb Sb tb fb):EOk K C E Γ Δ 2 [] (Zzn te js tb) (Dl.Zki fe js fb):=fun H0 Hb H σ ρ A Q I p =>
  he H0 Hb H σ ρ A _ I (Xt.imp (Xea p) (fun d q v H1 g1 r=>by
    obtain ⟨lo,n,fs,ks,rfl,b1,b2,h64,h1,h2,q⟩:=q
    obtain ⟨B,r,r',_⟩:=r
    obtain ⟨a,rfl,e2,_⟩:=r
    obtain ⟨ws,Bf,w1,w2⟩:=Zxr (I.mono g1) h1
    refine ⟨a,lo,n,ws,rfl,e2,b1,b2,h64,w1,fun H2 sub=>Zri hb (w2.same sub) h2 fun H3 g3 lk ol l hp ho hl=>?_⟩
    have gg:Xx H1 H3:=Xx.trans sub g3
    rw [Xdp hp ho] at q
    have out:Out K C H3 (.lst (ol.map fun p=>D.int p.2)) Q:=fun v H' B g4 r h1 h2=>q v H' ((g1.trans gg).trans g4) (Res.new r h1 fun a ha=>(g1.trans gg).free (h2 a ha))
    have z:(RpA K C H3 ((ol.map (·.2)).map D.int) ((ol.map (·.2)).map V.int) []):=RpA.ints
    rw [map_map,map_map] at z
    exact Out.lst out z hl) fun c x q H' g'=>q H' g')
end
section
variable {X:Cx}{C:String→Addr}{E:XK}{Γ Δ:List Nat}{m mb:Nat}{S Sb:List (Nat×Bool)}{N:List Str}{p qual:Str}{params:Arguments}{body:Expr}{sc:Scope}{cl:List (Str×Addr)}{js:List Nat}{P c:Addr}{lpos np pos kp kp2 cp:Pos}{e:Expr}{te tb:TE}{fe fb:FE}{k:Nat}
theorem Xdc (hg:Gl X "sorted")(hm:X.mg "sorted"=none)(he:JE X C E Γ Δ m S e te fe)(L:Zvf X N p qual params body sc cl js P c lpos)(hb:∀f c s H,JE (cxL X X.A.in1.in1 N qual sc f (.ref c) cl s H) C E0 [] [] mb Sb body tb fb)(hs:starEach [e] X.env=(false,eval e X.env)::starEach [] X.env)(hs3:starEach ([]:List Expr) X.env=[]:=by rfl) :
  JE X C E Γ Δ 2 [] (.Call (.Name "sorted" np) [e] [⟨some "key",.Lambda params body sc lpos,kp⟩,⟨some "reverse",.Constant (.bool true) k cp,kp2⟩] pos) (Zzn te js tb) (Dl.Zki fe js fb):=⟨⟨Xac hg hm he.q.out L (fun f c s H=>(hb f c s H).q.out) hs hs3⟩,Zyv he.o (hb 0 0 X.s₀ X.H₀).o⟩
end
end L2
namespace L2
open PySem PySem.SeqAt PyProof.Rows
open Dl (sLt Pr kLt Zeq)
section
variable {prog:Program}{w:World}{A:Around}{E:Value→Shared→Prop}{s:Shared}
theorem Xdr {a:Addr}{vs:List Value}{n:Nat}{b:Bool}{P:Fin→Shared→Prop}(ho:s.heap.get? a=some (seqObj "list" vs.toArray n))(hI:∀s':Shared,(∀b o,b≠a→s.heap.get? b=some o→s'.heap.get? b=some o)→∀v∈vs,Ztx b s'.heap v∧Zdw s'.heap v=Zdw s.heap v)(hm:vs.length≤sizeLine)(hu:A.units+8<cLine)(hfa:(vs.map fun v=>(Zdw s.heap v).1).Pairwise (· > ·))(h64:vs.length≤63)
    (h:∀out:Array Value,out.toList.Perm vs→(out.toList.map (Zdw s.heap)).Pairwise (fun c d=>Zeq d c=false)→P (.done (.ret .none)) {s with heap:=sortedHeap s.heap a vs out}) :
    wpAny (model prog w) A (Builtin.«list.sort» ⟨[.ref a],[]⟩) P E s:=by
  have hlt:=lt_size ho
  obtain ⟨e0,h1⟩:∃e0,(s.heap.update a (Obj.mapSeq fun _=>#[])).get? a=some (seqObj "list" #[] e0):=⟨_,get?_update_seq ho (fun _=>#[])⟩
  have h6:(((s.heap.update a (Obj.mapSeq fun _=>#[])).push (seqObj "tuple" vs.toArray 0)).push (seqObj "list" #[] 0)).get? a=some (seqObj "list" #[] e0):=by
    rw [Heap.get?_push_ne _ _ _ (ne_of_lt (by rw [size_push',size_update];exact Nat.lt_succ_of_lt hlt)),Heap.get?_push_ne _ _ _ (ne_of_lt (by rw [size_update];exact hlt))]
    exact h1
  have keep:∀b o,b≠a→s.heap.get? b=some o→(((s.heap.update a (Obj.mapSeq fun _=>#[])).push (seqObj "tuple" vs.toArray 0)).push (seqObj "list" #[] 0)).get? b=some o:=fun b o hb q=>by
    refine get?_push_of_some _ (get?_push_of_some _ ?_)
    rw [Heap.get?_update_ne _ _ _ _ hb]
    exact q
  have hI6:=hI {s with heap:=((s.heap.update a (Obj.mapSeq fun _=>#[])).push (seqObj "tuple" vs.toArray 0)).push (seqObj "list" #[] 0)} keep
  rw [list_sort_plain]
  refine wpAny_bind (listItems_at ho rfl (wpAny_bind (listUpdate_at ho rfl (wpAny_bind (seqEpoch_at h1 rfl (wpAny_bind (wpAny_newTuple (wpAny_bind (wpAny_newList (wpAny_holding ?_))) (by simpa using hm)))))
    (by simpa using hm))))
  have fin:∀(st':SortSt),(arrOf st').toList.Perm (vs.map fun v=>(v,v))→failedOf st'=none→((arrOf st').toList.map fun x=>Zdw s.heap x.1).Pairwise (fun c d=>Zeq d c=false)→
      wpAny (model prog w) A (do
        let touched:=(← seqEpoch a) != e0
        Builtin.List.listUpdate (.ref a) fun _=>(arrOf st').map (·.2)
        if let some e:=failedOf st' then rule "list.sort.comparison-raised";throw e
        if touched then rule "list.sort.modified";raiseError "ValueError" "list modified during sort"
        ret .none) P E {s with heap:=((s.heap.update a (Obj.mapSeq fun _=>#[])).push (seqObj "tuple" vs.toArray 0)).push (seqObj "list" #[] 0)}:=fun st' hp hf hs=>by
    have same:∀x∈(arrOf st').toList,x.1=x.2:=fun x hx=>by
      obtain ⟨v,_,rfl⟩:=List.mem_map.mp (hp.mem_iff.mp hx)
      rfl
    refine wpAny_bind (seqEpoch_at h6 rfl (wpAny_bind (listUpdate_at h6 rfl ?_ (hsz2:=by
      refine le_trans (le_of_eq (Array.size_map ..)) ?_
      rw [← length_toList,hp.length_eq,length_map]
      omega))))
    rw [hf]
    simp only [bne_self_eq_false,Bool.false_eq_true,if_false]
    refine wpAny_pure (h _ ?_ ?_)
    · rw [toList_map]
      have:=hp.map (·.2)
      rw [map_map,show ((fun x:Keyed=>x.2)∘fun v:Value=>(v,v))=id from rfl,map_id] at this
      exact this
    · rw [toList_map,map_map]
      rw [map_congr_left (g:=fun x=>Zdw s.heap x.1) (fun x hx=>by show Zdw s.heap x.2=_;rw [same x hx])]
      exact hs
  by_cases h2:vs.toArray.size<2
  · simp only [if_pos h2]
    refine wpAny_bind (wpAny_pure ?_)
    rw [StateT.run_pure]
    refine wpAny_bind (wpAny_pure ?_)
    refine fin (SortSt.mk' general' (vs.toArray.zip vs.toArray) #[] 7 none) (by show (vs.toArray.zip vs.toArray).toList.Perm _;rw [Zbq]) rfl ?_
    show ((vs.toArray.zip vs.toArray).toList.map fun x=>Zdw s.heap x.1).Pairwise _
    rw [Zbq]
    match vs,h2 with
    | [],_=>exact List.Pairwise.nil
    | [v],_=>exact List.pairwise_singleton _ _
    | _::_::_,h2=>exact absurd h2 (by simp)
  · simp only [if_neg h2]
    have h2':2≤vs.length:=by rw [size_toArray] at h2;omega
    refine wpAny_bind (PySem.W.kat_kind (T:=.type "int") (Zux fun v hv=>(hI6 v hv).1) (by rw [length_map];omega) (Xcq fun v hv=>(hI6 v hv).1) (by decide) ?_)
    have hne:∃x,x∈vs:=⟨vs[0],getElem_mem (by omega)⟩
    obtain ⟨v0,hv0⟩:=hne
    have ek:tuples' ((Value.type "int") != Value.type "tuple")=tuples' true:=rfl
    rw [ek]
    refine wpAny_bind (wpAny_mono (Zmt (ps:=fun x=>-(Zdw (((s.heap.update a (Obj.mapSeq fun _=>#[])).push (seqObj "tuple" vs.toArray 0)).push (seqObj "list" #[] 0)) x.1).1) (st:=SortSt.mk' (tuples' true) (vs.toArray.zip vs.toArray) #[] 7 none) (Q:=fun _ st'=>(arrOf st').toList.Perm (vs.map fun v=>(v,v))∧failedOf st'=none∧((arrOf st').toList.map fun x=>Zdw s.heap x.1).Pairwise (fun c d=>Zeq d c=false)) (v0,v0) (Xkg (b:=b) hu) ?_ rfl rfl rfl ?_ ?_ ?_ fun st' q1 q2 q3=>⟨?_,q2,?_⟩) ?_ fun _ _ e=>e)
    · intro x hx
      have hx:x∈(vs.toArray.zip vs.toArray).toList:=hx
      rw [Zbq] at hx
      obtain ⟨v,hv,rfl⟩:=List.mem_map.mp hx
      exact (hI6 v hv).1
    · show 1≤(vs.toArray.zip vs.toArray).size
      rw [← length_toList,Zbq,length_map]
      omega
    · show (vs.toArray.zip vs.toArray).size<64
      rw [← length_toList,Zbq,length_map]
      omega
    · show (vs.toArray.zip vs.toArray).toList.Pairwise _
      rw [Zbq,pairwise_map]
      rw [pairwise_map] at hfa
      refine (List.Pairwise.and_mem.mp hfa).imp fun {v v'} z=>?_
      have e1:=(hI6 v z.1).2
      have e2:=(hI6 v' z.2.1).2
      have z:=z.2.2
      rw [← e1,← e2] at z
      exact Int.neg_lt_neg z
    · have q1:(arrOf st').toList.Perm (vs.toArray.zip vs.toArray).toList:=q1
      rw [Zbq] at q1
      exact q1
    · have q1:(arrOf st').toList.Perm (vs.toArray.zip vs.toArray).toList:=q1
      rw [Zbq] at q1
      refine List.pairwise_map.mpr (List.Pairwise.imp_of_mem (fun {x y} hx hy z=>?_) q3)
      obtain ⟨v,hv,rfl⟩:=List.mem_map.mp (q1.mem_iff.mp hx)
      obtain ⟨v',hv',rfl⟩:=List.mem_map.mp (q1.mem_iff.mp hy)
      have e1:=(hI6 v hv).2
      have e2:=(hI6 v' hv').2
      show Zeq (Zdw s.heap v') (Zdw s.heap v)=false
      rw [← e1,← e2]
      exact z.1
    · rintro ⟨⟨⟩,st'⟩ s' ⟨rfl,q1,q2,q3⟩
      exact fin st' q1 q2 q3
theorem Ztc {l:Addr}{vs:List Value}{b:Bool}{Q:Value→Shared→Prop}(hl:s.heap.IsList l vs.toArray)(hI:∀v∈vs,Ztx b s.heap v)(hm:vs.length≤sizeLine)(hu:A.units+12<cLine)(hfa:(vs.map fun v=>(Zdw s.heap v).1).Pairwise (· > ·))(h64:vs.length≤63)
  (h:∀out:Array Value,out.toList.Perm vs→(out.toList.map (Zdw s.heap)).Pairwise (fun c d=>Zeq d c=false)→Q (.ref (s.heap.objs.size+1)) {s with heap:=sortedAll s.heap vs out}) :
  wpAny (model prog w) A (call (.builtin "sorted") [.ref l]) Q E s:=by
 have hz:((s.heap.push (seqObj "list" #[] 0)).update s.heap.objs.size (Obj.mapSeq (·++vs.toArray))).objs.size=s.heap.objs.size+1:=by rw [size_update,size_push']
 have hL:=get?_push_size ((s.heap.push (seqObj "list" #[] 0)).update s.heap.objs.size (Obj.mapSeq (·++vs.toArray))) (o:=seqObj "list" vs.toArray 0) rfl
 rw [hz] at hL
 have keep:∀b o,s.heap.get? b=some o→(((s.heap.push (seqObj "list" #[] 0)).update s.heap.objs.size (Obj.mapSeq (·++vs.toArray))).push (seqObj "list" vs.toArray 0)).get? b=some o:=fun b o q=>by
  refine get?_push_of_some _ ?_
  rw [Heap.get?_update_ne _ _ _ _ (ne_of_lt (lt_size q))]
  exact get?_push_of_some _ q
 refine Calls.call_function_entry kind_sorted plain_sorted entry_sorted (args_sorted1 _) ?_
 unfold Builtin.«sorted»
 refine wpAny_bind (m:=checkCount "sorted" 1 1 _) (wpAny_pure (wpAny_bind (collect_list hl (wpAny_bind (wpAny_newList ?_ (by simpa using hm))) hm)))
 simp only [hz]
 have hI0:∀v∈vs,Ztx b (((s.heap.push (seqObj "list" #[] 0)).update s.heap.objs.size (Obj.mapSeq (·++vs.toArray))).push (seqObj "list" vs.toArray 0)) v∧Zdw (((s.heap.push (seqObj "list" #[] 0)).update s.heap.objs.size (Obj.mapSeq (·++vs.toArray))).push (seqObj "list" vs.toArray 0)) v=Zdw s.heap v:=fun v hv=>(hI v hv).keeps keep
 have old:∀b o,s.heap.get? b=some o→b≠s.heap.objs.size+1:=fun b o q=>ne_of_lt (Nat.lt_succ_of_lt (lt_size q))
 refine wpAny_bind (wpAny_holding (wpAny_call_entry slot_list_sort ⟨_,hL,rfl⟩ entry_list_sort (Xdr (b:=b) hL (fun s' k v hv=>?_) hm (by show A.units+1+1+8<cLine;omega) ?_ h64 fun out q1 q2=>⟨_,rfl,?_⟩) (args_list_sort _)))
 ·have:=(hI v hv).keeps (h':=s'.heap) fun b o q=>k b o (old b o q) (keep b o q)
  exact ⟨this.1,this.2.trans (hI0 v hv).2.symm⟩
 ·rw [map_congr_left (g:=fun v=>(Zdw s.heap v).1) (fun v hv=>congrArg Prod.fst (hI0 v hv).2)]
  exact hfa
 ·refine wpAny_pure ⟨_,rfl,h out q1 ?_⟩
  rw [map_congr_left (g:=Zdw (((s.heap.push (seqObj "list" #[] 0)).update s.heap.objs.size (Obj.mapSeq (·++vs.toArray))).push (seqObj "list" vs.toArray 0))) (fun v hv=>((hI0 v (q1.mem_iff.mp hv)).2).symm)]
  exact q2
end
end L2
namespace L2
open PySem PySem.Spec PyProof.Rows
open Dl (D R FE FT FA FO FS FI FB FM FMT Fl Pr kLt Zeq)
def Zwy (K:Frag):List V→Hp→VK→Prop:=fun vs H Q=>∃(a:Addr) (L:List (Addr×Pr)) (b:Bool),vs=[.ref a]∧SqL K H a (L.map fun x=>V.ref x.1)∧(∀x∈L,H x.1=some (.tup [.int x.2.1,kV x.2.2])∧side b x.2.2)∧L.length≤63∧(L.map fun x=>x.2.1).Pairwise (· > ·)∧
 ∀(L':List (Addr×Pr)) (r:Addr),L'.Perm L→(L'.map (·.2)).Pairwise (fun x y=>Zeq y x=false)→H r=none→Q (.ref r) (upd H r (.lst (L'.map fun x=>V.ref x.1)))
section
variable {X:Cx}
theorem Znu (hu:X.A.units+64<cLine):Zav X (.builtin "sorted") (Zwy X.K):=by
 intro pins s σ H xs us Q I r h
 obtain ⟨a,L,b,rfl,hq,hL,hl,hfa,q⟩:=h
 obtain ⟨u,rfl,rx⟩:=vals1 r
 cases rx
 obtain ⟨its,rv,p,hz⟩:=I.list hq
 have rv':Yw ((L.map (·.1)).map V.ref) its:=by rw [map_map];exact rv
 have ei:=Znt rv'
 have hI:∀v∈its,Ztx b s.heap v:=fun v hv=>by
  rw [ei,map_map] at hv
  obtain ⟨x,hx,rfl⟩:=List.mem_map.mp hv
  exact (Xnx I (hL x hx).1 (hL x hx).2).1
 have hlen:its.length≤sizeLine:=by
  rw [ei,length_map,length_map,sizeLine_eq]
  omega
 have cut:∀x∈L,Zdw s.heap (.ref x.1)=x.2:=fun x hx=>(Xnx I (hL x hx).1 (hL x hx).2).2
 have hfa':(its.map fun v=>(Zdw s.heap v).1).Pairwise (· > ·):=by
  rw [ei,map_map,map_map]
  have e:L.map (((fun v=>(Zdw s.heap v).1)∘Value.ref)∘fun x=>x.1)=L.map fun x=>x.2.1:=map_congr_left fun x hx=>congrArg Prod.fst (cut x hx)
  rw [e]
  exact hfa
 refine Ztc (b:=b) p.isList hI hlen (by omega) hfa' (by rw [ei,length_map,length_map];exact hl) fun out q1 q2=>?_
 obtain ⟨e,he⟩:=sortedAll_at s.heap its out
 have hn:H (s.heap.objs.size+1)=none:=I.hok.fresh (le_succ _)
 have eo:out.toList=(out.toList.map adr).map Value.ref:=by
  rw [map_map]
  conv=>lhs;rw [← map_id out.toList]
  refine map_congr_left fun v hv=>?_
  have:=q1.mem_iff.mp hv
  rw [ei] at this
  obtain ⟨b,_,rfl⟩:=List.mem_map.mp this
  rfl
 have pb:(out.toList.map adr).Perm (L.map (·.1)):=by
  have:=q1.map adr
  rw [ei,map_map,show (adr∘Value.ref)=id from rfl,map_id] at this
  exact this
 have eL:L=(L.map (·.1)).map fun b=>(b,Zdw s.heap (.ref b)):=by
  rw [map_map]
  conv=>lhs;rw [← map_id L]
  refine map_congr_left fun x hx=>?_
  show x=(x.1,Zdw s.heap (.ref x.1))
  rw [cut x hx]
 have pL:((out.toList.map adr).map fun b=>(b,Zdw s.heap (.ref b))).Perm L:=by
  conv=>rhs;rw [eL]
  exact pb.map _
 have hs:(((out.toList.map adr).map fun b=>(b,Zdw s.heap (.ref b))).map (·.2)).Pairwise (fun x y=>Zeq y x=false):=by
  rw [eo,map_map] at q2
  rw [map_map]
  exact q2
 have hv:Yw ((((out.toList.map adr).map fun b=>(b,Zdw s.heap (.ref b))).map fun x=>V.ref x.1)) out.toList:=by
  rw [map_map,eo]
  have:=Zoa (out.toList.map adr)
  rw [show (List.map adr (List.map Value.ref (List.map adr out.toList)))=List.map adr out.toList by rw [map_map,show (adr∘Value.ref)=id from rfl,map_id]]
  exact this
 have hv2:=hv.length
 have I2:=I.laid (t':=s.toks) (o:=.lst ((((out.toList.map adr).map fun b=>(b,Zdw s.heap (.ref b))).map fun x=>V.ref x.1))) (h':=sortedAll s.heap its out) (fun b o q=>sortedAll_old q) (le_succ _) ⟨by rw [length_map,pL.length_eq];exact le_trans hl (by decide),out.toList,e,hv,by simpa [seqObj] using he⟩
 exact ⟨.ref (s.heap.objs.size+1),_,I2,rfl,q _ _ pL hs hn⟩
variable {K:Frag}{C:String→Addr}{H:Hp}
theorem Zyx:GAk K C (Zwy K) Dl.Zmz:=by
  intro H xs d vs Bx Q r e q
  match xs,e with
  | [.lst ds],e =>
    obtain ⟨cs,h1,h2⟩:=Option.bind_eq_some_iff.mp (show ((Dl.Zpx ds).bind fun cs=>if cs.length≤63∧cs.Pairwise (fun x y=>y.1<x.1)∧((cs.all fun p=>p.2.isLeft)=true∨(cs.all fun p=>p.2.isRight)=true) then some (D.lst ((Dl.Zlm cs).map Dl.prD)) else none)=some d from e)
    split at h2
    · rename_i hh
      cases h2
      obtain ⟨v,l,B1,B2,rfl,r1,r2,_⟩:=r
      obtain ⟨rfl,_⟩:=r2
      obtain ⟨a,ys,B',rfl,e2,e3,_⟩:=r1
      obtain ⟨L,rfl,rfl,hL⟩:=Zvn h1 e3
      obtain ⟨b,hb⟩:∃b:Bool,∀x∈L,side b x.2.2:=by
        rcases hh.2.2 with z | z
        · refine ⟨true,fun x hx=>?_⟩
          have:=List.all_eq_true.mp z x.2 (List.mem_map.mpr ⟨x,hx,rfl⟩)
          cases e:x.2.2 with
          | inl i=>rfl
          | inr i=>rw [e] at this;cases this
        · refine ⟨false,fun x hx=>?_⟩
          have:=List.all_eq_true.mp z x.2 (List.mem_map.mpr ⟨x,hx,rfl⟩)
          cases e:x.2.2 with
          | inr i=>rfl
          | inl i=>rw [e] at this;cases this
      refine ⟨a,L,b,rfl,SqL.of e2,fun x hx=>⟨(hL x hx).1,hb x hx⟩,by have:=hh.1;rwa [length_map] at this,by have:=hh.2.1;rw [pairwise_map] at this ⊢;exact this,fun L' r pL hs hr=>?_⟩
      have es:Dl.Zlm (L.map (·.2))=L'.map (·.2):=Xbo (b:=b) (fun x hx=>by
        obtain ⟨y,hy,rfl⟩:=List.mem_map.mp hx
        exact hb y hy) (pL.map _) hs
      have g2:=sameNew hr (.lst (L'.map fun x=>V.ref x.1))
      rw [es] at q
      refine q _ _ [r] g2 ⟨r,_,[],rfl,Yb,(Zqf fun x hx=>(hL x (pL.mem_iff.mp hx)).2).same g2,rfl⟩ (List.nodup_cons.mpr ⟨(fun z=>nomatch z),nodup_nil⟩) fun a ha=>?_
      rw [List.mem_singleton.mp ha]
      exact hr
    · cases h2
end
end L2
namespace Dl
open PySem
noncomputable def Zqw:FS:=
  (Xp (sIf (cOr (cE (f2 gLt (fV 1) (fC (.int 0)))) (cOr (cE (f2 gGt (fV 2) (fA Jy (Zd (fV 0) Zy)))) (cE (f2 gGt (fV 1) (fV 2))))) Zih sNx)
    (Zaq (fA Xna (Zd (fSl gSl (fV 0) (Zfx (fV 1)) (Zfx (fV 2))) Zy))))
noncomputable def Zbs (ds:List D):R D:=(run 3 Zqw ds).calm
noncomputable def Xcm:FS:=
 (Zaq (f1 Zhq (fV 0)))
noncomputable def Zbu (ds:List D):R D:=(run 1 Xcm ds).calm
noncomputable def Zdc:FS:=
 (Xri 2 (fV 6) (fA Zmu (Zd (f2 gIx (fV 2) (fV 6)) (Zd (f2 Je (f2 gIx (f2 gIx (fV 0) (fV 4)) (f2 Zbh (fV 6) (fA Jy (Zd (fV 5) Zy)))) (f2 gIx (fV 3) (fC (.int 2)))) Zy))))
noncomputable def Zan:FS:=
 (Zjj (Zog (Zd (fA Jy (Zd (fV 5) Zy)) (Zd (fA Jy (Zd (fV 2) Zy)) Zy))) (Xi 6) Zdc)
noncomputable def Zkf:FS:=
  (Xp (Yg 2 (fA Yv (Zd (f2 gIx (fV 0) (f1 Zof (fC (.int 1)))) Zy)))
    (Xp (Zjj (Zda (fV 1)) (Ztd (Zaj (Xi 3) (Zaj (Xi 4) (Zaj (Xi 5) Ztq)))) Zan)
    (Zaq (fV 2))))
noncomputable def Zaz (ds:List D):R D:=(run 7 Zkf ds).calm
noncomputable def Zey:FS:=
 (Zaq (Zcp 3 1 (Zog (Zd (f2 Je (fV 2) (fC (.int 1))) (Zd (fA Jy (Zd (fV 1) Zy)) Zy))) (Xi 3) Znz (f2 Je (f2 gIx (f2 gIx (fV 0) (fV 2)) (f2 Zbh (fV 3) (fV 2))) (f2 gIx (fV 1) (fV 3)))))
noncomputable def Ye (ds:List D):R D:=(run 3 Zey ds).calm
noncomputable def Zfr:FS:=
 (Yg 2 (f2 Zhf (f2 Je (f2 Je (f2 Zcx (fV 2) (fC (.int 48271))) (f2 Zhf (fV 3) (fC (.int 1000003)))) (fC (.int 1))) (fC (.int 2147483647))))
noncomputable def Zpo:FS:=
  (Xp (sIf (cE (f2 gLt (fV 1) (fA Jy (Zd (fV 0) Zy)))) (Zaq (f1 Yd (f2 gIx (fV 0) (fV 1)))) sNx)
    (Xp (Yg 2 (fC (.int 5)))
    (Xp (Zjj (Zda (fSl gSl (fV 0) Zlx (Zfx (fC (.int 63))))) (Xi 3) Zfr)
    (Zaq (f2 Zhf (f2 Je (fV 2) (f2 Zcx (fC (.int 7919)) (fV 1))) (fC (.int 1000003)))))))
noncomputable def Zad (ds:List D):R D:=(run 4 Zpo ds).calm
noncomputable def Zsx:FS:=
  (Xp (Yg 2 (f2 Zhf (f2 Zjw (f2 Je (f2 Je (f2 Zhf (fV 0) (fC (.int 2147483629))) (f2 Zcx (fC (.int 1013)) (fV 1))) (fC (.int 7919))) (fC (.int 3))) (fC (.int 2147483647))))
    (Xp (Yg 3 (f2 Zhf (f2 Je (f2 Je (f2 Zcx (fV 2) (fC (.int 40699))) (f2 Zcx (f2 Zcx (fC (.int 3793)) (fV 1)) (fV 1))) (fC (.int 11))) (fC (.int 2147483399))))
    (Zaq (f2 Xlz (fV 3) (fC (.int 101))))))
noncomputable def Zba (ds:List D):R D:=(run 4 Zsx ds).calm
noncomputable def Zgg:FS:=
  (Xp (sIf (Xln (cE (Ziw gLt gLt (fV 3) (fV 4) (fA Jy (Zd (fV 0) Zy))))) Zih sNx)
    (Xp (Zhg 2 (fSl gSl (fV 0) (Zfx (fV 3)) (Zfx (fV 4))))
    (Yg 3 (f1 Yd (fV 4)))))
noncomputable def Zql:FS:=
  (Xp (Yg 2 (fA Zal Zy))
    (Xp (Yg 3 (fC (.int 0)))
    (Xp (Zjj (Zda (fV 1)) (Xi 4) Zgg)
    (Xp (Zhg 2 (fSl gSl (fV 0) (Zfx (fV 3)) Zlx))
    (Zaq (fV 2))))))
noncomputable def Zct (ds:List D):R D:=(run 5 Zql ds).calm
noncomputable def Xnc:FS:=
  (Xp (Yg 3 (f2 Je (fV 2) (f2 gIx (fV 1) (fC (.int 1)))))
    (Xp (sIf (cOr (cE (f2 gLt (fV 2) (fC (.int 0)))) (cE (f2 gGt (fV 3) (fA Jy (Zd (fV 0) Zy))))) (Zaq (fC (.bl false))) sNx)
    (Zaq (f2 gLe (Xo Zbs (Zd (fV 0) (Zd (fV 2) (Zd (fV 3) Zy)))) (f2 gIx (fV 1) (fC (.int 3)))))))
noncomputable def Zkj (ds:List D):R D:=(run 4 Xnc ds).calm
noncomputable def Zas:FS:=
  (Xp (Yg 5 (Xo Ye (Zd (fV 0) (Zd (fV 4) (Zd (fV 3) Zy)))))
    (Xp (Zpu 3 Xad (f2 Je (fC (.int 1)) (Zss (fV 5) (fA Zmu (Zd (fV 5) Zy)))))
    (Zhg 2 (f1 Yd (fV 3)))))
noncomputable def Zec:FS:=
  (Xp (Yg 2 (fA Zal Zy))
    (Xp (Yg 3 (fC (.int 0)))
    (Xp (Zjj (Xcc (fSl Xqo (fV 1) Zlx (Zfx (f1 Zof (fC (.int 1)))))) (Xi 4) Zas)
    (Zaq (fV 2)))))
noncomputable def Yy (ds:List D):R D:=(run 6 Zec ds).calm
noncomputable def Zgh:FS:=
  (sIf (cE (f2 gLt (fV 3) (f2 Zjw (fC (.int 10)) (fC (.int 18))))) (Zhg 5 (f2 Zhf (Xo Zba (Zd (fV 3) (Zd (fV 6) Zy))) (f2 gIx (fV 2) (fV 6)))) (sIf (cE (f2 gGt (fV 4) (fC (.int 0)))) (Xp (Zhg 5 (f2 Zhf (fV 4) (f2 gIx (fV 2) (fV 6))))
    (Yg 4 (f2 Xlz (fV 4) (f2 gIx (fV 2) (fV 6))))) (Xp (Yg 7 (Xo Zad (Zd (fV 0) (Zd (f2 Zhf (f2 Je (f2 Je (fV 1) (fC (.int 1))) (fV 6)) (fC (.int 63))) Zy))))
    (Zhg 5 (f2 Zhf (Xo Zba (Zd (fV 7) (Zd (fV 6) Zy))) (f2 gIx (fV 2) (fV 6)))))))
noncomputable def Zsz:FS:=
  (Xp (Yg 3 (Xo Zad (Zd (fV 0) (Zd (fV 1) Zy))))
    (Xp (Yg 4 (f1 Yd (fV 3)))
    (Xp (Yg 5 (fA Zal Zy))
    (Xp (Zjj (Zgf (Zd (fA Jy (Zd (fV 2) Zy)) Zy)) (Xi 6) Zgh)
    (Zaq (fV 5))))))
noncomputable def Yf (ds:List D):R D:=(run 8 Zsz ds).calm
noncomputable def Zqy:FS:=
 (Zaq (Zcp 3 1 (Zda (fV 1)) (Xi 3) (cE (Xo Zkj (Zd (fV 0) (Zd (fV 3) (Zd (f2 Zbh (fV 2) (f2 gIx (fV 3) (fC (.int 1)))) Zy))))) (f1 Yd (fV 3))))
noncomputable def Zaf (ds:List D):R D:=(run 3 Zqy ds).calm
noncomputable def Zbz:FS:=
  (Xp (Yg 9 (f2 Je (f2 Zcx (fC (.int 3)) (fV 8)) (fC (.int 6))))
    (Xp (Yg 10 (f1 Yd (f2 gIx (fA Zal (Zd (fC (.int 1)) (Zd (fC (.int 2)) (Zd (fC (.int 3)) (Zd (fC (.int 4)) (Zd (fC (.int 5)) (Zd (fC (.int 6)) (Zd (fC (.int 2)) (Zd (fC (.int 3)) (Zd (fC (.int 11)) (Zd (fC (.int 40)) (Zd (f2 gIx (fA Zal (Zd (fC (.int 150)) (Zd (fC (.int 200)) Zy))) (f2 Zhf (fV 8) (fC (.int 2)))) Zy)))))))))))) (f2 gIx (fV 4) (fV 9)))))
    (Xp (Yg 11 (f2 Je (fC (.int 1)) (f2 gIx (fV 4) (f2 Je (fV 9) (fC (.int 1))))))
    (Xp (sIf (cE (f2 gEq (f2 gIx (fV 4) (fC (.int 3))) (fC (.int 1)))) (Yg 11 (f2 Je (f2 Zcx (fC (.int 3)) (fV 10)) (f2 Zhf (f2 gIx (fV 4) (f2 Je (fV 9) (fC (.int 1)))) (fC (.int 4))))) sNx)
    (Xp (sIf (cE (f2 gEq (f2 gIx (fV 4) (fC (.int 3))) (fC (.int 2)))) (Yg 11 (f2 Je (fC (.int 1)) (f2 Zhf (f2 gIx (fV 4) (f2 Je (fV 9) (fC (.int 1)))) (fC (.int 3))))) sNx)
    (Xp (sIf (cE (f2 gEq (f2 gIx (fV 4) (fC (.int 3))) (fC (.int 3)))) (Yg 11 (f1 Yd (fV 10))) sNx)
    (Xp (Yg 12 (fA Xhh (Zd (f2 Zcx (f2 gIx (fA Zal (Zd (fC (.int 0)) (Zd (fC (.int 0)) (Zd (fC (.int 1)) (Zd (fC (.int 2)) (Zd (fC (.int 3)) (Zd (fC (.int 12)) Zy))))))) (f2 gIx (fV 4) (f2 Je (fV 9) (fC (.int 2))))) (fV 5)) (Zd (f2 Zbh (f2 Zjw (fC (.int 10)) (fC (.int 18))) (fC (.int 1))) Zy))))
    (Xp (Yg 13 (f1 Yd (f2 gIx (fV 3) (f2 Zhf (f2 Je (f2 gIx (fV 4) (fC (.int 4))) (f2 Zcx (f2 Je (f2 Zcx (fC (.int 2)) (f2 gIx (fV 4) (fC (.int 5)))) (fC (.int 1))) (fV 8))) (fC (.int 16))))))
    (Zhg 7 (fA Ziz (Zd (f1 Yd (fV 13)) (Zd (f1 Yd (fV 10)) (Zd (fA Xhh (Zd (f2 Zcx (fV 11) (fV 6)) (Zd (f2 Zjw (fC (.int 10)) (fC (.int 18))) Zy))) (Zd (f1 Yd (fV 12)) Zy))))))))))))))
noncomputable def Zmn:FS:=
  (Xp (Yg 3 (fA Zal (Zd (fC (.str ("a":Str))) (Zd (fC (.str ("ab":Str))) (Zd (fC (.str ("abc":Str))) (Zd (fC (.str ("b":Str))) (Zd (fC (.str ("ba":Str))) (Zd (fC (.str ("z":Str))) (Zd (fC (.str ("zzzzzzzz":Str))) (Zd (fC (.str ("roll":Str))) (Zd (fC (.str ("cut":Str))) (Zd (fC (.str ("by":Str))) Zy))))))))))))
    (Xp (Yg 3 (f2 Je (fV 3) (fA Zal (Zd (fC (.str ("aab":Str))) (Zd (fC (.str ("zz":Str))) (Zd (fC (.str ("kind":Str))) (Zd (fC (.str ("qsvw":Str))) (Zd (fC (.str ("fghjmp":Str))) (Zd (fC (.str ("x":Str))) Zy)))))))))
    (Xp (Yg 4 (Xo Yf (Zd (fV 0) (Zd (fV 1) (Zd (f2 Je (fA Zal (Zd (f2 Je (fV 2) (fC (.int 1))) (Zd (fC (.int 4)) (Zd (fC (.int 4)) (Zd (fC (.int 4)) (Zd (fC (.int 16)) (Zd (fC (.int 4)) Zy))))))) (f2 Zcx (fA Zal (Zd (fC (.int 11)) (Zd (fC (.int 40)) (Zd (fC (.int 6)) Zy)))) (fV 2))) Zy)))))
    (Xp (Yg 5 (f1 Yd (f2 gIx (fA Zal (Zd (fC (.int 1)) (Zd (fC (.int 1)) (Zd (fC (.int 7)) (Zd (f2 Zjw (fC (.int 10)) (fC (.int 17))) Zy))))) (f2 gIx (fV 4) (fC (.int 1))))))
    (Xp (Yg 6 (f1 Yd (f2 gIx (fA Zal (Zd (fC (.int 1)) (Zd (fC (.int 1)) (Zd (f2 Zjw (fC (.int 10)) (fC (.int 6))) (Zd (f2 Zcx (fC (.int 25)) (f2 Zjw (fC (.int 10)) (fC (.int 15)))) Zy))))) (f2 gIx (fV 4) (fC (.int 2))))))
    (Xp (Yg 7 (fA Zal Zy))
    (Xp (Zjj (Zgf (Zd (f2 gIx (fV 4) (fC (.int 0))) Zy)) (Xi 8) Zbz)
    (Zaq (fV 7)))))))))
noncomputable def Zai (ds:List D):R D:=(run 14 Zmn ds).calm
noncomputable def Zpy:FS:=
 (Zaq (f1 Yd (f2 gIx (fA Zal (Zd (fC (.int 1)) (Zd (fC (.int 1)) (Zd (fC (.int 7)) (Zd (f2 Zjw (fC (.int 10)) (fC (.int 17))) Zy))))) (f2 gIx (Xo Yf (Zd (fV 0) (Zd (fV 1) (Zd (fA Zal (Zd (f2 Je (fV 2) (fC (.int 1))) (Zd (fC (.int 4)) Zy))) Zy)))) (fC (.int 1))))))
noncomputable def Zbi (ds:List D):R D:=(run 3 Zpy ds).calm
noncomputable def Zfi:FS:=
  (Xp (Yg 8 (f2 Je (f2 Zcx (fC (.int 2)) (fV 7)) (fC (.int 3))))
    (Xp (Yg 9 (fC (.int 0)))
    (Xp (sIf (cE (f2 gLt (f2 gIx (fV 4) (fV 8)) (f2 gIx (fA Zal (Zd (fC (.int 0)) (Zd (fC (.int 1)) (Zd (fC (.int 3)) (Zd (fC (.int 6)) Zy))))) (f2 gIx (fV 4) (fC (.int 1)))))) (Yg 9 (f1 Yd (f2 gIx (fA Zal (Zd (fV 3) (Zd (fV 3) (Zd (f2 Zcx (fC (.int 2)) (fV 3)) (Zd (f2 Zcx (fC (.int 3)) (fV 3)) (Zd (fV 5) Zy)))))) (f2 gIx (fV 4) (f2 Je (fV 8) (fC (.int 1))))))) sNx)
    (Zhg 6 (f1 Yd (fV 9))))))
noncomputable def Zok:FS:=
  (Xp (Yg 4 (Xo Yf (Zd (fV 0) (Zd (fV 1) (Zd (f2 Je (fA Zal (Zd (f2 Je (fV 2) (fC (.int 1))) (Zd (fC (.int 4)) (Zd (fC (.int 3)) Zy)))) (f2 Zcx (fA Zal (Zd (fC (.int 8)) (Zd (fC (.int 5)) Zy))) (fV 2))) Zy)))))
    (Xp (Yg 5 (f2 Zcx (fC (.int 9)) (fV 3)))
    (Xp (sIf (cE (f2 gEq (f2 gIx (fV 4) (fC (.int 2))) (fC (.int 0)))) (Yg 5 (f2 Zjw (fC (.int 10)) (fC (.int 18)))) sNx)
    (Xp (Yg 6 (fA Zal Zy))
    (Xp (Zjj (Zgf (Zd (f2 gIx (fV 4) (fC (.int 0))) Zy)) (Xi 7) Zfi)
    (Zaq (fV 6)))))))
noncomputable def Zbl (ds:List D):R D:=(run 10 Zok ds).calm
noncomputable def Ztf:FS:=
  (Xp (Yg 3 (fA Jy (Zd (fV 2) Zy)))
    (Xp (Yg 4 (Zcp 5 1 (Zda (Xo Zaf (Zd (fV 0) (Zd (fV 1) (Zd (fV 3) Zy))))) (Xi 5) Znz (f2 Je (f2 gIx (fV 2) (f2 Zbh (fV 3) (f2 gIx (fV 5) (fC (.int 1))))) (f2 gIx (fV 5) (fC (.int 2))))))
    (Zaq (fA Zmu (Zd (f2 Je (fA Zal (Zd (f2 gIx (fV 2) (f1 Zof (fC (.int 1)))) Zy)) (fV 4)) Zy)))))
noncomputable def Zcb (ds:List D):R D:=(run 5 Ztf ds).calm
noncomputable def Zfe:FS:=
 (sIf (cE (f2 gEq (f2 Je (f2 gIx (fV 2) (f2 Zbh (fV 3) (f2 gIx (fV 4) (fC (.int 1))))) (f2 gIx (fV 4) (fC (.int 2)))) (f2 gIx (fV 2) (fV 3)))) (Zaq (f1 Yd (fV 4))) sNx)
noncomputable def Zpe:FS:=
  (Xp (sIf (cE (f2 gEq (f2 gIx (fV 2) (fV 3)) (f2 gIx (fV 2) (f2 Zbh (fV 3) (fC (.int 1)))))) (Zaq (fC .non)) sNx)
    (Xp (Zjj (Zda (Xo Zaf (Zd (fV 0) (Zd (fV 1) (Zd (fV 3) Zy))))) (Xi 4) Zfe)
    (Zaq (fC .non))))
noncomputable def Zac (ds:List D):R D:=(run 5 Zpe ds).calm
noncomputable def Jf:FS:=
  (Xp (sIf (cE (f2 gLe (fV 4) (f2 gIx (fV 1) (fC (.int 3))))) sBrk sNx)
    (Xp (Zpu 4 Zbh (f2 gIx (fV 0) (fV 6)))
    (Zhg 5 (f1 Yd (fV 6)))))
noncomputable def Zdg:FS:=
  (Xp (Yg 3 (Zki (fA Znk (Zd (fV 2) (Zd (f2 Je (fV 2) (f2 gIx (fV 1) (fC (.int 1)))) Zy))) [0] (f2 gIx (fV 1) (fV 0))))
    (Xp (Yg 4 (Xo Zbs (Zd (fV 0) (Zd (fV 2) (Zd (f2 Je (fV 2) (f2 gIx (fV 1) (fC (.int 1)))) Zy)))))
    (Xp (Yg 5 (fA Zal Zy))
    (Xp (Zjj (Zda (fV 3)) (Xi 6) Jf)
    (Zaq (fV 5))))))
noncomputable def Yi (ds:List D):R D:=(run 7 Zdg ds).calm
noncomputable def Zma:FS:=
  (Xp (Yg 4 (Xo Zbi (Zd (fV 0) (Zd (fV 1) (Zd (fV 3) Zy)))))
    (Zaq (fA Ziz (Zd (Xo Zbl (Zd (fV 0) (Zd (f2 Je (fV 1) (fC (.int 1))) (Zd (fV 2) (Zd (fV 4) Zy))))) (Zd (Xo Zai (Zd (fV 0) (Zd (fV 1) (Zd (fV 3) Zy)))) Zy)))))
noncomputable def Zak (ds:List D):R D:=(run 5 Zma ds).calm
noncomputable def Zib:FS:=
 (Zhg 2 (Xo Zcb (Zd (fV 0) (Zd (fV 1) (Zd (fV 2) Zy)))))
noncomputable def Zmg:FS:=
  (Xp (Yg 2 (fA Zal (Zd (fC (.int 0)) Zy)))
    (Xp (Zek 100000 (cE (f2 gLe (fA Jy (Zd (fV 2) Zy)) (fA Jy (Zd (fV 0) Zy)))) Zib)
    (Zaq (fV 2))))
noncomputable def Yc (ds:List D):R D:=(run 3 Zmg ds).calm
noncomputable def Zcy:FS:=
  (Xp (Yg 5 (Xo Zac (Zd (fV 0) (Zd (fV 1) (Zd (fV 2) (Zd (fV 3) Zy))))))
    (sIf (cE (f2 gIs (fV 5) (fC .non))) (Zpu 3 Zbh (fC (.int 1))) (Xp (Zpu 3 Zbh (f2 gIx (fV 5) (fC (.int 1))))
    (Zhg 4 (fA Ziz (Zd (f1 Yd (fV 3)) (Zd (f1 Yd (f2 gIx (fV 5) (fC (.int 0)))) Zy)))))))
noncomputable def Zjf:FS:=
  (Xp (Yg 4 (fA Zal Zy))
    (Xp (Zek 100000 (cE (f2 gGt (fV 3) (fC (.int 0)))) Zcy)
    (Zaq (f1 Zhq (fV 4)))))
noncomputable def Jm (ds:List D):R D:=(run 6 Zjf ds).calm
noncomputable def Zfn:FS:=
  (Xp (Yg 3 (Zcp 4 1 (Zda (fV 1)) (Xi 4) (cE (f2 gLe (f2 gIx (fV 4) (fC (.int 1))) (fV 2))) (f1 Yd (fV 4))))
    (Zaq (Zcp 4 1 (Zda (fV 3)) (Xi 4) Znz (fA Ziz (Zd (f1 Yd (fV 4)) (Zd (f2 Zbh (fV 2) (f2 gIx (fV 4) (fC (.int 1)))) (Zd (Xo Yi (Zd (fV 0) (Zd (fV 4) (Zd (f2 Zbh (fV 2) (f2 gIx (fV 4) (fC (.int 1)))) Zy)))) Zy)))))))
noncomputable def Yu (ds:List D):R D:=(run 4 Zfn ds).calm
noncomputable def Zvm:FS:=
 (Zaq (f1 Zhq (Xo Yc (Zd (Xo Zbu (Zd (fV 0) Zy)) (Zd (fV 1) Zy)))))
noncomputable def Zdq (ds:List D):R D:=(run 2 Zvm ds).calm
noncomputable def Xfo:FS:=
  (Xp (Yg 2 (Xo Yc (Zd (fV 0) (Zd (fV 1) Zy))))
    (Zaq (fA Ziz (Zd (f1 Yd (f2 gIx (fV 2) (f1 Zof (fC (.int 1))))) (Zd (Xo Jm (Zd (fV 0) (Zd (fV 1) (Zd (fV 2) (Zd (fA Jy (Zd (fV 0) Zy)) Zy))))) Zy)))))
noncomputable def Zit (ds:List D):R D:=(run 3 Xfo ds).calm
noncomputable def Zaw:FS:=
  (Xp (Yg 5 (f2 Xav (fV 4) (f1 Zof (fC (.int 1)))))
    (Zhg 4 (Zcp 6 1 (Zgf (Zd (f2 Zbh (fA Jy (Zd (fV 5) Zy)) (fC (.int 1))) Zy)) (Xi 6) Znz (fA Zmu (Zd (Xo Ye (Zd (fV 3) (Zd (fV 5) (Zd (fV 6) Zy)))) Zy)))))
noncomputable def Zee:FS:=
  (Xp (sIf (Xln (cE (Ziw gLe gLe (fC (.int 1)) (fV 2) (fA Zmu (Zd (fA Jy (Zd (fV 0) Zy)) (Zd (fC (.int 1)) Zy)))))) Zih sNx)
    (Xp (Yg 3 (Zcp 6 1 (Zgf (Zd (fA Zmu (Zd (fA Jy (Zd (fV 0) Zy)) (Zd (fC (.int 1)) Zy))) Zy)) (Xi 6) Znz (Xo Yc (Zd (fSl gSl (fV 0) (Zfx (fV 6)) Zlx) (Zd (fV 1) Zy)))))
    (Xp (Yg 4 (fA Zal (Zd (Zcp 6 1 (Zda (fV 3)) (Xi 6) Znz (f1 Yd (f2 gIx (fV 6) (f1 Zof (fC (.int 1)))))) Zy)))
    (Xp (Zek 100000 (cE (f2 gLt (fA Jy (Zd (fV 4) Zy)) (fV 2))) Zaw)
    (Zaq (fA Ziz (Zd (f1 Yd (f2 gIx (f2 Xav (fV 4) (f1 Zof (fC (.int 1)))) (fC (.int 0)))) (Zd (Xo Yy (Zd (fV 3) (Zd (fV 4) Zy))) Zy))))))))
noncomputable def Ym (ds:List D):R D:=(run 6 Zee ds).calm
noncomputable def Zfk:FS:=
  (Xp (Yg 2 (Xo Yc (Zd (fV 0) (Zd (fV 1) Zy))))
    (Xp (Yg 3 (Xo Zdq (Zd (fV 0) (Zd (fV 1) Zy))))
    (Zaq (Zcp 4 1 (Zgf (Zd (f2 Je (fA Jy (Zd (fV 0) Zy)) (fC (.int 1))) Zy)) (Xi 4) (cE (f2 gEq (f2 Je (f2 gIx (fV 2) (fV 4)) (f2 gIx (fV 3) (fV 4))) (f2 gIx (fV 2) (f1 Zof (fC (.int 1)))))) (f1 Yd (fV 4))))))
noncomputable def Ys (ds:List D):R D:=(run 4 Zfk ds).calm
noncomputable def Zeh:FS:=
  (Xp (sIf (Xln (cE (Ziw gLe gLe (fC (.int 0)) (fV 2) (fA Jy (Zd (fV 0) Zy))))) Zih sNx)
    (Xp (Yg 3 (Xo Yc (Zd (fV 0) (Zd (fV 1) Zy))))
    (Zaq (f2 Zbh (f2 Zbh (f2 gIx (fV 3) (f1 Zof (fC (.int 1)))) (f2 gIx (fV 3) (fV 2))) (f2 gIx (Xo Zdq (Zd (fV 0) (Zd (fV 1) Zy))) (fV 2))))))
noncomputable def Yl (ds:List D):R D:=(run 4 Zeh ds).calm
@[simp] theorem ev_fC (d:D)(ρ:Env):fC d ρ=.ok d:=(rfl)
@[simp] theorem ev_f1 (g:D→Option D)(a:FE)(ρ:Env):f1 g a ρ=(a ρ).bind fun x=>oR (g x):=(rfl)
@[simp] theorem Xlv (g:D→D→Option D)(a b:FE)(ρ:Env):f2 g a b ρ=(a ρ).bind fun x=>(b ρ).bind fun y=>oR (g x y):=(rfl)
@[simp] theorem Zwu (ρ:Env):Zy ρ=.ok []:=(rfl)
@[simp] theorem Zls (a:FE)(r:FA)(ρ:Env):Zd a r ρ=(a ρ).bind fun x=>(r ρ).bind fun xs=>.ok (x::xs):=(rfl)
@[simp] theorem Xiv (g:List D→Option D)(a:FA)(ρ:Env):fA g a ρ=(a ρ).bind fun xs=>oR (g xs):=(rfl)
@[simp] theorem Zzt (F:List D→R D)(a:FA)(ρ:Env):Xo F a ρ=(a ρ).bind F:=(rfl)
@[simp] theorem ev_fV0 (d:D)(ρ:Env):fV 0 (some d::ρ)=.ok d:=(rfl)
@[simp] theorem ev_fVs (i:Nat)(o:Option D)(ρ:Env):fV (i+1) (o::ρ)=fV i ρ:=by simp [fV]
@[simp] theorem Xip (a:FE)(ρ:Env):cE a ρ=(a ρ).bind fun d=>match d with | .bl b=>.ok b | _=>.bad:=(rfl)
@[simp] theorem Xig (a:FT)(ρ:Env):Xln a ρ=(a ρ).bind fun b=>.ok (!b):=(rfl)
@[simp] theorem Zuu (a b:FT)(ρ:Env):Xmf a b ρ=(a ρ).bind fun x=>if x then b ρ else .ok false:=(rfl)
@[simp] theorem Xfk (a b:FT)(ρ:Env):cOr a b ρ=(a ρ).bind fun x=>if x then .ok true else b ρ:=(rfl)
@[simp] theorem ev_cYes (ρ:Env):Znz ρ=.ok true:=(rfl)
@[simp] theorem ev_fAnd (a b:FE)(ρ:Env):fAnd a b ρ=(a ρ).bind fun x=>match x with | .bl true=>b ρ | .bl false=>.ok (.bl false) | _=>.bad:=(rfl)
@[simp] theorem ev_fOr (a b:FE)(ρ:Env):fOr a b ρ=(a ρ).bind fun x=>match x with | .bl true=>.ok (.bl true) | .bl false=>b ρ | _=>.bad:=(rfl)
@[simp] theorem ev_fIf (c:FT)(a b:FE)(ρ:Env):fIf c a b ρ=(c ρ).bind fun x=>if x then a ρ else b ρ:=(rfl)
@[simp] theorem Zyq (g g':D→D→Option D)(a b c:FE)(ρ:Env):Ziw g g' a b c ρ=(a ρ).bind fun x=>(b ρ).bind fun y=>(oR (g x y)).bind fun z=>match z with | .bl true=>(c ρ).bind fun w=>oR (g' y w) | .bl false=>.ok (.bl false) | _=>.bad:=(rfl)
@[simp] theorem ev_fSl (g:D→Option Int→Option Int→Option D)(a:FE)(l h:FO)(ρ:Env):fSl g a l h ρ=(a ρ).bind fun x=>(l ρ).bind fun lo=>(h ρ).bind fun hi=>oR (g x lo hi):=(rfl)
@[simp] theorem ev_oNone (ρ:Env):Zlx ρ=.ok none:=(rfl)
@[simp] theorem ev_oSome (a:FE)(ρ:Env):Zfx a ρ=(a ρ).bind fun d=>match d with | .int i=>.ok (some i) | _=>.bad:=(rfl)
@[simp] theorem Xbw (a:FE)(ρ:Env):Zda a ρ=(a ρ).bind fun d=>match d with | .lst xs=>if xs.length≤lim then .ok xs else .bad | .scr ns=>if ns.length≤lim then .ok (ns.map D.int) else .bad | _=>.bad:=(rfl)
@[simp] theorem ev_jTup (a:FE)(ρ:Env):jTup a ρ=(a ρ).bind fun d=>match d with | .tup xs=>if xs.length≤lim then .ok xs else .bad | _=>.bad:=(rfl)
@[simp] theorem Xbe (a:FA)(ρ:Env):Zgf a ρ=(a ρ).bind fun ds=>match ds with | [.int j]=>if -1000000000≤j∧j≤1000000 then .ok (Zca 0 j.toNat) else .bad | _=>.bad:=(rfl)
noncomputable def Zjt (ds:List D):R (List D):=match ds with
 | [.int i,.int j]=>if -1000000000≤i∧i≤1000000000∧-1000000000≤j∧j≤1000000000∧(j - i).toNat≤lim then .ok (Zca i (j - i).toNat) else .bad
 | _=>.bad
@[simp] theorem Xcg (a:FA)(ρ:Env):Zog a ρ=(a ρ).bind Zjt:=(rfl)
theorem Zil {i j:Int}{n:Nat}(hn:n=(j - i).toNat)(h1:-1000000≤i)(h2:i≤1000000)(h3:-1000000≤j)(h4:j≤1000000)(h5:n≤1000000):Zjt [.int i,.int j]=.ok (Zca i n):=by
 subst hn
 unfold Zjt
 simp only []
 rw [if_pos ⟨by omega,by omega,by omega,by omega,h5⟩]
@[simp] theorem Xcv (n k:Nat)(it:FI)(b:FB)(c:FT)(e:FE)(ρ:Env):Zcp n k it b c e ρ=if ρ.length=n then (it ρ).bind fun xs=>(Zdb k b c e ρ xs).calm.bind fun ys=>.ok (.lst ys) else .bad:=(rfl)
@[simp] theorem ev_sNx (ρ:Env):sNx ρ=.ok (.nx ρ):=(rfl)
@[simp] theorem Xpc (ρ:Env):Zih ρ=.bad:=(rfl)
@[simp] theorem Zow (a b:FS)(ρ:Env):Xp a b ρ=(a ρ).bind fun fl=>match fl with | .nx ρ'=>b ρ' | fl=>.ok fl:=(rfl)
@[simp] theorem Xkl (i:Nat)(e:FE)(ρ:Env):Yg i e ρ=(e ρ).bind fun d=>.ok (.nx (ρ.set i (some d))):=(rfl)
@[simp] theorem Xju (e:FE)(ρ:Env):Zaq e ρ=(e ρ).bind fun d=>.ok (.ret d):=(rfl)
@[simp] theorem Xgd (c:FT)(a b:FS)(ρ:Env):sIf c a b ρ=(c ρ).bind fun x=>if x then a ρ else b ρ:=(rfl)
@[simp] theorem Xku (i:Nat)(e:FE)(ρ:Env):Zhg i e ρ=(fV i ρ).bind fun v=>match v with | .lst xs=>(e ρ).bind fun d=>if xs.length<lim then .ok (.nx (ρ.set i (some (.lst (xs++[d]))))) else .bad | _=>.bad:=by
 unfold Zhg fV
 split
 ·rename_i xs e;simp [e]
 ·rename_i h
  split
  ·rename_i d e
   cases d<;>simp
   rename_i xs
   exact absurd e (h xs)
  ·rfl
@[simp] theorem Xbu (i:Nat)(e:FE)(ρ:Env):Zpl i e ρ=(fV i ρ).bind fun v=>match v with | .lst xs=>(e ρ).bind fun d=>(match d with | .lst ys=>if xs.length+ys.length≤lim∧Yj ys=true then .ok (.nx (ρ.set i (some (.lst (xs++ys))))) else .bad | _=>.bad) | _=>.bad:=by
 unfold Zpl fV
 split
 ·rename_i xs e;simp [e]<;>rfl
 ·rename_i h
  split
  ·rename_i d e
   cases d<;>simp
   rename_i xs
   exact absurd e (h xs)
  ·rfl
@[simp] theorem Xpe (c:String)(f:FA)(ρ:Env):Xnm c f ρ=(f ρ).bind fun _=>.err c none:=(rfl)
@[simp] theorem ev_sAug (i:Nat)(g:D→D→Option D)(e:FE)(ρ:Env):Zpu i g e ρ=(fV i ρ).bind fun x=>(e ρ).bind fun y=>(oR (g x y)).bind fun z=>.ok (.nx (ρ.set i (some z))):=by
 unfold Zpu fV
 split
 ·rename_i x e;simp
 ·rfl
@[simp] theorem Xhs (it:FI)(b:FB)(s:FS)(ρ:Env):Zjj it b s ρ=(it ρ).bind fun xs=>Zdz b s xs ρ:=(rfl)
@[simp] theorem Xqc (n:Nat)(c:FT)(s:FS)(ρ:Env):Zek n c s ρ=Jx c s n ρ:=(rfl)
@[simp] theorem ev_sAsg (e:FE)(b:FB)(ρ:Env):Xmb e b ρ=(e ρ).bind fun d=>(b d ρ).calm.bind fun ρ'=>.ok (.nx ρ'):=(rfl)
@[simp] theorem ev_bName (i:Nat)(d:D)(ρ:Env):Xi i d ρ=.ok (ρ.set i (some d)):=(rfl)
@[simp] theorem ev_bNil (ρ:Env):Ztq [] ρ=.ok ρ:=(rfl)
@[simp] theorem ev_bCons (b:FB)(r:List D→Env→R Env)(d:D)(ds:List D)(ρ:Env):Zaj b r (d::ds) ρ=(b d ρ).bind fun ρ'=>r ds ρ':=(rfl)
@[simp] theorem ev_bTup (r:List D→Env→R Env)(ds:List D)(ρ:Env):Ztd r (.tup ds) ρ=r ds ρ:=(rfl)
@[simp] theorem ev_run (N:Nat)(b:FS)(ds:List D):run N b ds=(b (ds.map some++List.replicate (N - ds.length) none)).bind fun fl=>match fl with | .nx _=>.ok .non | .ret d=>.ok d | _=>.bad:=(rfl)
@[simp] theorem forD_nil (b:FB)(s:FS)(ρ:Env):Zdz b s [] ρ=.ok (.nx ρ):=(rfl)
theorem Zfd (b:FB)(s:FS)(x:D)(xs:List D)(ρ:Env):Zdz b s (x::xs) ρ=(b x ρ).calm.bind fun ρ1=>(s ρ1).bind fun fl=>match fl with | .nx ρ2=>Zdz b s xs ρ2 | .cnt ρ2=>Zdz b s xs ρ2 | .brk ρ2=>.ok (.nx ρ2) | .ret d=>.ok (.ret d):=rfl
@[simp] theorem add_ii (i j:Int):Je (.int i) (.int j)=some (.int (i+j)):=rfl
@[simp] theorem addI_ii (i j:Int):Xad (.int i) (.int j)=some (.int (i+j)):=rfl
@[simp] theorem sub_ii (i j:Int):Zbh (.int i) (.int j)=some (.int (i - j)):=rfl
@[simp] theorem lt_ii (i j:Int):gLt (.int i) (.int j)=some (.bl (decide (i<j))):=rfl
@[simp] theorem le_ii (i j:Int):gLe (.int i) (.int j)=some (.bl (decide (i≤j))):=rfl
@[simp] theorem gt_ii (i j:Int):gGt (.int i) (.int j)=some (.bl (decide (j<i))):=rfl
@[simp] theorem ge_ii (i j:Int):gGe (.int i) (.int j)=some (.bl (decide (j≤i))):=rfl
@[simp] theorem neg_i (i:Int):Zof (.int i)=some (.int (-i)):=rfl
@[simp] theorem not_b (b:Bool):gNot (.bl b)=some (.bl (!b)):=rfl
@[simp] theorem Zld (i j:Int):gEq (.int i) (.int j)=some (.bl (decide (i=j))):=show some (D.bl (i==j))=_ from congrArg (fun b=>some (D.bl b)) (by by_cases h:i=j<;>simp [h])
@[simp] theorem eq_bb (i j:Bool):gEq (.bl i) (.bl j)=some (.bl (i==j)):=rfl
@[simp] theorem ne_bb (i j:Bool):gNe (.bl i) (.bl j)=some (.bl (!(i==j))):=rfl
@[simp] theorem is_n (x:D):gIs x .non=some (.bl (Zjh x)):=rfl
@[simp] theorem isNot_n (x:D):Xgj x .non=some (.bl (!Zjh x)):=rfl
@[simp] theorem is_b (b c:Bool):gIs (.bl b) (.bl c)=some (.bl (b==c)):=rfl
@[simp] theorem isNot_b (b c:Bool):Xgj (.bl b) (.bl c)=some (.bl (!(b==c))):=rfl
@[simp] theorem Xoq:Zjh .non=true:=rfl
@[simp] theorem isNon_i (i:Int):Zjh (.int i)=false:=rfl
@[simp] theorem isNon_b (i:Bool):Zjh (.bl i)=false:=rfl
@[simp] theorem isNon_l (i:List D):Zjh (.lst i)=false:=rfl
@[simp] theorem isNon_t (i:List D):Zjh (.tup i)=false:=rfl
theorem Xgb {i j:Int}(h:(-(2 ^ 64)<i∧i<2 ^ 64)∨(-(2 ^ 64)<j∧j<2 ^ 64)):Zcx (.int i) (.int j)=some (.int (i*j)):=by
 have:(short i||short j)=true:=by simp [short];exact h
 simp [Zcx,this]
theorem Zcw {i j:Int}(h:0<j):Zhf (.int i) (.int j)=some (.int (i % j)):=by simp [Zhf,h]
theorem div_ii {i j:Int}(h:0<j)(h2:j<2 ^ 200):Xlz (.int i) (.int j)=some (.int (i / j)):=by simp only [Xlz];rw [if_pos ⟨h,h2⟩]
theorem Znb {i j:Int}(h:0≤j)(h2:j≤1000000)(h3:i.natAbs<2 ^ 64):Zjw (.int i) (.int j)=some (.int (i ^ j.toNat)):=by simp only [Zjw];rw [if_pos ⟨h,h2,h3⟩]
@[simp] theorem pow10_6:Zjw (.int 10) (.int 6)=some (.int 1000000):=by
 rw [Znb (by omega) (by omega) (by decide)]
 rfl
@[simp] theorem Xcz:Zjw (.int 10) (.int 15)=some (.int 1000000000000000):=by
 rw [Znb (by omega) (by omega) (by decide)]
 rfl
@[simp] theorem Zrv:Zjw (.int 10) (.int 17)=some (.int 100000000000000000):=by
 rw [Znb (by omega) (by omega) (by decide)]
 rfl
@[simp] theorem Zhb:Zjw (.int 10) (.int 18)=some (.int 1000000000000000000):=by
 rw [Znb (by omega) (by omega) (by decide)]
 rfl
@[simp] theorem flat_i (i:Int):flat (.int i)=true:=rfl
@[simp] theorem flat_b (i:Bool):flat (.bl i)=true:=rfl
@[simp] theorem flat_s (i:Str):flat (.str i)=true:=rfl
@[simp] theorem flat_n:flat .non=true:=rfl
@[simp] theorem flat_t (xs:List D):flat (.tup xs)=Yj xs:=rfl
@[simp] theorem flatA_n:Yj []=true:=rfl
@[simp] theorem flatA_c (x:D)(xs:List D):Yj (x::xs)=(flat x&&Yj xs):=rfl
theorem Zfa {α:Type}{f:α→D}(h:∀a,flat (f a)=true):∀xs:List α,Yj (xs.map f)=true
 | []=>rfl
 | x::xs=>by simp [h x,Zfa h xs]
@[simp] theorem Zcf (ns:List Int):Yj (ns.map D.int)=true:=Zfa (fun _=>rfl) ns
@[simp] theorem gFlat_i (i:Int):Yd (.int i)=some (.int i):=rfl
@[simp] theorem gFlat_b (i:Bool):Yd (.bl i)=some (.bl i):=rfl
@[simp] theorem gFlat_s (i:Str):Yd (.str i)=some (.str i):=rfl
@[simp] theorem gFlat_n:Yd .non=some .non:=rfl
@[simp] theorem ints_map (ns:List Int):intsOf (ns.map D.int)=some ns:=by
 induction ns with
 | nil=>rfl
 | cons n ns ih=>simp [intsOf,ih]
@[simp] theorem len_l (xs:List D):Jy [.lst xs]=some (.int xs.length):=(rfl)
@[simp] theorem len_t (xs:List D):Jy [.tup xs]=some (.int xs.length):=(rfl)
@[simp] theorem len_scr (xs:List Int):Jy [.scr xs]=some (.int xs.length):=(rfl)
@[simp] theorem sum_ints (ns:List Int):Xna [.lst (ns.map D.int)]=some (.int ns.sum):=by simp [Xna]
@[simp] theorem Zwn (i j:Int):Zmu [.int i,.int j]=some (.int (max i j)):=by
 simp only [Zmu]
 congr 2
 by_cases h:j > i
 ·rw [if_pos h];omega
 ·rw [if_neg h];omega
@[simp] theorem Zxd (i j:Int):Xhh [.int i,.int j]=some (.int (min i j)):=by
 simp only [Xhh]
 congr 2
 by_cases h:j<i
 ·rw [if_pos h];omega
 ·rw [if_neg h];omega
theorem Zkn {ns:List Int}(h:ns≠[]):Zmu [.lst (ns.map D.int)]=some (.int (Zgj ns)):=by simp [Zmu,h]
@[simp] theorem isI_i (c:String)(i:Int):Xmd c (.int i)=some (.bl (c=="int")):=rfl
@[simp] theorem isI_b (c:String)(i:Bool):Xmd c (.bl i)=some (.bl (c=="bool"||c=="int")):=rfl
@[simp] theorem isI_l (c:String)(i:List D):Xmd c (.lst i)=some (.bl (c=="list")):=rfl
@[simp] theorem isI_t (c:String)(i:List D):Xmd c (.tup i)=some (.bl (c=="tuple")):=rfl
@[simp] theorem isI_s (c:String)(i:Str):Xmd c (.str i)=some (.bl (c=="str")):=rfl
@[simp] theorem isI_n (c:String):Xmd c .non=some (.bl false):=rfl
theorem Zpi {α:Type}{xs:List α}{i:Int}{k:Nat}{x:α}(e:i=(k:Int))(h:xs[k]?=some x):atD xs i=some x:=by
 subst e
 have hk:=(List.getElem?_eq_some_iff.mp h).1
 unfold atD ixD
 rw [if_pos (by omega),if_pos (by omega)]
 simpa using h
theorem Xby {α:Type}(xs:List α)(x:α):atD (xs++[x]) (-1)=some x:=by
 unfold atD ixD
 rw [if_neg (by omega),if_pos (by simp;omega)]
 simp only [Option.bind_some]
 have:(-1+(((xs++[x]).length:Nat):Int)).toNat=xs.length:=by simp;omega
 rw [this]
 simp
theorem Zzr {xs:List D}{i:Int}{k:Nat}{x:D}(e:i=(k:Int))(h:xs[k]?=some x):gIx (.lst xs) (.int i)=some x:=Zpi e h
theorem Zvo {xs:List D}{i:Int}{k:Nat}{x:D}(e:i=(k:Int))(h:xs[k]?=some x):gIx (.tup xs) (.int i)=some x:=Zpi e h
@[simp] theorem ixL_l (xs:List D)(y:D):Xav (.lst xs) y=gIx (.lst xs) y:=(rfl)
@[simp] theorem listV_l (xs:List D):Xpj [.lst xs]=some (.lst xs):=(rfl)
@[simp] theorem Zix (xs:List D)(x:D):gIx (.lst (xs++[x])) (.int (-1))=some x:=Xby xs x
theorem Ju {ns:List Int}{i:Int}{k:Nat}(e:i=(k:Int))(h:k<ns.length):gIx (.lst (ns.map D.int)) (.int i)=some (.int (ns.getD k 0)):=Zzr e (by simp [h,List.getD])
theorem Zqm {ns:List Int}(h:ns≠[]):gIx (.lst (ns.map D.int)) (.int (-1))=some (.int (ns.getD (ns.length - 1) 0)):=by
 have e:=List.dropLast_concat_getLast h
 have e2:ns.getD (ns.length - 1) 0=ns.getLast h:=by
  have hl:ns.length - 1<ns.length:=by have:=List.length_pos_iff.mpr h;omega
  rw [List.getLast_eq_getElem]
  simp [List.getD,hl]
 rw [e2]
 conv=>lhs;rw [← e,map_append,List.map_singleton]
 exact Zix _ _
theorem Xha {α β:Type}(f:α→β)(xs:List α)(lo hi:Option Int):cut (xs.map f) lo hi=(cut xs lo hi).map f:=by
 unfold cut
 rw [length_map,map_take,map_drop]
theorem Xet {α:Type}{xs:List α}{a b:Int}(h0:0≤a)(h1:a≤b)(h2:b≤xs.length):cut xs (some a) (some b)=(xs.drop a.toNat).take (b.toNat - a.toNat):=by
 unfold cut Xgi
 simp only []
 rw [if_neg (by omega),if_neg (by omega),min_eq_left (by omega),min_eq_left (by omega)]
theorem Xph {α:Type}{xs:List α}{b:Int}(h0:0≤b):cut xs none (some b)=xs.take b.toNat:=by
 unfold cut Xgi
 simp only []
 rw [if_neg (by omega),List.drop_zero,sub_zero]
 by_cases h:b.toNat≤xs.length
 ·rw [min_eq_left h]
 ·rw [Nat.min_eq_right (by omega),List.take_of_length_le (le_refl _),List.take_of_length_le (by omega)]
theorem Zqx {α:Type}{xs:List α}{a:Int}(h0:0≤a):cut xs (some a) none=xs.drop a.toNat:=by
 unfold cut Xgi
 simp only []
 rw [if_neg (by omega)]
 by_cases h:a.toNat≤xs.length
 ·rw [min_eq_left h,List.take_of_length_le (by simp)]
 ·rw [Nat.min_eq_right (by omega),List.drop_of_length_le (le_refl _),List.drop_of_length_le (by omega)]
  simp
@[simp] theorem Zps (ns:List Int)(lo hi:Option Int):gSl (.lst (ns.map D.int)) lo hi=some (.lst ((cut ns lo hi).map D.int)):=by
 simp [gSl,Xha]
@[simp] theorem sl_scr (ns:List Int)(lo hi:Option Int):gSl (.scr ns) lo hi=some (.lst ((cut ns lo hi).map D.int)):=(rfl)
@[simp] theorem lst_lim (xs:List D)(h:xs.length≤lim):Zal xs=some (.lst xs):=by unfold Zal;rw [if_pos h]
@[simp] theorem gLst_0:Zal []=some (.lst []):=rfl
@[simp] theorem gLst_1 (a:D):Zal [a]=some (.lst [a]):=rfl
@[simp] theorem gLst_2 (a b:D):Zal [a,b]=some (.lst [a,b]):=rfl
@[simp] theorem gLst_3 (a b c:D):Zal [a,b,c]=some (.lst [a,b,c]):=rfl
@[simp] theorem gLst_4 (a0 a1 a2 a3:D):Zal [a0,a1,a2,a3]=some (.lst [a0,a1,a2,a3]):=rfl
@[simp] theorem gLst_5 (a0 a1 a2 a3 a4:D):Zal [a0,a1,a2,a3,a4]=some (.lst [a0,a1,a2,a3,a4]):=rfl
@[simp] theorem gLst_6 (a0 a1 a2 a3 a4 a5:D):Zal [a0,a1,a2,a3,a4,a5]=some (.lst [a0,a1,a2,a3,a4,a5]):=rfl
@[simp] theorem gLst_10 (a0 a1 a2 a3 a4 a5 a6 a7 a8 a9:D):Zal [a0,a1,a2,a3,a4,a5,a6,a7,a8,a9]=some (.lst [a0,a1,a2,a3,a4,a5,a6,a7,a8,a9]):=rfl
@[simp] theorem gLst_11 (a0 a1 a2 a3 a4 a5 a6 a7 a8 a9 a10:D):Zal [a0,a1,a2,a3,a4,a5,a6,a7,a8,a9,a10]=some (.lst [a0,a1,a2,a3,a4,a5,a6,a7,a8,a9,a10]):=rfl
@[simp] theorem gTup_2 (a b:D):Ziz [a,b]=some (.tup [a,b]):=rfl
@[simp] theorem gTup_3 (a b c:D):Ziz [a,b,c]=some (.tup [a,b,c]):=rfl
@[simp] theorem gTup_4 (a b c d:D):Ziz [a,b,c,d]=some (.tup [a,b,c,d]):=rfl
@[simp] theorem Zgv {α β:Type}(a:α)(f:α→R β):((R.ok a).calm).bind f=f a:=(rfl)
theorem Zfq {b:FB}{s:FS}{xs:List D}{P:Nat→Env→Prop}{Rr:R Fl→Prop}{ρ:Env}(h0:P 0 ρ)
  (hs:∀i x ρ,xs[i]?=some x→P i ρ→∃ρ1,b x ρ=.ok ρ1∧((∃ρ2,(s ρ1=.ok (.nx ρ2)∨s ρ1=.ok (.cnt ρ2))∧P (i+1) ρ2)∨(∃d,s ρ1=.ok (.ret d)∧Rr (.ok (.ret d)))∨∃ρ2,s ρ1=.ok (.brk ρ2)∧Rr (.ok (.nx ρ2))))
  (hd:∀ρ,P xs.length ρ→Rr (.ok (.nx ρ))):Rr (Zdz b s xs ρ):=by
 have key:∀n i ρ,n+i=xs.length→P i ρ→Rr (Zdz b s (xs.drop i) ρ):=by
  intro n
  induction n with
  | zero =>
   intro i ρ hn p
   rw [List.drop_of_length_le (by omega)]
   have e:i=xs.length:=by omega
   subst e
   exact hd ρ p
  | succ n ih =>
   intro i ρ hn p
   have hi:i<xs.length:=by omega
   rw [List.drop_eq_getElem_cons hi,Zfd]
   obtain ⟨ρ1,e1,h⟩:=hs i xs[i] ρ (getElem?_eq_getElem hi) p
   rw [e1,Zgv]
   rcases h with ⟨ρ2,e2 | e2,p2⟩ | ⟨d,e2,p2⟩ | ⟨ρ2,e2,p2⟩
   ·rw [e2];exact ih (i+1) ρ2 (by omega) p2
   ·rw [e2];exact ih (i+1) ρ2 (by omega) p2
   ·rw [e2];exact p2
   ·rw [e2];exact p2
 have:=key xs.length 0 ρ (by omega) h0
 simpa using this
theorem Xbd {lo:Int}{n i:Nat}(h:i<n):(Zca lo n)[i]?=some (.int (lo+i)):=by simp [Zca,h]
theorem Zll {lo:Int}{n i:Nat}{x:D}(h:(Zca lo n)[i]?=some x):i<n∧x=.int (lo+i):=by
 have hi:=(List.getElem?_eq_some_iff.mp h).1
 have hn:i<n:=by simpa [Zca] using hi
 rw [Xbd hn] at h
 exact ⟨hn,(Option.some.inj h).symm⟩
@[simp] theorem Zbe (lo:Int)(n:Nat):(Zca lo n).length=n:=by simp [Zca]
theorem Xkj {k:Nat}{b:FB}{c:FT}{e:FE}{ρ:Env}{α:Type}{enc:α→D}{ρ1:α→Env}{p:α→Bool}{v:α→D}{xs:List α}(h:∀x∈xs,b (enc x) (ρ++List.replicate k none)=.ok (ρ1 x)∧c (ρ1 x)=.ok (p x)∧(p x=true→e (ρ1 x)=.ok (v x))):Zdb k b c e ρ (xs.map enc)=.ok ((xs.filter p).map v):=by
 induction xs with
 | nil=>rfl
 | cons x xs ih =>
  obtain ⟨h0,h1,h2⟩:=h x (.head _)
  have ih:=ih fun y hy=>h y (.tail _ hy)
  rw [map_cons]
  unfold Zdb
  rw [h0,Zgv,h1]
  cases hp:p x with
  | false=>simp [ih,hp]
  | true=>simp [ih,hp,h2 hp]
theorem Xbt {n:Nat}{c:FT}{e:FE}{ρ:Env}{α:Type}{enc:α→D}{p:α→Bool}{v:α→D}{xs:List α}(hn:ρ.length=n)(h:∀x∈xs,c (ρ++[some (enc x)])=.ok (p x)∧(p x=true→e (ρ++[some (enc x)])=.ok (v x))):Zdb 1 (Xi n) c e ρ (xs.map enc)=.ok ((xs.filter p).map v):=
  Xkj (ρ1:=fun x=>ρ++[some (enc x)]) fun x hx=>⟨by
    show R.ok ((ρ++[none]).set n (some (enc x)))=_
    rw [← hn,List.set_append_right _ _ (le_refl _),sub_self]
    rfl,h x hx⟩
theorem Zgt {n:Nat}{e:FE}{ρ:Env}{α:Type}{enc:α→D}{v:α→D}{xs:List α}(hn:ρ.length=n)(h:∀x∈xs,e (ρ++[some (enc x)])=.ok (v x)):Zdb 1 (Xi n) Znz e ρ (xs.map enc)=.ok (xs.map v):=by
 have:=Xbt (p:=fun _=>true) (c:=Znz) hn (xs:=xs) (enc:=enc) (e:=e) (v:=v) fun x hx=>⟨rfl,fun _=>h x hx⟩
 rw [this,List.filter_eq_self.mpr fun _ _=>rfl]
theorem Xdw {c:FT}{s:FS}{ρ:Env}{n:Nat}(m:Nat)(st:Nat→Env)(h0:st 0=ρ)(hn:m<n)(hs:∀i,i<m→c (st i)=.ok true∧s (st i)=.ok (.nx (st (i+1))))(hd:c (st m)=.ok false):Jx c s n ρ=.ok (.nx (st m)):=by
 have key:∀k i n,k+i=m→k<n→Jx c s n (st i)=.ok (.nx (st m)):=by
  intro k
  induction k with
  | zero =>
   intro i n hi hn
   have e:i=m:=by omega
   subst e
   obtain ⟨n,rfl⟩:∃k,n=k+1:=⟨n - 1,by omega⟩
   simp [Jx,hd]
  | succ k ih =>
   intro i n hi hn
   obtain ⟨n,rfl⟩:∃k,n=k+1:=⟨n - 1,by omega⟩
   obtain ⟨h1,h2⟩:=hs i (by omega)
   simp only [Jx,h1,Zbk,if_true,h2]
   exact ih (i+1) n (by omega) (by omega)
 rw [← h0]
 exact key m 0 n (by omega) hn
theorem Xk {i:Nat}{e:FE}{ρ:Env}{d:D}(h:e ρ=.ok d):Yg i e ρ=.ok (.nx (ρ.set i (some d))):=by rw [Xkl,h];rfl
theorem Zp {a b:FS}{ρ ρ':Env}{r:R Fl}(h:a ρ=.ok (.nx ρ'))(h2:b ρ'=r):Xp a b ρ=r:=by rw [Zow,h];exact h2
theorem Zch {g:D→Option D}{a:FE}{ρ:Env}{x z:D}(ha:a ρ=.ok x)(h:g x=some z):f1 g a ρ=.ok z:=by rw [ev_f1,ha];show oR (g x)=_;rw [h];rfl
theorem Zo {g:D→D→Option D}{a b:FE}{ρ:Env}{x y z:D}(ha:a ρ=.ok x)(hb:b ρ=.ok y)(h:g x y=some z):f2 g a b ρ=.ok z:=by rw [Xlv,ha,hb];show oR (g x y)=_;rw [h];rfl
theorem Yp {g:List D→Option D}{a:FA}{ρ:Env}{xs:List D}{z:D}(ha:a ρ=.ok xs)(h:g xs=some z):fA g a ρ=.ok z:=by rw [Xiv,ha];show oR (g xs)=_;rw [h];rfl
theorem Zc {a:FE}{r:FA}{ρ:Env}{x:D}{xs:List D}(ha:a ρ=.ok x)(hr:r ρ=.ok xs):Zd a r ρ=.ok (x::xs):=by rw [Zls,ha,hr];rfl
theorem Xl {F:List D→R D}{a:FA}{ρ:Env}{xs:List D}{d:D}(ha:a ρ=.ok xs)(h:F xs=.ok d):Xo F a ρ=.ok d:=by rw [Zzt,ha];exact h
theorem Jt {a:FE}{ρ:Env}{b:Bool}(h:a ρ=.ok (.bl b)):cE a ρ=.ok b:=by rw [Xip,h];rfl
theorem Zcr {c:FT}{a b:FS}{ρ:Env}{r:R Fl}(hc:c ρ=.ok true)(h:a ρ=r):sIf c a b ρ=r:=by rw [Xgd,hc];exact h
theorem Jl {c:FT}{a b:FS}{ρ:Env}{r:R Fl}(hc:c ρ=.ok false)(h:b ρ=r):sIf c a b ρ=r:=by rw [Xgd,hc];exact h
theorem Zha {i:Nat}{e:FE}{ρ:Env}{xs:List D}{d:D}(hv:fV i ρ=.ok (.lst xs))(h:e ρ=.ok d)(hl:xs.length<lim):Zhg i e ρ=.ok (.nx (ρ.set i (some (.lst (xs++[d]))))):=by rw [Xku,hv,h];exact if_pos hl
theorem Jr {e:FE}{ρ:Env}{d:D}(h:e ρ=.ok d):Zaq e ρ=.ok (.ret d):=by rw [Xju,h];rfl
theorem Zpz {a:FA}{ρ:Env}{j:Int}(h:a ρ=.ok [.int j])(h1:-1000000000≤j∧j≤1000000):Zgf a ρ=.ok (Zca 0 j.toNat):=by rw [Xbe,h];exact if_pos h1
theorem Zfw {it:FI}{b:FB}{s:FS}{ρ:Env}{xs:List D}{r:R Fl}(h:it ρ=.ok xs)(h2:Zdz b s xs ρ=r):Zjj it b s ρ=r:=by rw [Xhs,h];exact h2
theorem Jq {N:Nat}{q:FS}{ds:List D}{d:D}(h:q (ds.map some++List.replicate (N - ds.length) none)=.ok (.ret d)):(run N q ds).calm=.ok d:=by unfold run;rw [h];rfl
theorem Zqe {a b:Int}(h0:0≤a)(h1:a≤1000000):Zcx (.int a) (.int b)=some (.int (a*b)):=Xgb (.inl ⟨by omega,by omega⟩)
theorem Zfb {a b:FS}{ρ:Env}{d:D}(h:a ρ=.ok (.ret d)):Xp a b ρ=.ok (.ret d):=by rw [Zow,h];rfl
theorem mulR {a b:Int}(h0:0≤b)(h1:b≤1000000):Zcx (.int a) (.int b)=some (.int (a*b)):=Xgb (.inr ⟨by omega,by omega⟩)
theorem Zcm {a:FE}{ρ:Env}{xs:List D}(h:a ρ=.ok (.lst xs))(hl:xs.length≤lim):Zda a ρ=.ok xs:=by rw [Xbw,h];exact if_pos hl
theorem Zxs {i:Nat}{g:D→D→Option D}{e:FE}{ρ:Env}{v d z:D}(hv:fV i ρ=.ok v)(he:e ρ=.ok d)(h:g v d=some z):Zpu i g e ρ=.ok (.nx (ρ.set i (some z))):=by simp [hv,he,h]
theorem Zvb {a b:FT}{ρ:Env}{r:R Bool}(h:a ρ=.ok true)(h2:b ρ=r):Xmf a b ρ=r:=by rw [Zuu,h];exact h2
theorem Xjn {a b:FT}{ρ:Env}(h:a ρ=.ok false):Xmf a b ρ=.ok false:=by rw [Zuu,h];rfl
theorem Zuo {p:Prop}[Decidable p](h:p):some (D.bl (decide p))=some (D.bl true):=congrArg (fun b=>some (D.bl b)) (decide_eq_true h)
theorem Zum {p:Prop}[Decidable p](h:¬p):some (D.bl (decide p))=some (D.bl false):=congrArg (fun b=>some (D.bl b)) (decide_eq_false h)
theorem Xnj {a:FT}{ρ:Env}{b:Bool}(h:a ρ=.ok b):Xln a ρ=.ok (!b):=by rw [Xig,h];rfl
theorem Zrd {a b:FT}{ρ:Env}{r:R Bool}(h:a ρ=.ok false)(h2:b ρ=r):cOr a b ρ=r:=by rw [Xfk,h];exact h2
theorem Xjy {g g':D→D→Option D}{a b c:FE}{ρ:Env}{x y w z:D}(ha:a ρ=.ok x)(hb:b ρ=.ok y)(h1:g x y=some (.bl true))(hc:c ρ=.ok w)(h2:g' y w=some z):Ziw g g' a b c ρ=.ok z:=by
 rw [Zyq,ha]
 show (b ρ).bind _=_
 rw [hb]
 show (oR (g x y)).bind _=_
 rw [h1]
 show (c ρ).bind _=_
 rw [hc]
 show oR (g' y w)=_
 rw [h2]
 rfl
theorem r_asg {e:FE}{b:FB}{ρ ρ':Env}{d:D}(h:e ρ=.ok d)(hb:b d ρ=.ok ρ'):Xmb e b ρ=.ok (.nx ρ'):=by
 unfold Xmb
 rw [h]
 show (b d ρ).calm.bind _=_
 rw [hb]
 rfl
theorem Xeq {a:FA}{ρ:Env}{ds xs:List D}(h:a ρ=.ok ds)(h1:Zjt ds=.ok xs):Zog a ρ=.ok xs:=by rw [Xcg,h];exact h1
theorem Zjo {n k:Nat}{it:FI}{b:FB}{c:FT}{e:FE}{ρ:Env}{xs ys:List D}(hn:ρ.length=n)(h:it ρ=.ok xs)(h1:Zdb k b c e ρ xs=.ok ys):Zcp n k it b c e ρ=.ok (.lst ys):=by
 rw [Xcv,if_pos hn,h]
 show (Zdb k b c e ρ xs).calm.bind _=_
 rw [h1]
 rfl
theorem Xfe {a b:FT}{ρ:Env}(h:a ρ=.ok true):cOr a b ρ=.ok true:=by rw [Xfk,h];rfl
set_option genInjectivity true in
structure Kd where
 name:Str
 w:Int
 wo:Int
 al:Int
noncomputable def kD (k:Kd):D:=.tup [.str k.name,.int k.w,.int k.wo,.int k.al]
noncomputable def iD (ns:List Int):D:=.lst (ns.map D.int)
noncomputable def tD (ks:List Kd):D:=.lst (ks.map kD)
noncomputable def pD (p:Int×Str):D:=.tup [.int p.1,.str p.2]
noncomputable def psD (ps:List (Int×Str)):D:=.lst (ps.map pD)
@[simp] theorem flat_kD (k:Kd):flat (kD k)=true:=rfl
@[simp] theorem flat_pD (k:Int×Str):flat (pD k)=true:=rfl
@[simp] theorem Xdu (k:Kd):Yd (kD k)=some (kD k):=rfl
@[simp] theorem gFlat_pD (k:Int×Str):Yd (pD k)=some (pD k):=rfl
@[simp] theorem Zrn (ks:List Kd):Yj (ks.map kD)=true:=Zfa (fun _=>rfl) ks
@[simp] theorem Xcl (ks:List (Int×Str)):Yj (ks.map pD)=true:=Zfa (fun _=>rfl) ks
@[simp] theorem kD_0 (k:Kd):gIx (kD k) (.int 0)=some (.str k.name):=Zvo (k:=0) rfl rfl
@[simp] theorem Zuk (k:Kd):gIx (kD k) (.int 1)=some (.int k.w):=Zvo (k:=1) rfl rfl
@[simp] theorem Xpl (k:Kd):gIx (kD k) (.int 2)=some (.int k.wo):=Zvo (k:=2) rfl rfl
@[simp] theorem kD_3 (k:Kd):gIx (kD k) (.int 3)=some (.int k.al):=Zvo (k:=3) rfl rfl
noncomputable def pre (ns:List Int)(i:Nat):Int:=(ns.take i).sum
theorem Zoz (ns:List Int)(a b:Nat)(h:a≤b):((ns.drop a).take (b - a)).sum=pre ns b - pre ns a:=by
 unfold pre
 have e:ns.take b=ns.take a++(ns.drop a).take (b - a):=by
  have:=List.take_add (l:=ns) (i:=a) (j:=b - a)
  rw [show a+(b - a)=b by omega] at this
  exact this
 rw [e,List.sum_append]
 omega
noncomputable def good (ns:List Int)(k:Kd)(p:Int):Bool:=decide (0≤p∧p+k.w≤ns.length∧pre ns (p+k.w).toNat - pre ns p.toNat≤k.al)
theorem Zme {ns:List Int}{b e:Int}(h0:0≤b)(h1:b≤e)(h2:e≤ns.length):Zbs [iD ns,.int b,.int e]=.ok (.int (pre ns e.toNat - pre ns b.toNat)):=by
 have a1:¬b<0:=by omega
 have a2:¬(ns.length:Int)<e:=by omega
 have a3:¬e<b:=by omega
 simp [-map_take,-map_drop,Zbs,Zqw,iD,a1,a2,a3,Xet h0 h1 h2,Zoz _ _ _ (show b.toNat≤e.toNat by omega)]
theorem Xkw (ns:List Int)(k:Kd)(p:Int)(hw:1≤k.w):Zkj [iD ns,kD k,.int p]=.ok (.bl (good ns k p)):=by
 have l1:Jy [iD ns]=some (.int ns.length):=by simp [iD]
 by_cases h0:p<0
 ·have e:good ns k p=false:=decide_eq_false (by omega)
  rw [e]
  exact Jq (Zp (Xk (Zo rfl (Zo rfl rfl (Zuk k)) rfl)) (Zfb (Zcr (Xfe (Jt (Zo rfl rfl (Zuo h0)))) (Jr rfl))))
 ·by_cases h1:(ns.length:Int)<p+k.w
  ·have e:good ns k p=false:=decide_eq_false (by omega)
   rw [e]
   exact Jq (Zp (Xk (Zo rfl (Zo rfl rfl (Zuk k)) rfl)) (Zfb (Zcr (Zrd (Jt (Zo rfl rfl (Zum h0))) (Jt (Zo rfl (Yp (Zc rfl rfl) l1) (Zuo h1)))) (Jr rfl))))
  ·have hs:=Zme (ns:=ns) (b:=p) (e:=p+k.w) (by omega) (by omega) (by omega)
   have e:good ns k p=decide (pre ns (p+k.w).toNat - pre ns p.toNat≤k.al):=by
    unfold good
    apply decide_eq_decide.mpr
    constructor
    ·exact fun z=>z.2.2
    ·exact fun z=>⟨by omega,by omega,z⟩
   rw [e]
   exact Jq (Zp (Xk (Zo rfl (Zo rfl rfl (Zuk k)) rfl)) (Zp (Jl (Zrd (Jt (Zo rfl rfl (Zum h0))) (Jt (Zo rfl (Yp (Zc rfl rfl) l1) (Zum h1)))) rfl) (Jr (Zo (Xl (Zc rfl (Zc rfl (Zc rfl rfl))) hs) (Zo rfl rfl (kD_3 k)) rfl))))
theorem Zvs (ns:List Int)(hn:ns.length≤63){i:Int}(h0:0≤i)(h1:i<1000000):∃n:Int,Zad [.scr ns,.int i]=.ok (.int n):=by
 have c:(cE (f2 gLt (fV 1) (fA Jy (Zd (fV 0) Zy)))) [some (.scr ns),some (.int i),none,none]=.ok (decide (i<ns.length)):=Jt (Zo rfl (Yp (Zc rfl rfl) rfl) rfl)
 by_cases h:i<ns.length
 ·have hi:i.toNat<ns.length:=(toNat_lt h0).mpr h
  have e:gIx (.scr ns) (.int i)=some (.int (ns.getD i.toNat 0)):=congrArg (Option.map D.int) (Zpi (k:=i.toNat) (Int.toNat_of_nonneg h0).symm (by simp [List.getD,hi]))
  exact ⟨_,Jq (Zfb (Zcr (c.trans (congrArg Dl.R.ok (decide_eq_true h))) (Jr (Zch (Zo rfl rfl e) rfl))))⟩
 ·have key:∃seed:Int,∃o,Zdz (Xi 3) Zfr ((ns.take 63).map D.int) [some (.scr ns),some (.int i),some (.int 5),none]=.ok (.nx [some (.scr ns),some (.int i),some (.int seed),o]):=by
   refine Zfq (P:=fun _ ρ=>∃seed:Int,∃o,ρ=[some (.scr ns),some (.int i),some (.int seed),o]) (Rr:=fun r=>∃seed:Int,∃o,r=.ok (.nx [some (.scr ns),some (.int i),some (.int seed),o])) ⟨5,none,rfl⟩ ?_ ?_
   ·rintro j x ρ hx ⟨seed,o,rfl⟩
    rw [getElem?_map] at hx
    obtain ⟨y,hy,rfl⟩:=Option.map_eq_some_iff.mp hx
    exact ⟨_,rfl,.inl ⟨_,.inl (Xk (Zo (Zo (Zo (Zo rfl rfl (mulR (by decide) (by decide))) (Zo rfl rfl (Zcw (by decide))) rfl) rfl rfl) rfl (Zcw (by decide)))),_,_,rfl⟩⟩
   ·rintro ρ ⟨seed,o,rfl⟩
    exact ⟨seed,o,rfl⟩
  obtain ⟨seed,o,e⟩:=key
  have hc:cut ns none (some 63)=ns.take 63:=Xph (by decide)
  have hl:(Zda (fSl gSl (fV 0) Zlx (Zfx (fC (.int 63))))) [some (.scr ns),some (.int i),some (.int 5),none]=.ok ((ns.take 63).map D.int):=by
   have hm:min 63 ns.length≤lim:=by show _≤1000000;omega
   simp [-map_take,hc,hm]
  exact ⟨_,Jq (Zp (Jl (c.trans (congrArg Dl.R.ok (decide_eq_false h))) rfl) (Zp (Xk rfl) (Zp (Zfw hl e) (Jr (Zo (Zo rfl (Zo rfl rfl (Zqe (by decide) (by decide))) rfl) rfl (Zcw (by decide)))))))⟩
theorem Xgh (c:Int){k:Int}(h0:0≤k)(h1:k<1000000):∃n:Int,Zba [.int c,.int k]=.ok (.int n):=by
 have n0:0≤c % 2147483629+1013*k+7919:=Int.add_nonneg (Int.add_nonneg (emod_nonneg _ (by decide)) (mul_nonneg (by decide) h0)) (by decide)
 have n1:c % 2147483629+1013*k+7919<2147483629+1013*1000000+7919:=Int.add_lt_add_right (Int.add_lt_add_of_lt_of_le (emod_lt_of_pos _ (by decide)) (Int.mul_le_mul_of_nonneg_left (Int.le_of_lt h1) (by decide))) _
 have b:(c % 2147483629+1013*k+7919).natAbs<2 ^ 64:=Int.ofNat_lt.mp (by rw [Int.natAbs_of_nonneg n0];exact Int.lt_trans n1 (by decide))
 have e1:=Znb (i:=c % 2147483629+1013*k+7919) (j:=3) (by decide) (by decide) b
 exact ⟨_,Jq (Zp (Xk (Zo (Zo (Zo (Zo (Zo rfl rfl (Zcw (by decide))) (Zo rfl rfl (Zqe (by decide) (by decide))) rfl) rfl rfl) rfl e1) rfl (Zcw (by decide)))) (Zp (Xk (Zo (Zo (Zo (Zo rfl rfl (mulR (by decide) (by decide))) (Zo (Zo rfl rfl (Zqe (by decide) (by decide))) rfl (mulR h0 (Int.le_of_lt h1))) rfl) rfl rfl) rfl (Zcw (by decide)))) (Jr (Zo rfl rfl (div_ii (by decide) (by decide))))))⟩
structure Row (ms os:List Int):Prop where
 len:os.length=ms.length
 at_:∀k,k<ms.length→0≤os.getD k 0∧os.getD k 0<ms.getD k 0
theorem Row.nil (ms:List Int):Row (ms.take 0) []:=⟨by simp,fun k hk=>by simp at hk⟩
theorem Row.all {ms os:List Int}(h:Row (ms.take ms.length) os):Row ms os:=by
 rw [List.take_length] at h
 exact h
theorem Row.push {ms os:List Int}{k:Nat}{v:Int}(h:Row (ms.take k) os)(hk:k<ms.length)(h0:0≤v)(h1:v<ms.getD k 0):Row (ms.take (k+1)) (os++[v]):=by
 have hl:=h.len
 rw [length_take] at hl
 have hm:min k ms.length=k:=by omega
 have hm':min (k+1) ms.length=k+1:=by omega
 refine ⟨by rw [length_append,length_take,hm',length_singleton];omega,fun j hj=>?_⟩
 rw [length_take,hm'] at hj
 by_cases e:j=k
 ·subst e
  have e1:(os++[v]).getD j 0=v:=by
   have:os.length=j:=by omega
   simp [List.getD,← this]
  have e2:(ms.take (j+1)).getD j 0=ms.getD j 0:=by simp [List.getD,List.getElem?_take]
  rw [e1,e2]
  exact ⟨h0,h1⟩
 ·have hj':j<k:=by omega
  have q:=h.at_ j (by rw [length_take];omega)
  have e1:(os++[v]).getD j 0=os.getD j 0:=by
   have:j<os.length:=by omega
   simp [List.getD,getElem?_append_left this]
  have e2:(ms.take (k+1)).getD j 0=(ms.take k).getD j 0:=by
   have h1:j<k+1:=by omega
   simp [List.getD,List.getElem?_take,hj',h1]
  rw [e1,e2]
  exact q
theorem Zbo {P:Int→Prop}{ws:List Int}{i:Nat}(h:∀w∈ws,P w)(hi:i<ws.length):P (ws.getD i 0):=by
 have e:ws.getD i 0=ws[i]:=by simp [List.getD,hi]
 rw [e]
 exact h _ (getElem_mem hi)
theorem Xhp (ns:List Int)(hn:ns.length≤63){i:Int}(h0:0≤i)(h1:i<1000)(ms:List Int)(hm:ms.length≤2000)(hms:∀m∈ms,0<m∧m<2 ^ 200):∃os,Yf [.scr ns,.int i,iD ms]=.ok (iD os)∧Row ms os:=by
 obtain ⟨c,hc⟩:=Zvs ns hn h0 (show i<1000000 by omega)
 have key:=Zfq (b:=Xi 6) (s:=Zgh) (xs:=Zca 0 ms.length) (ρ:=[some (.scr ns),some (.int i),some (iD ms),some (.int c),some (.int c),some (.lst []),none,none])
  (P:=fun k ρ=>∃(l:Int) (os:List Int) (o6 o7:Option D),Row (ms.take k) os∧ρ=[some (.scr ns),some (.int i),some (iD ms),some (.int c),some (.int l),some (iD os),o6,o7])
  (Rr:=fun r=>∃(l:Int) (os:List Int) (o6 o7:Option D),Row ms os∧r=.ok (.nx [some (.scr ns),some (.int i),some (iD ms),some (.int c),some (.int l),some (iD os),o6,o7]))
  ⟨c,[],none,none,Row.nil ms,rfl⟩ ?_ ?_
 ·obtain ⟨l,os,o6,o7,hr,e⟩:=key
  refine ⟨os,?_,hr⟩
  have b1:-1000000000≤(ms.length:Int)∧(ms.length:Int)≤1000000:=by omega
  have gl:Jy [iD ms]=some (.int ms.length):=by simp [iD]
  exact Jq (Zp (Xk (Xl (Zc rfl (Zc rfl rfl)) hc)) (Zp (Xk (Zch rfl rfl)) (Zp (Xk rfl) (Zp (Zfw (Zpz (Zc (Yp (Zc rfl rfl) gl) rfl) b1) e) (Jr rfl)))))
 ·rintro k x ρ hx ⟨l,os,o6,o7,hr,rfl⟩
  obtain ⟨hk,rfl⟩:=Zll hx
  rw [Int.zero_add]
  have hol:os.length=k:=by have:=hr.len;rw [length_take] at this;omega
  have hlim:(os.map D.int).length<lim:=by rw [length_map];show _<1000000;omega
  have c1:∀o5:Option D,(cE (f2 gLt (fV 3) (f2 Zjw (fC (.int 10)) (fC (.int 18))))) [some (.scr ns),some (.int i),some (iD ms),some (.int c),some (.int l),o5,some (.int k),o7]=.ok (decide (c<1000000000000000000)):=fun _=>Jt (Zo rfl (Zo rfl rfl Zhb) rfl)
  have ap:∀v:Int,iD (os++[v])=.lst (os.map D.int++[.int v]):=fun v=>congrArg D.lst map_append
  have hmk:=Zbo hms hk
  have ix:=Ju (ns:=ms) (i:=(k:Int)) (k:=k) rfl hk
  have md:∀z:Int,Zhf (.int z) (.int (ms.getD k 0))=some (.int (z % ms.getD k 0)):=fun z=>Zcw hmk.1
  have nn:∀z:Int,0≤z % ms.getD k 0∧z % ms.getD k 0<ms.getD k 0:=fun z=>⟨emod_nonneg _ (Int.ne_of_gt hmk.1),emod_lt_of_pos _ hmk.1⟩
  have k0:0≤(k:Int)∧(k:Int)<1000000:=by omega
  obtain ⟨x1,hx1⟩:=Xgh c k0.1 k0.2
  obtain ⟨c2,hc2⟩:=Zvs ns hn (i:=(i+1+k) % 63) (emod_nonneg _ (by decide)) (Int.lt_trans (emod_lt_of_pos _ (by decide)) (by decide))
  obtain ⟨x2,hx2⟩:=Xgh c2 k0.1 k0.2
  refine ⟨_,rfl,.inl ?_⟩
  by_cases a1:c<1000000000000000000
  ·refine ⟨[some (.scr ns),some (.int i),some (iD ms),some (.int c),some (.int l),some (iD (os++[x1 % ms.getD k 0])),some (.int k),o7],.inl ?_,l,_,_,o7,hr.push hk (nn x1).1 (nn x1).2,rfl⟩
   rw [ap]
   exact Zcr ((c1 _).trans (congrArg Dl.R.ok (decide_eq_true a1))) (Zha rfl (Zo (Xl (Zc rfl (Zc rfl rfl)) hx1) (Zo rfl rfl ix) (md x1)) hlim)
  ·by_cases a2:0<l
   ·refine ⟨[some (.scr ns),some (.int i),some (iD ms),some (.int c),some (.int (l / ms.getD k 0)),some (iD (os++[l % ms.getD k 0])),some (.int k),o7],.inl ?_,_,_,_,o7,hr.push hk (nn l).1 (nn l).2,rfl⟩
    rw [ap]
    exact Jl ((c1 _).trans (congrArg Dl.R.ok (decide_eq_false a1))) (Zcr (Jt (Zo rfl rfl (congrArg (fun b=>some (D.bl b)) (decide_eq_true a2)))) (Zp (Zha rfl (Zo rfl (Zo rfl rfl ix) (md l)) hlim) (Xk (Zo rfl (Zo rfl rfl ix) (div_ii hmk.1 hmk.2)))))
   ·refine ⟨[some (.scr ns),some (.int i),some (iD ms),some (.int c),some (.int l),some (iD (os++[x2 % ms.getD k 0])),some (.int k),some (.int c2)],.inl ?_,l,_,_,_,hr.push hk (nn x2).1 (nn x2).2,rfl⟩
    rw [ap]
    exact Jl ((c1 _).trans (congrArg Dl.R.ok (decide_eq_false a1))) (Jl (Jt (Zo rfl rfl (congrArg (fun b=>some (D.bl b)) (decide_eq_false a2)))) (Zp (Xk (Xl (Zc rfl (Zc (Zo (Zo (Zo rfl rfl rfl) rfl rfl) rfl (Zcw (by decide))) rfl)) hc2)) (Zha rfl (Zo (Xl (Zc rfl (Zc rfl rfl)) hx2) (Zo rfl rfl ix) (md x2)) hlim)))
 ·rintro ρ ⟨l,os,o6,o7,hr,rfl⟩
  rw [Zbe] at hr
  exact ⟨l,os,o6,o7,hr.all,rfl⟩
theorem Zrq (ns:List Int)(hn:ns.length≤63){i:Int}(h0:0≤i)(h1:i<1000)(ms:List Int)(hm:ms.length≤1000)(hms:∀m∈ms,0<m∧m<2 ^ 200):∃os,Yf [.scr ns,.int i,iD ms]=.ok (iD os)∧Row ms os:=Xhp ns hn h0 h1 ms (le_trans hm (by decide)) hms
theorem Zgm (ws:List Int){i:Int}(h0:0≤i)(h1:i<ws.length):gIx (.lst (ws.map D.int)) (.int i)=some (.int (ws.getD i.toNat 0)):=Ju (by omega) (by omega)
theorem Zhz (l:List Int):∀n:Nat,(List.replicate n l).flatten.length=n*l.length
 | 0=>by simp
 | n+1=>by rw [replicate_succ,flatten_cons,length_append,Zhz l n,Nat.succ_mul,add_comm]
theorem Xlw (l:List Int)(n:Nat):(List.replicate n (l.map D.int)).flatten=(List.replicate n l).flatten.map D.int:=by
 rw [List.map_flatten,List.map_replicate]
theorem Zph {ws:List Int}{m:Int}(h0:0≤m)(h1:m≤200)(hl:ws.length≤1000):Zcx (.lst (ws.map D.int)) (.int m)=some (iD (List.replicate m.toNat ws).flatten):=by
  simp only [Zcx]
  rw [if_pos ⟨by omega,by
    rw [length_map]
    show ws.length*m.toNat≤1000000
    have:ws.length*m.toNat≤1000*200:=Nat.mul_le_mul hl (by omega)
    omega,by omega,Zcf ws⟩,Xlw]
  rfl
theorem Zlf {xs ys:List Int}(h:xs.length+ys.length≤1000000):Je (iD xs) (iD ys)=some (iD (xs++ys)):=by
 show (if (xs.map D.int).length+(ys.map D.int).length≤lim∧Yj (xs.map D.int)∧Yj (ys.map D.int) then some (D.lst (xs.map D.int++ys.map D.int)) else none)=_
 rw [if_pos ⟨by rw [length_map,length_map];exact h,Zcf _,Zcf _⟩,← map_append]
 rfl
theorem Zrc (x y:Int):∀(n k:Nat),k<n→(List.replicate n [x,y]).flatten.getD (2*k) 0=x∧(List.replicate n [x,y]).flatten.getD (2*k+1) 0=y
 | 0,k,h=>by omega
 | n+1,0,_=>by simp [replicate_succ,flatten_cons,List.getD]
 | n+1,k+1,h=>by
  have q:=Zrc x y n k (by omega)
  have e1:2*(k+1)=2*k+2:=by omega
  rw [replicate_succ,flatten_cons,e1]
  exact q
theorem Zqv (x y z:Int):∀(n k:Nat),k<n→(List.replicate n [x,y,z]).flatten.getD (3*k) 0=x∧(List.replicate n [x,y,z]).flatten.getD (3*k+1) 0=y∧(List.replicate n [x,y,z]).flatten.getD (3*k+2) 0=z
 | 0,k,h=>by omega
 | n+1,0,_=>by simp [replicate_succ,flatten_cons,List.getD]
 | n+1,k+1,h=>by
  have q:=Zqv x y z n k (by omega)
  have e1:3*(k+1)=3*k+3:=by omega
  rw [replicate_succ,flatten_cons,e1]
  exact q
theorem Zvd {l:List Int}{n:Nat}{z:Int}(h:z∈(List.replicate n l).flatten):z∈l:=by
 obtain ⟨l',hl,hz⟩:=List.mem_flatten.mp h
 rwa [(List.mem_replicate.mp hl).2] at hz
noncomputable def Zbw:List Str:=["a","ab","abc","b","ba","z","zzzzzzzz","roll","cut","by","aab","zz","kind","qsvw","fghjmp","x"]
theorem Xaf:∀j:Nat,j<16→∀k:Nat,k<16→Zbw.getD j ""=Zbw.getD k ""→j=k:=by decide +kernel
noncomputable def nameAt (s4 s5:Int)(k:Nat):Str:=Zbw.getD ((s4+(2*s5+1)*(k:Int)) % 16).toNat ""
theorem Xeg:∀t:Nat,t<4→∀j:Nat,j<8→∀k:Nat,k<8→((2*(t:Int)+1)*j - (2*(t:Int)+1)*k) % 16=0→j=k:=by decide +kernel
theorem Ztl {s4 s5:Int}(h0:0≤s5)(h1:s5<4){j k:Nat}(hj:j<8)(hk:k<8)(e:nameAt s4 s5 j=nameAt s4 s5 k):j=k:=by
 have lt:∀x:Int,(x % 16).toNat<16:=fun x=>(toNat_lt (emod_nonneg x (by decide))).mpr (emod_lt_of_pos x (by decide))
 have q:=congrArg Int.ofNat (Xaf _ (lt _) _ (lt _) e)
 have q1:(s4+(2*s5+1)*(j:Int)) % 16=(s4+(2*s5+1)*(k:Int)) % 16:=(Int.toNat_of_nonneg (emod_nonneg _ (by decide))).symm.trans (q.trans (Int.toNat_of_nonneg (emod_nonneg _ (by decide))))
 have q2:=Int.emod_eq_emod_iff_emod_sub_eq_zero.mp q1
 rw [Int.add_sub_add_left] at q2
 obtain ⟨t,rfl⟩:=Int.eq_ofNat_of_zero_le h0
 exact Xeg t (Int.ofNat_lt.mp h1) j hj k hk q2
theorem Zui (s4 s5:Int)(k:Nat):nameAt s4 s5 k∈Zbw:=by
 unfold nameAt
 have h:((s4+(2*s5+1)*(k:Int)) % 16).toNat<Zbw.length:=by show _<16;omega
 have e:Zbw.getD ((s4+(2*s5+1)*(k:Int)) % 16).toNat ""=Zbw[((s4+(2*s5+1)*(k:Int)) % 16).toNat]:=by simp [List.getD,h]
 rw [e]
 exact getElem_mem h
structure Zst (k:Kd):Prop where
 nm:k.name∈Zbw
 w1:1≤k.w
 w2:k.w≤200
 o1:1≤k.wo
 o2:k.wo≤1000000000000000000
 a1:0≤k.al
 a2:k.al<1000000000000000000
structure Xcs (ks:List Kd):Prop where
 ok:∀k∈ks,Zst k
 nd:(ks.map (·.name)).Nodup
theorem Xjl {i:Int}(h0:0≤i)(h1:i<16):gIx (.lst (Zbw.map D.str)) (.int i)=some (.str (Zbw.getD i.toNat "")):=Zzr (k:=i.toNat) (by omega) (by
  have h:i.toNat<Zbw.length:=by show _<16;omega
  simp [List.getD,h])
theorem Zos {ms:List Int}(h:∀m∈ms,0<m∧m≤1000000):∀m∈ms,0<m∧m<2 ^ 200:=fun m hm=>⟨(h m hm).1,Int.lt_of_le_of_lt (h m hm).2 (by decide)⟩
theorem four {x:Int}(h:0≤x∧x<4):x=0∨x=1∨x=2∨x=3:=by
 obtain ⟨n,rfl⟩:=Int.eq_ofNat_of_zero_le h.1
 match n,Int.ofNat_lt.mp h.2 with
 | 0,_=>exact .inl rfl
 | 1,_=>exact .inr (.inl rfl)
 | 2,_=>exact .inr (.inr (.inl rfl))
 | 3,_=>exact .inr (.inr (.inr rfl))
theorem Zsm {x m:Int}(hm:0<m):0≤x % m∧x % m<m:=⟨emod_nonneg _ (Int.ne_of_gt hm),emod_lt_of_pos _ hm⟩
theorem Xbj {d0 d1 d2 o9 o10 o11 o12 o13:Option D}{O:D}{T:List D}{fl gn bw wd am x3 x4 x5 x6 x7 x8:Int}{k:Nat}{nm:Str}
    (j0:gIx O (.int (3*(k:Int)+6))=some (.int x6)) (j1:gIx O (.int (3*(k:Int)+6+1))=some (.int x7)) (j2:gIx O (.int (3*(k:Int)+6+2))=some (.int x8))
    (j3:gIx O (.int 3)=some (.int x3)) (j4:gIx O (.int 4)=some (.int x4)) (j5:gIx O (.int 5)=some (.int x5))
    (ib:gIx (.lst [.int 150,.int 200]) (.int ((k:Int) % 2))=some (.int bw))
    (iw:gIx (.lst [.int 1,.int 2,.int 3,.int 4,.int 5,.int 6,.int 2,.int 3,.int 11,.int 40,.int bw]) (.int x6)=some (.int wd))
    (ia:gIx (.lst [.int 0,.int 0,.int 1,.int 2,.int 3,.int 12]) (.int x8)=some (.int am))
    (iN:gIx (.lst (Zbw.map D.str)) (.int ((x4+(2*x5+1)*(k:Int)) % 16))=some (.str nm))
    (w1:1≤wd∧wd≤200) (c7:0≤x7∧x7<40) (c3:0≤x3∧x3<4) (c5:0≤x5∧x5<4) (m1:0≤am∧am≤12) (sl:T.length<lim) :
    ∃wo:Int,(1≤wo∧wo≤1000)∧Zbz [d0,d1,d2,some (.lst (Zbw.map D.str)),some O,some (.int fl),some (.int gn),some (.lst T),some (.int k),o9,o10,o11,o12,o13] =
      .ok (.nx [d0,d1,d2,some (.lst (Zbw.map D.str)),some O,some (.int fl),some (.int gn),some (.lst (T++[.tup [.str nm,.int wd,.int (min (wo*gn) 1000000000000000000),.int (min (am*fl) 999999999999999999)]])),some (.int k),some (.int (3*(k:Int)+6)),some (.int wd),some (.int wo),some (.int (min (am*fl) 999999999999999999)),some (.str nm)]):=by
  obtain ⟨wo,hb,mid⟩:∃wo:Int,(1≤wo∧wo≤1000)∧∀Q:FS,(Xp (sIf (cE (f2 gEq (f2 gIx (fV 4) (fC (.int 3))) (fC (.int 1)))) (Yg 11 (f2 Je (f2 Zcx (fC (.int 3)) (fV 10)) (f2 Zhf (f2 gIx (fV 4) (f2 Je (fV 9) (fC (.int 1)))) (fC (.int 4))))) sNx)
    (Xp (sIf (cE (f2 gEq (f2 gIx (fV 4) (fC (.int 3))) (fC (.int 2)))) (Yg 11 (f2 Je (fC (.int 1)) (f2 Zhf (f2 gIx (fV 4) (f2 Je (fV 9) (fC (.int 1)))) (fC (.int 3))))) sNx)
    (Xp (sIf (cE (f2 gEq (f2 gIx (fV 4) (fC (.int 3))) (fC (.int 3)))) (Yg 11 (f1 Yd (fV 10))) sNx) Q))) [d0,d1,d2,some (.lst (Zbw.map D.str)),some O,some (.int fl),some (.int gn),some (.lst T),some (.int k),some (.int (3*(k:Int)+6)),some (.int wd),some (.int (1+x7)),o12,o13] =
      Q [d0,d1,d2,some (.lst (Zbw.map D.str)),some O,some (.int fl),some (.int gn),some (.lst T),some (.int k),some (.int (3*(k:Int)+6)),some (.int wd),some (.int wo),o12,o13]:=by
    rcases four c3 with rfl | rfl | rfl | rfl
    · exact ⟨1+x7,⟨Int.le_add_of_nonneg_right c7.1,Int.le_trans (Int.add_le_add_left (Int.le_of_lt c7.2) 1) (by decide)⟩,fun Q=>Zp (Jl (Jt (Zo (Zo rfl rfl j3) rfl rfl)) rfl) (Zp (Jl (Jt (Zo (Zo rfl rfl j3) rfl rfl)) rfl) (Zp (Jl (Jt (Zo (Zo rfl rfl j3) rfl rfl)) rfl) rfl))⟩
    · exact ⟨3*wd+x7 % 4,⟨Int.le_trans (show (1:Int)≤3*1+0 by decide) (Int.add_le_add (Int.mul_le_mul_of_nonneg_left w1.1 (by decide)) (Zsm (by decide)).1),Int.le_trans (Int.add_le_add (Int.mul_le_mul_of_nonneg_left w1.2 (by decide)) (Int.le_of_lt (Zsm (by decide)).2)) (by decide)⟩,fun Q=>Zp (Zcr (Jt (Zo (Zo rfl rfl j3) rfl rfl)) (Xk (Zo (Zo rfl rfl (Zqe (by decide) (by decide))) (Zo (Zo rfl (Zo rfl rfl rfl) j1) rfl (Zcw (by decide))) rfl))) (Zp (Jl (Jt (Zo (Zo rfl rfl j3) rfl rfl)) rfl) (Zp (Jl (Jt (Zo (Zo rfl rfl j3) rfl rfl)) rfl) rfl))⟩
    · exact ⟨1+x7 % 3,⟨Int.le_add_of_nonneg_right (Zsm (by decide)).1,Int.le_trans (Int.add_le_add_left (Int.le_of_lt (Zsm (by decide)).2) 1) (by decide)⟩,fun Q=>Zp (Jl (Jt (Zo (Zo rfl rfl j3) rfl rfl)) rfl) (Zp (Zcr (Jt (Zo (Zo rfl rfl j3) rfl rfl)) (Xk (Zo rfl (Zo (Zo rfl (Zo rfl rfl rfl) j1) rfl (Zcw (by decide))) rfl))) (Zp (Jl (Jt (Zo (Zo rfl rfl j3) rfl rfl)) rfl) rfl))⟩
    · exact ⟨wd,⟨w1.1,Int.le_trans w1.2 (by decide)⟩,fun Q=>Zp (Jl (Jt (Zo (Zo rfl rfl j3) rfl rfl)) rfl) (Zp (Jl (Jt (Zo (Zo rfl rfl j3) rfl rfl)) rfl) (Zp (Zcr (Jt (Zo (Zo rfl rfl j3) rfl rfl)) (Xk (Zch rfl rfl))) rfl))⟩
  exact ⟨wo,hb,Zp (Xk (Zo (Zo rfl rfl (Zqe (by decide) (by decide))) rfl rfl)) (Zp (Xk (Zch (Zo (Yp (Zc rfl (Zc rfl (Zc rfl (Zc rfl (Zc rfl (Zc rfl (Zc rfl (Zc rfl (Zc rfl (Zc rfl (Zc (Zo rfl (Zo rfl rfl (Zcw (by decide))) ib) rfl))))))))))) rfl) (Zo rfl rfl j0) iw) rfl)) (Zp (Xk (Zo rfl (Zo rfl (Zo rfl rfl rfl) j1) rfl)) ((mid _).trans
    (Zp (Xk (Yp (Zc (Zo (Zo rfl (Zo rfl (Zo rfl rfl rfl) j2) ia) rfl (Zqe m1.1 (Int.le_trans m1.2 (by decide)))) (Zc (Zo (Zo rfl rfl Zhb) rfl (show Zbh (.int 1000000000000000000) (.int 1)=some (.int 999999999999999999) from rfl)) rfl)) (Zxd _ _)))
    (Zp (Xk (Zch (Zo rfl (Zo (Zo (Zo rfl rfl j4) (Zo (Zo (Zo rfl (Zo rfl rfl j5) (Zqe (by decide) (by decide))) rfl rfl) rfl (Zqe (Int.add_nonneg (mul_nonneg (by decide) c5.1) (by decide)) (Int.le_trans (Int.add_le_add_right (Int.mul_le_mul_of_nonneg_left (Int.le_of_lt c5.2) (by decide)) 1) (by decide)))) rfl) rfl (Zcw (by decide))) iN) rfl))
    (Zha rfl (Yp (Zc (Zch rfl rfl) (Zc (Zch rfl rfl) (Zc (Yp (Zc (Zo rfl rfl (Zqe (Int.le_trans (by decide) hb.1) (Int.le_trans hb.2 (by decide)))) (Zc (Zo rfl rfl Zhb) rfl)) (Zxd _ _)) (Zc (Zch rfl rfl) rfl)))) rfl) sl))))))⟩
theorem under {x m:Int}{k:Nat}(h:k<x.toNat)(hx:x<m+1):k<m.toNat:=by omega
theorem Xee {P:Int→Prop}{l:List Int}{b:Int}(h:∀z∈l,P z)(hb:P b):∀z∈l++[b],P z:=List.forall_mem_append.mpr ⟨h,fun _ hz=>List.mem_singleton.mp hz▸hb⟩
theorem Xqz {k j m:Nat}(h:k<m)(hj:j<3):3*k+(j+6)<6+m*3:=by omega
theorem Xej (ns:List Int)(hn:ns.length≤63){i m:Int}(h0:0≤i)(h1:i<1000)(m0:0≤m)(m1:m≤8):∃ks,Zai [.scr ns,.int i,.int m]=.ok (tD ks)∧(ks.length:Int)≤m∧Xcs ks:=by
  have m8:m.toNat≤8:=Int.toNat_le.mpr m1
  have m24:6+m.toNat*3≤30:=Nat.add_le_add_left (Nat.mul_le_mul_right 3 m8) 6
  have ms_eq:Je (iD [m+1,4,4,4,16,4]) (iD (List.replicate m.toNat [11,40,6]).flatten)=some (iD ([m+1,4,4,4,16,4]++(List.replicate m.toNat [11,40,6]).flatten)):=Zlf (by
    rw [Zhz]
    exact le_trans m24 (by decide))
  have mr:=Zph (ws:=[11,40,6]) m0 (Int.le_trans m1 (by decide)) (by decide)
  have hml:([m+1,4,4,4,16,4]++(List.replicate m.toNat [(11:Int),40,6]).flatten).length=6+m.toNat*3:=by rw [length_append,Zhz];rfl
  obtain ⟨os,hos,R⟩:=Zrq ns hn h0 h1 ([m+1,4,4,4,16,4]++(List.replicate m.toNat [11,40,6]).flatten) (by rw [hml];exact le_trans m24 (by decide)) (Zos (List.forall_mem_append.mpr ⟨List.forall_mem_cons.mpr ⟨⟨Int.lt_add_one_of_le m0,Int.le_trans (Int.add_le_add_right m1 1) (by decide)⟩,by decide⟩,fun z hz=>(by decide:∀z∈[(11:Int),40,6],0<z∧z≤1000000) z (Zvd hz)⟩))
  have hol:os.length=6+m.toNat*3:=by rw [R.len,hml]
  have hlt:∀{j:Nat},j<6→j<([m+1,4,4,4,16,4]++(List.replicate m.toNat [(11:Int),40,6]).flatten).length:=fun h=>by rw [hml];exact lt_of_lt_of_le h (le_add_right _ _)
  have hlo:∀{j:Nat},j<6→j<os.length:=fun h=>by rw [hol];exact lt_of_lt_of_le h (le_add_right _ _)
  have tri:∀k j:Nat,k<m.toNat→j<3→3*k+(j+6)<6+m.toNat*3:=fun _ _ h hj=>Xqz h hj
  have a0:0≤os.getD 0 0∧os.getD 0 0<m+1:=R.at_ 0 (hlt (by decide))
  have a1:0≤os.getD 1 0∧os.getD 1 0<4:=R.at_ 1 (hlt (by decide))
  have a2:0≤os.getD 2 0∧os.getD 2 0<4:=R.at_ 2 (hlt (by decide))
  have a3:0≤os.getD 3 0∧os.getD 3 0<4:=R.at_ 3 (hlt (by decide))
  have a4:0≤os.getD 4 0∧os.getD 4 0<16:=R.at_ 4 (hlt (by decide))
  have a5:0≤os.getD 5 0∧os.getD 5 0<4:=R.at_ 5 (hlt (by decide))
  have b3:∀k:Nat,k<m.toNat→(0≤os.getD (3*k+6) 0∧os.getD (3*k+6) 0<11)∧(0≤os.getD (3*k+7) 0∧os.getD (3*k+7) 0<40)∧(0≤os.getD (3*k+8) 0∧os.getD (3*k+8) 0<6):=fun k hk=>by
    obtain ⟨g1,g2,g3⟩:=Zqv 11 40 6 m.toNat k hk
    have e:∀j:Nat,([m+1,4,4,4,16,4]++(List.replicate m.toNat [(11:Int),40,6]).flatten).getD (j+6) 0=(List.replicate m.toNat [(11:Int),40,6]).flatten.getD j 0:=fun j=>rfl
    have r1:=R.at_ (3*k+6) (by rw [hml];exact tri k 0 hk (by decide))
    have r2:=R.at_ (3*k+7) (by rw [hml];exact tri k 1 hk (by decide))
    have r3:=R.at_ (3*k+8) (by rw [hml];exact tri k 2 hk (by decide))
    rw [e (3*k),g1] at r1
    rw [show 3*k+7=(3*k+1)+6 from rfl,e (3*k+1),g2] at r2
    rw [show 3*k+8=(3*k+2)+6 from rfl,e (3*k+2),g3] at r3
    exact ⟨r1,r2,r3⟩
  have ix:∀k:Nat,k<os.length→∀j:Int,j=(k:Int)→gIx (.lst (os.map D.int)) (.int j)=some (.int (os.getD k 0)):=fun k hk j e=>Ju e hk
  obtain ⟨fl,hfl⟩:∃fl,fl=([1,1,7,100000000000000000]:List Int).getD (os.getD 1 0).toNat 0:=⟨_,rfl⟩
  obtain ⟨gn,hgn⟩:∃gn,gn=([1,1,1000000,25000000000000000]:List Int).getD (os.getD 2 0).toNat 0:=⟨_,rfl⟩
  have fl1:1≤fl∧fl≤100000000000000000:=by
    rw [hfl]
    exact Zbo (P:=fun z=>1≤z∧z≤100000000000000000) (by decide) (show _<4 from (toNat_lt a1.1).mpr a1.2)
  have gn1:1≤gn∧gn≤25000000000000000:=by
    rw [hgn]
    exact Zbo (P:=fun z=>1≤z∧z≤25000000000000000) (by decide) (show _<4 from (toNat_lt a2.1).mpr a2.2)
  have i1:gIx (.lst [.int 1,.int 1,.int 7,.int 100000000000000000]) (.int (os.getD 1 0))=some (.int fl):=by rw [hfl];exact Zgm [1,1,7,100000000000000000] a1.1 a1.2
  have i2:gIx (.lst [.int 1,.int 1,.int 1000000,.int 25000000000000000]) (.int (os.getD 2 0))=some (.int gn):=by rw [hgn];exact Zgm [1,1,1000000,25000000000000000] a2.1 a2.2
  have key:=Zfq (b:=Xi 8) (s:=Zbz) (xs:=Zca 0 (os.getD 0 0).toNat) (ρ:=[some (.scr ns),some (.int i),some (.int m),some (.lst (Zbw.map D.str)),some (iD os),some (.int fl),some (.int gn),some (.lst []),none,none,none,none,none,none])
    (P:=fun k ρ=>∃(ks:List Kd) (o8 o9 o10 o11 o12 o13:Option D),ks.length=k∧(∀x∈ks,Zst x)∧ks.map (·.name)=(List.range k).map (nameAt (os.getD 4 0) (os.getD 5 0))∧ρ=[some (.scr ns),some (.int i),some (.int m),some (.lst (Zbw.map D.str)),some (iD os),some (.int fl),some (.int gn),some (tD ks),o8,o9,o10,o11,o12,o13])
    (Rr:=fun r=>∃(ks:List Kd) (o8 o9 o10 o11 o12 o13:Option D),ks.length=(os.getD 0 0).toNat∧(∀x∈ks,Zst x)∧ks.map (·.name)=(List.range ks.length).map (nameAt (os.getD 4 0) (os.getD 5 0))∧r=.ok (.nx [some (.scr ns),some (.int i),some (.int m),some (.lst (Zbw.map D.str)),some (iD os),some (.int fl),some (.int gn),some (tD ks),o8,o9,o10,o11,o12,o13]))
    ⟨[],none,none,none,none,none,none,rfl,(fun _ h=>nomatch h),rfl,rfl⟩ ?_ ?_
  · obtain ⟨ks,o8,o9,o10,o11,o12,o13,kl,kok,knm,e⟩:=key
    have k8:ks.length≤8:=by rw [kl];exact Int.toNat_le.mpr (Int.le_trans (Int.lt_add_one_iff.mp a0.2) m1)
    refine ⟨ks,?_,by rw [kl,Int.toNat_of_nonneg a0.1];exact Int.lt_add_one_iff.mp a0.2,kok,?_⟩
    · have b1:-1000000000≤os.getD 0 0∧os.getD 0 0≤1000000:=⟨Int.le_trans (by decide) a0.1,Int.le_trans (Int.lt_add_one_iff.mp a0.2) (Int.le_trans m1 (by decide))⟩
      have hp:Je (.lst [.str ("a":Str),.str ("ab":Str),.str ("abc":Str),.str ("b":Str),.str ("ba":Str),.str ("z":Str),.str ("zzzzzzzz":Str),.str ("roll":Str),.str ("cut":Str),.str ("by":Str)]) (.lst [.str ("aab":Str),.str ("zz":Str),.str ("kind":Str),.str ("qsvw":Str),.str ("fghjmp":Str),.str ("x":Str)])=some (.lst (Zbw.map D.str)):=rfl
      have mr':Zcx (.lst [.int 11,.int 40,.int 6]) (.int m)=_:=mr
      have ms':Je (.lst [.int (m+1),.int 4,.int 4,.int 4,.int 16,.int 4]) (iD (List.replicate m.toNat [11,40,6]).flatten)=_:=ms_eq
      generalize iD ([m+1,4,4,4,16,4]++(List.replicate m.toNat [11,40,6]).flatten)=Mv at hos ms'
      generalize iD (List.replicate m.toNat [11,40,6]).flatten=Mw at mr' ms'
      exact Jq (Zp (Xk rfl) (Zp (Xk (Zo rfl rfl hp)) (Zp (Xk (Xl (Zc rfl (Zc rfl (Zc (Zo (Yp (Zc (Zo rfl rfl rfl) rfl) rfl) (Zo rfl rfl mr') ms') rfl))) hos))
        (Zp (Xk (Zch (Zo (Yp (Zc rfl (Zc rfl (Zc rfl (Zc (Zo rfl rfl Zrv) rfl)))) rfl) (Zo rfl rfl (ix 1 (hlo (by decide)) 1 rfl)) i1) rfl))
        (Zp (Xk (Zch (Zo (Yp (Zc rfl (Zc rfl (Zc (Zo rfl rfl (show Zjw (.int 10) (.int 6)=some (.int 1000000) by simp)) (Zc (Zo rfl (Zo rfl rfl Xcz) (show Zcx (.int 25) (.int 1000000000000000)=some (.int 25000000000000000) from Zqe (by decide) (by decide))) rfl)))) rfl) (Zo rfl rfl (ix 2 (hlo (by decide)) 2 rfl)) i2) rfl))
        (Zp (Xk rfl) (Zp (Zfw (Zpz (Zc (Zo rfl rfl (ix 0 (hlo (by decide)) 0 rfl)) rfl) b1) e) (Jr rfl))))))))
    · rw [knm,List.nodup_iff_pairwise_ne,pairwise_map]
      refine List.Pairwise.imp_of_mem ?_ (List.nodup_iff_pairwise_ne.mp List.nodup_range)
      intro i j hi hj hij e
      have hi:=List.mem_range.mp hi
      have hj:=List.mem_range.mp hj
      exact hij (Ztl a5.1 a5.2 (lt_of_lt_of_le hi (le_trans k8 (by decide))) (lt_of_lt_of_le hj (le_trans k8 (by decide))) e)
  · rintro k x ρ hx ⟨ks,o8,o9,o10,o11,o12,o13,kl,kok,knm,rfl⟩
    obtain ⟨hk,rfl⟩:=Zll hx
    rw [Int.zero_add]
    have hkm:k<m.toNat:=under hk a0.2
    obtain ⟨c1,c2,c3⟩:=b3 k hkm
    have j0:=ix (3*k+6) (by rw [hol];exact tri k 0 hkm (by decide)) (3*k+6) rfl
    have j1:=ix (3*k+7) (by rw [hol];exact tri k 1 hkm (by decide)) (3*k+6+1) (Int.add_assoc _ 6 1)
    have j2:=ix (3*k+8) (by rw [hol];exact tri k 2 hkm (by decide)) (3*k+6+2) (Int.add_assoc _ 6 2)
    have j3:=ix 3 (hlo (by decide)) 3 rfl
    have j4:=ix 4 (hlo (by decide)) 4 rfl
    have j5:=ix 5 (hlo (by decide)) 5 rfl
    obtain ⟨bw,hbw⟩:∃bw,bw=([150,200]:List Int).getD ((k:Int) % 2).toNat 0:=⟨_,rfl⟩
    have k2:0≤(k:Int) % 2∧(k:Int) % 2<2:=⟨emod_nonneg _ (by decide),emod_lt_of_pos _ (by decide)⟩
    have bw1:1≤bw∧bw≤200:=by
      rw [hbw]
      exact Zbo (P:=fun z=>1≤z∧z≤200) (by decide) (show _<2 from (toNat_lt k2.1).mpr k2.2)
    have ib:gIx (.lst [.int 150,.int 200]) (.int ((k:Int) % 2))=some (.int bw):=by rw [hbw];exact Zgm [150,200] k2.1 k2.2
    obtain ⟨wd,hwd⟩:∃wd,wd=([1,2,3,4,5,6,2,3,11,40,bw]:List Int).getD (os.getD (3*k+6) 0).toNat 0:=⟨_,rfl⟩
    have wd1:1≤wd∧wd≤200:=by
      rw [hwd]
      exact Zbo (P:=fun z=>1≤z∧z≤200) (Xee (l:=[1,2,3,4,5,6,2,3,11,40]) (by decide) bw1) (show _<11 from (toNat_lt c1.1).mpr c1.2)
    have iw:gIx (.lst [.int 1,.int 2,.int 3,.int 4,.int 5,.int 6,.int 2,.int 3,.int 11,.int 40,.int bw]) (.int (os.getD (3*k+6) 0))=some (.int wd):=by rw [hwd];exact Zgm [1,2,3,4,5,6,2,3,11,40,bw] c1.1 c1.2
    obtain ⟨am,ham⟩:∃am,am=([0,0,1,2,3,12]:List Int).getD (os.getD (3*k+8) 0).toNat 0:=⟨_,rfl⟩
    have am1:0≤am∧am≤12:=by
      rw [ham]
      exact Zbo (P:=fun z=>0≤z∧z≤12) (by decide) (show _<6 from (toNat_lt c3.1).mpr c3.2)
    have ia:gIx (.lst [.int 0,.int 0,.int 1,.int 2,.int 3,.int 12]) (.int (os.getD (3*k+8) 0))=some (.int am):=by rw [ham];exact Zgm [0,0,1,2,3,12] c3.1 c3.2
    have iN:=Xjl (i:=(os.getD 4 0+(2*os.getD 5 0+1)*(k:Int)) % 16) (emod_nonneg _ (by decide)) (emod_lt_of_pos _ (by decide))
    have sl:(ks.map kD).length<lim:=by rw [length_map,kl];exact lt_of_lt_of_le hkm (le_trans m8 (by decide))
    obtain ⟨wo,wo1,turn⟩:=Xbj (d0:=some (.scr ns)) (d1:=some (.int i)) (d2:=some (.int m)) (o9:=o9) (o10:=o10) (o11:=o11) (o12:=o12) (o13:=o13) (fl:=fl) (gn:=gn) j0 j1 j2 j3 j4 j5 ib iw ia iN wd1 c2 a3 a5 am1 sl
    have pr:0≤am*fl:=mul_nonneg am1.1 (Int.le_trans (by decide) fl1.1)
    have wg:1≤wo*gn:=Int.mul_le_mul wo1.1 gn1.1 (by decide) (Int.le_trans (by decide) wo1.1)
    have kd:Zst ⟨nameAt (os.getD 4 0) (os.getD 5 0) k,wd,min (wo*gn) 1000000000000000000,min (am*fl) 999999999999999999⟩:=⟨Zui _ _ _,wd1.1,wd1.2,Int.le_min.mpr ⟨wg,by decide⟩,Int.min_le_right _ _,Int.le_min.mpr ⟨pr,by decide⟩,Int.lt_of_le_of_lt (Int.min_le_right _ _) (by decide)⟩
    refine ⟨_,rfl,.inl ⟨[some (.scr ns),some (.int i),some (.int m),some (.lst (Zbw.map D.str)),some (iD os),some (.int fl),some (.int gn),some (tD (ks++[⟨nameAt (os.getD 4 0) (os.getD 5 0) k,wd,min (wo*gn) 1000000000000000000,min (am*fl) 999999999999999999⟩])),some (.int k),some (.int (3*k+6)),some (.int wd),some (.int wo),some (.int (min (am*fl) 999999999999999999)),some (.str (nameAt (os.getD 4 0) (os.getD 5 0) k))],.inl ?_,_,_,_,_,_,_,_,?_,?_,?_,rfl⟩⟩
    · rw [show tD (ks++[⟨nameAt (os.getD 4 0) (os.getD 5 0) k,wd,min (wo*gn) 1000000000000000000,min (am*fl) 999999999999999999⟩])=.lst (ks.map kD++[.tup [.str (nameAt (os.getD 4 0) (os.getD 5 0) k),.int wd,.int (min (wo*gn) 1000000000000000000),.int (min (am*fl) 999999999999999999)]]) from congrArg D.lst map_append]
      exact turn
    · rw [length_append,kl];rfl
    · intro x hx
      rcases List.mem_append.mp hx with h | h
      · exact kok x h
      · rw [List.mem_singleton.mp h];exact kd
    · rw [map_append,knm,range_succ,map_append]
      rfl
  · rintro ρ ⟨ks,o8,o9,o10,o11,o12,o13,kl,kok,knm,rfl⟩
    rw [Zbe] at kl
    exact ⟨ks,o8,o9,o10,o11,o12,o13,kl,kok,by rw [kl];rw [Zbe] at knm;exact knm,rfl⟩
theorem Xlq (ns:List Int)(hn:ns.length≤63){i m:Int}(h0:0≤i)(h1:i<1000)(m0:0≤m)(m1:m≤1000):∃fl:Int,Zbi [.scr ns,.int i,.int m]=.ok (.int fl)∧1≤fl∧fl≤100000000000000000:=by
 obtain ⟨os,hos,R⟩:=Zrq ns hn h0 h1 [m+1,4] (by decide:2≤1000) (Zos (List.forall_mem_cons.mpr ⟨⟨by omega,by omega⟩,by decide⟩))
 have hol:os.length=2:=R.len
 have a1:0≤os.getD 1 0∧os.getD 1 0<4:=R.at_ 1 (by decide:1<2)
 obtain ⟨fl,hfl⟩:∃fl,fl=([1,1,7,100000000000000000]:List Int).getD (os.getD 1 0).toNat 0:=⟨_,rfl⟩
 have fl1:1≤fl∧fl≤100000000000000000:=by
  rw [hfl]
  exact Zbo (P:=fun z=>1≤z∧z≤100000000000000000) (by decide) (show _<4 from (toNat_lt a1.1).mpr a1.2)
 have i1:gIx (.lst [.int 1,.int 1,.int 7,.int 100000000000000000]) (.int (os.getD 1 0))=some (.int fl):=by rw [hfl];exact Zgm [1,1,7,100000000000000000] a1.1 a1.2
 have i0:=Ju (ns:=os) (i:=1) (k:=1) rfl (by rw [hol];decide)
 exact ⟨fl,Jq (Jr (Zch (Zo (Yp (Zc rfl (Zc rfl (Zc rfl (Zc (Zo rfl rfl Zrv) rfl)))) rfl) (Zo (Xl (Zc rfl (Zc rfl (Zc (Yp (Zc (Zo rfl rfl rfl) rfl) rfl) rfl))) hos) rfl i0) i1) rfl)),fl1⟩
theorem Xij (ns:List Int)(hn:ns.length≤63){i m fl:Int}(h0:0≤i)(h1:i<1000)(m0:0≤m)(m1:m≤200)(f0:1≤fl)(f1:fl≤100000000000000000):∃ws,Zbl [.scr ns,.int i,.int m,.int fl]=.ok (iD ws)∧(ws.length:Int)≤m∧∀w∈ws,0≤w∧w≤1000000000000000000:=by
  have ms_eq:Je (iD [m+1,4,3]) (iD (List.replicate m.toNat [8,5]).flatten)=some (iD ([m+1,4,3]++(List.replicate m.toNat [8,5]).flatten)):=Zlf (by
    rw [Zhz]
    show 3+m.toNat*2≤1000000
    omega)
  have mr:=Zph (ws:=[8,5]) m0 (show m≤200 by omega) (by decide)
  have hml:([m+1,4,3]++(List.replicate m.toNat [(8:Int),5]).flatten).length=3+m.toNat*2:=by rw [length_append,Zhz];rfl
  obtain ⟨os,hos,R⟩:=Zrq ns hn h0 h1 ([m+1,4,3]++(List.replicate m.toNat [8,5]).flatten) (by omega) (Zos (List.forall_mem_append.mpr ⟨List.forall_mem_cons.mpr ⟨⟨by omega,by omega⟩,by decide⟩,fun z hz=>(by decide:∀z∈[(8:Int),5],0<z∧z≤1000000) z (Zvd hz)⟩))
  have hol:os.length=3+m.toNat*2:=by rw [R.len,hml]
  have hlt:∀{j:Nat},j<3→j<([m+1,4,3]++(List.replicate m.toNat [(8:Int),5]).flatten).length:=fun h=>by rw [hml];exact lt_of_lt_of_le h (le_add_right _ _)
  have hlo:∀{j:Nat},j<3→j<os.length:=fun h=>by rw [hol];exact lt_of_lt_of_le h (le_add_right _ _)
  have tri:∀k j:Nat,k<m.toNat→j<2→2*k+(j+3)<3+m.toNat*2:=fun k j h hj=>by omega
  have a0:0≤os.getD 0 0∧os.getD 0 0<m+1:=R.at_ 0 (hlt (by decide))
  have a1:0≤os.getD 1 0∧os.getD 1 0<4:=R.at_ 1 (hlt (by decide))
  have a2:0≤os.getD 2 0∧os.getD 2 0<3:=R.at_ 2 (hlt (by decide))
  have b2:∀k:Nat,k<m.toNat→(0≤os.getD (2*k+3) 0∧os.getD (2*k+3) 0<8)∧(0≤os.getD (2*k+4) 0∧os.getD (2*k+4) 0<5):=fun k hk=>by
    obtain ⟨g1,g2⟩:=Zrc 8 5 m.toNat k hk
    have e:∀j:Nat,([m+1,4,3]++(List.replicate m.toNat [(8:Int),5]).flatten).getD (j+3) 0=(List.replicate m.toNat [(8:Int),5]).flatten.getD j 0:=fun j=>rfl
    have r1:=R.at_ (2*k+3) (by rw [hml];exact tri k 0 hk (by decide))
    have r2:=R.at_ (2*k+4) (by rw [hml];exact tri k 1 hk (by decide))
    rw [e (2*k),g1] at r1
    rw [show 2*k+4=(2*k+1)+3 from rfl,e (2*k+1),g2] at r2
    exact ⟨r1,r2⟩
  have ix:∀k:Nat,k<os.length→∀j:Int,j=(k:Int)→gIx (.lst (os.map D.int)) (.int j)=some (.int (os.getD k 0)):=fun k hk j e=>Ju e hk
  obtain ⟨gr,hgr,gr1⟩:∃gr:Int,gr=(if os.getD 2 0=0 then 1000000000000000000 else 9*fl)∧0≤gr∧gr≤1000000000000000000:=by
    refine ⟨_,rfl,?_⟩
    split
    · exact ⟨by decide,by decide⟩
    · exact ⟨mul_nonneg (by decide) (Int.le_trans (by decide) f0),Int.le_trans (Int.mul_le_mul_of_nonneg_left f1 (by decide)) (by decide)⟩
  obtain ⟨th,hth⟩:∃th,th=([0,1,3,6]:List Int).getD (os.getD 1 0).toNat 0:=⟨_,rfl⟩
  have ith:gIx (.lst [.int 0,.int 1,.int 3,.int 6]) (.int (os.getD 1 0))=some (.int th):=by rw [hth];exact Zgm [0,1,3,6] a1.1 a1.2
  have key:=Zfq (b:=Xi 7) (s:=Zfi) (xs:=Zca 0 (os.getD 0 0).toNat) (ρ:=[some (.scr ns),some (.int i),some (.int m),some (.int fl),some (iD os),some (.int gr),some (.lst []),none,none,none])
    (P:=fun k ρ=>∃(ws:List Int) (o7 o8 o9:Option D),ws.length=k∧(∀x∈ws,0≤x∧x≤1000000000000000000)∧ρ=[some (.scr ns),some (.int i),some (.int m),some (.int fl),some (iD os),some (.int gr),some (iD ws),o7,o8,o9])
    (Rr:=fun r=>∃(ws:List Int) (o7 o8 o9:Option D),ws.length=(os.getD 0 0).toNat∧(∀x∈ws,0≤x∧x≤1000000000000000000)∧r=.ok (.nx [some (.scr ns),some (.int i),some (.int m),some (.int fl),some (iD os),some (.int gr),some (iD ws),o7,o8,o9]))
    ⟨[],none,none,none,rfl,(fun _ h=>nomatch h),rfl⟩ ?_ ?_
  · obtain ⟨ws,o7,o8,o9,wl,wok,e⟩:=key
    refine ⟨ws,?_,by omega,wok⟩
    have b1:-1000000000≤os.getD 0 0∧os.getD 0 0≤1000000:=by omega
    have mr':Zcx (.lst [.int 8,.int 5]) (.int m)=_:=mr
    have ms':Je (.lst [.int (m+1),.int 4,.int 3]) (iD (List.replicate m.toNat [8,5]).flatten)=_:=ms_eq
    generalize iD ([m+1,4,3]++(List.replicate m.toNat [8,5]).flatten)=Mv at hos ms'
    generalize iD (List.replicate m.toNat [8,5]).flatten=Mw at mr' ms'
    have t1:Zcx (.int 9) (.int fl)=some (.int (9*fl)):=Zqe (by decide) (by decide)
    have body:∀Q r,Q [some (.scr ns),some (.int i),some (.int m),some (.int fl),some (iD os),some (.int gr),none,none,none,none]=r→(Xp (Yg 5 (f2 Zcx (fC (.int 9)) (fV 3))) (Xp (sIf (cE (f2 gEq (f2 gIx (fV 4) (fC (.int 2))) (fC (.int 0)))) (Yg 5 (f2 Zjw (fC (.int 10)) (fC (.int 18)))) sNx) Q)) [some (.scr ns),some (.int i),some (.int m),some (.int fl),some (iD os),none,none,none,none,none]=r:=fun Q r h=>by
      have c:∀z:Option D,(cE (f2 gEq (f2 gIx (fV 4) (fC (.int 2))) (fC (.int 0)))) [some (.scr ns),some (.int i),some (.int m),some (.int fl),some (iD os),z,none,none,none,none]=.ok (os.getD 2 0==0):=fun z=>Jt (Zo (Zo rfl rfl (ix 2 (hlo (by decide)) 2 rfl)) rfl rfl)
      by_cases d:os.getD 2 0=0
      · rw [if_pos d] at hgr
        exact Zp (Xk (Zo rfl rfl t1)) (Zp (Zcr ((c _).trans (by rw [d];rfl)) (Xk (Zo rfl rfl Zhb))) (by rw [hgr] at h;exact h))
      · rw [if_neg d] at hgr
        exact Zp (Xk (Zo rfl rfl t1)) (Zp (Jl ((c _).trans (congrArg Dl.R.ok (beq_false_of_ne d))) rfl) (by rw [hgr] at h;exact h))
    exact Jq (Zp (Xk (Xl (Zc rfl (Zc rfl (Zc (Zo (Yp (Zc (Zo rfl rfl rfl) rfl) rfl) (Zo rfl rfl mr') ms') rfl))) hos)) (body _ _ (Zp (Xk rfl) (Zp (Zfw (Zpz (Zc (Zo rfl rfl (ix 0 (hlo (by decide)) 0 rfl)) rfl) b1) e) (Jr rfl)))))
  · rintro k x ρ hx ⟨ws,o7,o8,o9,wl,wok,rfl⟩
    obtain ⟨hk,rfl⟩:=Zll hx
    rw [Int.zero_add]
    have hkm:k<m.toNat:=under hk a0.2
    obtain ⟨c1,c2⟩:=b2 k hkm
    have j0:=ix (2*k+3) (by rw [hol];exact tri k 0 hkm (by decide)) (2*k+3) rfl
    have j1:=ix (2*k+4) (by rw [hol];exact tri k 1 hkm (by decide)) (2*k+3+1) (Int.add_assoc _ 3 1)
    have jj:=ix 1 (hlo (by decide)) 1 rfl
    have sl:ws.length<lim:=by show _<1000000;omega
    obtain ⟨wt,hwt⟩:∃wt,wt=([fl,fl,2*fl,3*fl,gr]:List Int).getD (os.getD (2*k+4) 0).toNat 0:=⟨_,rfl⟩
    have wt1:0≤wt∧wt≤1000000000000000000:=by
      rw [hwt]
      have g:∀n:Int,1≤n→n≤3→0≤n*fl∧n*fl≤1000000000000000000:=fun n n0 n1=>⟨mul_nonneg (Int.le_trans (by decide) n0) (Int.le_trans (by decide) f0),Int.le_trans (Int.mul_le_mul n1 f1 (Int.le_trans (by decide) f0) (by decide)) (by decide)⟩
      have g1:0≤fl∧fl≤1000000000000000000:=⟨Int.le_trans (by decide) f0,Int.le_trans f1 (by decide)⟩
      exact Zbo (P:=fun z=>0≤z∧z≤1000000000000000000) (List.forall_mem_cons.mpr ⟨g1,List.forall_mem_cons.mpr ⟨g1,List.forall_mem_cons.mpr ⟨g 2 (by decide) (by decide),List.forall_mem_cons.mpr ⟨g 3 (by decide) (by decide),List.forall_mem_cons.mpr ⟨gr1,fun _ h=>nomatch h⟩⟩⟩⟩⟩) (show _<5 from (toNat_lt c2.1).mpr c2.2)
    have iw:gIx (.lst [.int fl,.int fl,.int (2*fl),.int (3*fl),.int gr]) (.int (os.getD (2*k+4) 0))=some (.int wt):=by rw [hwt];exact Zgm [fl,fl,2*fl,3*fl,gr] c2.1 c2.2
    have t1:Zcx (.int 2) (.int fl)=some (.int (2*fl)):=Zqe (by decide) (by decide)
    have t2:Zcx (.int 3) (.int fl)=some (.int (3*fl)):=Zqe (by decide) (by decide)
    have t3:Zcx (.int 2) (.int (k:Int))=some (.int (2*k)):=Zqe (by decide) (by decide)
    have c:(cE (f2 gLt (f2 gIx (fV 4) (fV 8)) (f2 gIx (fA Zal (Zd (fC (.int 0)) (Zd (fC (.int 1)) (Zd (fC (.int 3)) (Zd (fC (.int 6)) Zy))))) (f2 gIx (fV 4) (fC (.int 1)))))) [some (.scr ns),some (.int i),some (.int m),some (.int fl),some (iD os),some (.int gr),some (iD ws),some (.int k),some (.int (2*k+3)),some (.int 0)]=.ok (decide (os.getD (2*k+3) 0<th)):=Jt (Zo (Zo rfl rfl j0) (Zo rfl (Zo rfl rfl jj) ith) (by simp))
    have sl':(ws.map D.int).length<lim:=by rw [length_map];exact sl
    have all:∀z:Int,0≤z∧z≤1000000000000000000→∀x∈ws++[z],0≤x∧x≤1000000000000000000:=fun z hz x hx=>by
      rcases List.mem_append.mp hx with h | h
      · exact wok x h
      · rw [List.mem_singleton.mp h];exact hz
    refine ⟨_,rfl,.inl ?_⟩
    by_cases d:os.getD (2*k+3) 0<th
    · refine ⟨[some (.scr ns),some (.int i),some (.int m),some (.int fl),some (iD os),some (.int gr),some (iD (ws++[wt])),some (.int k),some (.int (2*k+3)),some (.int wt)],.inl ?_,_,_,_,_,by rw [length_append,wl];rfl,all wt wt1,rfl⟩
      rw [show iD (ws++[wt])=.lst (ws.map D.int++[.int wt]) from congrArg D.lst map_append]
      exact Zp (Xk (Zo (Zo rfl rfl t3) rfl rfl)) (Zp (Xk rfl) (Zp (Zcr (c.trans (congrArg Dl.R.ok (decide_eq_true d))) (Xk (Zch (Zo (Yp (Zc rfl (Zc rfl (Zc (Zo rfl rfl t1) (Zc (Zo rfl rfl t2) rfl)))) rfl) (Zo rfl (Zo rfl rfl rfl) j1) iw) rfl))) (Zha rfl (Zch rfl rfl) sl')))
    · refine ⟨[some (.scr ns),some (.int i),some (.int m),some (.int fl),some (iD os),some (.int gr),some (iD (ws++[0])),some (.int k),some (.int (2*k+3)),some (.int 0)],.inl ?_,_,_,_,_,by rw [length_append,wl];rfl,all 0 ⟨by decide,by decide⟩,rfl⟩
      rw [show iD (ws++[0])=.lst (ws.map D.int++[.int 0]) from congrArg D.lst map_append]
      exact Zp (Xk (Zo (Zo rfl rfl t3) rfl rfl)) (Zp (Xk rfl) (Zp (Jl (c.trans (congrArg Dl.R.ok (decide_eq_false d))) rfl) (Zha rfl (Zch rfl rfl) sl')))
  · rintro ρ ⟨ws,o7,o8,o9,wl,wok,rfl⟩
    rw [Zbe] at wl
    exact ⟨ws,o7,o8,o9,wl,wok,rfl⟩
theorem Xaq (ns:List Int)(hn:ns.length≤63){i m c:Int}(h0:0≤i)(h1:i<900)(m0:0≤m)(m1:m≤200)(c0:0≤c)(c1:c≤8):∃ws ks,Zak [.scr ns,.int i,.int m,.int c]=.ok (.tup [iD ws,tD ks])∧(ws.length:Int)≤m∧(∀w∈ws,0≤w∧w≤1000000000000000000)∧(ks.length:Int)≤c∧Xcs ks:=by
 obtain ⟨fl,e1,f0,f1⟩:=Xlq ns hn h0 (show i<1000 by omega) c0 (show c≤1000 by omega)
 obtain ⟨ws,e2,w1,w2⟩:=Xij ns hn (i:=i+1) (by omega) (by omega) m0 m1 f0 f1
 obtain ⟨ks,e3,k1,k2⟩:=Xej ns hn h0 (show i<1000 by omega) c0 c1
 exact ⟨ws,ks,Jq (Zp (Xk (Xl (Zc rfl (Zc rfl (Zc rfl rfl))) e1)) (Jr (Yp (Zc (Xl (Zc rfl (Zc (Zo rfl rfl rfl) (Zc rfl (Zc rfl rfl)))) e2) (Zc (Xl (Zc rfl (Zc rfl (Zc rfl rfl))) e3) rfl)) rfl))),w1,w2,k1,k2⟩
end Dl
namespace Dl
noncomputable def S:Nat→(Nat→Int)→Int
 | 0,_=>0
 | n+1,f=>S n f+f n
noncomputable def pth (e:Nat→Nat→Int)(a:Nat):Nat→List Int
 | 0=>[1]
 | d+1=>pth e a d++[S (d+1) fun i=>e (a+i) (a+d+1)*(pth e a d).getD i 0]
noncomputable def W (e:Nat→Nat→Int)(a d:Nat):Int:=(pth e a d).getD d 0
end Dl
namespace Dl
open PySem
theorem Zms (ns:List Int)(ks:List Kd)(e:Int)(hk:ks.length≤1000)(hw:∀k∈ks,1≤k.w):Zaf [iD ns,tD ks,.int e]=.ok (tD (ks.filter fun k=>good ns k (e - k.w))):=by
 have hl:ks.length≤lim:=by show _≤1000000;omega
 have hc:=Xbt (n:=3) (ρ:=[some (iD ns),some (tD ks),some (.int e)]) (enc:=kD) (p:=fun k=>good ns k (e - k.w)) (v:=kD) (xs:=ks)
  (c:=cE (Xo Zkj (Zd (fV 0) (Zd (fV 3) (Zd (f2 Zbh (fV 2) (f2 gIx (fV 3) (fC (.int 1)))) Zy))))) (e:=f1 Yd (fV 3)) rfl fun k hk=>by
   constructor
   ·simp [Xkw ns k (e - k.w) (hw k hk)]
   ·intro _;simp
 simp [Zaf,Zqy,tD,hl] at hc ⊢
 simp [hc]
noncomputable def Xlb (ns:List Int)(ks:List Kd)(cs:List Int):Int:=cs.getD (cs.length - 1) 0+((ks.filter fun k=>good ns k ((cs.length:Int) - k.w)).map fun k=>cs.getD ((cs.length:Int) - k.w).toNat 0).sum
noncomputable def cnts (ns:List Int)(ks:List Kd):Nat→List Int
 | 0=>[1]
 | j+1=>cnts ns ks j++[Xlb ns ks (cnts ns ks j)]
noncomputable def cnt (ns:List Int)(ks:List Kd)(j:Nat):Int:=(cnts ns ks j).getD j 0
theorem Zcu {ns:List Int}{k:Kd}{p:Int}(h:good ns k p=true):0≤p∧p+k.w≤ns.length:=by
 have:=of_decide_eq_true h
 exact ⟨this.1,this.2.1⟩
theorem Zlq {ns:List Int}{j:Nat}(h:ns.length=j+1):gIx (.lst (ns.map D.int)) (.int (-1))=some (.int (ns.getD j 0)):=by
 rw [Zqm (by intro z;rw [z] at h;simp at h),h,Nat.add_sub_cancel]
theorem Zli (ns:List Int){i:Nat}(h:i≤ns.length):pre ns.reverse i=pre ns ns.length - pre ns (ns.length - i):=by
 unfold pre
 rw [List.take_reverse,List.sum_reverse,List.take_length]
 have e:=List.take_append_drop (ns.length - i) ns
 have:ns.sum=(ns.take (ns.length - i)).sum+(ns.drop (ns.length - i)).sum:=by rw [← List.sum_append,e]
 omega
theorem Xda {ns:List Int}{k:Kd}{p:Int}(hw:1≤k.w):good ns.reverse k p=good ns k (ns.length - p - k.w):=by
 unfold good
 apply decide_eq_decide.mpr
 rw [length_reverse]
 constructor
 ·rintro ⟨h1,h2,h3⟩
  refine ⟨by omega,by omega,?_⟩
  rw [Zli ns (by omega),Zli ns (by omega)] at h3
  rw [show ns.length - (p+k.w).toNat=((ns.length:Int) - p - k.w).toNat by omega,show ns.length - p.toNat=((ns.length:Int) - p - k.w+k.w).toNat by omega] at h3
  omega
 ·rintro ⟨h1,h2,h3⟩
  refine ⟨by omega,by omega,?_⟩
  rw [Zli ns (by omega),Zli ns (by omega)]
  rw [show ns.length - (p+k.w).toNat=((ns.length:Int) - p - k.w).toNat by omega,show ns.length - p.toNat=((ns.length:Int) - p - k.w+k.w).toNat by omega]
  omega
noncomputable abbrev Cut:=List (Int×Str)×Int
noncomputable def addK (ns:List Int)(rows:List (List Cut))(e:Nat)(k:Kd):List Cut:=if good ns k ((e:Int) - k.w)=true then (rows.getD ((e:Int) - k.w).toNat []).map fun c=>(c.1++[((e:Int) - k.w,k.name)],c.2+k.wo) else []
noncomputable def rowOf (ns:List Int)(ks:List Kd)(rows:List (List Cut)):List Cut:=rows.getD (rows.length - 1) []++(ks.map (addK ns rows rows.length)).flatten
noncomputable def Zgx (ns:List Int)(ks:List Kd):Nat→List (List Cut)
 | 0=>[[([],0)]]
 | j+1=>Zgx ns ks j++[rowOf ns ks (Zgx ns ks j)]
theorem Zhv (ns:List Int)(ks:List Kd):∀j,(Zgx ns ks j).length=j+1
 | 0=>rfl
 | j+1=>by rw [Zgx,length_append,Zhv ns ks j];rfl
noncomputable def Zti (ns:List Int)(ks:List Kd)(j:Nat):List Cut:=(Zgx ns ks j).getD j []
theorem Zqu (ns:List Int)(ks:List Kd):∀(j i:Nat),i≤j→(Zgx ns ks j).getD i []=Zti ns ks i
 | 0,i,h=>by
  have:i=0:=by omega
  subst this
  rfl
 | j+1,i,h=>by
  by_cases e:i=j+1
  ·subst e;rfl
  ·rw [Zgx]
   have hl:=Zhv ns ks j
   have hi:i<(Zgx ns ks j).length:=by omega
   have:∀x:List Cut,(Zgx ns ks j++[x]).getD i []=(Zgx ns ks j).getD i []:=fun x=>by simp [List.getD,getElem?_append_left hi]
   rw [this]
   exact Zqu ns ks j i (by omega)
theorem Zzi (ns:List Int)(ks:List Kd)(hw:∀k∈ks,1≤k.w)(j:Nat):Zti ns ks (j+1)=Zti ns ks j++(ks.map fun k=>if good ns k ((j+1:Nat) - k.w)=true then (Zti ns ks (((j+1:Nat):Int) - k.w).toNat).map fun c=>(c.1++[(((j+1:Nat):Int) - k.w,k.name)],c.2+k.wo) else []).flatten:=by
 have hl:=Zhv ns ks j
 have e:Zti ns ks (j+1)=rowOf ns ks (Zgx ns ks j):=by
  unfold Zti
  rw [Zgx]
  simp [List.getD,← hl]
 rw [e]
 unfold rowOf
 rw [hl,Nat.add_sub_cancel]
 congr 2
 refine map_congr_left fun k hk=>?_
 unfold addK
 split
 ·rename_i hg
  have:=Zcu hg
  have:=hw k hk
  rw [Zqu ns ks j _ (by omega)]
 ·rfl
mutual
theorem Zqs:∀d:D,dep d≤20→eqv d d=true
 | .non,_=>rfl
 | .bl b,_=>beq_self_eq_true b
 | .int b,_=>beq_self_eq_true b
 | .str b,_=>beq_self_eq_true b
 | .lst xs,h=>Zie xs (Nat.le_of_succ_le h)
 | .tup xs,h=>Zie xs (Nat.le_of_succ_le h)
 | .scr _,h=>absurd h (by decide:¬100≤20)
 | .rng _ _,h=>absurd h (by decide:¬100≤20)
 | .exc _ _,h=>absurd h (by decide:¬100≤20)
 | .obj _ _ _,h=>absurd h (by decide:¬100≤20)
 | .dct _ _,h=>absurd h (by decide:¬100≤20)
 | .dtt _ _,h=>absurd h (by decide:¬100≤20)
theorem Zie:∀xs:List D,Zop xs≤20→Xia xs xs=true
 | [],_=>rfl
 | x::xs,h=>by
  have a:dep x≤20∧Zop xs≤20:=Nat.max_le.mp h
  show (eqv x x&&Xia xs xs)=true
  rw [Zqs x a.1,Zie xs a.2]
  rfl
end
theorem Xax {d:D}(h:dep d≤20):gEq d d=some (.bl true):=by
 unfold gEq
 rw [if_pos ⟨h,h⟩,Zqs d h]
theorem Zrh {α:Type}{f:α→D}{n:Nat}(h:∀a,dep (f a)≤n):∀xs:List α,Zop (xs.map f)≤n
 | []=>zero_le _
 | x::xs=>by
  rw [map_cons,Zop]
  have:=h x
  have:=Zrh h xs
  omega
theorem Xqb (ns:List Int):dep (iD ns)≤1:=by
 rw [iD,dep]
 have:=Zrh (f:=D.int) (n:=0) (fun _=>by simp [dep]) ns
 omega
theorem Zgr:∀(r:List Int) (x:Int),x≤r.foldl max x∧∀y∈r,y≤r.foldl max x
 | [],x=>⟨Int.le_refl _,fun _ h=>nomatch h⟩
 | z::r,x=>by
  obtain ⟨h1,h2⟩:=Zgr r (max x z)
  rw [foldl_cons]
  refine ⟨by omega,fun y hy=>?_⟩
  rcases List.mem_cons.mp hy with e | e
  ·subst e;omega
  ·exact h2 y e
theorem Zew:∀(r:List Int) (x:Int),r.foldl max x=x∨r.foldl max x∈r
 | [],x=>.inl rfl
 | z::r,x=>by
  rw [foldl_cons]
  rcases Zew r (max x z) with h | h
  ·rw [h]
   by_cases hz:z≤x
   ·exact .inl (by omega)
   ·refine .inr ?_
    rw [show max x z=z by omega]
    exact .head _
  ·exact .inr (.tail _ h)
theorem Zkv {xs:List Int}{y:Int}(h:y∈xs):y≤Zgj xs:=by
 cases xs with
 | nil=>cases h
 | cons x r =>
  obtain ⟨h1,h2⟩:=Zgr r x
  show y≤r.foldl max x
  rcases List.mem_cons.mp h with e | e
  ·subst e;exact h1
  ·exact h2 y e
theorem Zhd {xs:List Int}(h:xs≠[]):Zgj xs∈xs:=by
 cases xs with
 | nil=>exact absurd rfl h
 | cons x r =>
  show r.foldl max x∈_
  rcases Zew r x with e | e
  ·rw [e];exact .head _
  ·exact .tail _ e
theorem Xho {xs:List Int}{m:Int}(h:m∈xs)(h':∀y∈xs,y≤m):Zgj xs=m:=by
 have a:=Zkv h
 have b:=h' _ (Zhd (xs:=xs) fun e=>by rw [e] at h;cases h)
 omega
noncomputable def Zub (ns:List Int)(ks:List Kd)(ts:List Int):Int:=Zgj (ts.getD (ts.length - 1) 0::(ks.filter fun k=>good ns k ((ts.length:Int) - k.w)).map fun k=>ts.getD ((ts.length:Int) - k.w).toNat 0+k.wo)
noncomputable def hts (ns:List Int)(ks:List Kd):Nat→List Int
 | 0=>[0]
 | j+1=>hts ns ks j++[Zub ns ks (hts ns ks j)]
theorem Zbj (ns:List Int)(ks:List Kd):∀j,(hts ns ks j).length=j+1
 | 0=>rfl
 | j+1=>by rw [hts,length_append,Zbj ns ks j];rfl
noncomputable def ht (ns:List Int)(ks:List Kd)(j:Nat):Int:=(hts ns ks j).getD j 0
theorem Zgp (ns:List Int)(ks:List Kd):∀(j i:Nat),i≤j→(hts ns ks j).getD i 0=ht ns ks i
 | 0,i,h=>by
  have:i=0:=by omega
  subst this
  rfl
 | j+1,i,h=>by
  by_cases e:i=j+1
  ·subst e;rfl
  ·have:=Zbj ns ks j
   rw [← Zgp ns ks j i (by omega),hts]
   simp only [List.getD]
   rw [getElem?_append_left (by omega)]
theorem Xjb (ns:List Int)(ks:List Kd):ht ns ks 0=0:=rfl
theorem Zhl (ns:List Int)(ks:List Kd)(hw:∀k∈ks,1≤k.w)(j:Nat):ht ns ks (j+1)=Zgj (ht ns ks j::(ks.filter fun k=>good ns k ((j+1:Nat) - k.w)).map fun k=>ht ns ks (((j+1:Nat):Int) - k.w).toNat+k.wo):=by
 have hl:=Zbj ns ks j
 have e:ht ns ks (j+1)=Zub ns ks (hts ns ks j):=by
  unfold ht
  rw [hts]
  simp only [List.getD]
  rw [getElem?_append_right (by omega),hl]
  simp
 rw [e,Zub,hl,show j+1 - 1=j by omega,Zgp ns ks j j (le_refl _)]
 congr 2
 refine map_congr_left fun k hk=>?_
 obtain ⟨k1,k2⟩:=List.mem_filter.mp hk
 have:=Zcu k2
 have:=hw k k1
 rw [Zgp ns ks j _ (by omega)]
theorem Xll (ns:List Int)(ks:List Kd)(hw:∀k∈ks,1≤k.w)(j:Nat):ht ns ks j≤ht ns ks (j+1):=by
 rw [Zhl ns ks hw j]
 exact Zkv (.head _)
theorem Xke (ns:List Int)(ks:List Kd)(hw:∀k∈ks,1≤k.w){k:Kd}(hk:k∈ks){p:Int}(hg:good ns k p=true):ht ns ks p.toNat+k.wo≤ht ns ks (p+k.w).toNat:=by
 have bd:=Zcu hg
 have hw1:=hw k hk
 obtain ⟨j,hj⟩:∃j:Nat,p+k.w=((j+1:Nat):Int):=⟨(p+k.w - 1).toNat,by omega⟩
 have hp:p=((j+1:Nat):Int) - k.w:=by omega
 rw [hj,toNat_natCast,Zhl ns ks hw j,hp]
 refine Zkv (.tail _ (List.mem_map.mpr ⟨k,List.mem_filter.mpr ⟨hk,?_⟩,rfl⟩))
 rw [← hp]
 exact hg
theorem Xnk (ns:List Int)(ks:List Kd)(hw:∀k∈ks,1≤k.w)(j:Nat):ht ns ks (j+1)=ht ns ks j∨∃k∈ks,good ns k ((j+1:Nat) - k.w)=true∧ht ns ks (((j+1:Nat):Int) - k.w).toNat+k.wo=ht ns ks (j+1):=by
 have h:=Zhd (xs:=ht ns ks j::(ks.filter fun k=>good ns k ((j+1:Nat) - k.w)).map fun k=>ht ns ks (((j+1:Nat):Int) - k.w).toNat+k.wo) (fun e=>nomatch e)
 rw [← Zhl ns ks hw j] at h
 rcases List.mem_cons.mp h with e | e
 ·exact .inl e
 ·obtain ⟨k,k1,k2⟩:=List.mem_map.mp e
  obtain ⟨k3,k4⟩:=List.mem_filter.mp k1
  exact .inr ⟨k,k3,k4,k2⟩
theorem Zpp (ns:List Int)(ks:List Kd)(ts:List Int){j:Nat}(hl:ts.length=j+1)(hj:j<1000)(hk:ks.length≤1000)(hw:∀k∈ks,1≤k.w):Zcb [iD ns,tD ks,iD ts]=.ok (.int (Zub ns ks ts)):=by
 have he:=Zms ns ks (ts.length:Int) hk hw
 have hc:=Zgt (n:=5) (ρ:=[some (iD ns),some (tD ks),some (iD ts),some (.int ts.length),none]) (enc:=kD) (v:=fun k:Kd=>.int (ts.getD ((ts.length:Int) - k.w).toNat 0+k.wo)) (xs:=ks.filter fun k=>good ns k ((ts.length:Int) - k.w))
  (e:=f2 Je (f2 gIx (fV 2) (f2 Zbh (fV 3) (f2 gIx (fV 5) (fC (.int 1))))) (f2 gIx (fV 5) (fC (.int 2)))) rfl fun k hk=>by
   obtain ⟨k1,k2⟩:=List.mem_filter.mp hk
   have bd:=Zcu k2
   have hw1:=hw k k1
   have ix:=Ju (ns:=ts) (i:=(ts.length:Int) - k.w) (k:=((ts.length:Int) - k.w).toNat) (by omega) (by omega)
   have ix':gIx (iD ts) (.int ((ts.length:Int) - k.w))=_:=ix
   exact Zo (Zo rfl (Zo rfl (Zo rfl rfl (Zuk k)) rfl) ix') (Zo rfl rfl (Xpl k)) rfl
 have hlast:=Zlq (ns:=ts) hl
 have hlast':gIx (iD ts) (.int (-1))=_:=hlast
 have hlen:Jy [iD ts]=some (.int ts.length):=by simp [iD]
 have hf:(ks.filter fun k=>good ns k ((ts.length:Int) - k.w)).length≤ks.length:=length_filter_le _ _
 unfold Zub
 rw [show ts.length - 1=j by omega]
 have hmm:((ks.filter fun k=>good ns k ((ts.length:Int) - k.w)).map fun k:Kd=>D.int (ts.getD ((ts.length:Int) - k.w).toNat 0+k.wo))=((ks.filter fun k=>good ns k ((ts.length:Int) - k.w)).map fun k:Kd=>ts.getD ((ts.length:Int) - k.w).toNat 0+k.wo).map D.int:=by rw [map_map];rfl
 rw [hmm] at hc
 have hML:((ks.filter fun k=>good ns k ((ts.length:Int) - k.w)).map fun k:Kd=>ts.getD ((ts.length:Int) - k.w).toNat 0+k.wo).length≤1000:=by rw [length_map];omega
 have he':Zaf [iD ns,tD ks,.int ts.length]=.ok (.lst ((ks.filter fun k=>good ns k ((ts.length:Int) - k.w)).map kD)):=he
 have hEL':((ks.filter fun k=>good ns k ((ts.length:Int) - k.w)).map kD).length≤lim:=by rw [length_map];show _≤1000000;omega
 have ha:=Zlf (xs:=[ts.getD j 0]) (ys:=(ks.filter fun k=>good ns k ((ts.length:Int) - k.w)).map fun k:Kd=>ts.getD ((ts.length:Int) - k.w).toNat 0+k.wo) (by rw [length_singleton];omega)
 have hmx:=Zkn (ns:=ts.getD j 0::(ks.filter fun k=>good ns k ((ts.length:Int) - k.w)).map fun k:Kd=>ts.getD ((ts.length:Int) - k.w).toNat 0+k.wo) (by simp)
 exact Jq (Zp (Xk (Yp (Zc rfl rfl) hlen)) (Zp (Xk (Zjo rfl (Zcm (Xl (Zc rfl (Zc rfl (Zc rfl rfl))) he') hEL') hc)) (Jr (Yp (Zc (Zo (Yp (Zc (Zo rfl (Zch rfl rfl) hlast') rfl) rfl) rfl ha) rfl) hmx))))
theorem Zcc (ns:List Int)(ks:List Kd)(hn:ns.length≤900)(hk:ks.length≤1000)(hw:∀k∈ks,1≤k.w):Yc [iD ns,tD ks]=.ok (iD (hts ns ks ns.length)):=by
  have h:=Xdw (c:=cE (f2 gLe (fA Jy (Zd (fV 2) Zy)) (fA Jy (Zd (fV 0) Zy)))) (s:=Zib) (n:=100000) (ρ:=[some (iD ns),some (tD ks),some (.lst [.int 0])]) ns.length (fun i=>[some (iD ns),some (tD ks),some (iD (hts ns ks i))]) rfl (by omega) (fun i hi=>by
      have hl:=Zbj ns ks i
      have nt:=Zpp ns ks (hts ns ks i) (j:=i) hl (by omega) hk hw
      have l1:Jy [iD (hts ns ks i)]=some (.int ((i+1:Nat):Int)):=by simp [iD,hl]
      have l2:Jy [iD ns]=some (.int ns.length):=by simp [iD]
      have e1:iD (hts ns ks (i+1))=.lst ((hts ns ks i).map D.int++[.int (Zub ns ks (hts ns ks i))]):=by
        rw [hts,iD,map_append]
        rfl
      refine ⟨?_,?_⟩
      · exact Jt (Zo (Yp (Zc rfl rfl) l1) (Yp (Zc rfl rfl) l2) (Zuo (Int.ofNat_le.mpr hi)))
      · have hlim':((hts ns ks i).map D.int).length<lim:=by rw [length_map,hl];show _<1000000;omega
        rw [e1]
        exact Zha rfl (Xl (Zc rfl (Zc rfl (Zc rfl rfl))) nt) hlim') (by
      have hl:=Zbj ns ks ns.length
      have l1:Jy [iD (hts ns ks ns.length)]=some (.int ((ns.length+1:Nat):Int)):=by simp [iD,hl]
      have l2:Jy [iD ns]=some (.int ns.length):=by simp [iD]
      generalize iD ns=A at *
      generalize iD (hts ns ks ns.length)=T at *
      simp [l1,l2]
      omega)
  generalize iD ns=A at *
  generalize tD ks=B at *
  generalize iD (hts ns ks ns.length)=T at *
  simp [Yc,Zmg,h]
theorem Zzm {c:FT}{s:FS}{P:Nat→Env→Prop}(hs:∀e ρ,P e ρ→(e=0∧c ρ=.ok false)∨(c ρ=.ok true∧∃e' ρ',e'<e∧s ρ=.ok (.nx ρ')∧P e' ρ')):∀(e n:Nat) (ρ:Env),e<n→P e ρ→∃ρ',Jx c s n ρ=.ok (.nx ρ')∧P 0 ρ':=by
 intro e
 induction e using Nat.strongRecOn with
 | _ e ih =>
  intro n ρ hn p
  obtain ⟨n,rfl⟩:∃k,n=k+1:=⟨n - 1,by omega⟩
  rcases hs e ρ p with ⟨e0,h⟩ | ⟨h,e',ρ',he,h2,p'⟩
  ·subst e0
   exact ⟨ρ,by simp [Jx,h],p⟩
  ·obtain ⟨ρ2,q1,q2⟩:=ih e' he n ρ' (by omega) p'
   refine ⟨ρ2,?_,q2⟩
   simp only [Jx,h,Zbk,if_true,h2]
   exact q1
theorem eq_str (a b:Str):gEq (.str a) (.str b)=some (.bl (a==b)):=rfl
theorem eq_int (a b:Int):gEq (.int a) (.int b)=some (.bl (a==b)):=rfl
theorem ne_int (a b:Int):gNe (.int a) (.int b)=some (.bl (!(a==b))):=rfl
theorem Zmo (ns:List Int)(ks:List Kd)(hn:ns.length≤900)(hk:ks.length≤1000)(hw:∀k∈ks,1≤k.w){e:Nat}(he:e+1≤ns.length) :
  (ht ns ks (e+1)=ht ns ks e∧Zac [iD ns,tD ks,iD (hts ns ks ns.length),.int ((e+1:Nat):Int)]=.ok .non)∨
  ∃k∈ks,good ns k ((e+1:Nat) - k.w)=true∧ht ns ks (((e+1:Nat):Int) - k.w).toNat+k.wo=ht ns ks (e+1)∧Zac [iD ns,tD ks,iD (hts ns ks ns.length),.int ((e+1:Nat):Int)]=.ok (kD k):=by
 have hl:=Zbj ns ks ns.length
 have at_:∀(i:Int) (q:Nat),i=q→q≤ns.length→gIx (iD (hts ns ks ns.length)) (.int i)=some (.int (ht ns ks q)):=fun i q h1 h2=>by
  have:=Ju (ns:=hts ns ks ns.length) (i:=i) (k:=q) h1 (by omega)
  rw [Zgp ns ks _ _ h2] at this
  exact this
 have a1:=at_ ((e+1:Nat):Int) (e+1) rfl he
 have a2:=at_ (((e+1:Nat):Int) - 1) e (by omega) (by omega)
 by_cases hh:ht ns ks (e+1)=ht ns ks e
 ·refine .inl ⟨hh,?_⟩
  exact Jq (Zfb (Zcr (Jt (Zo (Zo rfl rfl a1) (Zo rfl (Zo rfl rfl rfl) a2) ((Zld _ _).trans (congrArg (fun b=>some (D.bl b)) (decide_eq_true hh))))) (Jr rfl)))
 ·refine .inr ?_
  have hend:=Zms ns ks ((e+1:Nat):Int) hk hw
  have key:=Zfq (b:=Xi 4) (s:=Zfe) (xs:=(ks.filter fun k=>good ns k (((e+1:Nat):Int) - k.w)).map kD) (ρ:=[some (iD ns),some (tD ks),some (iD (hts ns ks ns.length)),some (.int ((e+1:Nat):Int)),none])
   (P:=fun i ρ=>(∃o,ρ=[some (iD ns),some (tD ks),some (iD (hts ns ks ns.length)),some (.int ((e+1:Nat):Int)),o])∧∀(j:Nat) (k:Kd),j<i→(ks.filter fun k=>good ns k (((e+1:Nat):Int) - k.w))[j]?=some k→ht ns ks (((e+1:Nat):Int) - k.w).toNat+k.wo≠ht ns ks (e+1))
   (Rr:=fun r=>∃k∈ks,good ns k ((e+1:Nat) - k.w)=true∧ht ns ks (((e+1:Nat):Int) - k.w).toNat+k.wo=ht ns ks (e+1)∧r=.ok (.ret (kD k))) ⟨⟨none,rfl⟩,fun _ _ h=>by omega⟩ ?_ ?_
  ·obtain ⟨k,k1,k2,k3,k4⟩:=key
   refine ⟨k,k1,k2,k3,?_⟩
   have hend':Zaf [iD ns,tD ks,.int ((e+1:Nat):Int)]=.ok (.lst ((ks.filter fun k=>good ns k (((e+1:Nat):Int) - k.w)).map kD)):=hend
   have hEL:((ks.filter fun k=>good ns k (((e+1:Nat):Int) - k.w)).map kD).length≤lim:=by
    rw [length_map]
    have:=length_filter_le (fun k:Kd=>good ns k (((e+1:Nat):Int) - k.w)) ks
    show _≤1000000
    omega
   exact Jq (Zp (Jl (Jt (Zo (Zo rfl rfl a1) (Zo rfl (Zo rfl rfl rfl) a2) ((Zld _ _).trans (congrArg (fun b=>some (D.bl b)) (decide_eq_false hh))))) rfl) (Zfb (Zfw (Zcm (Xl (Zc rfl (Zc rfl (Zc rfl rfl))) hend') hEL) k4)))
  ·rintro i x ρ hx ⟨⟨o,rfl⟩,hp⟩
   rw [getElem?_map] at hx
   obtain ⟨k,hk',rfl⟩:=Option.map_eq_some_iff.mp hx
   obtain ⟨k1,k2⟩:=List.mem_filter.mp (mem_of_getElem? hk')
   have bd:=Zcu k2
   have hw1:=hw k k1
   have a3:=at_ (((e+1:Nat):Int) - k.w) (((e+1:Nat):Int) - k.w).toNat (by omega) (by omega)
   refine ⟨_,rfl,?_⟩
   by_cases q:ht ns ks (((e+1:Nat):Int) - k.w).toNat+k.wo=ht ns ks (e+1)
   ·refine .inr (.inl ⟨kD k,?_,k,k1,k2,q,rfl⟩)
    exact Zcr (Jt (Zo (Zo (Zo rfl (Zo rfl (Zo rfl rfl (Zuk k)) rfl) a3) (Zo rfl rfl (Xpl k)) rfl) (Zo rfl rfl a1) ((Zld _ _).trans (congrArg (fun b=>some (D.bl b)) (decide_eq_true q))))) (Jr (Zch rfl (Xdu k)))
   ·refine .inl ⟨[some (iD ns),some (tD ks),some (iD (hts ns ks ns.length)),some (.int ((e+1:Nat):Int)),some (kD k)],.inl ?_,⟨_,rfl⟩,fun j k' hj hk2=>?_⟩
    ·exact Jl (Jt (Zo (Zo (Zo rfl (Zo rfl (Zo rfl rfl (Zuk k)) rfl) a3) (Zo rfl rfl (Xpl k)) rfl) (Zo rfl rfl a1) ((Zld _ _).trans (congrArg (fun b=>some (D.bl b)) (decide_eq_false q))))) rfl
    ·by_cases ej:j=i
     ·subst ej
      rw [hk'] at hk2
      cases hk2
      exact q
     ·exact hp j k' (by omega) hk2
  ·rintro ρ ⟨-,hp⟩
   exfalso
   rcases Xnk ns ks hw e with q | ⟨k,k1,k2,k3⟩
   ·exact hh q
   ·obtain ⟨j,hj,ej⟩:=List.getElem_of_mem (List.mem_filter (p:=fun k:Kd=>good ns k (((e+1:Nat):Int) - k.w)).mpr ⟨k1,k2⟩)
    refine hp j k (by rw [length_map];exact hj) ?_ k3
    rw [getElem?_eq_getElem hj,ej]
theorem Zsj (ns:List Int)(ks:List Kd)(hw:∀k∈ks,1≤k.w)(j:Nat)(c:Cut):c∈Zti ns ks (j+1)↔c∈Zti ns ks j∨∃k∈ks,good ns k ((j+1:Nat) - k.w)=true∧∃c'∈Zti ns ks (((j+1:Nat):Int) - k.w).toNat,c=(c'.1++[(((j+1:Nat):Int) - k.w,k.name)],c'.2+k.wo):=by
 rw [Zzi ns ks hw j,List.mem_append]
 refine or_congr Iff.rfl ?_
 rw [List.mem_flatten]
 constructor
 ·rintro ⟨l,hl,hc⟩
  obtain ⟨k,k1,rfl⟩:=List.mem_map.mp hl
  split at hc
  ·rename_i hg
   obtain ⟨c',c1,rfl⟩:=List.mem_map.mp hc
   exact ⟨k,k1,hg,c',c1,rfl⟩
  ·cases hc
 ·rintro ⟨k,k1,hg,c',c1,rfl⟩
  refine ⟨_,List.mem_map.mpr ⟨k,k1,rfl⟩,?_⟩
  rw [if_pos hg]
  exact List.mem_map.mpr ⟨c',c1,rfl⟩
theorem Xgs (ns:List Int)(ks:List Kd)(hn:ns.length≤900)(hk:ks.length≤1000)(hw:∀k∈ks,1≤k.w):∃ps,Jm [iD ns,tD ks,iD (hts ns ks ns.length),.int ns.length]=.ok (psD ps)∧(ps,ht ns ks ns.length)∈Zti ns ks ns.length:=by
  obtain ⟨ρ',h1,h2⟩:=Zzm (c:=cE (f2 gGt (fV 3) (fC (.int 0)))) (s:=Zcy) (P:=fun e ρ=>e≤ns.length∧∃(ps:List (Int×Str)) (o:Option D),ps.length+e≤ns.length∧ρ=[some (iD ns),some (tD ks),some (iD (hts ns ks ns.length)),some (.int e),some (psD ps),o]∧∀c∈Zti ns ks e,(c.1++ps.reverse,c.2+(ht ns ks ns.length - ht ns ks e))∈Zti ns ks ns.length)
    (fun e ρ p=>by
      obtain ⟨he,ps,o,hps,rfl,hc⟩:=p
      cases e with
      | zero =>
        refine .inl ⟨rfl,?_⟩
        exact Jt (Zo rfl rfl rfl)
      | succ e =>
        refine .inr ⟨?_,?_⟩
        · exact Jt (Zo rfl rfl (congrArg (fun b=>some (D.bl b)) (decide_eq_true (Int.natCast_pos.mpr (Nat.succ_pos e)))))
        · rcases Zmo ns ks hn hk hw he with ⟨q1,q2⟩ | ⟨k,k1,hg,q1,q2⟩
          · refine ⟨e,[some (iD ns),some (tD ks),some (iD (hts ns ks ns.length)),some (.int e),some (psD ps),some .non],by omega,?_,by omega,ps,_,by omega,rfl,fun c c1=>?_⟩
            · have e1:((e+1:Nat):Int) - 1=(e:Int):=by omega
              exact Zp (Xk (Xl (Zc rfl (Zc rfl (Zc rfl (Zc rfl rfl)))) q2)) (Zcr (Jt (Zo rfl rfl rfl)) (Zxs rfl rfl (congrArg (fun z=>some (D.int z)) e1)))
            · have:=hc c ((Zsj ns ks hw e c).mpr (.inl c1))
              rw [q1] at this
              exact this
          · have bd:=Zcu hg
            have hw1:=hw k k1
            obtain ⟨d,hd⟩:∃d:Nat,((e+1:Nat):Int) - k.w=(d:Int):=⟨(((e+1:Nat):Int) - k.w).toNat,by omega⟩
            refine ⟨d,[some (iD ns),some (tD ks),some (iD (hts ns ks ns.length)),some (.int d),some (psD (ps++[((d:Int),k.name)])),some (kD k)],by omega,?_,by omega,_,_,by rw [length_append,length_singleton];omega,rfl,fun c c1=>?_⟩
            · have hlim:(ps.map pD).length<lim:=by rw [length_map];show _<1000000;omega
              rw [show psD (ps++[((d:Int),k.name)])=.lst (ps.map pD++[.tup [.int d,.str k.name]]) from congrArg D.lst map_append]
              exact Zp (Xk (Xl (Zc rfl (Zc rfl (Zc rfl (Zc rfl rfl)))) q2)) (Jl (Jt (Zo rfl rfl rfl)) (Zp (Zxs rfl (Zo rfl rfl (Zuk k)) (congrArg (fun z=>some (D.int z)) hd)) (Zha rfl (Yp (Zc (Zch rfl rfl) (Zc (Zch (Zo rfl rfl (kD_0 k)) rfl) rfl)) rfl) hlim)))
            · have hin:=(Zsj ns ks hw e (c.1++[((d:Int),k.name)],c.2+k.wo)).mpr (.inr ⟨k,k1,hg,c,by rw [hd];exact c1,by rw [hd]⟩)
              have:=hc _ hin
              rw [hd,toNat_natCast] at q1
              rw [List.reverse_append,List.reverse_singleton,← append_assoc]
              have e5:c.2+k.wo+(ht ns ks ns.length - ht ns ks (e+1))=c.2+(ht ns ks ns.length - ht ns ks d):=by omega
              simp only [e5] at this
              exact this) ns.length 100000 [some (iD ns),some (tD ks),some (iD (hts ns ks ns.length)),some (.int ns.length),some (.lst []),none] (by omega) ⟨le_refl _,[],none,by simp,rfl,fun c c1=>by simpa using c1⟩
  obtain ⟨-,ps,o,-,rfl,hc⟩:=h2
  have:=hc ([],0) (.head _)
  rw [Xjb] at this
  refine ⟨ps.reverse,?_,by simpa using this⟩
  have hr:Zhq (.lst (ps.map pD))=some (.lst (ps.map pD).reverse):=if_pos (Xcl ps)
  rw [show psD ps.reverse=.lst (ps.map pD).reverse from congrArg D.lst (map_reverse)]
  exact Jq (Zp (Xk rfl) (Zp h1 (Jr (Zch rfl hr))))
theorem Zyk (ns:List Int)(ks:List Kd)(hn:ns.length≤900)(hk:ks.length≤1000)(hw:∀k∈ks,1≤k.w):∃ps,Zit [iD ns,tD ks]=.ok (.tup [.int (ht ns ks ns.length),psD ps])∧(ps,ht ns ks ns.length)∈Zti ns ks ns.length:=by
 obtain ⟨ps,h1,h2⟩:=Xgs ns ks hn hk hw
 refine ⟨ps,?_,h2⟩
 have hh:=Zcc ns ks hn hk hw
 have hl:=Zbj ns ks ns.length
 have ix:=Zlq (ns:=hts ns ks ns.length) hl
 rw [Zgp ns ks _ _ (le_refl _)] at ix
 have ix':gIx (iD (hts ns ks ns.length)) (.int (-1))=_:=ix
 have l2:Jy [iD ns]=some (.int ns.length):=by simp [iD]
 generalize iD (hts ns ks ns.length)=T at *
 generalize iD ns=A at *
 generalize tD ks=B at *
 simp [Zit,Xfo,hh,ix',l2,h1]
theorem Zur {ns:List Int}{k:Kd}{p:Int}{c:Nat}(h0:1≤k.w)(h:p+k.w≤c)(hc:c≤ns.length):good (ns.take c) k p=good ns k p:=by
 have pt:∀i,i≤c→pre (ns.take c) i=pre ns i:=fun i hi=>by
  unfold pre
  rw [List.take_take,min_eq_left hi]
 unfold good
 apply decide_eq_decide.mpr
 have hl:(ns.take c).length=c:=by rw [length_take];omega
 constructor
 ·rintro ⟨a1,a2,a3⟩
  rw [pt _ (by omega),pt _ (by omega)] at a3
  exact ⟨a1,by omega,a3⟩
 ·rintro ⟨a1,a2,a3⟩
  rw [hl,pt _ (by omega),pt _ (by omega)]
  exact ⟨a1,by omega,a3⟩
theorem Zvw {ns:List Int}{ks:List Kd}(hw:∀k∈ks,1≤k.w){c:Nat}(hc:c≤ns.length):∀j,j≤c→ht (ns.take c) ks j=ht ns ks j:=by
 intro j
 induction j using Nat.strongRecOn with
 | _ j ih =>
  intro hj
  cases j with
  | zero=>rfl
  | succ j =>
   rw [Zhl _ ks hw j,Zhl ns ks hw j,ih j (by omega) (by omega)]
   have e:(ks.filter fun k=>good (ns.take c) k ((j+1:Nat) - k.w))=ks.filter fun k=>good ns k ((j+1:Nat) - k.w):=List.filter_congr fun k hk=>Zur (hw k hk) (by omega) hc
   rw [e]
   congr 2
   refine map_congr_left fun k hk=>?_
   obtain ⟨k1,k2⟩:=List.mem_filter.mp hk
   have:=Zcu k2
   have:=hw k k1
   rw [ih _ (by omega) (by omega)]
inductive Way (ns:List Int)(ks:List Kd):Nat→Nat→Int→Prop where
 | nil (a:Nat):Way ns ks a a 0
 | skip {a b:Nat} {w:Int}:Way ns ks a b w→b+1≤ns.length→Way ns ks a (b+1) w
 | piece {a b:Nat} {w:Int} {k:Kd}:Way ns ks a b w→k∈ks→good ns k (b:Int)=true→Way ns ks a (b+k.w.toNat) (w+k.wo)
section
variable {ns:List Int}{ks:List Kd}
theorem Way.le {a b:Nat}{w:Int}(h:Way ns ks a b w):a≤b:=by
 induction h with
 | nil=>exact le_refl _
 | skip _ _ ih=>omega
 | piece _ _ _ ih=>omega
theorem Way.trans {a b c:Nat}{w v:Int}(h:Way ns ks a b w)(g:Way ns ks b c v):Way ns ks a c (w+v):=by
 induction g with
 | nil=>rw [Int.add_zero];exact h
 | skip _ hb ih=>exact ih.skip hb
 | piece _ hk hg ih =>
  rw [← Int.add_assoc]
  exact ih.piece hk hg
theorem Way.one {a:Nat}(h:a+1≤ns.length):Way ns ks a (a+1) 0:=(Way.nil a).skip h
theorem Way.pc {a:Nat}{k:Kd}(hk:k∈ks)(hg:good ns k (a:Int)=true):Way ns ks a (a+k.w.toNat) k.wo:=by
 have:=(Way.nil (ns:=ns) (ks:=ks) a).piece hk hg
 rwa [Int.zero_add] at this
theorem Way.rev (hw:∀k∈ks,1≤k.w){a b:Nat}{w:Int}(h:Way ns ks a b w):a≤ns.length→Way ns.reverse ks (ns.length - b) (ns.length - a) w:=by
 induction h with
 | nil=>exact fun _=>.nil _
 | @skip b w h hb ih =>
  intro ha
  have i:=ih ha
  have o:=Way.one (ns:=ns.reverse) (ks:=ks) (a:=ns.length - (b+1)) (by rw [length_reverse];omega)
  rw [show ns.length - (b+1)+1=ns.length - b by omega] at o
  have:=o.trans i
  rwa [Int.zero_add] at this
 | @piece b w k h hk hg ih =>
  intro ha
  have i:=ih ha
  have bd:=Zcu hg
  have h1:=hw k hk
  have hg':good ns.reverse k ((ns.length - (b+k.w.toNat):Nat):Int)=true:=by
   rw [Xda h1,show (ns.length:Int) - ((ns.length - (b+k.w.toNat):Nat):Int) - k.w=(b:Int) by omega]
   exact hg
  have o:=Way.pc (ns:=ns.reverse) hk hg'
  rw [show ns.length - (b+k.w.toNat)+k.w.toNat=ns.length - b by omega] at o
  have:=o.trans i
  rwa [Int.add_comm] at this
theorem Zso (hw:∀k∈ks,1≤k.w):∀j,j≤ns.length→Way ns ks 0 j (ht ns ks j):=by
 intro j
 induction j using Nat.strongRecOn with
 | _ j ih =>
  intro hj
  cases j with
  | zero=>exact .nil 0
  | succ j =>
   rcases Xnk ns ks hw j with h | ⟨k,k1,hg,h⟩
   ·rw [h]
    exact (ih j (by omega) (by omega)).skip hj
   ·have bd:=Zcu hg
    have h1:=hw k k1
    obtain ⟨q,hq⟩:∃q:Nat,((j+1:Nat):Int) - k.w=(q:Int):=⟨(((j+1:Nat):Int) - k.w).toNat,by omega⟩
    rw [hq] at hg h
    rw [toNat_natCast] at h
    have:=(ih q (by omega) (by omega)).piece k1 hg
    rw [h,show q+k.w.toNat=j+1 by omega] at this
    exact this
theorem Xdj {w:Int}(h:1≤w)(b:Nat):((b:Int)+w).toNat=b+w.toNat:=by
 obtain ⟨n,rfl⟩:=Int.eq_ofNat_of_zero_le (Int.le_trans (by decide) h)
 rfl
theorem Zsu (hw:∀k∈ks,1≤k.w){j:Nat}{w:Int}(h:Way ns ks 0 j w):w≤ht ns ks j:=by
 generalize ha:(0:Nat)=a at h
 induction h with
 | nil=>subst ha;exact Int.le_refl _
 | @skip b w h hb ih =>
  exact Int.le_trans ih (Xll ns ks hw b)
 | @piece b w k h hk hg ih =>
  have:=Xke ns ks hw hk hg
  rw [toNat_natCast,Xdj (hw k hk)] at this
  exact Int.le_trans (Int.add_le_add_right ih _) this
theorem Xex (hw:∀k∈ks,1≤k.w):ht ns.reverse ks ns.length=ht ns ks ns.length:=by
  have h1:=Zsu hw ((Zso hw ns.length (le_refl _)).rev hw (zero_le _) |> fun (z:Way ns.reverse ks (ns.length - ns.length) (ns.length - 0) _)=>by
    rw [sub_self,sub_zero] at z
    exact z)
  have g:=(Zso (ns:=ns.reverse) hw ns.length (by simp)).rev hw (zero_le _)
  rw [length_reverse,sub_self,sub_zero,List.reverse_reverse] at g
  have h2:=Zsu hw g
  omega
theorem Zre (e:Nat)(i:Nat):pre (ns.drop e) i=pre ns (e+i) - pre ns e:=by
 have:=Zoz ns e (e+i) (le_add_right _ _)
 rw [Nat.add_sub_cancel_left] at this
 exact this
theorem Xdm (a b c:Int):a - c - (b - c)=a - b:=by omega
theorem Zni {k:Kd}{e p:Nat}(h0:1≤k.w)(he:e≤ns.length):good (ns.drop e) k (p:Int)=good ns k ((e+p:Nat):Int):=by
 unfold good
 apply decide_eq_decide.mpr
 obtain ⟨n,hn⟩:=Int.eq_ofNat_of_zero_le (Int.le_trans (by decide) h0)
 have hl:(ns.drop e).length=ns.length - e:=length_drop
 have e1:(((e+p:Nat):Int)+(n:Int)).toNat=e+(p+n):=add_assoc e p n
 have e2:((p:Int)+(n:Int)).toNat=p+n:=rfl
 rw [hl,hn,Zre,Zre,toNat_natCast,toNat_natCast,e1,e2,Xdm]
 have c:((p:Int)+(n:Int)≤((ns.length - e:Nat):Int))↔(((e+p:Nat):Int)+(n:Int)≤(ns.length:Int)):=by
  refine ⟨fun h=>?_,fun h=>?_⟩
  ·have h:p+n≤ns.length - e:=Int.ofNat_le.mp h
   have h:e+p+n≤ns.length:=add_assoc e p n▸Nat.add_le_of_le_sub' he h
   exact Int.ofNat_le.mpr h
  ·have h:e+p+n≤ns.length:=Int.ofNat_le.mp h
   have h:p+n≤ns.length - e:=Nat.le_sub_of_add_le (by rw [add_comm,← add_assoc];exact h)
   exact Int.ofNat_le.mpr h
 exact ⟨fun ⟨_,a2,a3⟩=>⟨Int.natCast_nonneg _,c.mp a2,a3⟩,fun ⟨_,a2,a3⟩=>⟨Int.natCast_nonneg _,c.mpr a2,a3⟩⟩
theorem Way.up (hw:∀k∈ks,1≤k.w){e:Nat}(he:e≤ns.length){a b:Nat}{w:Int}(h:Way (ns.drop e) ks a b w):Way ns ks (e+a) (e+b) w:=by
 induction h with
 | nil=>exact .nil _
 | skip _ hb ih =>
  rw [length_drop] at hb
  exact ih.skip (by omega)
 | piece _ hk hg ih =>
  rw [Zni (hw _ hk) he] at hg
  have:=ih.piece hk hg
  rwa [add_assoc] at this
theorem Way.down (hw:∀k∈ks,1≤k.w){e:Nat}(he:e≤ns.length){a b:Nat}{w:Int}(h:Way ns ks a b w):e≤a→Way (ns.drop e) ks (a - e) (b - e) w:=by
 induction h with
 | nil=>exact fun _=>.nil _
 | @skip b w h hb ih =>
  intro ha
  have hle:=le_trans ha h.le
  have i:=(ih ha).skip (by rw [length_drop,← Nat.sub_add_comm hle];exact Nat.sub_le_sub_right hb e)
  rw [← Nat.sub_add_comm hle] at i
  exact i
 | @piece b w k h hk hg ih =>
  intro ha
  have hle:=le_trans ha h.le
  have i:=(ih ha).piece hk (by rw [Zni (hw k hk) he,Nat.add_sub_of_le hle];exact hg)
  rw [← Nat.sub_add_comm hle] at i
  exact i
theorem Zwd (hw:∀k∈ks,1≤k.w){e:Nat}(he:e≤ns.length):ht ns.reverse ks (ns.length - e)=ht (ns.drop e) ks (ns.length - e):=by
 have g1:=Zso (ns:=ns.drop e) hw (ns.length - e) (by rw [length_drop];omega)
 have g2:=(g1.up hw he).rev hw (by omega)
 rw [show ns.length - (e+(ns.length - e))=0 by omega,Nat.add_zero] at g2
 have h1:=Zsu hw g2
 have g3:=(Zso (ns:=ns.reverse) hw (ns.length - e) (by rw [length_reverse];omega)).rev hw (zero_le _)
 rw [length_reverse,List.reverse_reverse,sub_zero,show ns.length - (ns.length - e)=e by omega] at g3
 have g4:=g3.down hw he (le_refl _)
 rw [sub_self] at g4
 have h2:=Zsu hw g4
 omega
end
noncomputable def V {α:Type}:R α→(α→Prop)→Prop
 | .ok a,Q=>Q a
 | .err _ _,_=>False
 | .bad,_=>False
@[simp] theorem V_ok {α:Type}(a:α)(Q:α→Prop):V (.ok a) Q=Q a:=(rfl)
theorem Zmi {α β:Type}(r:R α)(f:α→R β)(Q:β→Prop):V (r.bind f) Q=V r fun a=>V (f a) Q:=by cases r<;>rfl
theorem V.imp {α:Type}{r:R α}{Q Q':α→Prop}(h:V r Q)(g:∀a,Q a→Q' a):V r Q':=by
 cases r with
 | ok a=>exact g a h
 | err _ _=>exact h
 | bad=>exact h
theorem V.ex {α:Type}{r:R α}{Q:α→Prop}(h:V r Q):∃a,r=.ok a∧Q a:=by
 cases r with
 | ok a=>exact ⟨a,rfl,h⟩
 | err _ _=>exact h.elim
 | bad=>exact h.elim
theorem V.of {α:Type}{r:R α}{a:α}{Q:α→Prop}(e:r=.ok a)(h:Q a):V r Q:=by rw [e];exact h
noncomputable def turn (b:FB)(s:FS)(x:D)(ρ:Env):R Fl:=(b x ρ).calm.bind s
noncomputable def Tn (P:Env→Prop)(Q:Fl→Prop):Fl→Prop
 | .nx ρ=>P ρ
 | .cnt ρ=>P ρ
 | .brk ρ=>Q (.nx ρ)
 | .ret d=>Q (.ret d)
@[simp] theorem Zig (P:Env→Prop)(Q:Fl→Prop)(ρ:Env):Tn P Q (.nx ρ)=P ρ:=(rfl)
@[simp] theorem Tn_cnt (P:Env→Prop)(Q:Fl→Prop)(ρ:Env):Tn P Q (.cnt ρ)=P ρ:=(rfl)
@[simp] theorem Xpn (P:Env→Prop)(Q:Fl→Prop)(ρ:Env):Tn P Q (.brk ρ)=Q (.nx ρ):=(rfl)
@[simp] theorem Xoj (P:Env→Prop)(Q:Fl→Prop)(d:D):Tn P Q (.ret d)=Q (.ret d):=(rfl)
theorem Xcx {b:FB}{s:FS}{Q:Fl→Prop}{P:List D→Env→Prop}(hs:∀x r ρ,P (x::r) ρ→V (turn b s x ρ) (Tn (P r) Q))(hd:∀ρ,P [] ρ→Q (.nx ρ)):∀{xs:List D} {ρ:Env},P xs ρ→V (Zdz b s xs ρ) Q
 | [],ρ,h=>hd ρ h
 | x::xs,ρ,h=>by
  have t:=hs x xs ρ h
  unfold turn at t
  rw [Zmi] at t
  rw [Zfd,Zmi]
  refine t.imp fun ρ1 q=>?_
  rw [Zmi]
  refine q.imp fun fl q=>?_
  cases fl with
  | nx ρ2=>exact Xcx hs hd q
  | cnt ρ2=>exact Xcx hs hd q
  | brk ρ2=>exact q
  | ret d=>exact q
theorem Zqg {α:Type}{enc:α→D}{b:FB}{s:FS}{Q:Fl→Prop}{P:List α→Env→Prop}(hs:∀x r ρ,P (x::r) ρ→V (turn b s (enc x) ρ) (Tn (P r) Q))(hd:∀ρ,P [] ρ→Q (.nx ρ)){xs:List α}{ρ:Env}(h:P xs ρ):V (Zdz b s (xs.map enc) ρ) Q:=by
 refine Xcx (P:=fun ds ρ=>∃ys:List α,ds=ys.map enc∧P ys ρ) (fun x r ρ p=>?_) (fun ρ p=>?_) ⟨xs,rfl,h⟩
 ·obtain ⟨ys,e,p⟩:=p
  cases ys with
  | nil=>cases e
  | cons y ys =>
   rw [map_cons,List.cons.injEq] at e
   obtain ⟨rfl,rfl⟩:=e
   refine (hs y ys ρ p).imp fun fl q=>?_
   cases fl with
   | nx ρ2=>exact ⟨ys,rfl,q⟩
   | cnt ρ2=>exact ⟨ys,rfl,q⟩
   | brk ρ2=>exact q
   | ret d=>exact q
 ·obtain ⟨ys,e,p⟩:=p
  cases ys with
  | nil=>exact hd ρ p
  | cons y ys=>cases e
theorem Xro {b:FB}{s:FS}{Q:Fl→Prop}{P:Nat→Env→Prop}{xs:List D}{ρ:Env}(h0:P 0 ρ)(hs:∀i x ρ,xs[i]?=some x→P i ρ→V (turn b s x ρ) (Tn (P (i+1)) Q))(hd:∀ρ,P xs.length ρ→Q (.nx ρ)):V (Zdz b s xs ρ) Q:=by
 refine Xcx (P:=fun r ρ=>∃i,r=xs.drop i∧i≤xs.length∧P i ρ) (fun x r ρ p=>?_) (fun ρ p=>?_) ⟨0,rfl,zero_le _,h0⟩
 ·obtain ⟨i,e,hi,p⟩:=p
  have hl:i<xs.length:=by
   rcases Nat.lt_or_ge i xs.length with q | q
   ·exact q
   ·rw [List.drop_of_length_le q] at e;cases e
  rw [List.drop_eq_getElem_cons hl,List.cons.injEq] at e
  obtain ⟨rfl,rfl⟩:=e
  refine (hs i _ ρ (getElem?_eq_getElem hl) p).imp fun fl q=>?_
  cases fl with
  | nx ρ2=>exact ⟨i+1,rfl,hl,q⟩
  | cnt ρ2=>exact ⟨i+1,rfl,hl,q⟩
  | brk ρ2=>exact q
  | ret d=>exact q
 ·obtain ⟨i,e,hi,p⟩:=p
  have:i=xs.length:=by
   have:=congrArg List.length e
   rw [length_drop,List.length_nil] at this
   omega
  subst this
  exact hd ρ p
theorem Xjg {b:FB}{s:FS}{Q:Fl→Prop}{P:Nat→Env→Prop}{lo:Int}{n:Nat}{ρ:Env}(h0:P 0 ρ)(hs:∀i ρ,i<n→P i ρ→V (turn b s (.int (lo+i)) ρ) (Tn (P (i+1)) Q))(hd:∀ρ,P n ρ→Q (.nx ρ)):V (Zdz b s (Zca lo n) ρ) Q:=
  Xro h0 (fun i x ρ hx p=>by
    obtain ⟨hi,rfl⟩:=Zll hx
    exact hs i ρ hi p) (fun ρ p=>hd ρ (by rw [Zbe] at p;exact p))
theorem Xgg {b:FB}{s:FS}{Q:Fl→Prop}{P:Nat→Env→Prop}{n:Nat}{ρ:Env}(h0:P 0 ρ)(hs:∀(i:Nat) ρ,i<n→P i ρ→V (turn b s (.int (i:Int)) ρ) (Tn (P (i+1)) Q))(hd:∀ρ,P n ρ→Q (.nx ρ)):V (Zdz b s (Zca 0 n) ρ) Q:=
 Xjg h0 (fun i ρ hi p=>by rw [Int.zero_add];exact hs i ρ hi p) hd
theorem Zuz {c:FT}{s:FS}{Q:Fl→Prop}{P:Nat→Env→Prop}(hs:∀e ρ,P e ρ→V (c ρ) fun b=>if b=true then V (s ρ) (Tn (fun ρ'=>∃e',e'<e∧P e' ρ') Q) else Q (.nx ρ)):∀(e n:Nat) (ρ:Env),e<n→P e ρ→V (Jx c s n ρ) Q:=by
 intro e
 induction e using Nat.strongRecOn with
 | _ e ih =>
  intro n ρ hn p
  obtain ⟨n,rfl⟩:∃k,n=k+1:=⟨n - 1,by omega⟩
  rw [Jx,Zmi]
  refine (hs e ρ p).imp fun b q=>?_
  cases b with
  | false=>exact q
  | true =>
   rw [if_pos rfl,Zmi]
   rw [if_pos rfl] at q
   refine V.imp q fun fl q=>?_
   cases fl with
   | nx ρ2=>obtain ⟨e',he,p'⟩:=q;exact ih e' he n ρ2 (by omega) p'
   | cnt ρ2=>obtain ⟨e',he,p'⟩:=q;exact ih e' he n ρ2 (by omega) p'
   | brk ρ2=>exact q
   | ret d=>exact q
@[simp] theorem Zce (i:Nat)(s:FS)(x:D)(ρ:Env):turn (Xi i) s x ρ=s (ρ.set i (some x)):=(rfl)
theorem Zsn (r:List D→Env→R Env)(s:FS)(ds:List D)(ρ:Env):turn (Ztd r) s (.tup ds) ρ=(r ds ρ).calm.bind s:=(rfl)
@[simp] theorem ev_fJoin (a b:FE)(ρ:Env):fJoin a b ρ=(a ρ).bind fun x=>match x with | .str s=>(b ρ).bind fun y=>oR (Xmr (.str s) y) | _=>.bad:=(rfl)
@[simp] theorem calm_bad {α:Type}:(R.bad:R α).calm=.bad:=(rfl)
@[simp] theorem gLst_7 (a0 a1 a2 a3 a4 a5 a6:D):Zal [a0,a1,a2,a3,a4,a5,a6]=some (.lst [a0,a1,a2,a3,a4,a5,a6]):=rfl
@[simp] theorem gLst_8 (a0 a1 a2 a3 a4 a5 a6 a7:D):Zal [a0,a1,a2,a3,a4,a5,a6,a7]=some (.lst [a0,a1,a2,a3,a4,a5,a6,a7]):=rfl
@[simp] theorem gLst_9 (a0 a1 a2 a3 a4 a5 a6 a7 a8:D):Zal [a0,a1,a2,a3,a4,a5,a6,a7,a8]=some (.lst [a0,a1,a2,a3,a4,a5,a6,a7,a8]):=rfl
theorem add_str {x y:Str}{n m:Nat}(h:plain n x=true)(g:plain m y=true)(e:n+m≤1000):Je (.str x) (.str y)=some (.str (x++y)):=by
 unfold Je
 simp only []
 unfold plain at h g
 rw [Bool.and_eq_true] at h g
 have:=of_decide_eq_true h.1
 have:=of_decide_eq_true g.1
 rw [if_pos (by show _≤1000000;omega)]
noncomputable def eL:Nat→List Int→List D
 | _,[]=>[]
 | k,w::r=>.tup [.int (k:Int),.int w]::eL (k+1) r
noncomputable def rg (k n:Nat):List D:=(List.range' k n).map fun (j:Nat)=>D.int (0+(j:Int))
@[simp] theorem ev_jRevF (a:FE)(ρ:Env):Xcc a ρ=(a ρ).bind fun d=>match d with
 | .lst xs=>if xs.length≤lim then .ok xs.reverse else .bad
 | _=>.bad:=(rfl)
@[simp] theorem Xom (i j:Nat)(g:D→D→Option D)(a:FE)(ρ:Env):Xmv i j g a ρ=(a ρ).bind fun x=>Xnz i j g x ρ:=(rfl)
@[simp] theorem ev_sDrop (e:FE)(ρ:Env):sDrop e ρ=(e ρ).bind fun _=>.ok (.nx ρ):=(rfl)
@[simp] theorem Xob (a b:FE)(ρ:Env):Zss a b ρ=(a ρ).bind fun x=>match x with | .lst ds=>(b ρ).bind fun y=>oR (Zvl (.lst ds) y) | _=>.bad:=(rfl)
noncomputable def rsD (rs:List (List Int)):D:=.lst (rs.map iD)
theorem Xkh {α:Type}{f:α→D}{xs:List α}{n:Nat}(h:xs.length≤n)(hn:n≤1000000:=by omega):(xs.map f).length≤lim:=by
 rw [length_map]
 show _≤1000000
 omega
theorem Zqt (ws:List Int):Jy [iD ws]=some (.int ws.length):=by simp [iD]
theorem Xkt {ws:List Int}{k:Nat}(h:k<ws.length):gIx (iD ws) (.int (k:Int))=some (.int (ws.getD k 0)):=Ju rfl h
theorem Xko {ws:List Int}{v:Int}(h:ws≠[])(e:ws.getD (ws.length - 1) 0=v):gIx (iD ws) (.int (-1))=some (.int v):=by
 have:=Zqm h
 rw [e] at this
 exact this
noncomputable def few (need:Int):List Int→Int→Int→Int
 | [],n,t=>if need≤t then n else n+1
 | x::r,n,t=>if need≤t then n else few need r (n+1) (t+x)
noncomputable def tops (rs:List (List Int))(ks:List Kd):List Int:=rs.map fun r=>ht r ks r.length
section
variable {α:Type}
noncomputable def comb:Option (Int×α)→Option (Int×α)→Option (Int×α)
 | none,o=>o
 | some a,none=>some a
 | some a,some b=>if a.1<b.1 then some b else some a
theorem Znw (o:Option (Int×α)):comb o none=o:=by cases o<;>rfl
theorem Jp (a b:Int×α):comb (some a) (some b)=if a.1<b.1 then some b else some a:=rfl
theorem Ztj (a b c:Option (Int×α)):comb (comb a b) c=comb a (comb b c):=by
 cases a with
 | none=>rfl
 | some a =>
  cases b with
  | none=>rfl
  | some b =>
   cases c with
   | none=>rw [Znw,Znw]
   | some c =>
    rw [Jp,Jp]
    by_cases h1:a.1<b.1<;>by_cases h2:b.1<c.1
    ·rw [if_pos h1,if_pos h2,Jp,Jp,if_pos h2,if_pos (by omega)]
    ·rw [if_pos h1,if_neg h2,Jp,Jp,if_neg h2,if_pos h1]
    ·rw [if_neg h1,if_pos h2,Jp]
    ·rw [if_neg h1,if_neg h2,Jp,Jp,if_neg h1,if_neg (by omega)]
noncomputable def fmx:List (Int×α)→Option (Int×α)
 | []=>none
 | a::l=>comb (some a) (fmx l)
theorem Zjs:∀l r:List (Int×α),fmx (l++r)=comb (fmx l) (fmx r)
 | [],r=>rfl
 | a::l,r=>by rw [List.cons_append,fmx,fmx,Zjs l r,Ztj]
theorem Zuy:∀{l:List (Int×α)} {y:Int×α},fmx l=some y→y∈l
 | a::l,y,h=>by
  rw [fmx] at h
  cases e:fmx l with
  | none =>
   rw [e] at h
   cases h
   exact .head _
  | some b =>
   rw [e,Jp] at h
   split at h
   ·cases h
    exact .tail _ (Zuy e)
   ·cases h
    exact .head _
theorem Xat:∀{l:List (Int×α)},fmx l=none→l=[]
 | [],_=>rfl
 | a::l,h=>by
  rw [fmx] at h
  cases e:fmx l with
  | none=>rw [e] at h;cases h
  | some b =>
   rw [e,Jp] at h
   split at h<;>cases h
noncomputable def mp {β:Type}(w:Int)(g:α→β)(x:Int×α):Int×β:=(w+x.1,g x.2)
theorem Xew {β:Type}(w:Int)(g:α→β):∀l:List (Int×α),fmx (l.map (mp w g))=(fmx l).map (mp w g)
 | []=>rfl
 | a::l=>by
  rw [map_cons,fmx,fmx,Xew w g l]
  cases fmx l with
  | none=>rfl
  | some b =>
   rw [Option.map_some,Jp,Jp]
   by_cases h:a.1<b.1
   ·rw [if_pos h,if_pos (show (mp w g a).1<(mp w g b).1 by unfold mp;simp only;omega)];rfl
   ·rw [if_neg h,if_neg (show ¬(mp w g a).1<(mp w g b).1 by unfold mp;simp only;omega)];rfl
theorem Zry {β:Type}(f:β→List (Int×α)):∀l:List β,fmx (l.flatMap f)=(l.map fun e=>fmx (f e)).foldr comb none
 | []=>rfl
 | a::l=>by rw [List.flatMap_cons,Zjs,Zry f l];rfl
theorem Zkd:∀(l:List (Int×α)),(l.map some).foldr comb none=fmx l
 | []=>rfl
 | a::l=>by rw [map_cons,List.foldr_cons,Zkd l];rfl
theorem Zhu {l:List (Option (Int×α))}(h:∀o∈l,o=none):l.foldr comb none=none:=by
 induction l with
 | nil=>rfl
 | cons a l ih =>
  rw [List.foldr_cons,ih fun o ho=>h o (.tail _ ho),h a (.head _)]
  rfl
theorem Ztw (a:Int){l:List Int}(h:l≠[]):Zgj (a::l)=max a (Zgj l):=by
 refine Xho ?_ fun y hy=>?_
 ·by_cases c:a≤Zgj l
  ·rw [Int.max_eq_right c]
   exact .tail _ (Zhd h)
  ·rw [Int.max_eq_left (by omega)]
   exact .head _
 ·rcases List.mem_cons.mp hy with rfl | hy
  ·omega
  ·have:=Zkv hy
   omega
theorem Zyu:∀(l:List (Int×α)),l≠[]→∃y,fmx l=some y∧y.1=Zgj (l.map (·.1))∧l[(l.map (·.1)).idxOf y.1]?=some y
 | [],h=>absurd rfl h
 | [a],_=>⟨a,rfl,by simp [Zgj],by simp⟩
 | a::b::l,_=>by
  obtain ⟨y,e1,e2,e3⟩:=Zyu (b::l) (by simp)
  rw [fmx,e1,Jp]
  have hm:Zgj ((a::b::l).map (·.1))=max a.1 y.1:=by
   rw [map_cons,Ztw _ (by simp),← e2]
  by_cases h:a.1<y.1
  ·refine ⟨y,if_pos h,by rw [hm];omega,?_⟩
   rw [map_cons,List.idxOf_cons,show (a.1==y.1)=false by simp;omega]
   simpa using e3
  ·refine ⟨a,if_neg h,by rw [hm];omega,?_⟩
   rw [map_cons,List.idxOf_cons_self]
   rfl
variable (W:Nat→Nat→Int)(n:Nat)
noncomputable def fromTo (a c:Nat):List Nat:=(List.range (c - a)).map (a+·)
theorem mem_fromTo {a c x:Nat}:x∈fromTo a c↔a≤x∧x<c:=by
 unfold fromTo
 rw [List.mem_map]
 constructor
 ·rintro ⟨i,hi,rfl⟩
  have:=List.mem_range.mp hi
  omega
 ·rintro ⟨h1,h2⟩
  exact ⟨x - a,List.mem_range.mpr (by omega),by omega⟩
theorem Zmj {a c d:Nat}(h1:a≤c)(h2:c≤d):fromTo a d=fromTo a c++fromTo c d:=by
 unfold fromTo
 rw [show d - a=(c - a)+(d - c) by omega,List.range_add,map_append,map_map]
 congr 1
 refine map_congr_left fun x _=>?_
 show a+(c - a+x)=c+x
 omega
noncomputable def suf:Nat→Nat→List (List Nat)
 | 0,_=>[[]]
 | k+1,b=>(fromTo (b+1) n).flatMap fun e=>(suf k e).map (e::·)
noncomputable def tot:Nat→List Nat→Int
 | b,[]=>W b n
 | b,e::q=>W b e+tot e q
noncomputable def bst (k b:Nat):Option (Int×List Nat):=fmx ((suf n k b).map fun q=>(tot W n b q,q))
theorem Xdd (b:Nat):bst W n 0 b=some (W b n,[]):=rfl
theorem Zsg (k b:Nat):bst W n (k+1) b=((fromTo (b+1) n).map fun e=>(bst W n k e).map (mp (W b e) (e::·))).foldr comb none:=by
 unfold bst
 rw [suf,List.map_flatMap,Zry]
 congr 1
 refine map_congr_left fun e _=>?_
 rw [← Xew,map_map,map_map]
 congr 1
theorem Zqq:∀(k b:Nat),n≤b+k→1≤k→bst W n k b=none
 | 0,_,_,h=>absurd h (by omega)
 | k+1,b,h,_=>by
  rw [Zsg]
  refine Zhu fun o ho=>?_
  obtain ⟨e,he,rfl⟩:=List.mem_map.mp ho
  have:=mem_fromTo.mp he
  rw [Zqq k e (by omega) (by omega)]
  rfl
noncomputable def sm (rest:List Int)(b:Nat):List Int:=(fromTo (b+1) rest.length).map fun e=>W b e+rest.getD e 0
noncomputable def nxt (rest:List Int):List Int:=(List.range (rest.length - 1)).map fun b=>Zgj (sm W rest b)
noncomputable def row:Nat→List Int
 | 0=>(List.range n).map fun b=>W b n
 | k+1=>nxt W (row k)
theorem Zel:∀k,(row W n k).length=n - k
 | 0=>by rw [row,length_map,length_range];rfl
 | k+1=>by rw [row,nxt,length_map,length_range,Zel k];omega
noncomputable def stp (rest:List Int)(b:Nat):Nat:=b+1+(sm W rest b).idxOf (Zgj (sm W rest b))
noncomputable def plc:Nat→Nat→List Nat
 | 0,_=>[]
 | k+1,b=>stp W (row W n k) b::plc k (stp W (row W n k) b)
theorem Zpq:∀(k b:Nat),b+k<n→bst W n k b=some ((row W n k).getD b 0,plc W n k b)
  | 0,b,h=>by
    rw [Xdd,row,plc]
    congr 2
    rw [List.getD_eq_getElem?_getD,getElem?_map,List.getElem?_range (show b<n by omega)]
    rfl
  | k+1,b,h=>by
    have hl:=Zel W n k
    have e1:bst W n (k+1) b=fmx ((fromTo (b+1) (n - k)).map fun e=>(W b e+(row W n k).getD e 0,e::plc W n k e)):=by
      rw [Zsg,Zmj (c:=n - k) (by omega) (by omega),map_append,List.foldr_append,Zhu (l:=(fromTo (n - k) n).map _),← Zkd,map_map]
      · congr 1
        refine map_congr_left fun e he=>?_
        have:=mem_fromTo.mp he
        rw [Zpq k e (by omega)]
        rfl
      · intro o ho
        obtain ⟨e,he,rfl⟩:=List.mem_map.mp ho
        have:=mem_fromTo.mp he
        rw [Zqq W n k e (by omega) (by omega)]
        rfl
    obtain ⟨y,f1,f2,f3⟩:=Zyu ((fromTo (b+1) (n - k)).map fun e=>(W b e+(row W n k).getD e 0,e::plc W n k e)) (by
      intro q
      have:=congrArg List.length q
      rw [length_map,fromTo,length_map,length_range] at this
      simp at this
      omega)
    have e2:((fromTo (b+1) (n - k)).map fun e=>(W b e+(row W n k).getD e 0,e::plc W n k e)).map (·.1)=sm W (row W n k) b:=by
      rw [sm,hl,map_map]
      rfl
    rw [e2] at f2 f3
    rw [e1,f1]
    congr 1
    have g1:(row W n (k+1)).getD b 0=y.1:=by
      rw [f2,row,nxt,List.getD_eq_getElem?_getD,getElem?_map,List.getElem?_range (by rw [hl];omega)]
      rfl
    rw [getElem?_map] at f3
    obtain ⟨e,h1,h2⟩:=Option.map_eq_some_iff.mp f3
    have h3:e=stp W (row W n k) b:=by
      rw [fromTo,getElem?_map] at h1
      obtain ⟨j,h4,h5⟩:=Option.map_eq_some_iff.mp h1
      have:=List.getElem?_eq_some_iff.mp h4
      obtain ⟨_,h6⟩:=this
      rw [List.getElem_range] at h6
      rw [← h5,← h6,stp,f2]
    have h4:y.2=plc W n (k+1) b:=by
      rw [← h2,plc,← h3]
    rw [g1,← h4]
theorem Xfq {k b:Nat}(h:b+(k+1)<n):stp W (row W n k) b+k<n∧b<stp W (row W n k) b∧Zgj (sm W (row W n k) b)∈sm W (row W n k) b:=by
 have hl:=Zel W n k
 have hne:sm W (row W n k) b≠[]:=by
  intro q
  have:=congrArg List.length q
  rw [sm,length_map,fromTo,length_map,length_range,hl] at this
  simp at this
  omega
 have hm:=Zhd hne
 have:=List.idxOf_lt_length_of_mem hm
 have hlen:(sm W (row W n k) b).length=n - k - (b+1):=by rw [sm,length_map,fromTo,length_map,length_range,hl]
 unfold stp
 exact ⟨by omega,by omega,hm⟩
noncomputable def wys:Nat→List (List Nat)
 | 0=>[[0]]
 | j+1=>(wys j).flatMap fun p=>(fromTo (p.getLastD 0+1) n).map (p++[·])
end
noncomputable def hh (ns:List Int)(ks:List Kd)(b:Nat):List Int:=hts (ns.drop b) ks (ns.length - b)
theorem Xfm (ns:List Int)(ks:List Kd)(b:Nat):(hh ns ks b).length=ns.length - b+1:=Zbj _ _ _
noncomputable def ww (ns:List Int)(ks:List Kd)(b e:Nat):Int:=(hh ns ks b).getD (min (e - b) (ns.length - b)) 0
noncomputable def wD (ns:List Int)(ks:List Kd)(N:Nat):D:=.lst ((List.range N).map fun b=>iD (hh ns ks b))
theorem hh_ok (ns:List Int)(ks:List Kd)(hn:ns.length≤900)(hk:ks.length≤1000)(hw:∀k∈ks,1≤k.w)(b:Nat):Yc [iD (ns.drop b),tD ks]=.ok (iD (hh ns ks b)):=by
 have:=Zcc (ns.drop b) ks (by rw [length_drop];omega) hk hw
 rw [length_drop] at this
 exact this
theorem wD_at {ns:List Int}{ks:List Kd}{N b:Nat}(h:b<N):gIx (wD ns ks N) (.int (b:Int))=some (iD (hh ns ks b)):=Zzr (k:=b) rfl (by rw [getElem?_map,List.getElem?_range h];rfl)
theorem hh_at {ns:List Int}{ks:List Kd}{b e:Nat}(h1:b≤e)(h2:e≤ns.length):gIx (iD (hh ns ks b)) (.int ((e:Int) - (b:Int)))=some (.int (ww ns ks b e)):=by
 have:=Xkt (ws:=hh ns ks b) (k:=e - b) (by rw [Xfm];omega)
 rw [show ((e - b:Nat):Int)=(e:Int) - (b:Int) by omega] at this
 rw [this,ww,show min (e - b) (ns.length - b)=e - b by omega]
theorem Xgt {ns:List Int}{ks:List Kd}{b N:Nat}(h:N=max ns.length 1)(hb:b<N):gIx (iD (hh ns ks b)) (.int (-1))=some (.int (ww ns ks b N)):=by
 have hl:=Xfm ns ks b
 refine Xko (by intro q;rw [q] at hl;simp at hl) ?_
 rw [hl,ww]
 congr 1
 omega
theorem Xeo (b c:Nat)(f:Nat→Int):(fromTo b c).map f=(List.range (c - b)).map fun i=>f (b+i):=by
 unfold fromTo
 rw [map_map]
 rfl
section
variable (ns:List Int)(ks:List Kd)(N:Nat)
theorem Zed (rest:List Int)(b:Nat)(hN:N=max ns.length 1)(h900:N≤900)(hb:b<N)(hr:rest.length≤N):Ye [wD ns ks N,iD rest,.int (b:Int)]=.ok (iD (sm (ww ns ks) rest b)):=by
 have lr:=Zqt rest
 have rg:=Zil (i:=(b:Int)+1) (j:=(rest.length:Int)) (n:=rest.length - (b+1)) (by omega) (by omega) (by omega) (by omega) (by omega) (by omega)
 have w1:=wD_at (ns:=ns) (ks:=ks) hb
 have hc:Zdb 1 (Xi 3) Znz (f2 Je (f2 gIx (f2 gIx (fV 0) (fV 2)) (f2 Zbh (fV 3) (fV 2))) (f2 gIx (fV 1) (fV 3))) [some (wD ns ks N),some (iD rest),some (.int (b:Int))] (Zca ((b:Int)+1) (rest.length - (b+1)))=.ok ((sm (ww ns ks) rest b).map D.int):=by
  rw [sm,Xeo,map_map]
  refine Zgt (enc:=fun (i:Nat)=>D.int ((b:Int)+1+(i:Int))) (v:=fun i=>D.int (ww ns ks b (b+1+i)+rest.getD (b+1+i) 0)) rfl fun i hi=>?_
  have hi:=List.mem_range.mp hi
  have j1:=hh_at (ns:=ns) (ks:=ks) (b:=b) (e:=b+1+i) (by omega) (by omega)
  have j2:=Xkt (ws:=rest) (k:=b+1+i) (by omega)
  rw [show ((b+1+i:Nat):Int)=(b:Int)+1+(i:Int) by omega] at j1 j2
  generalize ww ns ks b (b+1+i)=wv at *
  generalize rest.getD (b+1+i) 0=rv at *
  generalize iD (hh ns ks b)=HH at *
  generalize wD ns ks N=WD at *
  generalize iD rest=RR at *
  generalize (b:Int)+1+(i:Int)=ei at *
  generalize (b:Int)=bi at *
  simp [w1,j1,j2]
 have e0:iD (sm (ww ns ks) rest b)=.lst ((sm (ww ns ks) rest b).map D.int):=rfl
 rw [e0]
 generalize (sm (ww ns ks) rest b).map D.int=SS at *
 generalize wD ns ks N=WD at *
 generalize iD rest=RR at *
 generalize (rest.length:Int)=rl at *
 generalize (b:Int)=bi at *
 simp [Ye,Zey,lr,rg,hc]
noncomputable def rwD (K:Nat):List D:=(List.range K).map fun k=>iD (row (ww ns ks) N k)
noncomputable def nD (p:List Nat):D:=iD (p.map fun (x:Nat)=>(x:Int))
theorem Zju (hN:N=max ns.length 1)(h900:N≤900)(RW:D):∀(k b:Nat) (acc:List Nat) (o4 o5:Option D),b+k<N→acc.length+k≤900→∃u3 u4 u5,Zdz (Xi 4) Zas (rwD ns ks N k).reverse [some (wD ns ks N),some RW,some (nD acc),some (.int (b:Int)),o4,o5]=.ok (.nx [some (wD ns ks N),some RW,some (nD (acc++plc (ww ns ks) N k b)),u3,u4,u5])
 | 0,b,acc,o4,o5,_,_=>⟨_,_,_,by rw [plc,append_nil];rfl⟩
 | k+1,b,acc,o4,o5,h,ha=>by
  obtain ⟨s1,s2,s3⟩:=Xfq (ww ns ks) N h
  have hl:=Zel (ww ns ks) N k
  have hs:=Zed ns ks N (row (ww ns ks) N k) b hN h900 (by omega) (by omega)
  obtain ⟨o3,o4',o5',ih⟩:=Zju hN h900 RW k (stp (ww ns ks) (row (ww ns ks) N k) b) (acc++[stp (ww ns ks) (row (ww ns ks) N k) b]) (some (iD (row (ww ns ks) N k))) (some (iD (sm (ww ns ks) (row (ww ns ks) N k) b))) s1 (by rw [length_append];simp;omega)
  refine ⟨o3,o4',o5',?_⟩
  have e1:(rwD ns ks N (k+1)).reverse=iD (row (ww ns ks) N k)::(rwD ns ks N k).reverse:=by
   unfold rwD
   rw [range_succ,map_append,List.reverse_append]
   rfl
  rw [e1,Zfd,plc]
  rw [append_assoc] at ih
  rw [show [stp (ww ns ks) (row (ww ns ks) N k) b]++plc (ww ns ks) N k (stp (ww ns ks) (row (ww ns ks) N k) b)=stp (ww ns ks) (row (ww ns ks) N k) b::plc (ww ns ks) N k (stp (ww ns ks) (row (ww ns ks) N k) b) from rfl] at ih
  rw [← ih]
  have hne:sm (ww ns ks) (row (ww ns ks) N k) b≠[]:=fun q=>by rw [q] at s3;cases s3
  have mx:=Zkn hne
  have ixx:Zvl (.lst ((sm (ww ns ks) (row (ww ns ks) N k) b).map D.int)) (.int (Zgj (sm (ww ns ks) (row (ww ns ks) N k) b)))=some (.int ((sm (ww ns ks) (row (ww ns ks) N k) b).idxOf (Zgj (sm (ww ns ks) (row (ww ns ks) N k) b)):Nat)):=by
   show (intsOf _).bind _=_
   rw [ints_map]
   show (if _ then _ else _)=_
   rw [if_pos s3]
  have est:(b:Int)+(1+((sm (ww ns ks) (row (ww ns ks) N k) b).idxOf (Zgj (sm (ww ns ks) (row (ww ns ks) N k) b)):Nat))=((stp (ww ns ks) (row (ww ns ks) N k) b:Nat):Int):=by unfold stp;omega
  have hlm:(((acc.map fun (x:Nat)=>(x:Int))).map D.int).length<lim:=by rw [length_map,length_map];show _<1000000;omega
  have e2:nD acc=.lst ((acc.map fun (x:Nat)=>(x:Int)).map D.int):=rfl
  have e3:nD (acc++[stp (ww ns ks) (row (ww ns ks) N k) b])=.lst ((acc.map fun (x:Nat)=>(x:Int)).map D.int++[.int ((stp (ww ns ks) (row (ww ns ks) N k) b:Nat):Int)]):=by rw [nD,iD,map_append,map_append];rfl
  have e4:iD (sm (ww ns ks) (row (ww ns ks) N k) b)=.lst ((sm (ww ns ks) (row (ww ns ks) N k) b).map D.int):=rfl
  rw [e4] at hs
  rw [e3,e2,e4]
  generalize ((stp (ww ns ks) (row (ww ns ks) N k) b:Nat):Int)=ST at *
  generalize (((sm (ww ns ks) (row (ww ns ks) N k) b).idxOf (Zgj (sm (ww ns ks) (row (ww ns ks) N k) b)):Nat):Int)=IX at *
  generalize Zgj (sm (ww ns ks) (row (ww ns ks) N k) b)=MX at *
  generalize (sm (ww ns ks) (row (ww ns ks) N k) b).map D.int=SS at *
  generalize (acc.map fun (x:Nat)=>(x:Int)).map D.int=AA at *
  generalize (rwD ns ks N k).reverse=RR at *
  generalize iD (row (ww ns ks) N k)=RK at *
  generalize wD ns ks N=WD at *
  generalize (b:Int)=bi at *
  subst est
  simp [Zas,hs,mx,ixx,hlm]
theorem Xbv {α:Type}(xs:List α)(x:α):cut (xs++[x]) none (some (-1))=xs:=by
 unfold cut Xgi
 simp
 rw [show (max (-1+((xs.length:Int)+1)) 0).toNat=xs.length by omega]
 simp
theorem Zia (hN:N=max ns.length 1)(h900:N≤900)(K:Nat)(h:K<N):Yy [wD ns ks N,.lst (rwD ns ks N (K+1))]=.ok (nD (plc (ww ns ks) N K 0)):=by
 obtain ⟨o3,o4,o5,e⟩:=Zju ns ks N hN h900 (.lst (rwD ns ks N (K+1))) K 0 [] none none (by omega) (by simp;omega)
 have e1:rwD ns ks N (K+1)=rwD ns ks N K++[iD (row (ww ns ks) N K)]:=by
  unfold rwD
  rw [range_succ,map_append]
  rfl
 have sl:Xqo (.lst (rwD ns ks N (K+1))) none (some (-1))=some (.lst (rwD ns ks N K)):=by
  show some (D.lst (cut _ _ _))=_
  rw [e1,Xbv]
 have ll:(rwD ns ks N K).length≤lim:=by
  unfold rwD
  rw [length_map,length_range]
  show _≤1000000
  omega
 rw [List.nil_append] at e
 have en:nD []=.lst []:=rfl
 have ei:((0:Nat):Int)=0:=rfl
 rw [en,ei] at e
 generalize rwD ns ks N (K+1)=RW at *
 generalize rwD ns ks N K=RK at *
 generalize nD (plc (ww ns ks) N K 0)=PP at *
 generalize wD ns ks N=WD at *
 simp [Yy,Zec,sl,ll,e]
variable {α:Type}
theorem Xfg:∀{l:List (Int×α)} {z:Int×α},fmx l=some z→∀y∈l,y.1≤z.1
 | a::l,z,h,y,hy=>by
  rw [fmx] at h
  cases e:fmx l with
  | none =>
   rw [Xat e] at hy
   rw [e] at h
   cases h
   rw [List.mem_singleton.mp hy]
   exact Int.le_refl _
  | some b =>
   rw [e,Jp] at h
   have ih:=Xfg e
   rcases List.mem_cons.mp hy with rfl | hy
   ·split at h
    ·cases h;omega
    ·cases h;exact Int.le_refl _
   ·have:=ih y hy
    split at h
    ·cases h;exact this
    ·cases h;omega
end
noncomputable def Ch (n:Nat):Nat→List Nat→Prop
 | b,[]=>b<n
 | b,e::q=>b<e∧Ch n e q
theorem Xfz {n:Nat}:∀{k b:Nat} {q:List Nat},b<n→q∈suf n k b→Ch n b q
 | 0,b,q,hb,h=>by
  rw [suf] at h
  rw [List.mem_singleton.mp h]
  exact hb
 | k+1,b,q,hb,h=>by
  rw [suf] at h
  obtain ⟨e,he,h⟩:=List.mem_flatMap.mp h
  obtain ⟨r,hr,rfl⟩:=List.mem_map.mp h
  have:=mem_fromTo.mp he
  exact ⟨by omega,Xfz (by omega) hr⟩
theorem Ch.lt {n:Nat}:∀{q:List Nat} {b:Nat},Ch n b q→b<n
 | [],_,h=>h
 | e::q,b,h=>by
  have:=Ch.lt h.2
  have:=h.1
  omega
section
variable {W:Nat→Nat→Int}{n:Nat}(hs:∀b e c,b≤e→e≤c→c≤n→W b e+W e c≤W b c)
include hs
end
section
variable {ns:List Int}{ks:List Kd}
theorem Zxn {b e:Nat}(h:e≤ns.length)(hb:b≤e):ww ns ks b e=ht (ns.drop b) ks (e - b):=by
 unfold ww hh
 rw [Zgp _ _ _ _ (by omega)]
 congr 1
 omega
noncomputable def cuts (ns:List Int):Nat→List Nat→List (List Int)
 | b,[]=>[ns.drop b]
 | b,e::q=>(ns.drop b).take (e - b)::cuts ns e q
variable (W:Nat→Nat→Int)(n:Nat)
noncomputable def cell:Nat→Nat→D
 | 0,b=>if b=n then .int 0 else .non
 | k+1,b=>if b+(k+1)≤n then .int ((row W n k).getD b 0) else .non
end
section
variable (ns:List Int)(ks:List Kd)(N:Nat)
theorem next_row (hN:N=max ns.length 1)(h900:N≤900)(j:Nat)(hj:j+1<N)(ρ:Env)(e0:ρ.length=6)(e3:ρ[3]?=some (some (wD ns ks N)))(e5:ρ[5]?=some (some (iD (row (ww ns ks) N j)))) :
  Zdb 1 (Xi 6) Znz (fA Zmu (Zd (Xo Ye (Zd (fV 3) (Zd (fV 5) (Zd (fV 6) Zy)))) Zy)) ρ (Zca 0 (N - j - 1))=.ok ((row (ww ns ks) N (j+1)).map D.int):=by
 have hl:=Zel (ww ns ks) N j
 rw [row,nxt,map_map,hl]
 refine Zgt (enc:=fun (i:Nat)=>D.int (0+(i:Int))) (v:=fun b=>D.int (Zgj (sm (ww ns ks) (row (ww ns ks) N j) b))) e0 fun i hi=>?_
 have hi:=List.mem_range.mp hi
 have hs:=Zed ns ks N (row (ww ns ks) N j) i hN h900 (by omega) (by omega)
 obtain ⟨_,_,s3⟩:=Xfq (ww ns ks) N (k:=j) (b:=i) (by omega)
 have hne:sm (ww ns ks) (row (ww ns ks) N j) i≠[]:=fun q=>by rw [q] at s3;cases s3
 have mx:=Zkn hne
 rw [Int.zero_add]
 have g3:fV 3 (ρ++[some (.int (i:Int))])=.ok (wD ns ks N):=by unfold fV;rw [getElem?_append_left (by omega),e3]
 have g5:fV 5 (ρ++[some (.int (i:Int))])=.ok (iD (row (ww ns ks) N j)):=by unfold fV;rw [getElem?_append_left (by omega),e5]
 have g6:fV 6 (ρ++[some (.int (i:Int))])=.ok (.int (i:Int)):=by unfold fV;rw [getElem?_append_right (by omega),e0];rfl
 have e4:iD (sm (ww ns ks) (row (ww ns ks) N j) i)=.lst ((sm (ww ns ks) (row (ww ns ks) N j) i).map D.int):=rfl
 rw [e4] at hs
 generalize Zgj (sm (ww ns ks) (row (ww ns ks) N j) i)=MX at *
 generalize (sm (ww ns ks) (row (ww ns ks) N j) i).map D.int=SS at *
 generalize wD ns ks N=WD at *
 generalize iD (row (ww ns ks) N j)=RK at *
 simp [g3,g5,g6,hs,mx]
theorem Zlg (K:Nat):rwD ns ks N (K+1)=rwD ns ks N K++[iD (row (ww ns ks) N K)]:=by
 unfold rwD
 rw [range_succ,map_append]
 rfl
theorem Zwf (K:Nat):(rwD ns ks N K).length=K:=by
 unfold rwD
 rw [length_map,length_range]
theorem Zds (K:Nat)(hn:ns.length≤900)(hk:ks.length≤1000)(hw:∀k∈ks,1≤k.w)(hN:N=max ns.length 1)(h:K<N):Ym [iD ns,tD ks,.int ((K+1:Nat):Int)]=.ok (.tup [.int ((row (ww ns ks) N K).getD 0 0),nD (plc (ww ns ks) N K 0)]):=by
 have ln:=Zqt ns
 have hmx:max (ns.length:Int) 1=(N:Int):=by omega
 have c1:(1:Int)≤((K+1:Nat):Int):=by omega
 have c2:((K+1:Nat):Int)≤(N:Int):=by omega
 have b1:-1000000000≤(N:Int)∧(N:Int)≤1000000:=by omega
 have hc1:Zdb 1 (Xi 6) Znz (Xo Yc (Zd (fSl gSl (fV 0) (Zfx (fV 6)) Zlx) (Zd (fV 1) Zy))) [some (iD ns),some (tD ks),some (.int ((K+1:Nat):Int)),none,none,none] (Zca 0 N)=.ok ((List.range N).map fun b=>iD (hh ns ks b)):=by
  refine Zgt (enc:=fun (i:Nat)=>D.int (0+(i:Int))) (v:=fun b=>iD (hh ns ks b)) rfl fun i hi=>?_
  have hs:=hh_ok ns ks hn hk hw i
  have sl:gSl (iD ns) (some (i:Int)) none=some (iD (ns.drop i)):=by
   show gSl (.lst (ns.map D.int)) _ _=_
   rw [Zps,Zqx (by omega)]
   rfl
  rw [Int.zero_add]
  generalize iD (hh ns ks i)=HH at *
  generalize iD (ns.drop i)=AD at *
  generalize iD ns=A at *
  generalize tD ks=T at *
  generalize (i:Int)=ii at *
  simp [sl,hs]
 have hc2:Zdb 1 (Xi 6) Znz (f1 Yd (f2 gIx (fV 6) (f1 Zof (fC (.int 1))))) [some (iD ns),some (tD ks),some (.int ((K+1:Nat):Int)),some (wD ns ks N),none,none] ((List.range N).map fun b=>iD (hh ns ks b))=.ok ((row (ww ns ks) N 0).map D.int):=by
  rw [row,map_map]
  refine Zgt (enc:=fun (b:Nat)=>iD (hh ns ks b)) (v:=fun b=>D.int (ww ns ks b N)) rfl fun i hi=>?_
  have hl:=Xgt (ns:=ns) (ks:=ks) (b:=i) hN (List.mem_range.mp hi)
  generalize iD (hh ns ks i)=HH at *
  generalize wD ns ks N=WD at *
  generalize iD ns=A at *
  generalize tD ks=T at *
  simp [hl]
 have loop:V (Jx (cE (f2 gLt (fA Jy (Zd (fV 4) Zy)) (fV 2))) Zaw 100000 [some (iD ns),some (tD ks),some (.int ((K+1:Nat):Int)),some (wD ns ks N),some (.lst (rwD ns ks N 1)),none])
   (fun fl=>∃o5,fl=.nx [some (iD ns),some (tD ks),some (.int ((K+1:Nat):Int)),some (wD ns ks N),some (.lst (rwD ns ks N (K+1))),o5]):=by
  refine Zuz (P:=fun e ρ=>∃(j:Nat) (o5:Option D),e=K - j∧j≤K∧ρ=[some (iD ns),some (tD ks),some (.int ((K+1:Nat):Int)),some (wD ns ks N),some (.lst (rwD ns ks N (j+1))),o5]) ?_ K 100000 _ (by omega) ⟨0,none,rfl,by omega,rfl⟩
  rintro e ρ ⟨j,o5,rfl,hj,rfl⟩
  have lw:Jy [.lst (rwD ns ks N (j+1))]=some (.int ((j+1:Nat):Int)):=by simp [Zwf]
  by_cases c:j<K
  ·have cI:((j+1:Nat):Int)<((K+1:Nat):Int):=by omega
   refine V.of (a:=true) ?_ ?_
   ·generalize rwD ns ks N (j+1)=RW at *
    generalize wD ns ks N=WD at *
    generalize iD ns=A at *
    generalize tD ks=T at *
    generalize ((K+1:Nat):Int)=KI at *
    generalize ((j+1:Nat):Int)=JI at *
    simp only [Xip,Xlv,Xiv,Zls,Zwu]
    simp [lw,cI]
   ·rw [if_pos rfl]
    have hl:=Zel (ww ns ks) N j
    have lr:=Zqt (row (ww ns ks) N j)
    rw [hl] at lr
    have nr:=next_row ns ks N hN (by omega) j (by omega) [some (iD ns),some (tD ks),some (.int ((K+1:Nat):Int)),some (wD ns ks N),some (.lst (rwD ns ks N (j+1))),some (iD (row (ww ns ks) N j))] rfl rfl rfl
    have b2:-1000000000≤((N - j:Nat):Int) - 1∧((N - j:Nat):Int) - 1≤1000000:=by omega
    have et:(((N - j:Nat):Int) - 1).toNat=N - j - 1:=by omega
    have lst_:Xav (.lst (rwD ns ks N (j+1))) (.int (-1))=some (iD (row (ww ns ks) N j)):=by
     rw [Zlg]
     exact Zix _ _
    have hlm:(rwD ns ks N (j+1)).length<lim:=by rw [Zwf];show _<1000000;omega
    have e2:rwD ns ks N (j+1+1)=rwD ns ks N (j+1)++[.lst ((row (ww ns ks) N (j+1)).map D.int)]:=Zlg ns ks N (j+1)
    refine V.imp (Q:=fun fl=>fl=.nx [some (iD ns),some (tD ks),some (.int ((K+1:Nat):Int)),some (wD ns ks N),some (.lst (rwD ns ks N (j+1+1))),some (iD (row (ww ns ks) N j))]) ?_ (by rintro _ rfl;exact ⟨K - (j+1),by omega,j+1,_,rfl,by omega,rfl⟩)
    rw [e2]
    generalize (row (ww ns ks) N (j+1)).map D.int=R2 at *
    generalize rwD ns ks N (j+1)=RW at *
    generalize iD (row (ww ns ks) N j)=RJ at *
    generalize wD ns ks N=WD at *
    generalize iD ns=A at *
    generalize tD ks=T at *
    generalize ((K+1:Nat):Int)=KI at *
    generalize ((N - j:Nat):Int)=NJ at *
    simp [Zaw,lst_,lr,b2,et,nr,hlm]
  ·have:j=K:=by omega
   subst this
   refine V.of (a:=false) ?_ ?_
   ·generalize rwD ns ks N (j+1)=RW at *
    generalize wD ns ks N=WD at *
    generalize iD ns=A at *
    generalize tD ks=T at *
    generalize ((j+1:Nat):Int)=JI at *
    simp only [Xip,Xlv,Xiv,Zls,Zwu]
    simp [lw]
   ·rw [if_neg (by decide)]
    exact ⟨_,rfl⟩
 obtain ⟨fl,e,o5,rfl⟩:=loop.ex
 have fp:=Zia ns ks N hN (by omega) K h
 have lst_:Xav (.lst (rwD ns ks N (K+1))) (.int (-1))=some (iD (row (ww ns ks) N K)):=by
  rw [Zlg]
  exact Zix _ _
 have i0:gIx (iD (row (ww ns ks) N K)) (.int 0)=some (.int ((row (ww ns ks) N K).getD 0 0)):=Xkt (k:=0) (by rw [Zel];omega)
 have ew:wD ns ks N=.lst ((List.range N).map fun b=>iD (hh ns ks b)):=rfl
 have er:rwD ns ks N 1=[.lst ((row (ww ns ks) N 0).map D.int)]:=rfl
 have lN:((List.range N).map fun b=>iD (hh ns ks b)).length≤lim:=by rw [length_map,length_range];show _≤1000000;omega
 rw [ew] at hc2 e fp
 rw [er] at e
 generalize (row (ww ns ks) N 0).map D.int=R0 at *
 generalize ((List.range N).map fun b=>iD (hh ns ks b))=WL at *
 generalize rwD ns ks N (K+1)=RW at *
 generalize (row (ww ns ks) N K).getD 0 0=RV at *
 generalize iD (row (ww ns ks) N K)=RK at *
 generalize nD (plc (ww ns ks) N K 0)=PP at *
 generalize (ns.length:Int)=nl at *
 generalize iD ns=A at *
 generalize tD ks=T at *
 generalize ((K+1:Nat):Int)=KI at *
 have eN:(N:Int).toNat=N:=by omega
 simp [Ym,Zee,ln,hmx,c1,c2,b1,eN,hc1,hc2,lN,e,lst_,i0,fp]
end
noncomputable def nI (x:Nat):D:=.int (x:Int)
theorem Xox (p:List Nat):nD p=.lst (p.map nI):=by rw [nD,iD,map_map];rfl
theorem slN (ns:List Int){b e:Nat}(h1:b≤e)(h2:e≤ns.length):gSl (iD ns) (some (b:Int)) (some (e:Int))=some (iD ((ns.drop b).take (e - b))):=by
 have:=Zps ns (some (b:Int)) (some (e:Int))
 rw [Xet (by omega) (by omega) (by omega),toNat_natCast,toNat_natCast] at this
 exact this
theorem slN1 (ns:List Int)(b:Nat):gSl (iD ns) (some (b:Int)) none=some (iD (ns.drop b)):=by
 have:=Zps ns (some (b:Int)) none
 rw [Zqx (by omega),toNat_natCast] at this
 exact this
theorem Zhn (ns:List Int)(P:D):∀(q:List Nat) (b:Nat) (acc:List (List Int)) (o4:Option D),Ch ns.length b q→acc.length+q.length<1000→
  ∃(hd:List (List Int)) (c:Nat) (u4:Option D),Zdz (Xi 4) Zgg (q.map nI) [some (iD ns),some P,some (rsD acc),some (.int (b:Int)),o4]=.ok (.nx [some (iD ns),some P,some (rsD hd),some (.int (c:Int)),u4])∧hd++[ns.drop c]=acc++cuts ns b q∧hd.length=acc.length+q.length
 | [],b,acc,o4,_,_=>⟨acc,b,o4,rfl,rfl,rfl⟩
 | e::q,b,acc,o4,h,hl=>by
  obtain ⟨h1,h2⟩:=h
  have h3:=h2.lt
  rw [length_cons] at hl
  have ln:=Zqt ns
  have sl:=slN ns (b:=b) (e:=e) (by omega) (by omega)
  have hlm:(acc.map iD).length<lim:=by rw [length_map];show _<1000000;omega
  have e0:rsD acc=.lst (acc.map iD):=rfl
  have e1:rsD (acc++[(ns.drop b).take (e - b)])=.lst (acc.map iD++[iD ((ns.drop b).take (e - b))]):=by rw [rsD,map_append];rfl
  obtain ⟨hd,c,u4,i1,i2,i3⟩:=Zhn ns P q e (acc++[(ns.drop b).take (e - b)]) (some (.int (e:Int))) h2 (by rw [length_append];simp;omega)
  refine ⟨hd,c,u4,?_,by rw [i2,cuts,append_assoc];rfl,by rw [i3,length_append,length_cons];simp;omega⟩
  rw [← i1,map_cons,Zfd,e1,e0]
  have c1:(b:Int)<(e:Int):=by omega
  have c2:(e:Int)<(ns.length:Int):=by omega
  unfold nI
  generalize iD ((ns.drop b).take (e - b))=CC at *
  generalize acc.map iD=AA at *
  generalize iD ns=N at *
  generalize (ns.length:Int)=NL at *
  generalize (b:Int)=bi at *
  generalize (e:Int)=ei at *
  simp [Zgg,ln,sl,c1,c2,hlm]
theorem Ztg (ns:List Int)(q:List Nat)(hc:Ch ns.length 0 q)(hl:q.length≤900):Zct [iD ns,nD q]=.ok (rsD (cuts ns 0 q)):=by
 obtain ⟨hd,c,u4,i1,i2,i3⟩:=Zhn ns (nD q) q 0 [] none hc (by simp;omega)
 rw [List.nil_append] at i2
 rw [← i2]
 have sl:=slN1 ns c
 have hlm:(hd.map iD).length<lim:=by rw [length_map,i3];show _<1000000;simp;omega
 have lq:(q.map nI).length≤lim:=Xkh (n:=900) hl
 have e1:rsD (hd++[ns.drop c])=.lst (hd.map iD++[iD (ns.drop c)]):=by rw [rsD,map_append];rfl
 have e2:rsD hd=.lst (hd.map iD):=rfl
 have e3:rsD []=.lst []:=rfl
 have e4:((0:Nat):Int)=0:=rfl
 rw [e2,e3,e4,Xox] at i1
 rw [e1,Xox]
 generalize iD (ns.drop c)=CC at *
 generalize hd.map iD=HH at *
 generalize q.map nI=QQ at *
 generalize iD ns=N at *
 generalize (c:Int)=ci at *
 simp [Zct,Zql,lq,i1,sl,hlm]
section
variable {ns:List Int}{ks:List Kd}
theorem Zxc {b e:Nat}(hb:b≤e)(he:e≤ns.length):(ns.reverse.drop (ns.length - e)).take (e - b)=((ns.drop b).take (e - b)).reverse:=by
 rw [List.drop_reverse,show ns.length - (ns.length - e)=e by omega,List.take_reverse,length_take,show min e ns.length - (e - b)=b by omega,List.drop_take]
theorem Zgl (hw:∀k∈ks,1≤k.w){b e:Nat}(hb:b≤e)(he:e≤ns.length):ww ns.reverse ks (ns.length - e) (ns.length - b)=ww ns ks b e:=by
 rw [Zxn (by rw [length_reverse];omega) (by omega),Zxn he hb,show ns.length - b - (ns.length - e)=e - b by omega]
 have h1:ht (ns.drop b) ks (e - b)=ht ((ns.drop b).take (e - b)) ks (e - b):=(Zvw hw (by rw [length_drop];omega) _ (le_refl _)).symm
 have h2:ht (ns.reverse.drop (ns.length - e)) ks (e - b)=ht ((ns.reverse.drop (ns.length - e)).take (e - b)) ks (e - b):=(Zvw hw (by rw [length_drop,length_reverse];omega) _ (le_refl _)).symm
 rw [h1,h2,Zxc hb he]
 have h4:=Xex (ns:=(ns.drop b).take (e - b)) (ks:=ks) hw
 rw [length_take,length_drop,show min (e - b) (ns.length - b)=e - b by omega] at h4
 exact h4
variable {W W':Nat→Nat→Int}
theorem Znq:∀(q:List Nat) (b c e:Nat),tot W e b (q++[c])=tot W c b q+W c e
 | [],b,c,e=>rfl
 | d::q,b,c,e=>by
  show W b d+tot W e d (q++[c])=W b d+tot W c d q+W c e
  rw [Znq q d c e]
  omega
theorem Zrw:∀{q:List Nat} {b c e:Nat},Ch c b q→c<e→Ch e b (q++[c])
 | [],_,_,_,h,h2=>⟨h,h2⟩
 | _::_,_,_,_,h,h2=>⟨h.1,Zrw h.2 h2⟩
theorem Zwp {n:Nat}(hW:∀b e,b≤e→e≤n→W' (n - e) (n - b)=W b e):∀(q:List Nat) (b e:Nat),Ch e b q→e≤n→tot W' (n - b) (n - e) (q.reverse.map (n - ·))=tot W e b q
 | [],b,e,h,he=>hW b e (le_of_lt h) he
 | c::q,b,e,h,he=>by
  obtain ⟨h1,h2⟩:=h
  have h3:=h2.lt
  rw [reverse_cons,map_append,List.map_singleton,Znq,Zwp hW q c e h2 he,hW b c (by omega) (by omega)]
  show tot W e c q+W b c=W b c+tot W e c q
  omega
theorem Xfr {n:Nat}:∀{q:List Nat} {b e:Nat},Ch e b q→e≤n→Ch (n - b) (n - e) (q.reverse.map (n - ·))
 | [],b,e,h,he=>by
  have h:b<e:=h
  show n - e<n - b
  omega
 | c::q,b,e,h,he=>by
  obtain ⟨h1,h2⟩:=h
  have h3:=h2.lt
  rw [reverse_cons,map_append,List.map_singleton]
  exact Zrw (Xfr h2 he) (by omega)
theorem Xfa {n:Nat}:∀{q:List Nat} {b:Nat},Ch n b q→q∈suf n q.length b
 | [],_,_=>List.mem_singleton.mpr rfl
 | e::q,b,h=>by
  obtain ⟨h1,h2⟩:=h
  have h3:=h2.lt
  rw [length_cons,suf]
  exact List.mem_flatMap.mpr ⟨e,mem_fromTo.mpr (by omega),List.mem_map.mpr ⟨q,Xfa h2,rfl⟩⟩
theorem Znp {n:Nat}:∀{k b:Nat} {q:List Nat},q∈suf n k b→q.length=k
 | 0,_,_,h=>by rw [List.mem_singleton.mp h];rfl
 | k+1,b,q,h=>by
  rw [suf] at h
  obtain ⟨e,_,h⟩:=List.mem_flatMap.mp h
  obtain ⟨r,hr,rfl⟩:=List.mem_map.mp h
  rw [length_cons,Znp hr]
theorem Zjm {n k:Nat}(hW:∀b e,b≤e→e≤n→W' (n - e) (n - b)=W b e)(h:k<n):(row W n k).getD 0 0≤(row W' n k).getD 0 0:=by
 have hm:=Zuy (Zpq W n k 0 (by omega))
 obtain ⟨q,hq,e⟩:=List.mem_map.mp hm
 have e1:=congrArg Prod.fst e
 simp only at e1
 have hc:=Xfz (by omega) hq
 have hr:=Zwp hW q 0 n hc (le_refl _)
 have hcr:=Xfr hc (le_refl _)
 rw [sub_self,sub_zero] at hr hcr
 have hs:=Xfa hcr
 rw [length_map,length_reverse,Znp hq] at hs
 have:=Xfg (Zpq W' n k 0 (by omega)) (tot W' n 0 (q.reverse.map (n - ·)),q.reverse.map (n - ·)) (List.mem_map.mpr ⟨_,hs,rfl⟩)
 rw [← e1,← hr]
 exact this
theorem Ztr (hw:∀k∈ks,1≤k.w){N K:Nat}(hN:N=max ns.length 1)(hK:K<N):(row (ww ns.reverse ks) N K).getD 0 0=(row (ww ns ks) N K).getD 0 0:=by
 by_cases h0:ns.length=0
 ·rw [List.length_eq_zero_iff.mp h0]
  rfl
 ·have hn:N=ns.length:=by omega
  subst hn
  apply le_antisymm
  ·refine Zjm (fun b e hb he=>?_) hK
   have:=Zgl (ns:=ns.reverse) hw hb (by rw [length_reverse];exact he)
   rw [List.reverse_reverse,length_reverse] at this
   exact this
  ·exact Zjm (fun b e hb he=>Zgl hw hb he) hK
noncomputable def Zcj (ns:List Int)(ks:List Kd):List Nat:=(List.range (ns.length+1)).filter fun e=>decide (ww ns ks 0 e+ww ns ks e ns.length=ww ns ks 0 ns.length)
theorem Zua (n:Nat):(List.range (n+1)).reverse=(List.range (n+1)).map (n - ·):=by
 apply ext_getElem
 ·simp
 ·intro i h1 h2
  simp at h1 h2
  simp
theorem Zoy (hw:∀k∈ks,1≤k.w):(Zcj ns.reverse ks).reverse=(Zcj ns ks).map (ns.length - ·):=by
 unfold Zcj
 rw [← List.filter_reverse,length_reverse,Zua,List.filter_map]
 congr 1
 refine List.filter_congr fun e he=>?_
 have he:=List.mem_range.mp he
 simp only [Function.comp]
 apply decide_eq_decide.mpr
 have a1:=Zgl (ns:=ns) hw (b:=0) (e:=ns.length) (by omega) (by omega)
 have a2:=Zgl (ns:=ns) hw (b:=0) (e:=e) (by omega) (by omega)
 have a3:=Zgl (ns:=ns) hw (b:=e) (e:=ns.length) (by omega) (by omega)
 rw [sub_self,sub_zero] at a1
 rw [sub_zero] at a2
 rw [sub_self] at a3
 rw [a1,a2,a3]
 omega
theorem Zla {l m:List Int}(hp:m.Perm l)(hu:m.Pairwise (·≤·)):sortI l=m:=by
 refine (List.Perm.eq_of_pairwise (le:=(·≤·)) (fun a b _ _ h1 h2=>le_antisymm h1 h2) ?_ hu ((mergeSort_perm l _).trans hp.symm))
 have:=pairwise_mergeSort (le:=fun a b:Int=>decide (a≤b)) (fun a b c h1 h2=>by simp at *;omega) (fun a b=>by simp;omega) l
 exact this.imp fun h=>by simpa using h
theorem Zoh (hw:∀k∈ks,1≤k.w):sortI ((Zcj ns ks).map fun e:Nat=>(ns.length:Int) - (e:Int))=(Zcj ns.reverse ks).map fun e:Nat=>(e:Int):=by
  apply Zla
  · have e1:((Zcj ns ks).map fun e:Nat=>(ns.length:Int) - (e:Int))=((Zcj ns ks).map (ns.length - ·)).map fun e:Nat=>(e:Int):=by
      rw [map_map]
      refine map_congr_left fun e he=>?_
      have:=List.mem_range.mp (List.mem_filter.mp he).1
      simp only [Function.comp]
      omega
    rw [e1,← Zoy hw,map_reverse]
    exact (reverse_perm _).symm
  · rw [pairwise_map]
    have:(Zcj ns.reverse ks).Pairwise (·<·):=List.Pairwise.filter _ (by
      rw [List.range_eq_range']
      exact List.pairwise_lt_range')
    exact this.imp fun h=>by omega
theorem Zya (hn:ns.length≤900)(hk:ks.length≤1000)(hw:∀k∈ks,1≤k.w):Zdq [iD ns,tD ks]=.ok (iD (hts ns.reverse ks ns.length).reverse):=by
 have h1:Zbu [iD ns]=.ok (iD ns.reverse):=Jq (Jr (Zch rfl (by simp [Zhq,iD])))
 have h2:=Zcc ns.reverse ks (by simp;omega) hk hw
 rw [length_reverse] at h2
 have h3:Zhq (iD (hts ns.reverse ks ns.length))=some (iD (hts ns.reverse ks ns.length).reverse):=by simp [Zhq,iD]
 unfold Zdq Zvm
 exact Jq (Jr (Zch (Xl (Zc (Xl (Zc rfl rfl) h1) (Zc rfl rfl)) h2) h3))
theorem Zjv (hw:∀k∈ks,1≤k.w){e:Nat}(he:e≤ns.length):gIx (iD (hts ns.reverse ks ns.length).reverse) (.int e)=some (.int (ww ns ks e ns.length)):=by
 have hl:=Zbj ns.reverse ks ns.length
 have:=Ju (ns:=(hts ns.reverse ks ns.length).reverse) (i:=(e:Int)) (k:=e) rfl (by rw [length_reverse];omega)
 have e2:(hts ns.reverse ks ns.length).reverse.getD e 0=ht ns.reverse ks (ns.length - e):=by
  rw [← Zgp ns.reverse ks ns.length (ns.length - e) (by omega)]
  simp only [List.getD]
  rw [List.getElem?_reverse (by omega),hl,show ns.length+1 - 1 - e=ns.length - e by omega]
 rw [e2,Zwd hw he] at this
 rw [Zxn (le_refl _) he]
 exact this
theorem Zsb {e:Nat}(he:e≤ns.length):gIx (iD (hts ns ks ns.length)) (.int (e:Int))=some (.int (ww ns ks 0 e)):=by
 have hl:=Zbj ns ks ns.length
 have:=Ju (ns:=hts ns ks ns.length) (i:=(e:Int)) (k:=e) rfl (by omega)
 rw [Zgp _ _ _ _ he] at this
 rw [Zxn he (zero_le _)]
 exact this
theorem Zkh:gIx (iD (hts ns ks ns.length)) (.int (-1))=some (.int (ww ns ks 0 ns.length)):=by
 rw [Zxn (le_refl _) (zero_le _)]
 exact Zlq (Zbj ns ks ns.length)
theorem Xfs (hn:ns.length≤900)(hk:ks.length≤1000)(hw:∀k∈ks,1≤k.w){e:Nat}(he:e≤ns.length):Yl [iD ns,tD ks,.int (e:Int)]=.ok (.int (ww ns ks 0 ns.length - ww ns ks 0 e - ww ns ks e ns.length)):=by
 have h1:=Zcc ns ks hn hk hw
 have h2:=Zya hn hk hw
 have l1:Jy [iD ns]=some (.int ns.length):=by simp [iD]
 have c2:(e:Int)≤(ns.length:Int):=by omega
 unfold Yl Zeh
 exact Jq (Zp (Jl (Xnj (b:=true) (Jt (Xjy rfl rfl (Zuo (Int.natCast_nonneg e)) (Yp (Zc rfl rfl) l1) (Zuo c2)))) rfl) (Zp (Xk (Xl (Zc rfl (Zc rfl rfl)) h1)) (Jr (Zo (Zo (Zo rfl (Zch rfl rfl) Zkh) (Zo rfl rfl (Zsb he)) rfl) (Zo (Xl (Zc rfl (Zc rfl rfl)) h2) rfl (Zjv hw he)) rfl))))
theorem Xeu (hn:ns.length≤900)(hk:ks.length≤1000)(hw:∀k∈ks,1≤k.w):Ys [iD ns,tD ks]=.ok (iD ((Zcj ns ks).map fun e:Nat=>(e:Int))):=by
 have h1:=Zcc ns ks hn hk hw
 have h2:=Zya hn hk hw
 have l1:Jy [iD ns]=some (.int ns.length):=by simp [iD]
 have b1:-1000000000≤(ns.length:Int)+1∧(ns.length:Int)+1≤1000000:=by omega
 have et:((ns.length:Int)+1).toNat=ns.length+1:=by omega
 have c1:=Xbt (n:=4) (c:=cE (f2 gEq (f2 Je (f2 gIx (fV 2) (fV 4)) (f2 gIx (fV 3) (fV 4))) (f2 gIx (fV 2) (f1 Zof (fC (.int 1)))))) (e:=f1 Yd (fV 4)) (ρ:=[some (iD ns),some (tD ks),some (iD (hts ns ks ns.length)),some (iD (hts ns.reverse ks ns.length).reverse)]) (enc:=fun e:Nat=>D.int (0+(e:Int))) (p:=fun e=>decide (ww ns ks 0 e+ww ns ks e ns.length=ww ns ks 0 ns.length)) (v:=fun e:Nat=>.int (e:Int)) (xs:=List.range (ns.length+1)) rfl fun e he=>by
  have he:=List.mem_range.mp he
  simp only [Int.zero_add]
  exact ⟨Jt (Zo (Zo (Zo rfl rfl (Zsb (by omega))) (Zo rfl rfl (Zjv hw (by omega))) rfl) (Zo rfl (Zch rfl rfl) Zkh) (Zld _ _)),fun _=>Zch rfl rfl⟩
 have ei:iD ((Zcj ns ks).map fun e:Nat=>(e:Int))=.lst ((Zcj ns ks).map fun e:Nat=>D.int (e:Int)):=by
  unfold iD
  rw [map_map]
  rfl
 rw [ei]
 unfold Ys Zfk
 exact Jq (Zp (Xk (Xl (Zc rfl (Zc rfl rfl)) h1)) (Zp (Xk (Xl (Zc rfl (Zc rfl rfl)) h2)) (Jr (Zjo rfl ((Zpz (Zc (Zo (Yp (Zc rfl rfl) l1) rfl rfl) rfl) b1).trans (by rw [et];rfl)) c1))))
end
noncomputable def Js:FS:=
  (Xp (Yg 5 (f2 Zbh (fV 3) (fA Jy (Zd (f2 gIx (fV 4) (fC (.int 2))) Zy))))
    (sIf (Xmf (cE (f2 gGe (fV 5) (fC (.int 0)))) (cE (f2 gEq (f2 Je (f2 gIx (f2 gIx (fV 0) (f2 gIx (fV 4) (fC (.int 1)))) (fV 5)) (f2 gIx (f2 gIx (fV 4) (fC (.int 0))) (fC (.int 2)))) (f2 gIx (f2 gIx (fV 0) (fV 2)) (fV 3))))) (Zaq (fV 4)) sNx))
noncomputable def Zjz:FS:=
  (Xp (sIf (cE (f2 gEq (f2 gIx (f2 gIx (fV 0) (fV 2)) (fV 3)) (f2 gIx (f2 gIx (fV 0) (f2 Zbh (fV 2) (fC (.int 1)))) (fV 3)))) (Zaq (fC .non)) sNx)
    (Xp (Zjj (Zda (fV 1)) (Xi 4) Js)
    (Zaq (fC .non))))
noncomputable def Jg (ds:List D):R D:=(run 6 Zjz ds).calm
noncomputable def Jv:FS:=
  (Xp (Yg 6 (Xo Jg (Zd (fV 0) (Zd (f2 gIx (fV 1) (fV 5)) (Zd (fV 5) (Zd (fV 4) Zy))))))
    (sIf (cE (f2 gIs (fV 6) (fC .non))) (Zpu 5 Zbh (fC (.int 1))) (Xp (Yg 5 (f1 Yd (f2 gIx (fV 6) (fC (.int 1)))))
    (Xp (Zpu 4 Zbh (fA Jy (Zd (f2 gIx (fV 6) (fC (.int 2))) Zy)))
    (Zhg 3 (fV 6))))))
noncomputable def Ziu:FS:=
  (Xp (Yg 3 (fA Zal Zy))
    (Xp (Yg 4 (f1 Yd (fV 2)))
    (Xp (Yg 5 (f2 Zbh (fA Jy (Zd (fV 0) Zy)) (fC (.int 1))))
    (Xp (Zek 100000 (cE (f2 gGt (fV 5) (fC (.int 0)))) Jv)
    (Zaq (fV 3))))))
noncomputable def Zaa (ds:List D):R D:=(run 7 Ziu ds).calm
noncomputable def Zbb:FS:=
 (Zhg 5 (Xo Zaz (Zd (fV 5) (Zd (f2 gIx (fV 4) (fV 6)) Zy))))
noncomputable def Jd:FS:=
  (Xp (Zpl 7 (fV 11))
    (Zhg 8 (fA Ziz (Zd (f1 Yd (fV 10)) (Zd (f1 Yd (f2 gIx (fV 9) (fC (.int 0)))) Zy)))))
noncomputable def Zfg:FS:=
  (Xp (Yg 3 (fA Zmu (Zd (fC (.int 0)) (Zd (fA Xhh (Zd (fV 2) (Zd (fA Jy (Zd (fV 0) Zy)) Zy))) Zy))))
    (Xp (Yg 4 (Zcp 12 1 (Zgf (Zd (f2 Je (fA Jy (Zd (fV 0) Zy)) (fC (.int 1))) Zy)) (Xi 12) Znz (Xo Yu (Zd (fV 0) (Zd (fV 1) (Zd (fV 12) Zy))))))
    (Xp (Yg 5 (fA Zal (Zd (f2 Zcx (fA Zal (Zd (fC (.int 0)) Zy)) (f2 Je (fV 3) (fC (.int 1)))) Zy)))
    (Xp (Zjj (Zog (Zd (fC (.int 1)) (Zd (f2 Je (fA Jy (Zd (fV 0) Zy)) (fC (.int 1))) Zy))) (Xi 6) Zbb)
    (Xp (Yg 7 (fA Zal Zy))
    (Xp (Yg 8 (fA Zal Zy))
    (Xp (Zjj (Zda (Xo Zaa (Zd (fV 5) (Zd (fV 4) (Zd (fV 3) Zy))))) (Ztd (Zaj (Xi 9) (Zaj (Xi 10) (Zaj (Xi 11) Ztq)))) Jd)
    (Zaq (fA Ziz (Zd (f1 Yd (f2 gIx (f2 gIx (fV 5) (f1 Zof (fC (.int 1)))) (fV 3))) (Zd (fA Zoe (Zd (fV 7) Zy)) (Zd (fA Zmz (Zd (fV 8) Zy)) Zy))))))))))))
noncomputable def Xq (ds:List D):R D:=(run 12 Zfg ds).calm
noncomputable def Jc:FS:=
  (Xp (Yg 6 (f1 Yd (f2 gIx (Xo Xq (Zd (fA Yv (Zd (f2 gIx (fV 4) (fC (.int 0))) Zy)) (Zd (fA Yv (Zd (fV 1) Zy)) (Zd (fV 5) Zy)))) (fC (.int 0)))))
    (Xp (Yg 7 (f1 Yd (f2 gIx (Xo Xq (Zd (fA Yv (Zd (f2 gIx (fV 4) (fC (.int 1))) Zy)) (Zd (fA Yv (Zd (fV 1) Zy)) (Zd (f2 Zbh (fV 3) (fV 5)) Zy)))) (fC (.int 0)))))
    (sIf (cE (f2 gGt (f2 Je (fV 6) (fV 7)) (f2 gIx (Xo Xq (Zd (fA Yv (Zd (fV 0) Zy)) (Zd (fA Yv (Zd (fV 1) Zy)) (Zd (fV 3) Zy)))) (fC (.int 0))))) (Zaq (fC (.bl false))) sNx)))
noncomputable def Zbd:FS:=
  (Xp (sIf (cOr (cE (f2 gLt (fV 2) (fC (.int 1)))) (cE (f2 gGe (fV 2) (fA Jy (Zd (fV 0) Zy))))) (Zaq (fC (.bl true))) sNx)
    (Xp (Yg 4 (Xo Zct (Zd (fA Yv (Zd (fV 0) Zy)) (Zd (fA Zal (Zd (fV 2) Zy)) Zy))))
    (Xp (Zjj (Zgf (Zd (f2 Je (fV 3) (fC (.int 1))) Zy)) (Xi 5) Jc)
    (Zaq (fC (.bl true))))))
noncomputable def Xy (ds:List D):R D:=(run 8 Zbd ds).calm
noncomputable def Zky:FS:=
  (Xp (Yg 9 (Xo Yl (Zd (fA Yv (Zd (fV 1) Zy)) (Zd (fA Yv (Zd (fV 2) Zy)) (Zd (fV 8) Zy)))))
    (sIf (cE (f2 gNe (Xo Yl (Zd (fA Yv (Zd (fV 4) Zy)) (Zd (fA Yv (Zd (fV 2) Zy)) (Zd (f2 Zbh (fV 7) (fV 8)) Zy)))) (fV 9))) (Zaq (fC (.bl false))) sNx))
noncomputable def Xrg:FS:=
  (Xp (Xmb (Xo Zak (Zd (fV 0) (Zd (fC (.int 0)) (Zd (fC (.int 16)) (Zd (fC (.int 5)) Zy))))) (Ztd (Zaj (Xi 1) (Zaj (Xi 2) Ztq))))
    (Xp (Yg 3 (Xo Yf (Zd (fV 0) (Zd (fC (.int 2)) (Zd (fA Zal (Zd (fC (.int 16)) (Zd (fC (.int 5)) (Zd (fC (.int 17)) Zy)))) Zy)))))
    (Xp (Yg 4 (Xo Zbu (Zd (fA Yv (Zd (fV 1) Zy)) Zy)))
    (Xp (sIf (cE (f2 gNe (fV 4) (f2 Xmk (fV 1) (f1 Zof (fC (.int 1)))))) (Zaq (fC (.bl false))) sNx)
    (Xp (sIf (cE (f2 gNe (f2 gIx (Xo Zit (Zd (fA Yv (Zd (fV 1) Zy)) (Zd (fA Yv (Zd (fV 2) Zy)) Zy))) (fC (.int 0))) (f2 gIx (Xo Zit (Zd (fA Yv (Zd (fV 4) Zy)) (Zd (fA Yv (Zd (fV 2) Zy)) Zy))) (fC (.int 0))))) (Zaq (fC (.bl false))) sNx)
    (Xp (Yg 5 (f2 Je (fC (.int 1)) (f2 Zhf (f2 gIx (fV 3) (fC (.int 0))) (fA Zmu (Zd (fC (.int 1)) (Zd (fA Jy (Zd (fV 1) Zy)) Zy))))))
    (Xp (Yg 6 (f1 Yd (f2 gIx (Xo Ym (Zd (fA Yv (Zd (fV 1) Zy)) (Zd (fA Yv (Zd (fV 2) Zy)) (Zd (fV 5) Zy)))) (fC (.int 0)))))
    (Xp (sIf (cE (f2 gNe (f2 gIx (Xo Ym (Zd (fA Yv (Zd (fV 4) Zy)) (Zd (fA Yv (Zd (fV 2) Zy)) (Zd (fV 5) Zy)))) (fC (.int 0))) (fV 6))) (Zaq (fC (.bl false))) sNx)
    (Xp (Yg 6 (f1 Yd (f2 gIx (Xo Xq (Zd (fA Yv (Zd (fV 1) Zy)) (Zd (fA Yv (Zd (fV 2) Zy)) (Zd (f2 gIx (fV 3) (fC (.int 1))) Zy)))) (fC (.int 0)))))
    (Xp (sIf (cE (f2 gNe (f2 gIx (Xo Xq (Zd (fA Yv (Zd (fV 4) Zy)) (Zd (fA Yv (Zd (fV 2) Zy)) (Zd (f2 gIx (fV 3) (fC (.int 1))) Zy)))) (fC (.int 0))) (fV 6))) (Zaq (fC (.bl false))) sNx)
    (Xp (Yg 7 (fA Jy (Zd (fV 1) Zy)))
    (Xp (Zjj (Zgf (Zd (f2 Je (fV 7) (fC (.int 1))) Zy)) (Xi 8) Zky)
    (Xp (Yg 10 (fA Zoe (Zd (Zcp 11 1 (Zda (Xo Ys (Zd (fA Yv (Zd (fV 1) Zy)) (Zd (fA Yv (Zd (fV 2) Zy)) Zy)))) (Xi 11) Znz (f2 Zbh (fV 7) (fV 11))) Zy)))
    (Xp (sIf (cE (f2 gNe (Xo Ys (Zd (fA Yv (Zd (fV 4) Zy)) (Zd (fA Yv (Zd (fV 2) Zy)) Zy))) (fV 10))) (Zaq (fC (.bl false))) sNx)
    (Zaq (Xo Xy (Zd (fV 1) (Zd (fV 2) (Zd (f2 gIx (fV 3) (fC (.int 2))) (Zd (f2 gIx (fV 3) (fC (.int 1))) Zy))))))))))))))))))))
noncomputable def Xbn (ds:List D):R D:=(run 11 Xrg ds).calm
noncomputable def grd (al:Int):List Int→Int→Nat
 | [],_=>0
 | w::ws,s=>if s≤al then 0 else grd al ws (s - w)+1
noncomputable def fal (l:List Int):List Int:=(sortI l).reverse
theorem Xep {l m:List Int}(hp:m.Perm l)(hu:m.Pairwise (·≥·)):m=fal l:=by
 refine List.Perm.eq_of_pairwise (le:=(·≥·)) (fun a b _ _ h1 h2=>le_antisymm h2 h1) hu ?_ (hp.trans ((reverse_perm _).trans (mergeSort_perm l _)).symm)
 unfold fal
 rw [List.pairwise_reverse]
 have:=pairwise_mergeSort (le:=fun a b:Int=>decide (a≤b)) (fun a b c h1 h2=>by simp at *;omega) (fun a b=>by simp;omega) l
 exact this.imp fun h=>by simpa using h
theorem Zfy (l:List (Int×Int)):(Znc l).Perm l:=mergeSort_perm l _
theorem Ztk (l:List (Int×Int)):((Znc l).map (·.1)).Pairwise (·≥·):=by
 rw [pairwise_map]
 have:=pairwise_mergeSort (le:=fun p q:Int×Int=>decide (q.1<p.1)||(decide (q.1=p.1)&&decide (p.2≤q.2))) (fun a b c h1 h2=>by simp at *;omega) (fun a b=>by simp;omega) l
 exact this.imp fun h=>by simp at h;omega
theorem Zyr {α:Type}{enc:α→D}{fb:FE}{fr:Env}{v:α→Int}:∀(xs:List α),(∀x∈xs,fb (some (enc x)::fr)=.ok (.int (v x)))→Zcz fb fr (xs.map enc)=.ok (xs.map v)
 | [],_=>rfl
 | x::xs,h=>by
  rw [map_cons,Zcz,h x (.head _),Zuw,Zbk]
  simp only []
  rw [Zyr xs fun y hy=>h y (.tail _ hy),Zbk]
  rfl
theorem Xqx {a b:FS}{ρ ρ':Env}(h:a ρ=.ok (.brk ρ')):Xp a b ρ=.ok (.brk ρ'):=by rw [Zow,h];rfl
theorem Zxm {a b:List Int}(h:a.Perm b):a.sum=b.sum:=by
 induction h with
 | nil=>rfl
 | cons x _ ih=>rw [sum_cons,sum_cons,ih]
 | swap x y l=>simp only [sum_cons];omega
 | trans _ _ i j=>exact i.trans j
noncomputable def Zun (ns:List Int)(p n:Nat):List Int:=(ns.drop p).take n
theorem Xla (ns:List Int)(p n:Nat)(h:p+n≤ns.length):Zun ns p n=(List.range n).map fun i=>ns.getD (p+i) 0:=by
 apply ext_getElem
 ·simp [Zun];omega
 ·intro i h1 h2
  simp at h2
  have:p+i<ns.length:=by omega
  simp [Zun,List.getD,this]
noncomputable def kcs (ns:List Int)(p n:Nat):List (Int×Int):=Znc ((List.range n).map fun i=>(ns.getD (p+i) 0,((p+i:Nat):Int)))
theorem Xjr {ns:List Int}{p n:Nat}{x:Int×Int}(h:x∈kcs ns p n):∃c:Nat,p≤c∧c<p+n∧x=(ns.getD c 0,(c:Int)):=by
 have:=(Zfy _).mem_iff.mp h
 obtain ⟨i,hi,rfl⟩:=List.mem_map.mp this
 have:=List.mem_range.mp hi
 exact ⟨p+i,by omega,by omega,rfl⟩
theorem Zpv (ns:List Int)(p n:Nat):(kcs ns p n).length=n:=by
 unfold kcs
 rw [(Zfy _).length_eq,length_map,length_range]
theorem Xgn (ns:List Int)(p n:Nat)(h:p+n≤ns.length):(kcs ns p n).map (·.1)=fal (Zun ns p n):=by
 refine Xep ?_ (Ztk _)
 refine ((Zfy _).map _).trans ?_
 rw [map_map,Xla ns p n h]
 exact List.Perm.refl _
noncomputable def mnd (al:Int):List (Int×Int)→Int→List Int
 | [],_=>[]
 | c::r,s=>if s≤al then [] else c.2::mnd al r (s - c.1)
theorem Zoi (al:Int):∀(l:List (Int×Int)) (s:Int),(mnd al l s).length=grd al (l.map (·.1)) s
 | [],_=>rfl
 | c::r,s=>by
  rw [mnd,map_cons,grd]
  split
  ·rfl
  ·rw [length_cons,Zoi al r]
noncomputable def Yn (ns:List Int)(k:Kd)(p:Nat):List Int:=mnd k.al (kcs ns p k.w.toNat) (pre ns (p+k.w.toNat) - pre ns p)
theorem Xck (ns:List Int)(k:Kd)(p:Nat)(hw:1≤k.w)(hw2:k.w≤1000)(h:(p:Int)+k.w≤ns.length)(hl:ns.length≤63):Yi [iD ns,kD k,.int p]=.ok (iD (Yn ns k p)):=by
 obtain ⟨n,hn⟩:∃n:Nat,k.w=n:=⟨k.w.toNat,by omega⟩
 have ht:k.w.toNat=n:=by omega
 have hpn:p+n≤ns.length:=by omega
 have hke:Zcz (f2 gIx (fV 1) (fV 0)) [some (iD ns)] (Zca p n)=.ok ((List.range n).map fun i=>ns.getD (p+i) 0):=Zyr (List.range n) fun i hi=>by
  have:=List.mem_range.mp hi
  exact Zo rfl rfl (Ju (k:=p+i) (by omega) (by omega))
 have hso:Zki (fA Znk (Zd (fV 2) (Zd (f2 Je (fV 2) (f2 gIx (fV 1) (fC (.int 1)))) Zy))) [0] (f2 gIx (fV 1) (fV 0)) [some (iD ns),some (kD k),some (.int p),none,none,none,none]=.ok (.lst ((kcs ns p n).map fun x=>D.int x.2)):=by
  have h1:fA Znk (Zd (fV 2) (Zd (f2 Je (fV 2) (f2 gIx (fV 1) (fC (.int 1)))) Zy)) [some (iD ns),some (kD k),some (.int p),none,none,none,none]=.ok (.rng p (p+k.w)):=Yp (Zc rfl (Zc (Zo rfl (Zo rfl rfl (Zuk k)) rfl) rfl)) rfl
  unfold Zki
  rw [h1,Zbk]
  simp only []
  have e:((p:Int)+k.w - p).toNat=n:=by omega
  rw [if_pos (by omega),e]
  have h2:Zgz [0] [some (iD ns),some (kD k),some (.int (p:Int)),none,none,none,none]=.ok [iD ns]:=rfl
  rw [h2,Zuw,Zbk]
  have hke':Zcz (f2 gIx (fV 1) (fV 0)) (List.map some [iD ns]) (Zca p n)=_:=hke
  rw [hke',Zbk]
  unfold kcs
  have ez:((List.range n).map fun i=>ns.getD (p+i) 0).zip (Xqf p n)=(List.range n).map fun i=>(ns.getD (p+i) 0,((p+i:Nat):Int)):=by
   unfold Xqf
   rw [List.zip_map']
   simp
  rw [ez]
 have hsp:=Zme (ns:=ns) (b:=p) (e:=p+k.w) (by omega) (by omega) (by omega)
 have e1:((p:Int)+k.w).toNat=p+n:=by omega
 rw [e1,toNat_natCast] at hsp
 have hlim:((kcs ns p n).map fun x=>D.int x.2).length≤lim:=by rw [length_map,Zpv];show _≤1000000;omega
 have loop:V (Zdz (Xi 6) Jf ((kcs ns p n).map fun x=>D.int x.2) [some (iD ns),some (kD k),some (.int p),some (.lst ((kcs ns p n).map fun x=>D.int x.2)),some (.int (pre ns (p+n) - pre ns p)),some (.lst []),none]) (fun fl=>∃s o,fl=.nx [some (iD ns),some (kD k),some (.int p),some (.lst ((kcs ns p n).map fun x=>D.int x.2)),s,some (iD (Yn ns k p)),o]):=by
  have hm:Yn ns k p=mnd k.al (kcs ns p n) (pre ns (p+n) - pre ns p):=by unfold Yn;rw [ht]
  rw [hm]
  have hlen:=Zpv ns p n
  have hme:∀x∈kcs ns p n,∃c:Nat,c<ns.length∧x=(ns.getD c 0,(c:Int)):=fun x hx=>by
   obtain ⟨c,c1,c2,e⟩:=Xjr hx
   exact ⟨c,by omega,e⟩
  generalize (D.lst ((kcs ns p n).map fun x=>D.int x.2))=KL at *
  generalize pre ns (p+n) - pre ns p=S at *
  generalize kcs ns p n=L at *
  refine Zqg (P:=fun r ρ=>∃(s:Int) (done:List Int) (o:Option D),ρ=[some (iD ns),some (kD k),some (.int p),some KL,some (.int s),some (iD done),o]∧(∀x∈r,x∈L)∧done++mnd k.al r s=mnd k.al L S∧done.length+r.length≤n) ?_ ?_ ⟨S,[],none,rfl,fun _ h=>h,rfl,by simp;omega⟩
  ·rintro x r ρ ⟨s,done,o,rfl,hr,he,hd⟩
   obtain ⟨c,hc,rfl⟩:=hme x (hr x (.head _))
   rw [Zce]
   rw [mnd] at he
   rw [length_cons] at hd
   by_cases hs:s≤k.al
   ·rw [if_pos hs,append_nil] at he
    refine V.of (a:=.brk [some (iD ns),some (kD k),some (.int p),some KL,some (.int s),some (iD done),some (.int c)]) ?_ ?_
    ·unfold Jf
     exact Xqx (Zcr (Jt (Zo rfl (Zo rfl rfl (kD_3 k)) (Zuo hs))) rfl)
    ·rw [Xpn]
     exact ⟨_,_,by rw [he]⟩
   ·rw [if_neg hs] at he
    refine V.of (a:=.nx [some (iD ns),some (kD k),some (.int p),some KL,some (.int (s - ns.getD c 0)),some (.lst (done.map D.int++[.int c])),some (.int c)]) ?_ ?_
    ·unfold Jf
     exact Zp (Jl (Jt (Zo rfl (Zo rfl rfl (kD_3 k)) (Zum hs))) rfl) (Zp (Zxs rfl (Zo rfl rfl (Ju (k:=c) rfl hc)) rfl) (Zha rfl (Zch rfl rfl) (by rw [length_map];show _<1000000;omega)))
    ·rw [Zig]
     exact ⟨s - ns.getD c 0,done++[(c:Int)],some (.int c),by simp [iD],fun y hy=>hr y (.tail _ hy),by rw [append_assoc];exact he,by simp;omega⟩
  ·rintro ρ ⟨s,done,o,rfl,hr,he,hd⟩
   rw [mnd,append_nil] at he
   exact ⟨_,_,by rw [he]⟩
 obtain ⟨fl,e,s,o,rfl⟩:=loop.ex
 unfold Yi Zdg
 exact Jq (Zp (Xk hso) (Zp (Xk (Xl (Zc rfl (Zc rfl (Zc (Zo rfl (Zo rfl rfl (Zuk k)) rfl) rfl))) hsp)) (Zp (Xk (Yp rfl rfl)) (Zp (Zfw (Zcm rfl hlim) e) (Jr rfl)))))
noncomputable def need (ns:List Int)(k:Kd)(p:Nat):Nat:=(Yn ns k p).length
inductive MW (ns:List Int)(ks:List Kd):Nat→Nat→Int→Prop where
 | nil:MW ns ks 0 0 0
 | skip {e c:Nat} {x:Int}:MW ns ks e c x→MW ns ks (e+1) c x
 | pc {b c:Nat} {x:Int} {k:Kd}:MW ns ks b c x→k∈ks→MW ns ks (b+k.w.toNat) (c+need ns k b) (x+k.wo)
inductive TrW (ns:List Int)(ks:List Kd):Nat→Nat→List (Kd×Nat)→Int→Prop where
 | nil (c:Nat):TrW ns ks 0 c [] 0
 | skip {e c:Nat} {l:List (Kd×Nat)} {x:Int}:TrW ns ks e c l x→TrW ns ks (e+1) c l x
 | pc {b c:Nat} {l:List (Kd×Nat)} {x:Int} {k:Kd}:TrW ns ks b c l x→k∈ks→TrW ns ks (b+k.w.toNat) (c+need ns k b) ((k,b)::l) (x+k.wo)
noncomputable def stM (ns:List Int)(f:Nat→Nat→Int)(e c:Nat)(m:Int)(k:Kd):Int:=if need ns k (e - k.w.toNat)≤c then max m (f (e - k.w.toNat) (c - need ns k (e - k.w.toNat))+k.wo) else m
noncomputable def mhS (ns:List Int)(f:Nat→Nat→Int)(e c:Nat)(l:List Kd)(m:Int):Int:=l.foldl (stM ns f e c) m
noncomputable def wks (ks:List Kd)(e:Nat):List Kd:=ks.filter fun k=>decide (k.w≤(e:Int))
noncomputable def mhF (ns:List Int)(ks:List Kd):Nat→Nat→Nat→Int
 | 0,_,_=>0
 | n+1,e,c=>if e≤n then mhF ns ks n e c else mhS ns (mhF ns ks n) (n+1) c (wks ks (n+1)) (mhF ns ks n n c)
noncomputable def mh (ns:List Int)(ks:List Kd)(e c:Nat):Int:=mhF ns ks e e c
section
variable {ns:List Int}{ks:List Kd}
theorem Zwi:∀{n e:Nat} (c:Nat),e≤n→mhF ns ks n e c=mh ns ks e c
 | 0,e,c,h=>by
  obtain rfl:e=0:=by omega
  rfl
 | n+1,e,c,h=>by
  by_cases he:e≤n
  ·rw [mhF,if_pos he]
   exact Zwi c he
  ·obtain rfl:e=n+1:=by omega
   rfl
theorem Znf {f g:Nat→Nat→Int}{e c:Nat}(hw:∀k∈ks,1≤k.w)(he:1≤e)(h:∀b c,b<e→f b c=g b c):∀(l:List Kd),(∀k∈l,k∈ks)→∀m,mhS ns f e c l m=mhS ns g e c l m
 | [],_,_=>rfl
 | k::l,hl,m=>by
  have hk:=hw k (hl k (.head _))
  have e1:stM ns f e c m k=stM ns g e c m k:=by unfold stM;rw [h (e - k.w.toNat) _ (by omega)]
  show mhS ns f e c l (stM ns f e c m k)=mhS ns g e c l (stM ns g e c m k)
  rw [e1]
  exact Znf hw he h l (fun k hk=>hl k (.tail _ hk)) _
theorem Zer {e:Nat}{k:Kd}(h:k∈wks ks e):k∈ks:=(List.mem_filter.mp h).1
theorem Zvu (c:Nat):mh ns ks 0 c=0:=rfl
theorem Zgd (hw:∀k∈ks,1≤k.w)(e c:Nat):mh ns ks (e+1) c=mhS ns (mh ns ks) (e+1) c (wks ks (e+1)) (mh ns ks e c):=by
 have:mh ns ks (e+1) c=mhS ns (mhF ns ks e) (e+1) c (wks ks (e+1)) (mhF ns ks e e c):=by
  unfold mh
  rw [mhF,if_neg (by omega)]
 rw [this,Zwi c (le_refl e)]
 exact Znf hw (by omega) (fun b c hb=>Zwi c (by omega)) _ (fun k hk=>Zer hk) _
theorem Zwo (f:Nat→Nat→Int)(e c:Nat):∀(l:List Kd) (m:Int),m≤mhS ns f e c l m
 | [],m=>Int.le_refl m
 | k::l,m=>by
  refine Int.le_trans ?_ (Zwo f e c l _)
  unfold stM
  split
  ·exact Int.le_max_left _ _
  ·exact Int.le_refl _
theorem Zmq (f:Nat→Nat→Int)(e c:Nat):∀(l:List Kd) (m:Int) {k:Kd},k∈l→need ns k (e - k.w.toNat)≤c→f (e - k.w.toNat) (c - need ns k (e - k.w.toNat))+k.wo≤mhS ns f e c l m
 | k'::l,m,k,hk,hn=>by
  rcases List.mem_cons.mp hk with rfl | hk
  ·refine Int.le_trans ?_ (Zwo f e c l _)
   unfold stM
   rw [if_pos hn]
   exact Int.le_max_right _ _
  ·exact Zmq f e c l _ hk hn
theorem Zvh (f:Nat→Nat→Int)(e c:Nat):∀(l:List Kd) (m:Int),mhS ns f e c l m=m∨∃k∈l,need ns k (e - k.w.toNat)≤c∧f (e - k.w.toNat) (c - need ns k (e - k.w.toNat))+k.wo=mhS ns f e c l m
 | [],m=>.inl rfl
 | k::l,m=>by
  have e1:mhS ns f e c (k::l) m=mhS ns f e c l (stM ns f e c m k):=rfl
  rcases Zvh f e c l (stM ns f e c m k) with h | ⟨k',h1,h2,h3⟩
  ·rw [e1,h]
   unfold stM
   split
   ·rename_i hn
    rcases Int.le_total m (f (e - k.w.toNat) (c - need ns k (e - k.w.toNat))+k.wo) with z | z
    ·rw [Int.max_eq_right z]
     exact .inr ⟨k,.head _,hn,rfl⟩
    ·rw [Int.max_eq_left z]
     exact .inl rfl
   ·exact .inl rfl
  ·rw [e1]
   exact .inr ⟨k',.tail _ h1,h2,h3⟩
theorem mh_up (hw:∀k∈ks,1≤k.w)(e c:Nat):mh ns ks e c≤mh ns ks (e+1) c:=by
 rw [Zgd hw]
 exact Zwo _ _ _ _ _
theorem Xnh (hw:∀k∈ks,1≤k.w){e c':Nat}{x:Int}(h:MW ns ks e c' x):∀c,c'≤c→x≤mh ns ks e c:=by
 induction h with
 | nil=>exact fun c _=>Int.le_of_eq (Zvu c).symm
 | skip _ ih=>exact fun c hc=>Int.le_trans (ih c hc) (mh_up hw _ c)
 | @pc b c0 x k _ hk ih =>
  intro c hc
  have h1:=hw k hk
  obtain ⟨e,he⟩:∃e,b+k.w.toNat=e+1:=⟨b+k.w.toNat - 1,by omega⟩
  rw [he,Zgd hw]
  have hb:e+1 - k.w.toNat=b:=by omega
  have hkk:k∈wks ks (e+1):=List.mem_filter.mpr ⟨hk,decide_eq_true (by omega)⟩
  have:=Zmq (ns:=ns) (mh ns ks) (e+1) c (wks ks (e+1)) (mh ns ks e c) hkk (by rw [hb];omega)
  rw [hb] at this
  exact Int.le_trans (Int.add_le_add_right (ih (c - need ns k b) (by omega)) _) this
theorem Xkk (hw:∀k∈ks,1≤k.w):∀(e c:Nat),∃c',c'≤c∧MW ns ks e c' (mh ns ks e c):=by
 intro e
 induction e using Nat.strongRecOn with
 | _ e ih =>
  intro c
  cases e with
  | zero=>exact ⟨0,zero_le _,.nil⟩
  | succ e =>
   rw [Zgd hw]
   rcases Zvh (ns:=ns) (mh ns ks) (e+1) c (wks ks (e+1)) (mh ns ks e c) with h | ⟨k,h1,h2,h3⟩
   ·rw [h]
    obtain ⟨c',c1,m⟩:=ih e (by omega) c
    exact ⟨c',c1,m.skip⟩
   ·have hk:=Zer h1
    have k1:=hw k hk
    have k2:k.w≤((e+1:Nat):Int):=of_decide_eq_true (List.mem_filter.mp h1).2
    obtain ⟨c',c1,m⟩:=ih (e+1 - k.w.toNat) (by omega) (c - need ns k (e+1 - k.w.toNat))
    have m2:=m.pc hk
    rw [h3,show e+1 - k.w.toNat+k.w.toNat=e+1 by omega] at m2
    exact ⟨_,by omega,m2⟩
theorem TrW.sum {e c:Nat}{l:List (Kd×Nat)}{x:Int}(h:TrW ns ks e c l x):(l.map fun p=>need ns p.1 p.2).sum≤c∧l.length≤e∧(∀p∈l,p.1∈ks∧p.2+p.1.w.toNat≤e)∨∃k∈ks,k.w<1:=by
 by_cases hw:∃k∈ks,k.w<1
 ·exact .inr hw
 ·left
  induction h with
  | nil c=>exact ⟨zero_le _,le_refl _,fun _ h=>nomatch h⟩
  | skip _ ih=>exact ⟨ih.1,by have:=ih.2.1;omega,fun p hp=>⟨(ih.2.2 p hp).1,by have:=(ih.2.2 p hp).2;omega⟩⟩
  | @pc b c l x k _ hk ih =>
   have k1:1≤k.w:=Int.not_lt.mp fun z=>hw ⟨k,hk,z⟩
   refine ⟨?_,?_,fun p hp=>?_⟩
   ·rw [map_cons,sum_cons]
    have:=ih.1
    show need ns k b+_≤_
    omega
   ·rw [length_cons]
    have:=ih.2.1
    omega
   ·rcases List.mem_cons.mp hp with rfl | hp
    ·exact ⟨hk,le_refl _⟩
    ·exact ⟨(ih.2.2 p hp).1,by have:=(ih.2.2 p hp).2;omega⟩
end
theorem putI {i j:Nat}{k e:FE}{ρ:Env}{xs:List Int}{v:Int}(he:e ρ=.ok (.int v))(hi:ρ[i]?=some (some (iD xs)))(hk:k ρ=.ok (.int (j:Int)))(hj:j<xs.length):Xri i k e ρ=.ok (.nx (ρ.set i (some (iD (xs.set j v))))):=by
 unfold Xri
 rw [he,Zbk,hi]
 simp only [iD]
 rw [hk,Zbk]
 simp only []
 rw [if_pos ⟨rfl,Zcf xs⟩]
 have:ixD (xs.map D.int).length (j:Int)=some j:=by
  rw [length_map]
  unfold ixD
  simp
  omega
 rw [this]
 simp [List.map_set]
noncomputable def wyD (ns:List Int)(k:Kd)(b:Nat):D:=.tup [kD k,.int b,iD (Yn ns k b)]
noncomputable def Zea (ns:List Int)(ks:List Kd)(e:Nat):List D:=(wks ks e).map fun k=>wyD ns k (e - k.w.toNat)
noncomputable def rwL (ns:List Int)(ks:List Kd)(M e:Nat):List Int:=(List.range (M+1)).map (mh ns ks e)
noncomputable def Xh (ns:List Int)(ks:List Kd)(M e:Nat):D:=.lst ((List.range (e+1)).map fun i=>iD (rwL ns ks M i))
theorem Xlg (ns:List Int)(ks:List Kd)(M e:Nat):(rwL ns ks M e).length=M+1:=by simp [rwL]
theorem Xnr (ns:List Int)(ks:List Kd){M e c:Nat}(h:c≤M):(rwL ns ks M e).getD c 0=mh ns ks e c:=by
 have:c<M+1:=by omega
 simp [rwL,List.getD,this]
theorem Zij (ns:List Int)(ks:List Kd){M e i:Nat}(h:i≤e):gIx (Xh ns ks M e) (.int (i:Int))=some (iD (rwL ns ks M i)):=Zzr (k:=i) rfl (by
  have:i<e+1:=by omega
  simp [this])
theorem Zkg (ns:List Int)(ks:List Kd){M e c:Nat}(h:c≤M):gIx (iD (rwL ns ks M e)) (.int (c:Int))=some (.int (mh ns ks e c)):=by
 have:=Ju (ns:=rwL ns ks M e) (i:=(c:Int)) (k:=c) rfl (by rw [Xlg];omega)
 rw [Xnr ns ks h] at this
 exact this
section
variable (ns:List Int)(ks:List Kd)(hn:ns.length≤63)(hk:ks.length≤1000)(hw:∀k∈ks,1≤k.w∧k.w≤1000)
include hn hk hw
theorem Xbs {e:Nat}(he:e≤ns.length):Yu [iD ns,tD ks,.int (e:Int)]=.ok (.lst (Zea ns ks e)):=by
 have hl1:(ks.map kD).length≤lim:=by rw [length_map];show _≤1000000;omega
 have hl2:((wks ks e).map kD).length≤lim:=by
  rw [length_map]
  have:=length_filter_le (fun k:Kd=>decide (k.w≤(e:Int))) ks
  show _≤1000000
  unfold wks
  omega
 have c1:=Xbt (n:=4) (c:=cE (f2 gLe (f2 gIx (fV 4) (fC (.int 1))) (fV 2))) (e:=f1 Yd (fV 4)) (ρ:=[some (iD ns),some (tD ks),some (.int (e:Int)),none]) (enc:=kD) (p:=fun k:Kd=>decide (k.w≤(e:Int))) (v:=kD) (xs:=ks) rfl fun k _=>⟨Jt (Zo (Zo rfl rfl (Zuk k)) rfl rfl),fun _=>Zch rfl rfl⟩
 have c2:=Zgt (n:=4) (e:=fA Ziz (Zd (f1 Yd (fV 4)) (Zd (f2 Zbh (fV 2) (f2 gIx (fV 4) (fC (.int 1)))) (Zd (Xo Yi (Zd (fV 0) (Zd (fV 4) (Zd (f2 Zbh (fV 2) (f2 gIx (fV 4) (fC (.int 1)))) Zy)))) Zy)))) (ρ:=[some (iD ns),some (tD ks),some (.int (e:Int)),some (.lst ((wks ks e).map kD))]) (enc:=kD) (v:=fun k=>wyD ns k (e - k.w.toNat)) (xs:=wks ks e) rfl fun k hk'=>by
  have hkk:=hw k (Zer hk')
  have k2:k.w≤(e:Int):=of_decide_eq_true (List.mem_filter.mp hk').2
  have hc:=Xck ns k (e - k.w.toNat) hkk.1 hkk.2 (by omega) (by omega)
  have e1:((e - k.w.toNat:Nat):Int)=(e:Int) - k.w:=by omega
  rw [e1] at hc
  have:wyD ns k (e - k.w.toNat)=.tup [kD k,.int ((e:Int) - k.w),iD (Yn ns k (e - k.w.toNat))]:=by unfold wyD;rw [e1]
  show _=R.ok (wyD ns k (e - k.w.toNat))
  rw [this]
  exact Yp (Zc (Zch rfl rfl) (Zc (Zo rfl (Zo rfl rfl (Zuk k)) rfl) (Zc (Xl (Zc rfl (Zc rfl (Zc (Zo rfl (Zo rfl rfl (Zuk k)) rfl) rfl))) hc) rfl))) rfl
 unfold Yu Zfn
 exact Jq (Zp (Xk (Zjo rfl (Zcm rfl hl1) c1)) (Jr (Zjo rfl (Zcm rfl hl2) c2)))
theorem Xiu {M e:Nat}(hM:M≤900)(he:e+1≤ns.length):Zaz [Xh ns ks M e,.lst (Zea ns ks (e+1))]=.ok (iD (rwL ns ks M (e+1))):=by
 have hw1:∀k∈ks,1≤k.w:=fun k hk=>(hw k hk).1
 have hlast:gIx (Xh ns ks M e) (.int (-1))=some (iD (rwL ns ks M e)):=by
  unfold Xh
  rw [range_succ,map_append]
  exact Zix _ _
 have hlist:Yv [iD (rwL ns ks M e)]=some (iD (rwL ns ks M e)):=by simp [Yv,iD]
 have hlim:(Zea ns ks (e+1)).length≤lim:=by
  unfold Zea
  rw [length_map]
  have:=length_filter_le (fun k:Kd=>decide (k.w≤((e+1:Nat):Int))) ks
  show _≤1000000
  unfold wks
  omega
 have loop:V (Zdz (Ztd (Zaj (Xi 3) (Zaj (Xi 4) (Zaj (Xi 5) Ztq)))) Zan ((wks ks (e+1)).map fun k=>wyD ns k (e+1 - k.w.toNat)) [some (Xh ns ks M e),some (.lst (Zea ns ks (e+1))),some (iD (rwL ns ks M e)),none,none,none,none]) (fun fl=>∃a b c d,fl=.nx [some (Xh ns ks M e),some (.lst (Zea ns ks (e+1))),some (iD (rwL ns ks M (e+1))),a,b,c,d]):=by
  refine Zqg (P:=fun r ρ=>(∀k∈r,k∈wks ks (e+1))∧∃(f:Nat→Int) (a b c d:Option D),ρ=[some (Xh ns ks M e),some (.lst (Zea ns ks (e+1))),some (iD ((List.range (M+1)).map f)),a,b,c,d]∧∀c,mhS ns (mh ns ks) (e+1) c r (f c)=mh ns ks (e+1) c) ?_ ?_ ⟨fun _ h=>h,mh ns ks e,none,none,none,none,rfl,fun c=>(Zgd hw1 e c).symm⟩
  ·rintro k r ρ ⟨hr,f,a,b,c,d,rfl,hf⟩
   have hk':=hr k (.head _)
   have hkk:=hw k (Zer hk')
   have k2:k.w≤((e+1:Nat):Int):=of_decide_eq_true (List.mem_filter.mp hk').2
   show V (turn (Ztd (Zaj (Xi 3) (Zaj (Xi 4) (Zaj (Xi 5) Ztq)))) Zan (.tup [kD k,.int ((e+1 - k.w.toNat:Nat):Int),iD (Yn ns k (e+1 - k.w.toNat))]) _) _
   rw [Zsn]
   generalize hb:e+1 - k.w.toNat=b' at *
   have hbe:b'≤e:=by omega
   show V (Zan [some (Xh ns ks M e),some (.lst (Zea ns ks (e+1))),some (iD ((List.range (M+1)).map f)),some (kD k),some (.int (b':Int)),some (iD (Yn ns k b')),d]) _
   have ln:Jy [iD (Yn ns k b')]=some (.int (need ns k b')):=by simp [iD,need]
   have ln2:Jy [iD ((List.range (M+1)).map f)]=some (.int ((M+1:Nat):Int)):=by simp [iD]
   have hnd:need ns k b'≤1000000:=by
    unfold need Yn
    rw [Zoi]
    have:∀(l:List Int) (s:Int),grd k.al l s≤l.length:=by
     intro l
     induction l with
     | nil=>exact fun _=>le_refl _
     | cons x l ih=>intro s;rw [grd];split;exact zero_le _;exact Nat.succ_le_succ (ih _)
    have h2:=this ((kcs ns b' k.w.toNat).map (·.1)) (pre ns (b'+k.w.toNat) - pre ns b')
    rw [length_map,Zpv] at h2
    omega
   have hr2:Zjt [.int (need ns k b'),.int ((M+1:Nat):Int)]=.ok (Zca (need ns k b') (M+1 - need ns k b')):=Zil (by omega) (by omega) (by omega) (by omega) (by omega) (by omega)
   have inner:V (Zdz (Xi 6) Zdc (Zca (need ns k b') (M+1 - need ns k b')) [some (Xh ns ks M e),some (.lst (Zea ns ks (e+1))),some (iD ((List.range (M+1)).map f)),some (kD k),some (.int (b':Int)),some (iD (Yn ns k b')),d]) (fun fl=>∃d',fl=.nx [some (Xh ns ks M e),some (.lst (Zea ns ks (e+1))),some (iD ((List.range (M+1)).map fun c=>stM ns (mh ns ks) (e+1) c (f c) k)),some (kD k),some (.int (b':Int)),some (iD (Yn ns k b')),d']):=by
    refine Xjg (P:=fun i ρ=>∃d',ρ=[some (Xh ns ks M e),some (.lst (Zea ns ks (e+1))),some (iD ((List.range (M+1)).map fun c=>if c<need ns k b'+i then stM ns (mh ns ks) (e+1) c (f c) k else f c)),some (kD k),some (.int (b':Int)),some (iD (Yn ns k b')),d']) ⟨d,?_⟩ ?_ ?_
    ·have:((List.range (M+1)).map fun c=>if c<need ns k b'+0 then stM ns (mh ns ks) (e+1) c (f c) k else f c)=(List.range (M+1)).map f:=by
      refine map_congr_left fun c _=>?_
      split
      ·rename_i h
       unfold stM
       rw [hb,if_neg (by omega)]
      ·rfl
     rw [this]
    ·rintro i ρ hi ⟨d',rfl⟩
     have hc:need ns k b'+i≤M:=by omega
     rw [Zce,show ((need ns k b':Nat):Int)+(i:Int)=((need ns k b'+i:Nat):Int) by omega]
     have ho:gIx (iD ((List.range (M+1)).map fun c=>if c<need ns k b'+i then stM ns (mh ns ks) (e+1) c (f c) k else f c)) (.int ((need ns k b'+i:Nat):Int))=some (.int (f (need ns k b'+i))):=by
      have:=Ju (ns:=(List.range (M+1)).map fun c=>if c<need ns k b'+i then stM ns (mh ns ks) (e+1) c (f c) k else f c) (i:=((need ns k b'+i:Nat):Int)) (k:=need ns k b'+i) rfl (by simp;omega)
      refine Eq.trans this ?_
      have h1:need ns k b'+i<M+1:=by omega
      simp [List.getD,h1]
     have hx:gIx (iD (rwL ns ks M b')) (.int (((need ns k b'+i:Nat):Int) - (need ns k b':Nat)))=some (.int (mh ns ks b' i)):=by
      rw [show ((need ns k b'+i:Nat):Int) - (need ns k b':Nat)=(i:Nat) by omega]
      exact Zkg ns ks (by omega)
     refine V.of (a:=.nx [some (Xh ns ks M e),some (.lst (Zea ns ks (e+1))),some (iD (((List.range (M+1)).map fun c=>if c<need ns k b'+i then stM ns (mh ns ks) (e+1) c (f c) k else f c).set (need ns k b'+i) (max (f (need ns k b'+i)) (mh ns ks b' i+k.wo)))),some (kD k),some (.int (b':Int)),some (iD (Yn ns k b')),some (.int ((need ns k b'+i:Nat):Int))]) ?_ ?_
     ·unfold Zdc
      exact putI (Yp (Zc (Zo rfl rfl ho) (Zc (Zo (Zo (Zo rfl rfl (Zij ns ks hbe)) (Zo rfl (Yp (Zc rfl rfl) ln) rfl) hx) (Zo rfl rfl (Xpl k)) rfl) rfl)) (Zwn _ _)) rfl rfl (by simp;omega)
     ·rw [Zig]
      refine ⟨some (.int ((need ns k b'+i:Nat):Int)),?_⟩
      have:(((List.range (M+1)).map fun c=>if c<need ns k b'+i then stM ns (mh ns ks) (e+1) c (f c) k else f c).set (need ns k b'+i) (max (f (need ns k b'+i)) (mh ns ks b' i+k.wo)))=(List.range (M+1)).map fun c=>if c<need ns k b'+(i+1) then stM ns (mh ns ks) (e+1) c (f c) k else f c:=by
       apply ext_getElem
       ·simp
       ·intro j h1 h2
        rw [List.getElem_set]
        simp only [List.getElem_map,List.getElem_range]
        by_cases ej:need ns k b'+i=j
        ·rw [if_pos ej,if_pos (by omega),← ej]
         unfold stM
         rw [hb,if_pos (by omega),show need ns k b'+i - need ns k b'=i by omega]
        ·rw [if_neg ej]
         by_cases hj:j<need ns k b'+i
         ·rw [if_pos hj,if_pos (by omega)]
         ·rw [if_neg hj,if_neg (by omega)]
      rw [this]
    ·rintro ρ ⟨d',rfl⟩
     refine ⟨d',?_⟩
     have:((List.range (M+1)).map fun c=>if c<need ns k b'+(M+1 - need ns k b') then stM ns (mh ns ks) (e+1) c (f c) k else f c)=(List.range (M+1)).map fun c=>stM ns (mh ns ks) (e+1) c (f c) k:=by
      refine map_congr_left fun c hc=>?_
      have:=List.mem_range.mp hc
      rw [if_pos (by omega)]
     rw [this]
   obtain ⟨fl,e1,d',rfl⟩:=inner.ex
   refine V.of (a:=.nx [some (Xh ns ks M e),some (.lst (Zea ns ks (e+1))),some (iD ((List.range (M+1)).map fun c=>stM ns (mh ns ks) (e+1) c (f c) k)),some (kD k),some (.int (b':Int)),some (iD (Yn ns k b')),d']) ?_ ?_
   ·unfold Zan
    exact Zfw (Xeq (Zc (Yp (Zc rfl rfl) ln) (Zc (Yp (Zc rfl rfl) ln2) rfl)) hr2) e1
   ·rw [Zig]
    exact ⟨fun k hk=>hr k (.tail _ hk),_,_,_,_,_,rfl,fun c=>hf c⟩
  ·rintro ρ ⟨-,f,a,b,c,d,rfl,hf⟩
   have:(List.range (M+1)).map f=rwL ns ks M (e+1):=map_congr_left fun c _=>hf c
   rw [this]
   exact ⟨_,_,_,_,rfl⟩
 obtain ⟨fl,e1,a,b,c,d,rfl⟩:=loop.ex
 unfold Zaz Zkf
 exact Jq (Zp (Xk (Yp (Zc (Zo rfl (Zch rfl rfl) hlast) rfl) hlist)) (Zp (Zfw (Zcm rfl hlim) e1) (Jr rfl)))
end
section
variable (ns:List Int)(ks:List Kd)(hn:ns.length≤63)(hk:ks.length≤1000)(hw:∀k∈ks,1≤k.w∧k.w≤1000)
include hn hk hw
theorem Zpd {M n e c:Nat}(hc:c≤M)(he:e+1≤n):(Jg [Xh ns ks M n,.lst (Zea ns ks (e+1)),.int ((e+1:Nat):Int),.int (c:Int)]=.ok .non∧mh ns ks (e+1) c=mh ns ks e c)∨
  ∃k∈ks,∃b,b+k.w.toNat=e+1∧need ns k b≤c∧mh ns ks b (c - need ns k b)+k.wo=mh ns ks (e+1) c∧Jg [Xh ns ks M n,.lst (Zea ns ks (e+1)),.int ((e+1:Nat):Int),.int (c:Int)]=.ok (wyD ns k b):=by
 have hw1:∀k∈ks,1≤k.w:=fun k hk=>(hw k hk).1
 have x1:f2 gIx (f2 gIx (fV 0) (fV 2)) (fV 3) [some (Xh ns ks M n),some (.lst (Zea ns ks (e+1))),some (.int ((e+1:Nat):Int)),some (.int (c:Int)),none,none]=.ok (.int (mh ns ks (e+1) c)):=Zo (Zo rfl rfl (Zij ns ks he)) rfl (Zkg ns ks hc)
 have x2:f2 gIx (f2 gIx (fV 0) (f2 Zbh (fV 2) (fC (.int 1)))) (fV 3) [some (Xh ns ks M n),some (.lst (Zea ns ks (e+1))),some (.int ((e+1:Nat):Int)),some (.int (c:Int)),none,none]=.ok (.int (mh ns ks e c)):=by
  have:Zbh (.int ((e+1:Nat):Int)) (.int 1)=some (.int (e:Int)):=by
   show some (D.int (((e+1:Nat):Int) - 1))=_
   rw [show ((e+1:Nat):Int) - 1=(e:Int) by omega]
  exact Zo (Zo rfl (Zo rfl rfl this) (Zij ns ks (by omega))) rfl (Zkg ns ks hc)
 unfold Jg Zjz
 by_cases h:mh ns ks (e+1) c=mh ns ks e c
 ·exact .inl ⟨Jq (Zfb (Zcr (Jt (Zo x1 x2 ((Zld _ _).trans (Zuo h)))) (Jr rfl))),h⟩
 ·right
  have hlim:(Zea ns ks (e+1)).length≤lim:=by
   unfold Zea
   rw [length_map]
   have:=length_filter_le (fun k:Kd=>decide (k.w≤((e+1:Nat):Int))) ks
   show _≤1000000
   unfold wks
   omega
  have loop:V (Zdz (Xi 4) Js ((wks ks (e+1)).map fun k=>wyD ns k (e+1 - k.w.toNat)) [some (Xh ns ks M n),some (.lst (Zea ns ks (e+1))),some (.int ((e+1:Nat):Int)),some (.int (c:Int)),none,none]) (fun fl=>∃k∈wks ks (e+1),need ns k (e+1 - k.w.toNat)≤c∧mh ns ks (e+1 - k.w.toNat) (c - need ns k (e+1 - k.w.toNat))+k.wo=mh ns ks (e+1) c∧fl=.ret (wyD ns k (e+1 - k.w.toNat))):=by
   refine Zqg (P:=fun r ρ=>(∀k∈r,k∈wks ks (e+1))∧(∃k∈r,need ns k (e+1 - k.w.toNat)≤c∧mh ns ks (e+1 - k.w.toNat) (c - need ns k (e+1 - k.w.toNat))+k.wo=mh ns ks (e+1) c)∧∃a b,ρ=[some (Xh ns ks M n),some (.lst (Zea ns ks (e+1))),some (.int ((e+1:Nat):Int)),some (.int (c:Int)),a,b]) ?_ ?_ ⟨fun _ h=>h,?_,none,none,rfl⟩
   ·rintro k r ρ ⟨hr,hx,a,b,rfl⟩
    have hk':=hr k (.head _)
    have hkk:=hw k (Zer hk')
    have k2:k.w≤((e+1:Nat):Int):=of_decide_eq_true (List.mem_filter.mp hk').2
    rw [Zce]
    generalize hb:e+1 - k.w.toNat=b' at *
    show V (Js [some (Xh ns ks M n),some (.lst (Zea ns ks (e+1))),some (.int ((e+1:Nat):Int)),some (.int (c:Int)),some (wyD ns k b'),b]) _
    have w0:gIx (wyD ns k b') (.int 0)=some (kD k):=Zvo (k:=0) rfl rfl
    have w1:gIx (wyD ns k b') (.int 1)=some (.int b'):=Zvo (k:=1) rfl rfl
    have w2:gIx (wyD ns k b') (.int 2)=some (iD (Yn ns k b')):=Zvo (k:=2) rfl rfl
    have ln:Jy [iD (Yn ns k b')]=some (.int (need ns k b')):=by simp [iD,need]
    have st:Yg 5 (f2 Zbh (fV 3) (fA Jy (Zd (f2 gIx (fV 4) (fC (.int 2))) Zy))) [some (Xh ns ks M n),some (.lst (Zea ns ks (e+1))),some (.int ((e+1:Nat):Int)),some (.int (c:Int)),some (wyD ns k b'),b]=.ok (.nx [some (Xh ns ks M n),some (.lst (Zea ns ks (e+1))),some (.int ((e+1:Nat):Int)),some (.int (c:Int)),some (wyD ns k b'),some (.int ((c:Int) - need ns k b'))]):=Xk (Zo rfl (Yp (Zc (Zo rfl rfl w2) rfl) ln) rfl)
    have x3:f2 gIx (f2 gIx (fV 0) (fV 2)) (fV 3) [some (Xh ns ks M n),some (.lst (Zea ns ks (e+1))),some (.int ((e+1:Nat):Int)),some (.int (c:Int)),some (wyD ns k b'),some (.int ((c:Int) - need ns k b'))]=.ok (.int (mh ns ks (e+1) c)):=Zo (Zo rfl rfl (Zij ns ks he)) rfl (Zkg ns ks hc)
    by_cases hnd:need ns k b'≤c
    ·have e1:(c:Int) - need ns k b'=((c - need ns k b':Nat):Int):=by omega
     rw [e1] at st x3
     have x4:f2 Je (f2 gIx (f2 gIx (fV 0) (f2 gIx (fV 4) (fC (.int 1)))) (fV 5)) (f2 gIx (f2 gIx (fV 4) (fC (.int 0))) (fC (.int 2))) [some (Xh ns ks M n),some (.lst (Zea ns ks (e+1))),some (.int ((e+1:Nat):Int)),some (.int (c:Int)),some (wyD ns k b'),some (.int ((c - need ns k b':Nat):Int))]=.ok (.int (mh ns ks b' (c - need ns k b')+k.wo)):=Zo (Zo (Zo rfl (Zo rfl rfl w1) (Zij ns ks (by omega))) rfl (Zkg ns ks (by omega))) (Zo (Zo rfl rfl w0) rfl (Xpl k)) rfl
     have ge:gGe (.int ((c - need ns k b':Nat):Int)) (.int 0)=some (.bl true):=Zuo (Int.natCast_nonneg _)
     by_cases hq:mh ns ks b' (c - need ns k b')+k.wo=mh ns ks (e+1) c
     ·refine V.of (a:=.ret (wyD ns k b')) ?_ ?_
      ·unfold Js
       exact Zp st (Zcr (Zvb (Jt (Zo rfl rfl ge)) (Jt (Zo x4 x3 ((Zld _ _).trans (Zuo hq))))) (Jr rfl))
      ·rw [Xoj]
       exact ⟨k,hk',by rw [hb];exact hnd,by rw [hb];exact hq,by rw [hb]⟩
     ·refine V.of (a:=.nx [some (Xh ns ks M n),some (.lst (Zea ns ks (e+1))),some (.int ((e+1:Nat):Int)),some (.int (c:Int)),some (wyD ns k b'),some (.int ((c - need ns k b':Nat):Int))]) ?_ ?_
      ·unfold Js
       exact Zp st (Jl (Zvb (Jt (Zo rfl rfl ge)) (Jt (Zo x4 x3 ((Zld _ _).trans (Zum hq))))) rfl)
      ·rw [Zig]
       refine ⟨fun k hk=>hr k (.tail _ hk),?_,_,_,rfl⟩
       obtain ⟨k',h1,h2,h3⟩:=hx
       rcases List.mem_cons.mp h1 with rfl | h1
       ·rw [hb] at h3
        exact absurd h3 hq
       ·exact ⟨k',h1,h2,h3⟩
    ·have ge:gGe (.int ((c:Int) - need ns k b')) (.int 0)=some (.bl false):=Zum (by omega)
     refine V.of (a:=.nx [some (Xh ns ks M n),some (.lst (Zea ns ks (e+1))),some (.int ((e+1:Nat):Int)),some (.int (c:Int)),some (wyD ns k b'),some (.int ((c:Int) - need ns k b'))]) ?_ ?_
     ·unfold Js
      exact Zp st (Jl (Xjn (Jt (Zo rfl rfl ge))) rfl)
     ·rw [Zig]
      refine ⟨fun k hk=>hr k (.tail _ hk),?_,_,_,rfl⟩
      obtain ⟨k',h1,h2,h3⟩:=hx
      rcases List.mem_cons.mp h1 with rfl | h1
      ·rw [hb] at h2
       exact absurd h2 hnd
      ·exact ⟨k',h1,h2,h3⟩
   ·rintro ρ ⟨-,⟨k,hk,_⟩,_⟩
    cases hk
   ·rcases Zvh (ns:=ns) (mh ns ks) (e+1) c (wks ks (e+1)) (mh ns ks e c) with z | ⟨k,h1,h2,h3⟩
    ·rw [← Zgd hw1] at z
     exact absurd z h
    ·rw [← Zgd hw1] at h3
     exact ⟨k,h1,h2,h3⟩
  obtain ⟨fl,e1,k,h1,h2,h3,rfl⟩:=loop.ex
  have k1:=hw1 k (Zer h1)
  have k2:k.w≤((e+1:Nat):Int):=of_decide_eq_true (List.mem_filter.mp h1).2
  exact ⟨k,Zer h1,e+1 - k.w.toNat,by omega,h2,h3,Jq (Zp (Jl (Jt (Zo x1 x2 ((Zld _ _).trans (Zum h)))) rfl) (Zfb (Zfw (Zcm rfl hlim) e1)))⟩
noncomputable def Zja (ns:List Int)(ks:List Kd)(n:Nat):D:=.lst ((List.range (n+1)).map fun e=>.lst (Zea ns ks e))
omit hn hk hw in
theorem Zze {n e:Nat}(h:e≤n):gIx (Zja ns ks n) (.int (e:Int))=some (.lst (Zea ns ks e)):=Zzr (k:=e) rfl (by
  have:e<n+1:=by omega
  simp [this])
theorem Znj {M n:Nat}(hM:M≤900)(hn9:n≤900):∃l,TrW ns ks n M l (mh ns ks n M)∧Zaa [Xh ns ks M n,Zja ns ks n,.int (M:Int)]=.ok (.lst (l.map fun p=>wyD ns p.1 p.2)):=by
 have hw1:∀k∈ks,1≤k.w:=fun k hk=>(hw k hk).1
 have ll:Jy [Xh ns ks M n]=some (.int ((n+1:Nat):Int)):=by simp [Xh]
 have loop:V (Jx (cE (f2 gGt (fV 5) (fC (.int 0)))) Jv 100000 [some (Xh ns ks M n),some (Zja ns ks n),some (.int (M:Int)),some (.lst []),some (.int (M:Int)),some (.int (n:Int)),none]) (fun fl=>∃l,TrW ns ks n M l (mh ns ks n M)∧∃a b c,fl=.nx [some (Xh ns ks M n),some (Zja ns ks n),some (.int (M:Int)),some (.lst (l.map fun p=>wyD ns p.1 p.2)),a,b,c]):=by
  refine Zuz (P:=fun e ρ=>e≤n∧∃(l:List (Kd×Nat)) (c:Nat) (o:Option D),c≤M∧l.length+e≤n∧ρ=[some (Xh ns ks M n),some (Zja ns ks n),some (.int (M:Int)),some (.lst (l.map fun p=>wyD ns p.1 p.2)),some (.int (c:Int)),some (.int (e:Int)),o]∧∀l2,TrW ns ks e c l2 (mh ns ks e c)→TrW ns ks n M (l++l2) (mh ns ks n M)) ?_ n 100000 _ (by omega) ⟨le_refl _,[],M,none,le_refl _,by simp,rfl,fun l2 h=>h⟩
  rintro e ρ ⟨he,l,c,o,hc,hl,rfl,hT⟩
  cases e with
  | zero =>
   refine V.of (a:=false) (Jt (Zo rfl rfl (Zum (by omega)))) ?_
   rw [if_neg (by simp)]
   have:=hT [] (.nil c)
   rw [append_nil] at this
   exact ⟨l,this,_,_,_,rfl⟩
  | succ e =>
   refine V.of (a:=true) (Jt (Zo rfl rfl (Zuo (show (0:Int)<((e+1:Nat):Int) by omega)))) ?_
   rw [if_pos rfl]
   have hwx:=Zze ns ks he
   rcases Zpd ns ks hn hk hw (n:=n) hc he with ⟨hr,h1⟩ | ⟨k,hkk,b,h1,h2,h3,hr⟩
   ·have hc1:Xo Jg (Zd (fV 0) (Zd (f2 gIx (fV 1) (fV 5)) (Zd (fV 5) (Zd (fV 4) Zy)))) [some (Xh ns ks M n),some (Zja ns ks n),some (.int (M:Int)),some (.lst (l.map fun p=>wyD ns p.1 p.2)),some (.int (c:Int)),some (.int ((e+1:Nat):Int)),o]=.ok .non:=Xl (Zc rfl (Zc (Zo rfl rfl hwx) (Zc rfl (Zc rfl rfl)))) hr
    refine V.of (a:=.nx [some (Xh ns ks M n),some (Zja ns ks n),some (.int (M:Int)),some (.lst (l.map fun p=>wyD ns p.1 p.2)),some (.int (c:Int)),some (.int (e:Int)),some .non]) ?_ ?_
    ·unfold Jv
     have:Zbh (.int ((e+1:Nat):Int)) (.int 1)=some (.int (e:Int)):=by
      show some (D.int (((e+1:Nat):Int) - 1))=_
      rw [show ((e+1:Nat):Int) - 1=(e:Int) by omega]
     exact Zp (Xk hc1) (Zcr (Jt (Zo rfl rfl rfl)) (Zxs rfl rfl this))
    ·rw [Zig]
     refine ⟨e,by omega,by omega,l,c,_,hc,by omega,rfl,fun l2 h=>hT l2 ?_⟩
     rw [h1]
     exact h.skip
   ·have k1:=hw1 k hkk
    have hc1:Xo Jg (Zd (fV 0) (Zd (f2 gIx (fV 1) (fV 5)) (Zd (fV 5) (Zd (fV 4) Zy)))) [some (Xh ns ks M n),some (Zja ns ks n),some (.int (M:Int)),some (.lst (l.map fun p=>wyD ns p.1 p.2)),some (.int (c:Int)),some (.int ((e+1:Nat):Int)),o]=.ok (wyD ns k b):=Xl (Zc rfl (Zc (Zo rfl rfl hwx) (Zc rfl (Zc rfl rfl)))) hr
    have w1:gIx (wyD ns k b) (.int 1)=some (.int b):=Zvo (k:=1) rfl rfl
    have w2:gIx (wyD ns k b) (.int 2)=some (iD (Yn ns k b)):=Zvo (k:=2) rfl rfl
    have ln:Jy [iD (Yn ns k b)]=some (.int (need ns k b)):=by simp [iD,need]
    have sb:Zbh (.int (c:Int)) (.int (need ns k b))=some (.int ((c - need ns k b:Nat):Int)):=by
     show some (D.int ((c:Int) - (need ns k b:Nat)))=_
     rw [show (c:Int) - (need ns k b:Nat)=((c - need ns k b:Nat):Int) by omega]
    refine V.of (a:=.nx [some (Xh ns ks M n),some (Zja ns ks n),some (.int (M:Int)),some (.lst ((l.map fun p=>wyD ns p.1 p.2)++[wyD ns k b])),some (.int ((c - need ns k b:Nat):Int)),some (.int (b:Int)),some (wyD ns k b)]) ?_ ?_
    ·unfold Jv
     exact Zp (Xk hc1) (Jl (Jt (Zo rfl rfl rfl)) (Zp (Xk (Zch (Zo rfl rfl w1) rfl)) (Zp (Zxs rfl (Yp (Zc (Zo rfl rfl w2) rfl) ln) sb) (Zha rfl rfl (by rw [length_map];show _<1000000;omega)))))
    ·rw [Zig]
     refine ⟨b,by omega,by omega,l++[(k,b)],c - need ns k b,some (wyD ns k b),by omega,by simp;omega,by simp,fun l2 h=>?_⟩
     rw [append_assoc]
     refine hT _ ?_
     have:=h.pc hkk
     rw [h1,show c - need ns k b+need ns k b=c by omega,h3] at this
     exact this
 obtain ⟨fl,e1,l,hT,a,b,c,rfl⟩:=loop.ex
 have e':Zek 100000 (cE (f2 gGt (fV 5) (fC (.int 0)))) Jv [some (Xh ns ks M n),some (Zja ns ks n),some (.int (M:Int)),some (.lst []),some (.int (M:Int)),some (.int (n:Int)),none]=_:=e1
 have sb:Zbh (.int ((n+1:Nat):Int)) (.int 1)=some (.int (n:Int)):=by
  show some (D.int (((n+1:Nat):Int) - 1))=_
  rw [show ((n+1:Nat):Int) - 1=(n:Int) by omega]
 refine ⟨l,hT,?_⟩
 unfold Zaa Ziu
 exact Jq (Zp (Xk (Yp rfl rfl)) (Zp (Xk (Zch rfl rfl)) (Zp (Xk (Zo (Yp (Zc rfl rfl) ll) rfl sb)) (Zp e' (Jr rfl)))))
end
theorem Xgr {i:Nat}{e:FE}{ρ:Env}{xs ys:List D}(hv:fV i ρ=.ok (.lst xs))(he:e ρ=.ok (.lst ys))(h:xs.length+ys.length≤lim)(hf:Yj ys=true):Zpl i e ρ=.ok (.nx (ρ.set i (some (.lst (xs++ys))))):=by
 rw [Xbu,hv,Zbk]
 simp only []
 rw [he,Zbk]
 simp only []
 rw [if_pos ⟨h,hf⟩]
noncomputable def cellsOf (ns:List Int)(l:List (Kd×Nat)):List Int:=(l.map fun p=>Yn ns p.1 p.2).flatten
noncomputable def pcsM (l:List (Kd×Nat)):List (Int×Str):=(l.map fun p=>((p.2:Int),p.1.name)).reverse
noncomputable def prS (p:Int×Str):Pr:=(p.1,.inr p.2)
theorem Zse {c:Pr}:∀{l:List Pr},(∀d∈l,d.1<c.1)→Xfh c l=l++[c]
 | [],_=>rfl
 | d::r,h=>by
  have h1:=h d (.head _)
  have:Zeq c d=false:=by
   unfold Zeq
   rw [if_neg (by omega)]
   exact decide_eq_false (by omega)
  rw [Xfh,this,if_neg (by simp),Zse fun d hd=>h d (.tail _ hd)]
  rfl
theorem Zke:∀{l:List Pr},l.Pairwise (fun x y=>y.1<x.1)→Zlm l=l.reverse
 | [],_=>rfl
 | c::r,h=>by
  obtain ⟨h1,h2⟩:=List.pairwise_cons.mp h
  rw [Zlm,Zke h2,Zse fun d hd=>h1 d (List.mem_reverse.mp hd),reverse_cons]
theorem Zrj:∀(ps:List (Int×Str)),Zpx (ps.map pD)=some (ps.map prS)
 | []=>rfl
 | p::ps=>by
  have:=Zrj ps
  simp [Zpx,pD,Zwc,prS] at this ⊢
  rw [this]
  rfl
theorem Zzx {ps:List (Int×Str)}(hl:ps.length≤63)(h:ps.Pairwise (fun x y=>y.1<x.1)):Zmz [psD ps]=some (psD ps.reverse):=by
 unfold Zmz psD
 simp only []
 rw [Zrj]
 simp only [Option.bind_some]
 have hp:(ps.map prS).Pairwise (fun x y=>y.1<x.1):=List.pairwise_map.mpr h
 rw [if_pos ⟨by rw [length_map];omega,hp,.inr (by simp [prS])⟩,Zke hp,← map_reverse]
 congr 2
 rw [map_map]
 rfl
section
variable {ns:List Int}{ks:List Kd}
theorem TrW.facts (hw:∀k∈ks,1≤k.w){e c:Nat}{l:List (Kd×Nat)}{x:Int}(h:TrW ns ks e c l x):(cellsOf ns l).length≤c∧l.length≤e∧(∀p∈l,p.1∈ks∧p.2+p.1.w.toNat≤e):=by
 rcases h.sum with ⟨h1,h2,h3⟩ | ⟨k,hk,z⟩
 ·refine ⟨?_,h2,h3⟩
  unfold cellsOf
  rw [List.length_flatten,map_map]
  exact h1
 ·have:=hw k hk
  omega
theorem TrW.fall (hw:∀k∈ks,1≤k.w){e c:Nat}{l:List (Kd×Nat)}{x:Int}(h:TrW ns ks e c l x):l.Pairwise (fun p q=>q.2+q.1.w.toNat≤p.2):=by
 induction h with
 | nil=>exact .nil
 | skip _ ih=>exact ih
 | pc h _ ih=>exact List.pairwise_cons.mpr ⟨fun q hq=>((h.facts hw).2.2 q hq).2,ih⟩
end
theorem Zww (ns:List Int)(ks:List Kd)(hn:ns.length≤63)(hk:ks.length≤1000)(hw:∀k∈ks,1≤k.w∧k.w≤1000)(m:Int){M:Nat}(hM:(M:Int)=max 0 (min m ns.length)):∃l,TrW ns ks ns.length M l (mh ns ks ns.length M)∧Xq [iD ns,tD ks,.int m]=.ok (.tup [.int (mh ns ks ns.length M),iD (sortI (cellsOf ns l)),psD (pcsM l)]):=by
  have hw1:∀k∈ks,1≤k.w:=fun k hk=>(hw k hk).1
  have hn9:ns.length≤63:=hn
  have hM9:M≤ns.length:=by omega
  obtain ⟨l,hT,hlw⟩:=Znj ns ks hn9 hk hw (M:=M) (n:=ns.length) (by omega) (by omega)
  obtain ⟨f1_,f2_,f3_⟩:=hT.facts hw1
  have l1:Jy [iD ns]=some (.int ns.length):=by simp [iD]
  have b1:-1000000000≤(ns.length:Int)+1∧(ns.length:Int)+1≤1000000:=by omega
  have et:((ns.length:Int)+1).toNat=ns.length+1:=by omega
  have c1:=Zgt (n:=12) (e:=Xo Yu (Zd (fV 0) (Zd (fV 1) (Zd (fV 12) Zy)))) (ρ:=[some (iD ns),some (tD ks),some (.int m),some (.int (M:Int)),none,none,none,none,none,none,none,none]) (enc:=fun e:Nat=>D.int (0+(e:Int))) (v:=fun e:Nat=>.lst (Zea ns ks e)) (xs:=List.range (ns.length+1)) rfl fun e he=>by
    have:=Xbs ns ks hn9 hk hw (e:=e) (by have:=List.mem_range.mp he;omega)
    rw [show (0:Int)+(e:Int)=(e:Int) by omega]
    exact Xl (Zc rfl (Zc rfl (Zc rfl rfl))) this
  have e0:rwL ns ks M 0=(List.replicate ((M:Int)+1).toNat [(0:Int)]).flatten:=by
    have e2:((M:Int)+1).toNat=M+1:=by omega
    rw [List.flatten_replicate_singleton,e2]
    apply ext_getElem
    · simp [rwL]
    · intro i h1 h2
      simp [rwL,Zvu]
  have r0:Zcx (.lst [.int 0]) (.int ((M:Int)+1))=some (iD (rwL ns ks M 0)):=by
    rw [e0]
    exact Zph (ws:=[0]) (m:=(M:Int)+1) (by omega) (by omega) (by simp)
  have rng1:Zjt [.int 1,.int ((ns.length:Int)+1)]=.ok (Zca 1 ns.length):=Zil (by omega) (by omega) (by omega) (by omega) (by omega) (by omega)
  have loop1:V (Zdz (Xi 6) Zbb (Zca 1 ns.length) [some (iD ns),some (tD ks),some (.int m),some (.int (M:Int)),some (Zja ns ks ns.length),some (Xh ns ks M 0),none,none,none,none,none,none]) (fun fl=>∃o,fl=.nx [some (iD ns),some (tD ks),some (.int m),some (.int (M:Int)),some (Zja ns ks ns.length),some (Xh ns ks M ns.length),o,none,none,none,none,none]):=by
    refine Xjg (P:=fun i ρ=>∃o,ρ=[some (iD ns),some (tD ks),some (.int m),some (.int (M:Int)),some (Zja ns ks ns.length),some (Xh ns ks M i),o,none,none,none,none,none]) ⟨none,rfl⟩ ?_ ?_
    · rintro i ρ hi ⟨o,rfl⟩
      rw [Zce,show (1:Int)+(i:Int)=((i+1:Nat):Int) by omega]
      refine V.of (a:=.nx [some (iD ns),some (tD ks),some (.int m),some (.int (M:Int)),some (Zja ns ks ns.length),some (Xh ns ks M (i+1)),some (.int ((i+1:Nat):Int)),none,none,none,none,none]) ?_ ?_
      · have e3:Xh ns ks M (i+1)=.lst (((List.range (i+1)).map fun i=>iD (rwL ns ks M i))++[iD (rwL ns ks M (i+1))]):=by
          unfold Xh
          rw [range_succ (n:=i+1),map_append]
          rfl
        rw [e3]
        unfold Zbb
        exact Zha rfl (Xl (Zc rfl (Zc (Zo rfl rfl (Zze ns ks hi)) rfl)) (Xiu ns ks hn9 hk hw (by omega) hi)) (by rw [length_map,length_range];show _<1000000;omega)
      · rw [Zig]
        exact ⟨_,rfl⟩
    · rintro ρ ⟨o,rfl⟩
      exact ⟨o,rfl⟩
  obtain ⟨fl1,e1,o1,rfl⟩:=loop1.ex
  have hcl:∀l1 l2,l1++l2=l→(cellsOf ns l1).length≤63∧l1.length≤63:=fun l1 l2 e=>by
    subst e
    rw [cellsOf,map_append,List.flatten_append,length_append] at f1_
    rw [length_append] at f2_
    unfold cellsOf
    omega
  have loop2:V (Zdz (Ztd (Zaj (Xi 9) (Zaj (Xi 10) (Zaj (Xi 11) Ztq)))) Jd (l.map fun p=>wyD ns p.1 p.2) [some (iD ns),some (tD ks),some (.int m),some (.int (M:Int)),some (Zja ns ks ns.length),some (Xh ns ks M ns.length),o1,some (.lst []),some (.lst []),none,none,none]) (fun fl=>∃a b c,fl=.nx [some (iD ns),some (tD ks),some (.int m),some (.int (M:Int)),some (Zja ns ks ns.length),some (Xh ns ks M ns.length),o1,some (iD (cellsOf ns l)),some (psD (l.map fun p=>((p.2:Int),p.1.name))),a,b,c]):=by
    refine Zqg (P:=fun r ρ=>∃l1,l1++r=l∧∃a b c,ρ=[some (iD ns),some (tD ks),some (.int m),some (.int (M:Int)),some (Zja ns ks ns.length),some (Xh ns ks M ns.length),o1,some (iD (cellsOf ns l1)),some (psD (l1.map fun p=>((p.2:Int),p.1.name))),a,b,c]) ?_ ?_ ⟨[],rfl,none,none,none,rfl⟩
    · rintro ⟨k,b⟩ r ρ ⟨l1,hl,a',b',c',rfl⟩
      have hb:=hcl (l1++[(k,b)]) r (by rw [append_assoc];exact hl)
      have hc2:cellsOf ns (l1++[(k,b)])=cellsOf ns l1++Yn ns k b:=by simp [cellsOf]
      rw [hc2,length_append,length_append,length_singleton] at hb
      show V (turn (Ztd (Zaj (Xi 9) (Zaj (Xi 10) (Zaj (Xi 11) Ztq)))) Jd (.tup [kD k,.int (b:Int),iD (Yn ns k b)]) _) _
      rw [Zsn]
      show V (Jd [some (iD ns),some (tD ks),some (.int m),some (.int (M:Int)),some (Zja ns ks ns.length),some (Xh ns ks M ns.length),o1,some (iD (cellsOf ns l1)),some (psD (l1.map fun p=>((p.2:Int),p.1.name))),some (kD k),some (.int (b:Int)),some (iD (Yn ns k b))]) _
      refine V.of (a:=.nx [some (iD ns),some (tD ks),some (.int m),some (.int (M:Int)),some (Zja ns ks ns.length),some (Xh ns ks M ns.length),o1,some (iD (cellsOf ns (l1++[(k,b)]))),some (psD ((l1++[(k,b)]).map fun p=>((p.2:Int),p.1.name))),some (kD k),some (.int (b:Int)),some (iD (Yn ns k b))]) ?_ ?_
      · unfold Jd
        refine Zp (ρ':=[some (iD ns),some (tD ks),some (.int m),some (.int (M:Int)),some (Zja ns ks ns.length),some (Xh ns ks M ns.length),o1,some (iD (cellsOf ns (l1++[(k,b)]))),some (psD (l1.map fun p=>((p.2:Int),p.1.name))),some (kD k),some (.int (b:Int)),some (iD (Yn ns k b))]) ?_ ?_
        · have ec:iD (cellsOf ns (l1++[(k,b)]))=.lst ((cellsOf ns l1).map D.int++(Yn ns k b).map D.int):=by rw [hc2];simp [iD]
          rw [ec]
          exact Xgr rfl rfl (by rw [length_map,length_map];show _≤1000000;omega) (Zcf _)
        · have ep:psD ((l1++[(k,b)]).map fun p=>((p.2:Int),p.1.name))=.lst ((l1.map fun p=>((p.2:Int),p.1.name)).map pD++[pD ((b:Int),k.name)]):=by
            unfold psD
            rw [map_append,map_append]
            rfl
          rw [ep]
          exact Zha rfl (Yp (Zc (Zch rfl rfl) (Zc (Zch (Zo rfl rfl (kD_0 k)) rfl) rfl)) rfl) (by rw [length_map,length_map];show _<1000000;omega)
      · rw [Zig]
        exact ⟨l1++[(k,b)],by rw [append_assoc];exact hl,_,_,_,rfl⟩
    · rintro ρ ⟨l1,hl,a',b',c',rfl⟩
      rw [append_nil] at hl
      subst hl
      exact ⟨_,_,_,rfl⟩
  obtain ⟨fl2,e2,a2,b2,c2,rfl⟩:=loop2.ex
  have hlim2:(l.map fun p=>wyD ns p.1 p.2).length≤lim:=by rw [length_map];show _≤1000000;omega
  have hso:Zoe [iD (cellsOf ns l)]=some (iD (sortI (cellsOf ns l))):=by
    unfold Zoe iD
    simp only [ints_map,Option.bind_some]
    rw [if_pos (by omega)]
  have hsp:Zmz [psD (l.map fun p=>((p.2:Int),p.1.name))]=some (psD (pcsM l)):=Zzx (by rw [length_map];omega) (by
    rw [pairwise_map]
    refine (List.Pairwise.and_mem.mp (hT.fall hw1)).imp fun {p q} z=>?_
    have:=hw1 q.1 (f3_ q z.2.1).1
    have:=z.2.2
    show (q.2:Int)<(p.2:Int)
    omega)
  have hlast:gIx (Xh ns ks M ns.length) (.int (-1))=some (iD (rwL ns ks M ns.length)):=by
    unfold Xh
    rw [range_succ,map_append]
    exact Zix _ _
  have hmx:Zmu [.int 0,.int (min m ns.length)]=some (.int (M:Int)):=by rw [Zwn,hM]
  have hall:D.lst ((List.range (ns.length+1)).map fun e=>.lst (Zea ns ks e))=Zja ns ks ns.length:=rfl
  refine ⟨l,hT,?_⟩
  unfold Xq Zfg
  have hrL:Zca 0 (ns.length+1)=(List.range (ns.length+1)).map fun e:Nat=>D.int (0+(e:Int)):=rfl
  exact Jq (Zp (Xk (Yp (Zc rfl (Zc (Yp (Zc rfl (Zc (Yp (Zc rfl rfl) l1) rfl)) (Zxd _ _)) rfl)) hmx)) (Zp (Xk (Zjo rfl ((Zpz (Zc (Zo (Yp (Zc rfl rfl) l1) rfl rfl) rfl) b1).trans (by rw [et];rfl)) c1)) (Zp (Xk (Yp (Zc (Zo (Yp (Zc rfl rfl) rfl) (Zo rfl rfl rfl) r0) rfl) rfl)) (Zp (Zfw (Xeq (Zc rfl (Zc (Zo (Yp (Zc rfl rfl) l1) rfl rfl) rfl)) rng1) e1) (Zp (Xk (Yp rfl rfl)) (Zp (Xk (Yp rfl rfl)) (Zp (Zfw (Zcm (Xl (Zc rfl (Zc rfl (Zc rfl rfl))) hlw) hlim2) e2) (Jr (Yp (Zc (Zch (Zo (Zo rfl (Zch rfl rfl) hlast) rfl (Zkg ns ks (le_refl M))) rfl) (Zc (Yp (Zc rfl rfl) hso) (Zc (Yp (Zc rfl rfl) hsp) rfl))) rfl)))))))))
section
variable {ns:List Int}{ks:List Kd}
section
variable (hw:∀k∈ks,1≤k.w)(ha:∀k∈ks,0≤k.al)
include hw ha
end
end
section
variable {ns:List Int}{ks:List Kd}
theorem Zis (ns:List Int)(k:Kd)(p:Nat)(h:p+k.w.toNat≤ns.length):need ns k p=grd k.al (fal (Zun ns p k.w.toNat)) (Zun ns p k.w.toNat).sum:=by
 have hsum:(Zun ns p k.w.toNat).sum=pre ns (p+k.w.toNat) - pre ns p:=by
  have:=Zoz ns p (p+k.w.toNat) (by omega)
  rw [show p+k.w.toNat - p=k.w.toNat by omega] at this
  exact this
 unfold need Yn
 rw [Zoi,Xgn ns p k.w.toNat h,hsum]
theorem Xdy {l m:List Int}(h:l.Perm m):fal l=fal m:=by
 refine Xep (((reverse_perm _).trans (mergeSort_perm l _)).trans h) ?_
 unfold fal
 rw [List.pairwise_reverse]
 have:=pairwise_mergeSort (le:=fun a b:Int=>decide (a≤b)) (fun a b c h1 h2=>by simp at *;omega) (fun a b=>by simp;omega) l
 exact this.imp fun h=>by simpa using h
theorem Zii {ms:List Int}{k:Kd}{p q:Nat}(h1:p+k.w.toNat≤ns.length)(h2:q+k.w.toNat≤ms.length)(h:(Zun ms q k.w.toNat).Perm (Zun ns p k.w.toNat)):need ms k q=need ns k p:=by
 rw [Zis ms k q h2,Zis ns k p h1,Xdy h,Zxm h]
inductive SW (ns:List Int)(ks:List Kd):Nat→Nat→Nat→Int→Prop where
 | nil (a:Nat):SW ns ks a a 0 0
 | skip {a b c:Nat} {x:Int}:SW ns ks a b c x→SW ns ks a (b+1) c x
 | pc {a b c:Nat} {x:Int} {k:Kd}:SW ns ks a b c x→k∈ks→SW ns ks a (b+k.w.toNat) (c+need ns k b) (x+k.wo)
theorem SW.le {a b c:Nat}{x:Int}(h:SW ns ks a b c x):a≤b:=by
 induction h with
 | nil=>exact le_refl _
 | skip _ ih=>omega
 | pc _ _ ih=>omega
theorem SW.trans {a b e c d:Nat}{x y:Int}(h:SW ns ks a b c x)(g:SW ns ks b e d y):SW ns ks a e (c+d) (x+y):=by
 induction g with
 | nil=>rw [Int.add_zero];exact h
 | skip _ ih=>exact ih.skip
 | pc _ hk ih =>
  rw [← Int.add_assoc,← add_assoc]
  exact ih.pc hk
theorem MW.sw {e c:Nat}{x:Int}(h:MW ns ks e c x):SW ns ks 0 e c x:=by
 induction h with
 | nil=>exact .nil 0
 | skip _ ih=>exact ih.skip
 | pc _ hk ih=>exact ih.pc hk
theorem SW.mw {a e c:Nat}{x:Int}(h:SW ns ks a e c x):a=0→MW ns ks e c x:=by
 induction h with
 | nil=>rintro rfl;exact .nil
 | skip _ ih=>exact fun z=>(ih z).skip
 | pc _ hk ih=>exact fun z=>(ih z).pc hk
theorem SW.rev (hw:∀k∈ks,1≤k.w){a b c:Nat}{x:Int}(h:SW ns ks a b c x):b≤ns.length→SW ns.reverse ks (ns.length - b) (ns.length - a) c x:=by
  induction h with
  | nil=>exact fun _=>.nil _
  | @skip b c x h ih =>
    intro hb
    have hl:=h.le
    have o:=(SW.nil (ns:=ns.reverse) (ks:=ks) (ns.length - (b+1))).skip
    rw [show ns.length - (b+1)+1=ns.length - b by omega] at o
    have:=o.trans (ih (by omega))
    rwa [Int.zero_add,zero_add] at this
  | @pc b c x k h hk ih =>
    intro hb
    have k1:=hw k hk
    have o:=(SW.nil (ns:=ns.reverse) (ks:=ks) (ns.length - (b+k.w.toNat))).pc hk
    rw [show ns.length - (b+k.w.toNat)+k.w.toNat=ns.length - b by omega,Zii (ns:=ns) (p:=b) hb (by rw [length_reverse];omega) (by
      unfold Zun
      have:=Zxc (ns:=ns) (b:=b) (e:=b+k.w.toNat) (by omega) hb
      rw [show b+k.w.toNat - b=k.w.toNat by omega] at this
      rw [this]
      exact reverse_perm _)] at o
    have:=o.trans (ih (by omega))
    rwa [Int.zero_add,zero_add,Int.add_comm,add_comm (need ns k b) c] at this
theorem Zzl (hw:∀k∈ks,1≤k.w)(M:Nat):mh ns.reverse ks ns.length M=mh ns ks ns.length M:=by
 have key:∀ns:List Int,mh ns ks ns.length M≤mh ns.reverse ks ns.length M:=fun ns=>by
  obtain ⟨c',c1,m⟩:=Xkk (ns:=ns) hw ns.length M
  have:=m.sw.rev hw (le_refl _)
  rw [sub_self,sub_zero] at this
  exact Xnh hw (this.mw rfl) M c1
 apply le_antisymm
 ·have:=key ns.reverse
  rw [List.reverse_reverse,length_reverse] at this
  exact this
 ·exact key ns
theorem MW.takeS (hw:∀k∈ks,1≤k.w){t e c:Nat}{x:Int}(ht:t≤ns.length)(h:MW (ns.take t) ks e c x):e≤t→MW ns ks e c x:=by
  induction h with
  | nil=>exact fun _=>.nil
  | skip _ ih=>exact fun he=>(ih (by omega)).skip
  | @pc b c x k _ hk ih =>
    intro he
    have k1:=hw k hk
    have:=(ih (by omega)).pc hk
    rw [← Zii (ns:=ns) (ms:=ns.take t) (k:=k) (p:=b) (q:=b) (by omega) (by rw [length_take];omega) (by
      unfold Zun
      rw [List.drop_take,List.take_take,show min k.w.toNat (t - b)=k.w.toNat by omega])] at this
    exact this
theorem MW.dropS (hw:∀k∈ks,1≤k.w){t e c:Nat}{x:Int}(ht:t≤ns.length)(h:MW (ns.drop t) ks e c x):t+e≤ns.length→SW ns ks t (t+e) c x:=by
  induction h with
  | nil=>exact fun _=>.nil t
  | skip _ ih=>exact fun he=>(ih (by omega)).skip
  | @pc b c x k _ hk ih =>
    intro he
    have k1:=hw k hk
    have:=(ih (by omega)).pc hk
    rw [← Zii (ns:=ns) (ms:=ns.drop t) (k:=k) (p:=t+b) (q:=b) (by omega) (by rw [length_drop];omega) (by
      unfold Zun
      rw [List.drop_drop])] at this
    rw [add_assoc] at this
    exact this
theorem Xch (hw:∀k∈ks,1≤k.w){t M1 M2 M:Nat}(ht:t≤ns.length)(hM:M1+M2≤M):mh (ns.take t) ks t M1+mh (ns.drop t) ks (ns.length - t) M2≤mh ns ks ns.length M:=by
 obtain ⟨c1,h1,m1⟩:=Xkk (ns:=ns.take t) hw t M1
 obtain ⟨c2,h2,m2⟩:=Xkk (ns:=ns.drop t) hw (ns.length - t) M2
 have g1:=(m1.takeS hw ht (le_refl _)).sw
 have g2:=m2.dropS hw ht (by omega)
 have:=(g1.trans g2).mw rfl
 rw [show t+(ns.length - t)=ns.length by omega] at this
 exact Xnh hw this M (by omega)
theorem Zid (hn:ns.length≤63)(hk:ks.length≤8)(hT:Xcs ks){m:Int}(hm:0≤m):∃(M:Nat) (d:D),(M:Int)=min m ns.length∧Xq [iD ns,tD ks,.int m]=.ok d∧gIx d (.int 0)=some (.int (mh ns ks ns.length M)):=by
 obtain ⟨M,hM⟩:∃M:Nat,(M:Int)=min m ns.length:=⟨(min m ns.length).toNat,by omega⟩
 obtain ⟨l,hl,e⟩:=Zww ns ks hn (by omega) (fun k hk=>⟨(hT.ok k hk).w1,Int.le_trans (hT.ok k hk).w2 (by decide)⟩) m (M:=M) (by omega)
 exact ⟨M,_,hM,e,Zvo (k:=0) rfl rfl⟩
theorem Xhd (hn:ns.length≤63)(hk:ks.length≤8)(hT:Xcs ks){t m:Int}(hm:0≤m)(hm4:m≤100):Xy [iD ns,tD ks,.int t,.int m]=.ok (.bl true):=by
 have hw:∀k∈ks,1≤k.w:=fun k hk=>(hT.ok k hk).w1
 have l1:Jy [iD ns]=some (.int ns.length):=by simp [iD]
 have gl:∀ms:List Int,Yv [iD ms]=some (iD ms):=fun ms=>by simp [Yv,iD]
 have g2:Yv [tD ks]=some (tD ks):=by
  show (if Yj (ks.map kD)=true then _ else _)=_
  exact if_pos (Zrn ks)
 unfold Xy Zbd
 by_cases h1:t<1
 ·exact Jq (Zfb (Zcr (Xfe (Jt (Zo rfl rfl (Zuo h1)))) (Jr rfl)))
 ·by_cases h2:(ns.length:Int)≤t
  ·exact Jq (Zfb (Zcr (Zrd (Jt (Zo rfl rfl (Zum h1))) (Jt (Zo rfl (Yp (Zc rfl rfl) l1) (Zuo h2)))) (Jr rfl)))
  ·obtain ⟨p,rfl⟩:=Int.eq_ofNat_of_zero_le (show 0≤t by omega)
   obtain ⟨mm,rfl⟩:=Int.eq_ofNat_of_zero_le hm
   have hp:p≤ns.length:=by omega
   have hpar:Zct [iD ns,.lst [.int (p:Int)]]=.ok (.lst [iD (ns.take p),iD (ns.drop p)]):=Ztg ns [p] ⟨by omega,show p<ns.length by omega⟩ (by simp)
   have x0:gIx (.lst [iD (ns.take p),iD (ns.drop p)]) (.int 0)=some (iD (ns.take p)):=Zzr (k:=0) rfl rfl
   have x1:gIx (.lst [iD (ns.take p),iD (ns.drop p)]) (.int 1)=some (iD (ns.drop p)):=Zzr (k:=1) rfl rfl
   obtain ⟨M,d,hM,hb,hx⟩:=Zid hn hk hT (m:=(mm:Int)) (by omega)
   have loop:V (Zdz (Xi 5) Jc (Zca 0 (mm+1)) [some (iD ns),some (tD ks),some (.int (p:Int)),some (.int (mm:Int)),some (.lst [iD (ns.take p),iD (ns.drop p)]),none,none,none]) (fun fl=>∃a b c,fl=.nx [some (iD ns),some (tD ks),some (.int (p:Int)),some (.int (mm:Int)),some (.lst [iD (ns.take p),iD (ns.drop p)]),a,b,c]):=by
    refine Xgg (P:=fun _ ρ=>∃a b c,ρ=[some (iD ns),some (tD ks),some (.int (p:Int)),some (.int (mm:Int)),some (.lst [iD (ns.take p),iD (ns.drop p)]),a,b,c]) ⟨_,_,_,rfl⟩ ?_ ?_
    ·rintro i ρ hi ⟨a,b,c,rfl⟩
     rw [Zce]
     obtain ⟨M1,d1,hM1,hb1,hx1⟩:=Zid (ns:=ns.take p) (by rw [length_take];omega) hk hT (m:=(i:Int)) (by omega)
     obtain ⟨M2,d2,hM2,hb2,hx2⟩:=Zid (ns:=ns.drop p) (by rw [length_drop];omega) hk hT (m:=(mm:Int) - (i:Int)) (by omega)
     rw [length_take,show min p ns.length=p by omega] at hx1 hM1
     rw [length_drop] at hx2 hM2
     have hle:=Xch (ns:=ns) hw (t:=p) (M1:=M1) (M2:=M2) (M:=M) hp (by omega)
     refine V.of (a:=.nx [some (iD ns),some (tD ks),some (.int (p:Int)),some (.int (mm:Int)),some (.lst [iD (ns.take p),iD (ns.drop p)]),some (.int (i:Int)),some (.int (mh (ns.take p) ks p M1)),some (.int (mh (ns.drop p) ks (ns.length - p) M2))]) ?_ ?_
     ·unfold Jc
      exact Zp (Xk (Zch (Zo (Xl (Zc (Yp (Zc (Zo rfl rfl x0) rfl) (gl _)) (Zc (Yp (Zc rfl rfl) g2) (Zc rfl rfl))) hb1) rfl hx1) rfl)) (Zp (Xk (Zch (Zo (Xl (Zc (Yp (Zc (Zo rfl rfl x1) rfl) (gl _)) (Zc (Yp (Zc rfl rfl) g2) (Zc (Zo rfl rfl rfl) rfl))) hb2) rfl hx2) rfl)) (Jl (Jt (Zo (Zo rfl rfl rfl) (Zo (Xl (Zc (Yp (Zc rfl rfl) (gl _)) (Zc (Yp (Zc rfl rfl) g2) (Zc rfl rfl))) hb) rfl hx) (Zum (Int.not_lt.mpr hle)))) rfl))
     ·rw [Zig]
      exact ⟨_,_,_,rfl⟩
    ·rintro ρ ⟨a,b,c,rfl⟩
     exact ⟨_,_,_,rfl⟩
   obtain ⟨fl,e1,a,b,c,rfl⟩:=loop.ex
   have b1:-1000000000≤(mm:Int)+1∧(mm:Int)+1≤1000000:=by omega
   have et:((mm:Int)+1).toNat=mm+1:=by omega
   exact Jq (Zp (Jl (Zrd (Jt (Zo rfl rfl (Zum h1))) (Jt (Zo rfl (Yp (Zc rfl rfl) l1) (Zum h2)))) rfl) (Zp (Xk (Xl (Zc (Yp (Zc rfl rfl) (gl _)) (Zc (Yp (Zc rfl rfl) rfl) rfl)) hpar)) (Zp (Zfw ((Zpz (Zc (Zo rfl rfl rfl) rfl) b1).trans (by rw [et])) e1) (Jr rfl))))
end
theorem Zte (sc:List Int)(h:sc.length≤63):Xbn [.scr sc]=.ok (.bl true):=by
 obtain ⟨ns,ks,hd,hl,-,hk,hT⟩:=Xaq sc h (i:=0) (m:=16) (c:=5) (by omega) (by omega) (by omega) (by omega) (by omega) (by omega)
 obtain ⟨os,hrow,hos⟩:=Zrq sc h (i:=2) (by omega) (by omega) [16,5,17] (by simp) (by simp)
 obtain ⟨v0,v1,v2,rfl⟩:∃a b c,os=[a,b,c]:=by
  have:=hos.1
  match os,this with
  | [a,b,c],_=>exact ⟨a,b,c,rfl⟩
 have b0:0≤v0∧v0<16:=hos.2 0 (by simp)
 have b1:0≤v1∧v1<5:=hos.2 1 (by simp)
 have hrow':Yf [.scr sc,.int 2,.lst [.int 16,.int 5,.int 17]]=.ok (iD [v0,v1,v2]):=hrow
 have x0:gIx (iD [v0,v1,v2]) (.int 0)=some (.int v0):=Zzr (k:=0) rfl rfl
 have x1:gIx (iD [v0,v1,v2]) (.int 1)=some (.int v1):=Zzr (k:=1) rfl rfl
 have x2:gIx (iD [v0,v1,v2]) (.int 2)=some (.int v2):=Zzr (k:=2) rfl rfl
 generalize iD [v0,v1,v2]=O at *
 have hn:ns.length≤63:=by omega
 have hk8:ks.length≤8:=by omega
 have hw:∀k∈ks,1≤k.w:=fun k hk=>(hT.ok k hk).w1
 have l1:Jy [iD ns]=some (.int ns.length):=by simp [iD]
 have gl:∀ms:List Int,Yv [iD ms]=some (iD ms):=fun ms=>by simp [Yv,iD]
 have g2:Yv [tD ks]=some (tD ks):=by
  show (if Yj (ks.map kD)=true then _ else _)=_
  exact if_pos (Zrn ks)
 have htu:Zbu [iD ns]=.ok (iD ns.reverse):=Jq (Jr (Zch rfl (by simp [Zhq,iD])))
 have hrv:Xmk (iD ns) (.int (-1))=some (iD ns.reverse):=by simp [Xmk,iD]
 have ne_iD:∀ms:List Int,gNe (iD ms) (iD ms)=some (.bl false):=fun ms=>by
  have hdp:dep (iD ms)≤20:=le_trans (Xqb ms) (by decide)
  have:=Xax (d:=iD ms) hdp
  unfold gEq at this
  unfold gNe
  rw [if_pos ⟨hdp,hdp⟩] at this ⊢
  simp only [Option.some.injEq,D.bl.injEq] at this
  rw [this]
  rfl
 have ne_i:∀v:Int,gNe (.int v) (.int v)=some (.bl false):=fun v=>by rw [ne_int];simp
 have hlr:ns.reverse.length=ns.length:=length_reverse
 obtain ⟨pb,hb1,-⟩:=Zyk ns ks (by omega) (by omega) hw
 obtain ⟨pb',hb2,-⟩:=Zyk ns.reverse ks (by omega) (by omega) hw
 rw [hlr,Xex hw] at hb2
 have t0:∀(v:Int) (d:D),gIx (.tup [.int v,d]) (.int 0)=some (.int v):=fun v d=>Zvo (k:=0) rfl rfl
 obtain ⟨N,hN⟩:∃N,N=max ns.length 1:=⟨_,rfl⟩
 have hmx:Zmu [.int 1,.int ns.length]=some (.int (N:Int)):=by rw [Zwn];congr 2;omega
 obtain ⟨K,hK⟩:∃K:Nat,v0 % (N:Int)=K:=⟨(v0 % (N:Int)).toNat,by have:=emod_nonneg v0 (show (N:Int)≠0 by omega);omega⟩
 have hKN:K<N:=by have:=emod_lt_of_pos v0 (show (0:Int)<N by omega);omega
 have hmod:Zhf (.int v0) (.int (N:Int))=some (.int (K:Int)):=by
  simp only [Zhf]
  rw [if_pos (by omega),← hK]
 have hp1:=Zds ns ks N K (by omega) (by omega) hw hN hKN
 have hp2:=Zds ns.reverse ks N K (by omega) (by omega) hw (by rw [hlr];exact hN) hKN
 rw [Ztr hw hN hKN] at hp2
 have hpn:(1:Int)+(K:Int)=((K+1:Nat):Int):=by omega
 obtain ⟨M1,d1,hM1,hm1,hx1⟩:=Zid hn hk8 hT (m:=v1) b1.1
 obtain ⟨M2,d2,hM2,hm2,hx2⟩:=Zid (ns:=ns.reverse) (by omega) hk8 hT (m:=v1) b1.1
 rw [hlr] at hM2 hx2
 obtain rfl:M1=M2:=by omega
 rw [Zzl hw] at hx2
 have loop:V (Zdz (Xi 8) Zky (Zca 0 (ns.length+1)) [some (.scr sc),some (iD ns),some (tD ks),some O,some (iD ns.reverse),some (.int ((K+1:Nat):Int)),some (.int (mh ns ks ns.length M1)),some (.int (ns.length:Int)),none,none,none]) (fun fl=>∃a b,fl=.nx [some (.scr sc),some (iD ns),some (tD ks),some O,some (iD ns.reverse),some (.int ((K+1:Nat):Int)),some (.int (mh ns ks ns.length M1)),some (.int (ns.length:Int)),a,b,none]):=by
  refine Xgg (P:=fun _ ρ=>∃a b,ρ=[some (.scr sc),some (iD ns),some (tD ks),some O,some (iD ns.reverse),some (.int ((K+1:Nat):Int)),some (.int (mh ns ks ns.length M1)),some (.int (ns.length:Int)),a,b,none]) ⟨_,_,rfl⟩ ?_ ?_
  ·rintro i ρ hi ⟨a,b,rfl⟩
   rw [Zce]
   have q1:=Xfs (ns:=ns) (ks:=ks) (by omega) (by omega) hw (e:=i) (by omega)
   have q2:=Xfs (ns:=ns.reverse) (ks:=ks) (by omega) (by omega) hw (e:=ns.length - i) (by omega)
   have a1:=Zgl (ns:=ns) hw (b:=0) (e:=ns.length) (by omega) (by omega)
   have a2:=Zgl (ns:=ns) hw (b:=0) (e:=i) (by omega) (by omega)
   have a3:=Zgl (ns:=ns) hw (b:=i) (e:=ns.length) (by omega) (by omega)
   rw [sub_self,sub_zero] at a1
   rw [sub_zero] at a2
   rw [sub_self] at a3
   rw [hlr,a1,a2,a3,show ww ns ks 0 ns.length - ww ns ks i ns.length - ww ns ks 0 i=ww ns ks 0 ns.length - ww ns ks 0 i - ww ns ks i ns.length by omega] at q2
   have sb:Zbh (.int (ns.length:Int)) (.int (i:Int))=some (.int ((ns.length - i:Nat):Int)):=by
    show some (D.int ((ns.length:Int) - (i:Int)))=_
    rw [show (ns.length:Int) - (i:Int)=((ns.length - i:Nat):Int) by omega]
   generalize ww ns ks 0 ns.length - ww ns ks 0 i - ww ns ks i ns.length=L at *
   refine V.of (a:=.nx [some (.scr sc),some (iD ns),some (tD ks),some O,some (iD ns.reverse),some (.int ((K+1:Nat):Int)),some (.int (mh ns ks ns.length M1)),some (.int (ns.length:Int)),some (.int (i:Int)),some (.int L),none]) ?_ ?_
   ·unfold Zky
    exact Zp (Xk (Xl (Zc (Yp (Zc rfl rfl) (gl _)) (Zc (Yp (Zc rfl rfl) g2) (Zc rfl rfl))) q1)) (Jl (Jt (Zo (Xl (Zc (Yp (Zc rfl rfl) (gl _)) (Zc (Yp (Zc rfl rfl) g2) (Zc (Zo rfl rfl sb) rfl))) q2) rfl (ne_i _))) rfl)
   ·rw [Zig]
    exact ⟨_,_,rfl⟩
  ·rintro ρ ⟨a,b,rfl⟩
   exact ⟨_,_,rfl⟩
 obtain ⟨fl,e1,a8,a9,rfl⟩:=loop.ex
 have hf1:=Xeu (ns:=ns) (ks:=ks) (by omega) (by omega) hw
 have hf2:=Xeu (ns:=ns.reverse) (ks:=ks) (by omega) (by omega) hw
 have hfl:(Zcj ns ks).length≤ns.length+1:=by
  unfold Zcj
  have:=length_filter_le (fun e=>decide (ww ns ks 0 e+ww ns ks e ns.length=ww ns ks 0 ns.length)) (List.range (ns.length+1))
  rw [length_range] at this
  exact this
 have hlim:(((Zcj ns ks).map fun e:Nat=>(e:Int)).map D.int).length≤lim:=by rw [length_map,length_map];show _≤1000000;omega
 have c1:=Zgt (n:=11) (e:=f2 Zbh (fV 7) (fV 11)) (ρ:=[some (.scr sc),some (iD ns),some (tD ks),some O,some (iD ns.reverse),some (.int ((K+1:Nat):Int)),some (.int (mh ns ks ns.length M1)),some (.int (ns.length:Int)),a8,a9,none]) (enc:=D.int) (v:=fun e:Int=>.int ((ns.length:Int) - e)) (xs:=(Zcj ns ks).map fun e:Nat=>(e:Int)) rfl fun e _=>Zo rfl rfl rfl
 have hso:Zoe [.lst (((Zcj ns ks).map fun e:Nat=>(e:Int)).map fun e:Int=>D.int ((ns.length:Int) - e))]=some (iD ((Zcj ns.reverse ks).map fun e:Nat=>(e:Int))):=by
  have e2:(((Zcj ns ks).map fun e:Nat=>(e:Int)).map fun e:Int=>D.int ((ns.length:Int) - e))=((Zcj ns ks).map fun e:Nat=>(ns.length:Int) - (e:Int)).map D.int:=by
   rw [map_map,map_map]
   rfl
  rw [e2]
  unfold Zoe iD
  simp only [ints_map,Option.bind_some]
  rw [if_pos (by rw [length_map];omega),Zoh hw]
 have hpa:=Xhd hn hk8 hT (t:=v2) b1.1 (by omega)
 have bb:-1000000000≤(ns.length:Int)+1∧(ns.length:Int)+1≤1000000:=by omega
 have et:((ns.length:Int)+1).toNat=ns.length+1:=by omega
 have ad:Je (.int 1) (.int (K:Int))=some (.int ((K+1:Nat):Int)):=by
  show some (D.int (1+(K:Int)))=_
  rw [hpn]
 unfold Xbn Xrg
 refine Jq (Zp (r_asg (Xl (Zc rfl (Zc rfl (Zc rfl (Zc rfl rfl)))) hd) rfl) (Zp (Xk (Xl (Zc rfl (Zc rfl (Zc (Yp (Zc rfl (Zc rfl (Zc rfl rfl))) rfl) rfl))) hrow')) (Zp (Xk (Xl (Zc (Yp (Zc rfl rfl) (gl _)) rfl) htu)) (Zp (Jl (Jt (Zo rfl (Zo rfl (Zch rfl rfl) hrv) (ne_iD _))) rfl) (Zp (Jl (Jt (Zo (Zo (Xl (Zc (Yp (Zc rfl rfl) (gl _)) (Zc (Yp (Zc rfl rfl) g2) rfl)) hb1) rfl (t0 _ _)) (Zo (Xl (Zc (Yp (Zc rfl rfl) (gl _)) (Zc (Yp (Zc rfl rfl) g2) rfl)) hb2) rfl (t0 _ _)) (ne_i _))) rfl) ?_)))))
 refine Zp (Xk (Zo rfl (Zo (Zo rfl rfl x0) (Yp (Zc rfl (Zc (Yp (Zc rfl rfl) l1) rfl)) hmx) hmod) ad)) (Zp (Xk (Zch (Zo (Xl (Zc (Yp (Zc rfl rfl) (gl _)) (Zc (Yp (Zc rfl rfl) g2) (Zc rfl rfl))) hp1) rfl (t0 _ _)) rfl)) (Zp (Jl (Jt (Zo (Zo (Xl (Zc (Yp (Zc rfl rfl) (gl _)) (Zc (Yp (Zc rfl rfl) g2) (Zc rfl rfl))) hp2) rfl (t0 _ _)) rfl (ne_i _))) rfl) ?_))
 refine Zp (Xk (Zch (Zo (Xl (Zc (Yp (Zc rfl rfl) (gl _)) (Zc (Yp (Zc rfl rfl) g2) (Zc (Zo rfl rfl x1) rfl))) hm1) rfl hx1) rfl)) (Zp (Jl (Jt (Zo (Zo (Xl (Zc (Yp (Zc rfl rfl) (gl _)) (Zc (Yp (Zc rfl rfl) g2) (Zc (Zo rfl rfl x1) rfl))) hm2) rfl hx2) rfl (ne_i _))) rfl) (Zp (Xk (Yp (Zc rfl rfl) l1)) (Zp (Zfw ((Zpz (Zc (Zo rfl rfl rfl) rfl) bb).trans (by rw [et])) e1) ?_)))
 exact Zp (Xk (Yp (Zc (Zjo rfl (Zcm (Xl (Zc (Yp (Zc rfl rfl) (gl _)) (Zc (Yp (Zc rfl rfl) g2) rfl)) hf1) hlim) c1) rfl) hso)) (Zp (Jl (Jt (Zo (Xl (Zc (Yp (Zc rfl rfl) (gl _)) (Zc (Yp (Zc rfl rfl) g2) rfl)) hf2) rfl (ne_iD _))) rfl) (Jr (Xl (Zc rfl (Zc rfl (Zc (Zo rfl rfl x2) (Zc (Zo rfl rfl x1) rfl)))) hpa)))
end Dl
set_option maxHeartbeats 4000000
namespace K48
open PySem PySem.Spec PyProof.Rows L2
open Dl (D R FE FT FA FO FS FI FB Fl)
noncomputable def top (i:Nat):Stmt:=PySem.Challenge.pw_selvage_k48_whole_turned_about.main.body.getD i (.Pass ⟨0,0,0,0⟩)
noncomputable abbrev Zpn:Stmt:=top 5
noncomputable abbrev Zpr:Stmt:=top 6
noncomputable abbrev Xkf:Stmt:=top 8
noncomputable abbrev Zlv:Stmt:=top 10
noncomputable abbrev Zfc:Stmt:=top 11
noncomputable abbrev Zkx:Stmt:=top 12
noncomputable abbrev Zxq:Stmt:=top 13
noncomputable abbrev Zga:Stmt:=top 14
noncomputable abbrev Zci:Stmt:=top 15
noncomputable abbrev Xgp:Stmt:=top 16
noncomputable abbrev Zcl:Stmt:=top 18
noncomputable abbrev Zbn:Stmt:=top 19
noncomputable abbrev Zoq:Stmt:=top 20
noncomputable abbrev Zbt:Stmt:=top 21
noncomputable abbrev Zcn:Stmt:=top 22
noncomputable abbrev Jh:Stmt:=top 23
noncomputable abbrev Zby:Stmt:=top 25
noncomputable abbrev Zag:Stmt:=top 26
noncomputable abbrev Zht:Stmt:=top 27
noncomputable abbrev Zim:Stmt:=top 28
noncomputable abbrev Zgb:Stmt:=top 29
noncomputable abbrev Zbr:Stmt:=top 30
noncomputable abbrev Zfu:Stmt:=top 32
noncomputable abbrev Ziy:Stmt:=top 33
noncomputable abbrev Zho:Stmt:=top 34
noncomputable abbrev Zeu:Stmt:=top 35
noncomputable abbrev Zge:Stmt:=top 36
noncomputable abbrev Zfz:Stmt:=top 37
noncomputable abbrev Zes:Stmt:=top 38
noncomputable abbrev Jw:Stmt:=top 39
noncomputable abbrev Xlc:Stmt:=top 40
theorem Zrg:Xg ["roll","begin","end"] ["roll","begin","end"] (Zm Zpn):=⟨rfl,rfl,rfl,by decide +kernel,rfl,by decide +kernel,by decide +kernel⟩
theorem Zrl:Xg ["roll"] ["roll"] (Zm Zpr):=⟨rfl,rfl,rfl,by decide +kernel,rfl,by decide +kernel,by decide +kernel⟩
theorem Xfj:Xg ["roll","kind","place","end"] ["roll","kind","place"] (Zm Xkf):=⟨rfl,rfl,rfl,by decide +kernel,rfl,by decide +kernel,by decide +kernel⟩
theorem Zqz:Xg ["roll","table","end"] ["roll","table","end"] (Zm Zlv):=⟨rfl,rfl,rfl,by decide +kernel,rfl,by decide +kernel,by decide +kernel⟩
theorem Zjp:Xg ["roll","table","tops","end","worths"] ["roll","table","tops"] (Zm Zfc):=⟨rfl,rfl,rfl,by decide +kernel,rfl,by decide +kernel,by decide +kernel⟩
theorem Znd:Xg ["roll","table","tops"] ["roll","table"] (Zm Zkx):=⟨rfl,rfl,rfl,by decide +kernel,rfl,by decide +kernel,by decide +kernel⟩
theorem Zxx:Xg ["roll","table"] ["roll","table"] (Zm Zxq):=⟨rfl,rfl,rfl,by decide +kernel,rfl,by decide +kernel,by decide +kernel⟩
theorem Ziq:Xg ["roll","table","tops","end","kind"] ["roll","table","tops","end"] (Zm Zga):=⟨rfl,rfl,rfl,by decide +kernel,rfl,by decide +kernel,by decide +kernel⟩
theorem Zef:Xg ["roll","table","tops","end","pieces","kind"] ["roll","table","tops","end"] (Zm Zci):=⟨rfl,rfl,rfl,by decide +kernel,rfl,by decide +kernel,by decide +kernel⟩
theorem Xgl:Xg ["roll","table","tops"] ["roll","table"] (Zm Xgp):=⟨rfl,rfl,rfl,by decide +kernel,rfl,by decide +kernel,by decide +kernel⟩
theorem Zei:Xg ["roll","table","place","tops"] ["roll","table","place"] (Zm Zcl):=⟨rfl,rfl,rfl,by decide +kernel,rfl,by decide +kernel,by decide +kernel⟩
theorem Zff:Xg ["roll","table","tops","rests"] ["roll","table"] (Zm Zbn):=⟨rfl,rfl,rfl,by decide +kernel,rfl,by decide +kernel,by decide +kernel⟩
theorem Zqk:Xg ["roll","places","rolls","begin","place"] ["roll","places"] (Zm Zoq):=⟨rfl,rfl,rfl,by decide +kernel,rfl,by decide +kernel,by decide +kernel⟩
theorem Zev:Xg ["worths","rest","begin"] ["worths","rest","begin"] (Zm Zbt):=⟨rfl,rfl,rfl,by decide +kernel,rfl,by decide +kernel,by decide +kernel⟩
theorem Zeb:Xg ["worths","rows","places","begin","rest","sums"] ["worths","rows"] (Zm Zcn):=⟨rfl,rfl,rfl,by decide +kernel,rfl,by decide +kernel,by decide +kernel⟩
theorem Zej:Xg ["roll","table","parts","worths","rows","rest"] ["roll","table","parts"] (Zm Jh):=⟨rfl,rfl,rfl,by decide +kernel,rfl,by decide +kernel,by decide +kernel⟩
theorem Zdp:Xg ["roll","kind","place","cells","left","mended","cell"] ["roll","kind","place"] (Zm Zby):=⟨rfl,rfl,rfl,by decide +kernel,rfl,by decide +kernel,by decide +kernel⟩
theorem Zez:Xg ["roll","table","end","kinds"] ["roll","table","end"] (Zm Zag):=⟨rfl,rfl,rfl,by decide +kernel,rfl,by decide +kernel,by decide +kernel⟩
theorem Zjq:Xg ["rows","ways","row","kind","begin","cells","most"] ["rows","ways"] (Zm Zht):=⟨rfl,rfl,rfl,by decide +kernel,rfl,by decide +kernel,by decide +kernel⟩
theorem Zka:Xg ["rows","ways","end","most","way","left"] ["rows","ways","end","most"] (Zm Zim):=⟨rfl,rfl,rfl,by decide +kernel,rfl,by decide +kernel,by decide +kernel⟩
theorem Zif:Xg ["rows","ways","most","found","left","end","way"] ["rows","ways","most"] (Zm Zgb):=⟨rfl,rfl,rfl,by decide +kernel,rfl,by decide +kernel,by decide +kernel⟩
theorem Zft:Xg ["roll","table","most","bound","ways","rows","end","cells","pieces","kind","begin","mended"] ["roll","table","most"] (Zm Zbr):=⟨rfl,rfl,rfl,by decide +kernel,rfl,by decide +kernel,by decide +kernel⟩
theorem Zhk:Xg ["_law_script","_law_place","_law_seed","_law_cell_here"] ["_law_script","_law_place"] (Zm Zfu):=⟨rfl,rfl,rfl,by decide +kernel,rfl,by decide +kernel,by decide +kernel⟩
theorem Zjr:Xg ["_law_cell_here","_law_k","_law_one","_law_two"] ["_law_cell_here","_law_k"] (Zm Ziy):=⟨rfl,rfl,rfl,by decide +kernel,rfl,by decide +kernel,by decide +kernel⟩
theorem Zjx:Xg ["_law_script","_law_place","_law_sizes","_law_cell_here","_law_left","_law_some","_law_k","_law_other"] ["_law_script","_law_place","_law_sizes"] (Zm Zho):=⟨rfl,rfl,rfl,by decide +kernel,rfl,by decide +kernel,by decide +kernel⟩
theorem Zgq:Xg ["_law_script","_law_place","_law_most","_law_pool","_law_some","_law_flaw_here","_law_gain","_law_table_here","_law_k","_law_at","_law_width","_law_worth","_law_allowed","_law_name"] ["_law_script","_law_place","_law_most"] (Zm Zeu):=⟨rfl,rfl,rfl,by decide +kernel,rfl,by decide +kernel,by decide +kernel⟩
theorem Zhw:Xg ["_law_script","_law_place","_law_most"] ["_law_script","_law_place","_law_most"] (Zm Zge):=⟨rfl,rfl,rfl,by decide +kernel,rfl,by decide +kernel,by decide +kernel⟩
theorem Zic:Xg ["_law_script","_law_place","_law_most","_law_flaw_here","_law_some","_law_great","_law_roll_here","_law_k","_law_at","_law_weight"] ["_law_script","_law_place","_law_most","_law_flaw_here"] (Zm Zfz):=⟨rfl,rfl,rfl,by decide +kernel,rfl,by decide +kernel,by decide +kernel⟩
theorem Zgs:Xg ["_law_script","_law_place","_law_most","_law_kinds","_law_flaw_here"] ["_law_script","_law_place","_law_most","_law_kinds"] (Zm Zes):=⟨rfl,rfl,rfl,by decide +kernel,rfl,by decide +kernel,by decide +kernel⟩
theorem Zbg:Xg ["_law_roll_here","_law_table_here","_law_at","_law_most","_law_rolls","_law_first","_law_one","_law_two"] ["_law_roll_here","_law_table_here","_law_at","_law_most"] (Zm Jw):=⟨rfl,rfl,rfl,by decide +kernel,rfl,by decide +kernel,by decide +kernel⟩
theorem Xpb:Xg ["_law_script","_law_roll_here","_law_table_here","_law_some","_law_other","_law_parts","_law_one","_law_count","_law_at","_law_lost","_law_due"] ["_law_script"] (Zm Xlc):=⟨rfl,rfl,rfl,by decide +kernel,rfl,by decide +kernel,by decide +kernel⟩
structure Txt (mg:Str→Option Value):Prop where
 sum:mg "sum"=none
 len:mg "len"=none
 list:mg "list"=none
 reversed:mg "reversed"=none
 max:mg "max"=none
 range:mg "range"=none
 sorted:mg "sorted"=none
 min:mg "min"=none
noncomputable abbrev tsL (P1:Addr):List (Addr×Pos×Str):=[(P1,⟨96,54,96,77⟩,"cells_to_mend.<locals>.<lambda>")]
section
variable {P:Program}{w:World}{K:Frag}{C:String→Addr}{mg:Str→Option Value}{base:Heap}{f:Addr}{fd:FuncData}{P1 c:Addr}
theorem Xeh (F:Fun K "spoilt" "spoilt" Zpn f fd)(T:Txt mg):Zam P w K mg base CX0 7 f fd ["roll","begin","end"] (spD K C 3 2 Dl.Zbs):=by
  refine F.okC Zrg (Γ':=[]) (Δ':=[]) rfl fun cdv A outer s H E hr=>?_
  have sc:=Zrg
  have hu:_+64<cLine:=hr.units
  exact ⟨_,(Zf [] [] (Zar (ct_w (Xci (Xz Zlw Zfm (Zl 1) Ze (Xv _)) (Xci (Xz Zoo Zhj (Zl 2) (Zr (r:=Jj K) Xe Xu rfl T.len PySem.boot_len (Zb (Zl 0) Zg Za) (he:=Za)) (Xv _)) (Zxj (Xz Zoo Zhj (Zl 1) (Zl 2) (Xv _)))))) (Zn Zhi) Yk)
      (Zn (Xs (Zr (r:=rSum K) (Xam rfl) Xjj rfl T.sum PyProof.Rows.boot_sum (Zb (Zyc K (Zl 0) (Zde (Zl 1)) (Zde (Zl 2))) Zg Xd) (he:=Xd)))))⟩
theorem Zzs (F:Fun K "turned" "turned" Zpr f fd)(T:Txt mg):Zam P w K mg base CX0 7 f fd ["roll"] (spD K C 1 2 Dl.Zbu):=by
 refine F.okC Zrl (Γ':=[]) (Δ':=[]) rfl fun cdv A outer s H E hr=>?_
 have sc:=Zrl
 have hu:_+64<cLine:=hr.units
 exact ⟨_,(Zn (Xs (Zou K rfl T.list rfl T.reversed (Zl 0) Za)))⟩
theorem Xbc (F:Fun K "parted" "parted" Zoq f fd)(T:Txt mg):Zam P w K mg base CX0 7 f fd ["roll","places"] (spD K C 2 2 Dl.Zct):=by
  refine F.okC Zqk (Γ':=[]) (Δ':=[]) rfl fun cdv A outer s H E hr=>?_
  have sc:=Zqk
  have hu:_+64<cLine:=hr.units
  exact ⟨_,(Zf [2] [2] (Zw (i:=2) sc.nd rfl (Or.inl rfl) (Yo Zg))
      (Zf [2,3] [2,3] (Zw (i:=3) sc.nd rfl (Or.inl rfl) Ze)
      (Zf [2,3] [2,3] (Zbp [2,3] [2,3] PassesOwn.never rfl (Zab (Zl 1)) (Ja (i:=4) (hN:=sc.nd) (hi:=rfl) (hx:=Or.inl rfl)) (Zf [2,3] [2,3] (Zar (Zwg (Zln Zlw Zlw Zfm Zfm bl_lt (Zl 3) (Zl 4) (Zr (r:=Jj K) Xe Xu rfl T.len PySem.boot_len (Zb (Zl 0) Zg Za) (he:=Za)))) (Zn Zhi) Yk)
      (Zf [2,3] [2,3] (Zbm (i:=2) (he:=(Zyc K (Zl 0) (Zde (Zl 3)) (Zde (Zl 4)))) (hse:=Xd))
      (Zn (Zw (i:=3) sc.nd rfl (Or.inl rfl) (Xm (Zl 4)))))))
      (Zf [2,3] [2,3] (Zbm (i:=2) (he:=(Zyc K (Zl 0) (Zde (Zl 3)) Zlj)) (hse:=Xd))
      (Zn (Xs (Znm 2)))))))⟩
theorem Zlb (F:Fun K "sums_by_end" "sums_by_end" Zbt f fd)(T:Txt mg):Zam P w K mg base CX0 7 f fd ["worths","rest","begin"] (spD K C 3 2 Dl.Ye):=by
 refine F.okC Zev (Γ':=[]) (Δ':=[]) rfl fun cdv A outer s H E hr=>?_
 have sc:=Zev
 have hu:_+64<cLine:=hr.units
 exact ⟨_,(Zn (Xs (Zet (n:=3) (Zm Zbt) ["worths","rest","begin"] ["worths","rest","begin"] ["end"] ⟨rfl,by decide +kernel,by decide +kernel,by decide +kernel,by decide +kernel,by decide +kernel,rfl,by decide +kernel⟩ (Zox rfl T.range (Zb (Zq Xa Zz (Zl 2) Ze) (Zb (Zr (r:=Jj K) Xe Xu rfl T.len PySem.boot_len (Zb (Zl 1) Zg Za) (he:=Za)) Zg Zi) Zu)) (fun _ _ _ _ _=>(Zbc 3 (hN:=(by decide +kernel:List.Nodup (["worths","rest","begin","end"]:List Str))))) (fun _ _ _ _ _=>Zdk) (fun _ _ _ _ _=>(Zq Xa Zz (Zs K (Zs K (Zl 0 (hv:=Or.inr (Or.inl rfl))) (Zl 2 (hv:=Or.inr (Or.inl rfl))) Zx) (Zq Jz Yz (Zl 3 (hv:=Or.inl rfl)) (Zl 2 (hv:=Or.inr (Or.inl rfl)))) plain_bin) (Zs K (Zl 1 (hv:=Or.inr (Or.inl rfl))) (Zl 3 (hv:=Or.inl rfl)) Zx))))))⟩
theorem Zty (F:Fun K "next_row" "next_row" Zht f fd)(T:Txt mg):Zam P w K mg base CX0 7 f fd ["rows","ways"] (spD K C 2 2 Dl.Zaz):=by
  refine F.okC Zjq (Γ':=[]) (Δ':=[]) rfl fun cdv A outer s H E hr=>?_
  have sc:=Zjq
  have hu:_+64<cLine:=hr.units
  exact ⟨_,(Zf [2] [2] (Zw (i:=2) sc.nd rfl (Or.inl rfl) (Xb (r:=Jk K) (Zt rfl) Xj rfl T.list PyProof.Rows.boot_list (Zb (Zs K (Zl 0) (Zdj Ze) Zay) Zg Xd) (he:=Xd)))
      (Zf [2] [2] (Zbp [2] [2] PassesOwn.never rfl (Zab (Zl 1)) (Xfb rfl (Zdx (Ja (i:=3) (hN:=sc.nd) (hi:=rfl) (hx:=Or.inl rfl)) (Zdx (Ja (i:=4) (hN:=sc.nd) (hi:=rfl) (hx:=Or.inl rfl)) (Zdx (Ja (i:=5) (hN:=sc.nd) (hi:=rfl) (hx:=Or.inl rfl)) Zxw)))) (Zn (Zbp [2] [2] PassesOwn.never rfl (Zox rfl T.range (Zb (Zr (r:=Jj K) Xe Xu rfl T.len PySem.boot_len (Zb (Zl 5) Zg Za) (he:=Za)) (Zb (Zr (r:=Jj K) Xe Xu rfl T.len PySem.boot_len (Zb (Zl 2) Zg Za) (he:=Za)) Zg Zi) Zi)) (Ja (i:=6) (hN:=sc.nd) (hi:=rfl) (hx:=Or.inl rfl)) (Zn (Xms (i:=2) (he:=(Zr (r:=Zgy K) (Zao rfl) Zdd rfl T.max PyProof.Rows.boot_max (Zb (Zs K (Zl 2) (Zl 6) Zx) (Zb (Zq Xa Zz (Zs K (Zs K (Zl 0) (Zl 4) Zx) (Zq Jz Yz (Zl 6) (Zr (r:=Jj K) Xe Xu rfl T.len PySem.boot_len (Zb (Zl 5) Zg Za) (he:=Za))) plain_bin) (Zs K (Zl 3) Ze Zj)) Zg Zu) Xd) (he:=Xd))) (hk:=(Zl 6)))))))
      (Zn (Xs (Znm 2)))))⟩
theorem Zue (F:Fun K "last_way" "last_way" Zim f fd)(T:Txt mg):Zam P w K mg base CX0 7 f fd ["rows","ways","end","most"] (spR K C 4 Dl.Jg):=by
  refine F.okU Zka (Γ':=[]) (Δ':=[]) rfl fun cdv A outer s H E hr=>?_
  have sc:=Zka
  have hu:_+64<cLine:=hr.units
  exact ⟨_,(Zae [] [] (Xid (Xz (r:=Zzc K) (Zfl hu) Zfs (Zs K (Zs K (Zl 0) (Zl 2) Zx) (Zl 3) Zx) (Zs K (Zs K (Zl 0) (Zq Jz Yz (Zl 2) Ze) plain_bin) (Zl 3) Zx) (Xv _)) (Zdi (Zsl Zkk)) Zzk)
      (Zae [] [] (Xmo (i:=4) [] [] PassesOwn.never rfl (Zab (Zl 1)) sc.nd rfl (Or.inl rfl) (Zrp [5] [5] (Zae [5] [5] (Zob (i:=5) sc.nd rfl (Or.inl rfl) (Zq Jz Yz (Zl 3) (Zr (r:=Jj K) Xe Xu rfl T.len PySem.boot_len (Zb (Zs K (Zl 4) Ze Zj) Zg Xd) (he:=Xd))))
      (Zdi (Xid (ct_w (Xng (Xz Xmp Xer (Zl 5) Ze (Xv _)) (Xhb (Xz (r:=Zzc K) (Zfl hu) Zfs (Zq Xa Zz (Zs K (Zs K (Zl 0) (Zs K (Zl 4) Ze Zj) Zah) (Zl 5) Zx) (Zs K (Zs K (Zl 4) Ze Zj) Ze Zj)) (Zs K (Zs K (Zl 0) (Zl 2) Zx) (Zl 3) Zx) (Xv _))))) (Zdi (Zsl (Zl 4))) Zzk)))))
      (Zdi (Zsl Zkk))))⟩
theorem Zoj (F:Fun K "_law_cell" "_law_cell" Zfu f fd)(T:Txt mg):Zam P w K mg base CX0 7 f fd ["_law_script","_law_place"] (spD K C 2 2 Dl.Zad):=by
  refine F.okC Zhk (Γ':=[]) (Δ':=[]) rfl fun cdv A outer s H E hr=>?_
  have sc:=Zhk
  have hu:_+64<cLine:=hr.units
  exact ⟨_,(Zf [] [] (Zar (Xz Zlw Zfm (Zl 1) (Zr (r:=Jj K) Xe Xu rfl T.len PySem.boot_len (Zb (Zl 0) Zg Za) (he:=Za)) (Xv _)) (Zn (Xs (Xm (Zs K (Zl 0) (Zl 1) Zx)))) Yk)
      (Zf [2] [2] (Zw (i:=2) sc.nd rfl (Or.inl rfl) Ze)
      (Zf [2] [2] (Zbp [2] [2] PassesOwn.never rfl (Zab (Zyc K (Zl 0) Zlj (Zde Ze))) (Ja (i:=3) (hN:=sc.nd) (hi:=rfl) (hx:=Or.inl rfl)) (Zn (Zw (i:=2) sc.nd rfl (Or.inl rfl) (Zq Zbf Jn (Zq Xa Zz (Zq Xa Zz (Zq Yq Yr (Zl 2) Ze) (Zq Zbf Jn (Zl 3) Ze)) Ze) Ze))))
      (Zn (Xs (Zq Zbf Jn (Zq Xa Zz (Zl 2) (Zq Yq Yr Ze (Zl 1))) Ze))))))⟩
theorem Zuc (F:Fun K "_law_mix" "_law_mix" Ziy f fd)(T:Txt mg):Zam P w K mg base CX0 7 f fd ["_law_cell_here","_law_k"] (spD K C 2 2 Dl.Zba):=by
  refine F.okC Zjr (Γ':=[]) (Δ':=[]) rfl fun cdv A outer s H E hr=>?_
  have sc:=Zjr
  have hu:_+64<cLine:=hr.units
  exact ⟨_,(Zf [2] [2] (Zw (i:=2) sc.nd rfl (Or.inl rfl) (Zq Zbf Jn (Zq Zfo Zcs (Zq Xa Zz (Zq Xa Zz (Zq Zbf Jn (Zl 0) Ze) (Zq Yq Yr Ze (Zl 1))) Ze) Ze) Ze))
      (Zf [2,3] [2,3] (Zw (i:=3) sc.nd rfl (Or.inl rfl) (Zq Zbf Jn (Zq Xa Zz (Zq Xa Zz (Zq Yq Yr (Zl 2) Ze) (Zq Yq Yr (Zq Yq Yr Ze (Zl 1)) (Zl 1))) Ze) Ze))
      (Zn (Xs (Zq Zrf Zyo (Zl 3) Ze)))))⟩
theorem Xqt (F:Fun K "fits" "fits" Xkf f fd)(T:Txt mg)(Dspoilt:Def P w K mg base CX0 7 "spoilt" ["roll","begin","end"] (spD K C 3 2 Dl.Zbs)):Zam P w K mg base CX0 8 f fd ["roll","kind","place"] (spD K C 3 2 Dl.Zkj):=by
  refine F.okC Xfj (Γ':=[]) (Δ':=[]) rfl fun cdv A outer s H E hr=>?_
  have sc:=Xfj
  have hu:_+64<cLine:=hr.units
  exact ⟨_,(Zf [3] [3] (Zw (i:=3) sc.nd rfl (Or.inl rfl) (Zq Xa Zz (Zl 2) (Zs K (Zl 1) Ze Zj)))
      (Zf [3] [3] (Zar (ct_w (Xci (Xz Zlw Zfm (Zl 2) Ze (Xv _)) (Zxj (Xz Zoo Zhj (Zl 3) (Zr (r:=Jj K) Xe Xu rfl T.len PySem.boot_len (Zb (Zl 0) Zg Za) (he:=Za)) (Xv _))))) (Zn (Xs Zjb)) Yk)
      (Zn (Xs (Xre Zmw Zgk (Xf Dspoilt (hr.mono (by decide)) rfl Ya (Zb (Zl 0) (Zb (Zl 2) (Zb (Zl 3) Zg Za) Za) Za) (he:=Za)) (Zs K (Zl 1) Ze Zj) (Xv _))))))⟩
theorem Zjc (F:Fun K "first_places" "first_places" Zcn f fd)(T:Txt mg)(Dsums_by_end:Def P w K mg base CX0 7 "sums_by_end" ["worths","rest","begin"] (spD K C 3 2 Dl.Ye)):Zam P w K mg base CX0 8 f fd ["worths","rows"] (spD K C 2 2 Dl.Yy):=by
  refine F.okC Zeb (Γ':=[]) (Δ':=[]) rfl fun cdv A outer s H E hr=>?_
  have sc:=Zeb
  have hu:_+64<cLine:=hr.units
  exact ⟨_,(Zf [2] [2] (Zw (i:=2) sc.nd rfl (Or.inl rfl) (Yo Zg))
      (Zf [2,3] [2,3] (Zw (i:=3) sc.nd rfl (Or.inl rfl) Ze)
      (Zf [2,3] [2,3] (Zbp [2,3] [2,3] PassesOwn.never rfl (Xjk rfl T.reversed (Xow K (Zl 1) Zlj (Zde (Zdj Ze))) Xd) (Ja (i:=4) (hN:=sc.nd) (hi:=rfl) (hx:=Or.inl rfl)) (Zcv [2,3,5] [2,3,5] (Zf [2,3,5] [2,3,5] (Zw (i:=5) sc.nd rfl (Or.inl rfl) (Xf Dsums_by_end (hr.mono (by decide)) rfl Ya (Zb (Zl 0) (Zb (Zl 4) (Zb (Zl 3) Zg Za) Za) Za) (he:=Za)))
      (Zf [2,3,5] [2,3,5] (Zsc (i:=3) Xhn Xoe sc.nd rfl (Or.inl rfl) (Zq Xa Zz Ze (Xao K (Zl 5) (Zr (r:=Zgy K) (Zao rfl) Zdd rfl T.max PyProof.Rows.boot_max (Zb (Zl 5) Zg Za) (he:=Za)) Zi)))
      (Zn (Zbm (i:=2) (he:=(Xm (Zl 3))) (hse:=Za)))))))
      (Zn (Xs (Znm 2))))))⟩
theorem Zpt (F:Fun K "last_ways" "last_ways" Zgb f fd)(T:Txt mg)(Dlast_way:Def P w K mg base CX0 7 "last_way" ["rows","ways","end","most"] (spR K C 4 Dl.Jg)):Zam P w K mg base CX0 8 f fd ["rows","ways","most"] (spR K C 3 Dl.Zaa):=by
  refine F.okU Zif (Γ':=[]) (Δ':=[]) rfl fun cdv A outer s H E hr=>?_
  have sc:=Zif
  have hu:_+64<cLine:=hr.units
  exact ⟨_,(Zae [3] [3] (Zob (i:=3) sc.nd rfl (Or.inl rfl) (Yo Zg))
      (Zae [3,4] [3,4] (Zob (i:=4) sc.nd rfl (Or.inl rfl) (Xm (Zl 2)))
      (Zae [3,4,5] [3,4,5] (Zob (i:=5) sc.nd rfl (Or.inl rfl) (Zq Jz Yz (Zr (r:=Jj K) Xe Xu rfl T.len PySem.boot_len (Zb (Zl 0) Zg Za) (he:=Za)) Ze))
      (Zae [3,5] [5] (Xmx [3,5] [5] (Xbr 100000 PassesOwn.never (Xz Zoo Zhj (Zl 5) Ze (Xv _)) (Zae [3] [] (Xhz (i:=6) sc.nd rfl (Or.inl rfl) (Zrx Dlast_way (hr.mono (by decide)) rfl Ya (Zb (Zl 0) (Zb (Zs K (Zl 1) (Zl 5) Zx) (Zb (Zl 5) (Zb (Zl 4) Zg Za) Za) Xd) Za) (he:=Za)))
      (Zdi (Xid (Xz Xge Xfc (Zl 6) Zkk (Xv _)) (Zdi (Xfi (i:=5) Zir Znv sc.nd rfl (Or.inl rfl) Ze)) (Zrp [3,4,5] [4,5] (Zae [3,5] [5] (Zob (i:=5) sc.nd rfl (Or.inl rfl) (Xm (Zs K (Zl 6) Ze Zj)))
      (Zae [3,4,5] [4,5] (Xfi (i:=4) Zir Znv sc.nd rfl (Or.inl rfl) (Zr (r:=Jj K) Xe Xu rfl T.len PySem.boot_len (Zb (Zs K (Zl 6) Ze Zj) Zg Xd) (he:=Xd)))
      (Zdi (Xqe (i:=3) (he:=(Zl 6)) (hse:=Za)))))))))))
      (Zdi (Zsl (Zl 3)))))))⟩
theorem Ztv (F:Fun K "_law_row" "_law_row" Zho f fd)(T:Txt mg)(D_law_cell:Def P w K mg base CX0 7 "_law_cell" ["_law_script","_law_place"] (spD K C 2 2 Dl.Zad))(D_law_mix:Def P w K mg base CX0 7 "_law_mix" ["_law_cell_here","_law_k"] (spD K C 2 2 Dl.Zba)):Zam P w K mg base CX0 8 f fd ["_law_script","_law_place","_law_sizes"] (spD K C 3 2 Dl.Yf):=by
  refine F.okC Zjx (Γ':=[]) (Δ':=[]) rfl fun cdv A outer s H E hr=>?_
  have sc:=Zjx
  have hu:_+64<cLine:=hr.units
  exact ⟨_,(Zf [3] [3] (Zw (i:=3) sc.nd rfl (Or.inl rfl) (Xf D_law_cell (hr.mono (by decide)) rfl Ya (Zb (Zl 0) (Zb (Zl 1) Zg Za) Za) (he:=Za)))
      (Zf [3,4] [3,4] (Zw (i:=4) sc.nd rfl (Or.inl rfl) (Xm (Zl 3)))
      (Zf [3,4,5] [3,4,5] (Zw (i:=5) sc.nd rfl (Or.inl rfl) (Yo Zg))
      (Zf [3,4,5] [3,4,5] (Zbp [3,4,5] [3,4,5] PassesOwn.never rfl (Zcq rfl T.range (Zb (Zr (r:=Jj K) Xe Xu rfl T.len PySem.boot_len (Zb (Zl 2) Zg Za) (he:=Za)) Zg Zi)) (Ja (i:=6) (hN:=sc.nd) (hi:=rfl) (hx:=Or.inl rfl)) (Zn (Zar (Xz Zlw Zfm (Zl 3) (Zq Zfo Zcs Ze Ze) (Xv _)) (Zn (Zbm (i:=5) (he:=(Zq Zbf Jn (Xf D_law_mix (hr.mono (by decide)) rfl Ya (Zb (Zl 3) (Zb (Zl 6) Zg Za) Za) (he:=Za)) (Zs K (Zl 2) (Zl 6) Zx))) (hse:=Zu))) (Zn (Zar (Xz Zoo Zhj (Zl 4) Ze (Xv _)) (Zf [3,4,5] [3,4,5] (Zbm (i:=5) (he:=(Zq Zbf Jn (Zl 4) (Zs K (Zl 2) (Zl 6) Zx))) (hse:=Zu))
      (Zn (Zw (i:=4) sc.nd rfl (Or.inl rfl) (Zq Zrf Zyo (Zl 4) (Zs K (Zl 2) (Zl 6) Zx))))) (Zcv [3,4,5,7] [3,4,5,7] (Zf [3,4,5,7] [3,4,5,7] (Zw (i:=7) sc.nd rfl (Or.inl rfl) (Xf D_law_cell (hr.mono (by decide)) rfl Ya (Zb (Zl 0) (Zb (Zq Zbf Jn (Zq Xa Zz (Zq Xa Zz (Zl 1) Ze) (Zl 6)) Ze) Zg Zu) Za) (he:=Za)))
      (Zn (Zbm (i:=5) (he:=(Zq Zbf Jn (Xf D_law_mix (hr.mono (by decide)) rfl Ya (Zb (Zl 7) (Zb (Zl 6) Zg Za) Za) (he:=Za)) (Zs K (Zl 2) (Zl 6) Zx))) (hse:=Zu))))))))))
      (Zn (Xs (Znm 5)))))))⟩
theorem Xbl (F:Fun K "ending" "ending" Zlv f fd)(T:Txt mg)(Dfits:Def P w K mg base CX0 8 "fits" ["roll","kind","place"] (spD K C 3 2 Dl.Zkj)):Zam P w K mg base CX0 9 f fd ["roll","table","end"] (spD K C 3 2 Dl.Zaf):=by
 refine F.okC Zqz (Γ':=[]) (Δ':=[]) rfl fun cdv A outer s H E hr=>?_
 have sc:=Zqz
 have hu:_+64<cLine:=hr.units
 exact ⟨_,(Zn (Xs (Zet (n:=3) (Zm Zlv) ["roll","table","end"] ["roll","table","end"] ["kind"] ⟨rfl,by decide +kernel,by decide +kernel,by decide +kernel,by decide +kernel,by decide +kernel,rfl,by decide +kernel⟩ (Zab (Zl 1)) (fun _ _ _ _ _=>(Zbc 3 (hN:=(by decide +kernel:List.Nodup (["roll","table","end","kind"]:List Str))))) (fun _ _ _ _ _=>Zom (Xpx (Xf Dfits (hr.mono (by decide)) rfl Ya (Zb (Zl 0 (hv:=Or.inr (Or.inl rfl))) (Zb (Zl 3 (hv:=Or.inl rfl)) (Zb (Zq Jz Yz (Zl 2 (hv:=Or.inr (Or.inl rfl))) (Zs K (Zl 3 (hv:=Or.inl rfl)) Ze Zj)) Zg Zu) Za) Za) (he:=Za)))) (fun _ _ _ _ _=>(Xm (Zl 3 (hv:=Or.inl rfl)))))))⟩
theorem Zmb (F:Fun K "_law_table" "_law_table" Zeu f fd)(T:Txt mg)(D_law_row:Def P w K mg base CX0 8 "_law_row" ["_law_script","_law_place","_law_sizes"] (spD K C 3 2 Dl.Yf)):Zam P w K mg base CX0 9 f fd ["_law_script","_law_place","_law_most"] (spD K C 3 2 Dl.Zai):=by
  refine F.okC Zgq (Γ':=[]) (Δ':=[]) rfl fun cdv A outer s H E hr=>?_
  have sc:=Zgq
  have hu:_+64<cLine:=hr.units
  exact ⟨_,(Zf [3] [3] (Zw (i:=3) sc.nd rfl (Or.inl rfl) (Yo (Zk Zax (Zk Zax (Zk Zax (Zk Zax (Zk Zax (Zk Zax (Zk Zax (Zk Zax (Zk Zax (Zk Zax Zg Zh) Zh) Zh) Zh) Zh) Zh) Zh) Zh) Zh) Zh)))
      (Zf [3] [3] (Zw (i:=3) sc.nd rfl (Or.inl rfl) (Zq Xa Zz (Zl 3) (Yo (Zk Zax (Zk Zax (Zk Zax (Zk Zax (Zk Zax (Zk Zax Zg Zh) Zh) Zh) Zh) Zh) Zh))))
      (Zf [3,4] [3,4] (Zw (i:=4) sc.nd rfl (Or.inl rfl) (Xf D_law_row (hr.mono (by decide)) rfl Ya (Zb (Zl 0) (Zb (Zl 1) (Zb (Zq Xa Zz (Yo (Zk (Zq Xa Zz (Zl 2) Ze) (Zk Ze (Zk Ze (Zk Ze (Zk Ze (Zk Ze Zg Zh) Zh) Zh) Zh) Zh) Zu)) (Zq Yq Yr (Yo (Zk Ze (Zk Ze (Zk Ze Zg Zh) Zh) Zh)) (Zl 2))) Zg Zu) Za) Za) (he:=Za)))
      (Zf [3,4,5] [3,4,5] (Zw (i:=5) sc.nd rfl (Or.inl rfl) (Xm (Zs K (Yo (Zk Ze (Zk Ze (Zk Ze (Zk (Zq Zfo Zcs Ze Ze) Zg Zu) Zh) Zh) Zh)) (Zs K (Zl 4) Ze Zj) Zah)))
      (Zf [3,4,5,6] [3,4,5,6] (Zw (i:=6) sc.nd rfl (Or.inl rfl) (Xm (Zs K (Yo (Zk Ze (Zk Ze (Zk (Zq Zfo Zcs Ze Ze) (Zk (Zq Yq Yr Ze (Zq Zfo Zcs Ze Ze)) Zg Zu) Zu) Zh) Zh)) (Zs K (Zl 4) Ze Zj) Zah)))
      (Zf [3,4,5,6,7] [3,4,5,6,7] (Zw (i:=7) sc.nd rfl (Or.inl rfl) (Yo Zg))
      (Zf [3,4,5,6,7] [3,4,5,6,7] (Zbp [3,4,5,6,7] [3,4,5,6,7] PassesOwn.never rfl (Zcq rfl T.range (Zb (Zs K (Zl 4) Ze Zj) Zg Xd)) (Ja (i:=8) (hN:=sc.nd) (hi:=rfl) (hx:=Or.inl rfl)) (Zcv [3,4,5,6,7,9,10,11,12,13] [3,4,5,6,7,9,10,11,12,13] (Zf [3,4,5,6,7,9] [3,4,5,6,7,9] (Zw (i:=9) sc.nd rfl (Or.inl rfl) (Zq Xa Zz (Zq Yq Yr Ze (Zl 8)) Ze))
      (Zf [3,4,5,6,7,9,10] [3,4,5,6,7,9,10] (Zw (i:=10) sc.nd rfl (Or.inl rfl) (Xm (Zs K (Zlk (Zb Ze (Zb Ze (Zb Ze (Zb Ze (Zb Ze (Zb Ze (Zb Ze (Zb Ze (Zb Ze (Zb Ze (Zb (Zs K (Yo (Zk Ze (Zk Ze Zg Zh) Zh)) (Zq Zbf Jn (Zl 8) Ze) plain_bin) Zg Xd) Zh) Zh) Zh) Zh) Zh) Zh) Zh) Zh) Zh) Zh)) (Zs K (Zl 4) (Zl 9) Zx) Zah)))
      (Zf [3,4,5,6,7,9,10,11] [3,4,5,6,7,9,10,11] (Zw (i:=11) sc.nd rfl (Or.inl rfl) (Zq Xa Zz Ze (Zs K (Zl 4) (Zq Xa Zz (Zl 9) Ze) plain_bin)))
      (Zf [3,4,5,6,7,9,10,11] [3,4,5,6,7,9,10,11] (Zar (Xz (r:=Zzc K) (Zfl hu) Zfs (Zs K (Zl 4) Ze Zj) Ze (Xv _)) (Zn (Zw (i:=11) sc.nd rfl (Or.inl rfl) (Zq Xa Zz (Zq Yq Yr Ze (Zl 10)) (Zq Zbf Jn (Zs K (Zl 4) (Zq Xa Zz (Zl 9) Ze) plain_bin) Ze)))) Yk)
      (Zf [3,4,5,6,7,9,10,11] [3,4,5,6,7,9,10,11] (Zar (Xz (r:=Zzc K) (Zfl hu) Zfs (Zs K (Zl 4) Ze Zj) Ze (Xv _)) (Zn (Zw (i:=11) sc.nd rfl (Or.inl rfl) (Zq Xa Zz Ze (Zq Zbf Jn (Zs K (Zl 4) (Zq Xa Zz (Zl 9) Ze) plain_bin) Ze)))) Yk)
      (Zf [3,4,5,6,7,9,10,11] [3,4,5,6,7,9,10,11] (Zar (Xz (r:=Zzc K) (Zfl hu) Zfs (Zs K (Zl 4) Ze Zj) Ze (Xv _)) (Zn (Zw (i:=11) sc.nd rfl (Or.inl rfl) (Xm (Zl 10)))) Yk)
      (Zf [3,4,5,6,7,9,10,11,12] [3,4,5,6,7,9,10,11,12] (Zw (i:=12) sc.nd rfl (Or.inl rfl) (Zr (r:=Zyp) (Zhm rfl) Zpa rfl T.min PyProof.Rows.boot_min (Zb (Zq Yq Yr (Zs K (Yo (Zk Ze (Zk Ze (Zk Ze (Zk Ze (Zk Ze (Zk Ze Zg Zh) Zh) Zh) Zh) Zh) Zh)) (Zs K (Zl 4) (Zq Xa Zz (Zl 9) Ze) plain_bin) Zah) (Zl 5)) (Zb (Zq Jz Yz (Zq Zfo Zcs Ze Ze) Ze) Zg Zu) Zu) (he:=Zu)))
      (Zf [3,4,5,6,7,9,10,11,12,13] [3,4,5,6,7,9,10,11,12,13] (Zw (i:=13) sc.nd rfl (Or.inl rfl) (Xm (Zs K (Zl 3) (Zq Zbf Jn (Zq Xa Zz (Zs K (Zl 4) Ze Zj) (Zq Yq Yr (Zq Xa Zz (Zq Yq Yr Ze (Zs K (Zl 4) Ze Zj)) Ze) (Zl 8))) Ze) plain_bin)))
      (Zn (Zbm (i:=7) (he:=(Zgn (Zk (Xm (Zl 13)) (Zk (Xm (Zl 10)) (Zk (Zr (r:=Zyp) (Zhm rfl) Zpa rfl T.min PyProof.Rows.boot_min (Zb (Zq Yq Yr (Zl 11) (Zl 6)) (Zb (Zq Zfo Zcs Ze Ze) Zg Zu) Zu) (he:=Zu)) (Zk (Xm (Zl 12)) Zg Za) Zi) Za) Za))) (hse:=Zkt)))))))))))))
      (Zn (Xs (Znm 7))))))))))⟩
theorem Zpf (F:Fun K "_law_flaw" "_law_flaw" Zge f fd)(T:Txt mg)(D_law_row:Def P w K mg base CX0 8 "_law_row" ["_law_script","_law_place","_law_sizes"] (spD K C 3 2 Dl.Yf)):Zam P w K mg base CX0 9 f fd ["_law_script","_law_place","_law_most"] (spD K C 3 2 Dl.Zbi):=by
 refine F.okC Zhw (Γ':=[]) (Δ':=[]) rfl fun cdv A outer s H E hr=>?_
 have sc:=Zhw
 have hu:_+64<cLine:=hr.units
 exact ⟨_,(Zn (Xs (Xm (Zs K (Yo (Zk Ze (Zk Ze (Zk Ze (Zk (Zq Zfo Zcs Ze Ze) Zg Zu) Zh) Zh) Zh)) (Zs K (Xf D_law_row (hr.mono (by decide)) rfl Ya (Zb (Zl 0) (Zb (Zl 1) (Zb (Yo (Zk (Zq Xa Zz (Zl 2) Ze) (Zk Ze Zg Zh) Zu)) Zg Ziv) Za) Za) (he:=Za)) Ze Zj) Zah))))⟩
theorem Zpg (F:Fun K "_law_roll" "_law_roll" Zfz f fd)(T:Txt mg)(D_law_row:Def P w K mg base CX0 8 "_law_row" ["_law_script","_law_place","_law_sizes"] (spD K C 3 2 Dl.Yf)):Zam P w K mg base CX0 9 f fd ["_law_script","_law_place","_law_most","_law_flaw_here"] (spD K C 4 2 Dl.Zbl):=by
  refine F.okC Zic (Γ':=[]) (Δ':=[]) rfl fun cdv A outer s H E hr=>?_
  have sc:=Zic
  have hu:_+64<cLine:=hr.units
  exact ⟨_,(Zf [4] [4] (Zw (i:=4) sc.nd rfl (Or.inl rfl) (Xf D_law_row (hr.mono (by decide)) rfl Ya (Zb (Zl 0) (Zb (Zl 1) (Zb (Zq Xa Zz (Yo (Zk (Zq Xa Zz (Zl 2) Ze) (Zk Ze (Zk Ze Zg Zh) Zh) Zu)) (Zq Yq Yr (Yo (Zk Ze (Zk Ze Zg Zh) Zh)) (Zl 2))) Zg Zu) Za) Za) (he:=Za)))
      (Zf [4,5] [4,5] (Zw (i:=5) sc.nd rfl (Or.inl rfl) (Zq Yq Yr Ze (Zl 3)))
      (Zf [4,5] [4,5] (Zar (Xz (r:=Zzc K) (Zfl hu) Zfs (Zs K (Zl 4) Ze Zj) Ze (Xv _)) (Zn (Zw (i:=5) sc.nd rfl (Or.inl rfl) (Zq Zfo Zcs Ze Ze))) Yk)
      (Zf [4,5,6] [4,5,6] (Zw (i:=6) sc.nd rfl (Or.inl rfl) (Yo Zg))
      (Zf [4,5,6] [4,5,6] (Zbp [4,5,6] [4,5,6] PassesOwn.never rfl (Zcq rfl T.range (Zb (Zs K (Zl 4) Ze Zj) Zg Xd)) (Ja (i:=7) (hN:=sc.nd) (hi:=rfl) (hx:=Or.inl rfl)) (Zcv [4,5,6,8,9] [4,5,6,8,9] (Zf [4,5,6,8] [4,5,6,8] (Zw (i:=8) sc.nd rfl (Or.inl rfl) (Zq Xa Zz (Zq Yq Yr Ze (Zl 7)) Ze))
      (Zf [4,5,6,8,9] [4,5,6,8,9] (Zw (i:=9) sc.nd rfl (Or.inl rfl) Ze)
      (Zf [4,5,6,8,9] [4,5,6,8,9] (Zar (Xz Zlw Zfm (Zs K (Zl 4) (Zl 8) Zx) (Zs K (Yo (Zk Ze (Zk Ze (Zk Ze (Zk Ze Zg Zh) Zh) Zh) Zh)) (Zs K (Zl 4) Ze Zj) Zah) (Xv _)) (Zn (Zw (i:=9) sc.nd rfl (Or.inl rfl) (Xm (Zs K (Zlk (Zb (Zl 3) (Zb (Zl 3) (Zb (Zq Yq Yr Ze (Zl 3)) (Zb (Zq Yq Yr Ze (Zl 3)) (Zb (Zl 5) Zg Za) Zu) Zu) Za) Za)) (Zs K (Zl 4) (Zq Xa Zz (Zl 8) Ze) plain_bin) Zah)))) Yk)
      (Zn (Zbm (i:=6) (he:=(Xm (Zl 9))) (hse:=Za))))))))
      (Zn (Xs (Znm 6))))))))⟩
theorem Ztz (F:Fun K "next_top" "next_top" Zfc f fd)(T:Txt mg)(Dending:Def P w K mg base CX0 9 "ending" ["roll","table","end"] (spD K C 3 2 Dl.Zaf)):Zam P w K mg base CX0 10 f fd ["roll","table","tops"] (spD K C 3 2 Dl.Zcb):=by
  refine F.okC Zjp (Γ':=[]) (Δ':=[]) rfl fun cdv A outer s H E hr=>?_
  have sc:=Zjp
  have hu:_+64<cLine:=hr.units
  exact ⟨_,(Zf [3] [3] (Zw (i:=3) sc.nd rfl (Or.inr rfl) (Zr (r:=Jj K) Xe Xu rfl T.len PySem.boot_len (Zb (Zl 2) Zg Za) (he:=Za)))
      (Zf [3,4] [3,4] (Zye (i:=4) (n:=5) (Zm Zfc) ["roll","table","tops","end","worths"] ["roll","table","tops","end","worths"] ["kind"] ⟨rfl,by decide +kernel,by decide +kernel,by decide +kernel,by decide +kernel,by decide +kernel,rfl,by decide +kernel⟩ rfl rfl (Zab (Xf Dending (hr.mono (by decide)) rfl Ya (Zb (Zl 0) (Zb (Zl 1) (Zb (Zl 3) Zg Za) Za) Za) (he:=Za))) (fun _ _ _ _ _=>(Zbc 5 (hN:=(by decide +kernel:List.Nodup (["roll","table","tops","end","worths","kind"]:List Str))))) (fun _ _ _ _ _=>Zdk) (fun _ _ _ _ _=>(Zq Xa Zz (Zs K (Zl 2 (hv:=Or.inr (Or.inl rfl))) (Zq Jz Yz (Zl 3 (hv:=Or.inr (Or.inl rfl))) (Zs K (Zl 5 (hv:=Or.inl rfl)) Ze Zj)) plain_bin) (Zs K (Zl 5 (hv:=Or.inl rfl)) Ze Zj))))
      (Zn (Xs (Zr (r:=Zgy K) (Zao rfl) Zdd rfl T.max PyProof.Rows.boot_max (Zb (Zq Xa Zz (Zlk (Zb (Zs K (Zl 2) (Zdj Ze) Zay) Zg Xd)) (Zl 4)) Zg Zu) (he:=Zu))))))⟩
theorem Zpk (F:Fun K "last_kind" "last_kind" Zga f fd)(T:Txt mg)(Dending:Def P w K mg base CX0 9 "ending" ["roll","table","end"] (spD K C 3 2 Dl.Zaf)):Zam P w K mg base CX0 10 f fd ["roll","table","tops","end"] (spD K C 4 2 Dl.Zac):=by
  refine F.okC Ziq (Γ':=[]) (Δ':=[]) rfl fun cdv A outer s H E hr=>?_
  have sc:=Ziq
  have hu:_+64<cLine:=hr.units
  exact ⟨_,(Zf [] [] (Zar (Xz (r:=Zzc K) (Zfl hu) Zfs (Zs K (Zl 2) (Zl 3) Zx) (Zs K (Zl 2) (Zq Jz Yz (Zl 3) Ze) plain_bin) (Xv _)) (Zn (Xs Zkk)) Yk)
      (Zf [] [] (Zbp [] [] PassesOwn.never rfl (Zab (Xf Dending (hr.mono (by decide)) rfl Ya (Zb (Zl 0) (Zb (Zl 1) (Zb (Zl 3) Zg Za) Za) Za) (he:=Za))) (Ja (i:=4) (hN:=sc.nd) (hi:=rfl) (hx:=Or.inl rfl)) (Zn (Zar (Xz (r:=Zzc K) (Zfl hu) Zfs (Zq Xa Zz (Zs K (Zl 2) (Zq Jz Yz (Zl 3) (Zs K (Zl 4) Ze Zj)) plain_bin) (Zs K (Zl 4) Ze Zj)) (Zs K (Zl 2) (Zl 3) Zx) (Xv _)) (Zn (Xs (Xm (Zl 4)))) Yk)))
      (Zn (Xs Zkk))))⟩
theorem Zhy (F:Xjm K "cells_to_mend" "cells_to_mend" Zby f fd c)(T:Txt mg)(B:BMod base mg)(hd:CodeHd base c P1)(Dspoilt:Def P w K mg base CX0 7 "spoilt" ["roll","begin","end"] (spD K C 3 2 Dl.Zbs)):Zam P w K mg base CX0 10 f fd ["roll","kind","place"] (spL (tsL P1) (spD K C 3 2 Dl.Yi)):=by
  refine F.okL Zdp (Γ':=[]) (Δ':=[]) rfl fun A outer s H E hr hL=>?_
  have sc:=Zdp
  have hu:_+64<cLine:=hr.units
  exact ⟨_,(Zf [3] [3] (Zw (i:=3) sc.nd rfl (Or.inl rfl) (Xdc rfl T.sorted (Xb (r:=Zns) Zud Zzg rfl T.range PyProof.Rows.boot_range (Zb (Zl 2) (Zb (Zq Xa Zz (Zl 2) (Zs K (Zl 1) Ze Zj)) Zg Zu) Za) (he:=Za)) (Xns (js:=[0]) (N:=["cell","roll"]) (p:=("cell":Str)) (P:=P1) (qual:=("cells_to_mend.<locals>.<lambda>":Str)) B (hL (P1,⟨96,54,96,77⟩,("cells_to_mend.<locals>.<lambda>":Str)) (.head _)) hd (hr.mono (by decide:1≤_)) rfl rfl (List.forall_mem_cons.mpr ⟨rfl,fun _ z=>nomatch z⟩) (List.forall_mem_cons.mpr ⟨⟨_,rfl⟩,fun _ z=>nomatch z⟩) rfl (List.forall_mem_cons.mpr ⟨⟨Or.inr (Or.inl rfl),Xjo rfl⟩,fun _ z=>nomatch z⟩)) (fun _ _ _ _=>(Zs K (Zl 1 (hv:=Or.inr (Or.inr rfl))) (Zl 0 (hv:=Or.inl rfl)) Zx)) Zi))
      (Zf [3,4] [3,4] (Zw (i:=4) sc.nd rfl (Or.inl rfl) (Xf Dspoilt (hr.mono (by decide)) rfl Ya (Zb (Zl 0) (Zb (Zl 2) (Zb (Zq Xa Zz (Zl 2) (Zs K (Zl 1) Ze Zj)) Zg Zu) Za) Za) (he:=Za)))
      (Zf [3,4,5] [3,4,5] (Zw (i:=5) sc.nd rfl (Or.inl rfl) (Yo Zg))
      (Zf [4,5] [4,5] (Zbp [4,5] [4,5] PassesOwn.never rfl (Zab (Zl 3)) (Ja (i:=6) (hN:=sc.nd) (hi:=rfl) (hx:=Or.inl rfl)) (Zf [4,5] [4,5] (Zar (Xz Zmw Zgk (Zl 4) (Zs K (Zl 1) Ze Zj) (Xv _)) (Zn Xnv) Yk)
      (Zf [4,5] [4,5] (Zsc (i:=4) Zir Znv sc.nd rfl (Or.inl rfl) (Zs K (Zl 0) (Zl 6) Zx))
      (Zn (Zbm (i:=5) (he:=(Xm (Zl 6))) (hse:=Za))))))
      (Zn (Xs (Znm 5)))))))⟩
theorem Zna (F:Fun K "_law_drawn" "_law_drawn" Zes f fd)(T:Txt mg)(D_law_flaw:Def P w K mg base CX0 9 "_law_flaw" ["_law_script","_law_place","_law_most"] (spD K C 3 2 Dl.Zbi))(D_law_roll:Def P w K mg base CX0 9 "_law_roll" ["_law_script","_law_place","_law_most","_law_flaw_here"] (spD K C 4 2 Dl.Zbl))(D_law_table:Def P w K mg base CX0 9 "_law_table" ["_law_script","_law_place","_law_most"] (spD K C 3 2 Dl.Zai)):Zam P w K mg base CX0 10 f fd ["_law_script","_law_place","_law_most","_law_kinds"] (spD K C 4 2 Dl.Zak):=by
  refine F.okC Zgs (Γ':=[]) (Δ':=[]) rfl fun cdv A outer s H E hr=>?_
  have sc:=Zgs
  have hu:_+64<cLine:=hr.units
  exact ⟨_,(Zf [4] [4] (Zw (i:=4) sc.nd rfl (Or.inl rfl) (Xf D_law_flaw (hr.mono (by decide)) rfl Ya (Zb (Zl 0) (Zb (Zl 1) (Zb (Zl 3) Zg Za) Za) Za) (he:=Za)))
      (Zn (Xs (Zgn (Zk (Xf D_law_roll (hr.mono (by decide)) rfl Ya (Zb (Zl 0) (Zb (Zq Xa Zz (Zl 1) Ze) (Zb (Zl 2) (Zb (Zl 4) Zg Za) Za) Zu) Za) (he:=Za)) (Zk (Xf D_law_table (hr.mono (by decide)) rfl Ya (Zb (Zl 0) (Zb (Zl 1) (Zb (Zl 3) Zg Za) Za) Za) (he:=Za)) Zg Zi) Zi)))))⟩
theorem Zvy (F:Fun K "heights" "heights" Zkx f fd)(T:Txt mg)(Dnext_top:Def P w K mg base CX0 10 "next_top" ["roll","table","tops"] (spD K C 3 2 Dl.Zcb)):Zam P w K mg base CX0 11 f fd ["roll","table"] (spD K C 2 2 Dl.Yc):=by
  refine F.okC Znd (Γ':=[]) (Δ':=[]) rfl fun cdv A outer s H E hr=>?_
  have sc:=Znd
  have hu:_+64<cLine:=hr.units
  exact ⟨_,(Zf [2] [2] (Zw (i:=2) sc.nd rfl (Or.inl rfl) (Yo (Zk Ze Zg Zh)))
      (Zf [2] [2] (Zkp 100000 PassesOwn.never (Xz Zmw Zgk (Zr (r:=Jj K) Xe Xu rfl T.len PySem.boot_len (Zb (Zl 2) Zg Za) (he:=Za)) (Zr (r:=Jj K) Xe Xu rfl T.len PySem.boot_len (Zb (Zl 0) Zg Za) (he:=Za)) (Xv _)) (Zn (Zbm (i:=2) (he:=(Xf Dnext_top (hr.mono (by decide)) rfl Ya (Zb (Zl 0) (Zb (Zl 1) (Zb (Zl 2) Zg Za) Za) Za) (he:=Za))) (hse:=Zi))))
      (Zn (Xs (Znm 2)))))⟩
theorem Zje (F:Fun K "told_cutting" "told_cutting" Zci f fd)(T:Txt mg)(Dlast_kind:Def P w K mg base CX0 10 "last_kind" ["roll","table","tops","end"] (spD K C 4 2 Dl.Zac)):Zam P w K mg base CX0 11 f fd ["roll","table","tops","end"] (spD K C 4 2 Dl.Jm):=by
  refine F.okC Zef (Γ':=[]) (Δ':=[]) rfl fun cdv A outer s H E hr=>?_
  have sc:=Zef
  have hu:_+64<cLine:=hr.units
  exact ⟨_,(Zf [4] [4] (Zw (i:=4) sc.nd rfl (Or.inl rfl) (Yo Zg))
      (Zf [4] [4] (Zkp 100000 PassesOwn.never (Xz Zoo Zhj (Zl 3) Ze (Xv _)) (Zcv [3,4,5] [3,4,5] (Zf [4,5] [4,5] (Zw (i:=5) sc.nd rfl (Or.inl rfl) (Xf Dlast_kind (hr.mono (by decide)) rfl Ya (Zb (Zl 0) (Zb (Zl 1) (Zb (Zl 2) (Zb (Zl 3) Zg Za) Za) Za) Za) (he:=Za)))
      (Zn (Zar (Xz Xge Xfc (Zl 5) Zkk (Xv _)) (Zn (Zsc (i:=3) Zir Znv sc.nd rfl (Or.inl rfl) Ze)) (Zf [3,4,5] [3,4,5] (Zsc (i:=3) Zir Znv sc.nd rfl (Or.inl rfl) (Zs K (Zl 5) Ze Zj))
      (Zn (Zbm (i:=4) (he:=(Zgn (Zk (Xm (Zl 3)) (Zk (Xm (Zs K (Zl 5) Ze Zj)) Zg Xd) Za))) (hse:=Zkt)))))))))
      (Zn (Xs (Zou K rfl T.list rfl T.reversed (Zl 4) Za)))))⟩
theorem Zkw (F:Fun K "ways_to_end" "ways_to_end" Zag f fd)(T:Txt mg)(Dcells_to_mend:Def P w K mg base CX0 10 "cells_to_mend" ["roll","kind","place"] (spL (tsL P1) (spD K C 3 2 Dl.Yi))):Zam P w K mg base CX0 11 f fd ["roll","table","end"] (spL (tsL P1) (spD K C 3 2 Dl.Yu)):=by
  refine F.okL Zez (Γ':=[]) (Δ':=[]) rfl fun cdv A outer s H E hr hL=>?_
  have sc:=Zez
  have hu:_+64<cLine:=hr.units
  exact ⟨_,(Zf [3] [3] (Zye (i:=3) (n:=4) (Zm Zag) ["roll","table","end","kinds"] ["roll","table","end","kinds"] ["kind"] ⟨rfl,by decide +kernel,by decide +kernel,by decide +kernel,by decide +kernel,by decide +kernel,rfl,by decide +kernel⟩ rfl rfl (Zab (Zl 1)) (fun _ _ _ _ _=>(Zbc 4 (hN:=(by decide +kernel:List.Nodup (["roll","table","end","kinds","kind"]:List Str))))) (fun _ _ _ _ _=>Zom (Xz Zmw Zgk (Zs K (Zl 4 (hv:=Or.inl rfl)) Ze Zj) (Zl 2 (hv:=Or.inr (Or.inl rfl))) (Xv _))) (fun _ _ _ _ _=>(Xm (Zl 4 (hv:=Or.inl rfl)))))
      (Zn (Xs (Xdf (n:=4) (Zm Zag) ["roll","table","end","kinds"] ["roll","table","end","kinds"] ["kind"] ⟨rfl,by decide +kernel,by decide +kernel,by decide +kernel,by decide +kernel,by decide +kernel,rfl,by decide +kernel⟩ (Zab (Zl 3)) (fun _ _ _ _ _=>(Zbc 4 (hN:=(by decide +kernel:List.Nodup (["roll","table","end","kinds","kind"]:List Str))))) (fun _ _ _ _ _=>Zdk) (fun _ _ _ _ _ hT=>have hL:=hL.tbk hT;(Zgn (Zk (Xm (Zl 4 (hv:=Or.inl rfl))) (Zk (Zq Jz Yz (Zl 2 (hv:=Or.inr (Or.inl rfl))) (Zs K (Zl 4 (hv:=Or.inl rfl)) Ze Zj)) (Zk (Zbv Dcells_to_mend (hr.mono (by decide)) rfl Ya hL (Zb (Zl 0 (hv:=Or.inr (Or.inl rfl))) (Zb (Zl 4 (hv:=Or.inl rfl)) (Zb (Zq Jz Yz (Zl 2 (hv:=Or.inr (Or.inl rfl))) (Zs K (Zl 4 (hv:=Or.inl rfl)) Ze Zj)) Zg Zu) Za) Za) (he:=Za)) Zg Zi) Zu) Za)))))))⟩
theorem Xjp (F:Fun K "tails" "tails" Zxq f fd)(T:Txt mg)(Dheights:Def P w K mg base CX0 11 "heights" ["roll","table"] (spD K C 2 2 Dl.Yc))(Dturned:Def P w K mg base CX0 7 "turned" ["roll"] (spD K C 1 2 Dl.Zbu)):Zam P w K mg base CX0 12 f fd ["roll","table"] (spD K C 2 2 Dl.Zdq):=by
 refine F.okC Zxx (Γ':=[]) (Δ':=[]) rfl fun cdv A outer s H E hr=>?_
 have sc:=Zxx
 have hu:_+64<cLine:=hr.units
 exact ⟨_,(Zn (Xs (Zou K rfl T.list rfl T.reversed (Xf Dheights (hr.mono (by decide)) rfl Ya (Zb (Xf Dturned (hr.mono (by decide)) rfl Ya (Zb (Zl 0) Zg Za) (he:=Za)) (Zb (Zl 1) Zg Za) Zi) (he:=Zi)) Zi)))⟩
theorem Xqd (F:Fun K "best" "best" Xgp f fd)(T:Txt mg)(Dheights:Def P w K mg base CX0 11 "heights" ["roll","table"] (spD K C 2 2 Dl.Yc))(Dtold_cutting:Def P w K mg base CX0 11 "told_cutting" ["roll","table","tops","end"] (spD K C 4 2 Dl.Jm)):Zam P w K mg base CX0 12 f fd ["roll","table"] (spD K C 2 2 Dl.Zit):=by
  refine F.okC Xgl (Γ':=[]) (Δ':=[]) rfl fun cdv A outer s H E hr=>?_
  have sc:=Xgl
  have hu:_+64<cLine:=hr.units
  exact ⟨_,(Zf [2] [2] (Zw (i:=2) sc.nd rfl (Or.inl rfl) (Xf Dheights (hr.mono (by decide)) rfl Ya (Zb (Zl 0) (Zb (Zl 1) Zg Za) Za) (he:=Za)))
      (Zn (Xs (Zgn (Zk (Xm (Zs K (Zl 2) (Zdj Ze) Zay)) (Zk (Xf Dtold_cutting (hr.mono (by decide)) rfl Ya (Zb (Zl 0) (Zb (Zl 1) (Zb (Zl 2) (Zb (Zr (r:=Jj K) Xe Xu rfl T.len PySem.boot_len (Zb (Zl 0) Zg Za) (he:=Za)) Zg Zi) Za) Za) Za) (he:=Za)) Zg Zi) Xd)))))⟩
theorem Zji (F:Fun K "best_parting" "best_parting" Jh f fd)(T:Txt mg)(Dheights:Def P w K mg base CX0 11 "heights" ["roll","table"] (spD K C 2 2 Dl.Yc))(Dfirst_places:Def P w K mg base CX0 8 "first_places" ["worths","rows"] (spD K C 2 2 Dl.Yy))(Dsums_by_end:Def P w K mg base CX0 7 "sums_by_end" ["worths","rest","begin"] (spD K C 3 2 Dl.Ye)):Zam P w K mg base CX0 12 f fd ["roll","table","parts"] (spD K C 3 2 Dl.Ym):=by
  refine F.okC Zej (Γ':=[]) (Δ':=[]) rfl fun cdv A outer s H E hr=>?_
  have sc:=Zej
  have hu:_+64<cLine:=hr.units
  exact ⟨_,(Zf [] [] (Zar (Zwg (Zln Zmw Zmw Zgk Zgk Xrj Ze (Zl 2) (Zr (r:=Zgy K) (Zao rfl) Zdd rfl T.max PyProof.Rows.boot_max (Zb (Zr (r:=Jj K) Xe Xu rfl T.len PySem.boot_len (Zb (Zl 0) Zg Za) (he:=Za)) (Zb Ze Zg Zh) Zi) (he:=Zi)))) (Zn Zhi) Yk)
      (Zf [3] [3] (Zw (i:=3) sc.nd rfl (Or.inr rfl) (Zet (n:=6) (Zm Jh) ["roll","table","parts","worths","rows","rest"] ["roll","table","parts","worths","rows","rest"] ["begin"] ⟨rfl,by decide +kernel,by decide +kernel,by decide +kernel,by decide +kernel,by decide +kernel,rfl,by decide +kernel⟩ (Zcq rfl T.range (Zb (Zr (r:=Zgy K) (Zao rfl) Zdd rfl T.max PyProof.Rows.boot_max (Zb (Zr (r:=Jj K) Xe Xu rfl T.len PySem.boot_len (Zb (Zl 0) Zg Za) (he:=Za)) (Zb Ze Zg Zh) Zi) (he:=Zi)) Zg Zi)) (fun _ _ _ _ _=>(Zbc 6 (hN:=(by decide +kernel:List.Nodup (["roll","table","parts","worths","rows","rest","begin"]:List Str))))) (fun _ _ _ _ _=>Zdk) (fun _ _ _ _ _=>(Xf Dheights (hr.mono (by decide)) rfl Ya (Zb (Zyc K (Zl 0 (hv:=Or.inr (Or.inl rfl))) (Zde (Zl 6 (hv:=Or.inl rfl))) Zlj) (Zb (Zl 1 (hv:=Or.inr (Or.inl rfl))) Zg Za) Xd) (he:=Xd)))))
      (Zf [3,4] [3,4] (Zw (i:=4) sc.nd rfl (Or.inl rfl) (Yo (Zk (Zet (n:=6) (Zm Jh) ["roll","table","parts","worths","rows","rest"] ["roll","table","parts","worths","rows","rest"] ["tops"] ⟨rfl,by decide +kernel,by decide +kernel,by decide +kernel,by decide +kernel,by decide +kernel,rfl,by decide +kernel⟩ (Zab (Zl 3)) (fun _ _ _ _ _=>(Zbc 6 (hN:=(by decide +kernel:List.Nodup (["roll","table","parts","worths","rows","rest","tops"]:List Str))))) (fun _ _ _ _ _=>Zdk) (fun _ _ _ _ _=>(Xm (Zs K (Zl 6 (hv:=Or.inl rfl)) (Zdj Ze) Zay)))) Zg Zex)))
      (Zf [3,4] [3] (Xrf [3,4] [3] (Zkp 100000 PassesOwn.never (Xz Zlw Zfm (Zr (r:=Jj K) Xe Xu rfl T.len PySem.boot_len (Zb (Zl 4) Zg Za) (he:=Za)) (Zl 2) (Xv _)) (Zf [3,4] [3] (Xhw (i:=5) sc.nd rfl (Or.inr rfl) (Xgf K 4 (Zdj Ze) Zay))
      (Zn (Zbm (i:=4) (he:=(Zet (n:=6) (Zm Jh) ["roll","table","parts","worths","rows","rest"] ["roll","table","parts","worths","rows","rest"] ["begin"] ⟨rfl,by decide +kernel,by decide +kernel,by decide +kernel,by decide +kernel,by decide +kernel,rfl,by decide +kernel⟩ (Zcq rfl T.range (Zb (Zq Jz Yz (Zr (r:=Jj K) Xe Xu rfl T.len PySem.boot_len (Zb (Zl 5) Zg Za) (he:=Za)) Ze) Zg Zu)) (fun _ _ _ _ _=>(Zbc 6 (hN:=(by decide +kernel:List.Nodup (["roll","table","parts","worths","rows","rest","begin"]:List Str))))) (fun _ _ _ _ _=>Zdk) (fun _ _ _ _ _=>(Zr (r:=Zgy K) (Zao rfl) Zdd rfl T.max PyProof.Rows.boot_max (Zb (Xf Dsums_by_end (hr.mono (by decide)) rfl Ya (Zb (Zl 3 (hv:=Or.inr (Or.inl rfl))) (Zb (Zl 5 (hv:=Or.inr (Or.inl rfl))) (Zb (Zl 6 (hv:=Or.inl rfl)) Zg Za) Za) Za) (he:=Za)) Zg Zi) (he:=Zi))))) (hse:=Zex))))))
      (Zn (Xs (Zgn (Zk (Xm (Zs K (Xgf K 4 (Zdj Ze) Zay) Ze Zj)) (Zk (Xf Dfirst_places (hr.mono (by decide)) rfl Ya (Zb (Zl 3) (Zb (Zl 4) Zg Za) Za) (he:=Za)) Zg Zi) Xd))))))))⟩
theorem Zlu (F:Fun K "mended_best" "mended_best" Zbr f fd)(T:Txt mg)(Dlast_ways:Def P w K mg base CX0 8 "last_ways" ["rows","ways","most"] (spR K C 3 Dl.Zaa))(Dways_to_end:Def P w K mg base CX0 11 "ways_to_end" ["roll","table","end"] (spL (tsL P1) (spD K C 3 2 Dl.Yu)))(Dnext_row:Def P w K mg base CX0 7 "next_row" ["rows","ways"] (spD K C 2 2 Dl.Zaz)):Zam P w K mg base CX0 12 f fd ["roll","table","most"] (spL (tsL P1) (spD K C 3 2 Dl.Xq)):=by
  refine F.okL Zft (Γ':=[]) (Δ':=[]) rfl fun cdv A outer s H E hr hL=>?_
  have sc:=Zft
  have hu:_+64<cLine:=hr.units
  exact ⟨_,(Zf [3] [3] (Zw (i:=3) sc.nd rfl (Or.inl rfl) (Zr (r:=Zgy K) (Zao rfl) Zdd rfl T.max PyProof.Rows.boot_max (Zb Ze (Zb (Zr (r:=Zyp) (Zhm rfl) Zpa rfl T.min PyProof.Rows.boot_min (Zb (Zl 2) (Zb (Zr (r:=Jj K) Xe Xu rfl T.len PySem.boot_len (Zb (Zl 0) Zg Za) (he:=Za)) Zg Zi) Za) (he:=Za)) Zg Zi) Zh) (he:=Zh)))
      (Zf [3,4] [3,4] (Zzw (i:=4) (n:=12) (Zm Zbr) ["roll","table","most","bound","ways","rows","end","cells","pieces","kind","begin","mended"] ["roll","table","most","bound","ways","rows","","cells","pieces","kind","begin","mended"] ["end"] ⟨rfl,by decide +kernel,by decide +kernel,by decide +kernel,by decide +kernel,by decide +kernel,rfl,by decide +kernel⟩ rfl rfl (Zcq rfl T.range (Zb (Zq Xa Zz (Zr (r:=Jj K) Xe Xu rfl T.len PySem.boot_len (Zb (Zl 0) Zg Za) (he:=Za)) Ze) Zg Zu)) (fun _ _ _ _ _=>(Zbc 12 (hN:=(by decide +kernel:List.Nodup (["roll","table","most","bound","ways","rows","","cells","pieces","kind","begin","mended","end"]:List Str))))) (fun _ _ _ _ _=>Zdk) (fun _ _ _ _ _ hT=>have hL:=hL.tbk hT;(Zbv Dways_to_end (hr.mono (by decide)) rfl Ya hL (Zb (Zl 0 (hv:=Or.inr (Or.inl rfl))) (Zb (Zl 1 (hv:=Or.inr (Or.inl rfl))) (Zb (Zl 12 (hv:=Or.inl rfl)) Zg Za) Za) Za) (he:=Za))))
      (Zf [3,4,5] [3,4,5] (Zw (i:=5) sc.nd rfl (Or.inl rfl) (Yo (Zk (Zq Yq Yr (Yo (Zk Ze Zg Zh)) (Zq Xa Zz (Zl 3) Ze)) Zg Zu)))
      (Zf [3,4,5] [3,4,5] (Zbp [3,4,5] [3,4,5] PassesOwn.never rfl (Zox rfl T.range (Zb Ze (Zb (Zq Xa Zz (Zr (r:=Jj K) Xe Xu rfl T.len PySem.boot_len (Zb (Zl 0) Zg Za) (he:=Za)) Ze) Zg Zu) Zh)) (Ja (i:=6) (hN:=sc.nd) (hi:=rfl) (hx:=Or.inl rfl)) (Zn (Zbm (i:=5) (he:=(Xf Dnext_row (hr.mono (by decide)) rfl Ya (Zb (Zl 5) (Zb (Zs K (Zl 4) (Zl 6) Zx) Zg Xd) Za) (he:=Za))) (hse:=Zi))))
      (Zf [3,4,5,7] [3,4,5,7] (Zw (i:=7) sc.nd rfl (Or.inl rfl) (Yo Zg))
      (Zf [3,4,5,7,8] [3,4,5,7,8] (Zw (i:=8) sc.nd rfl (Or.inl rfl) (Yo Zg))
      (Zf [7,8] [7,8] (Zbp [7,8] [7,8] PassesOwn.never rfl (Zab (Zrx Dlast_ways (hr.mono (by decide)) rfl Ya (Zb (Zl 5) (Zb (Zl 4) (Zb (Zl 3) Zg Za) Za) Za) (he:=Za))) (Xfb rfl (Zdx (Ja (i:=9) (hN:=sc.nd) (hi:=rfl) (hx:=Or.inl rfl)) (Zdx (Ja (i:=10) (hN:=sc.nd) (hi:=rfl) (hx:=Or.inl rfl)) (Zdx (Ja (i:=11) (hN:=sc.nd) (hi:=rfl) (hx:=Or.inl rfl)) Zxw)))) (Zf [7,8] [7,8] (Xkc (i:=7) (he:=(Zl 11)) (hse:=Za))
      (Zn (Zbm (i:=8) (he:=(Zgn (Zk (Xm (Zl 10)) (Zk (Xm (Zs K (Zl 9) Ze Zj)) Zg Xd) Za))) (hse:=Zkt)))))
      (Zn (Xs (Zgn (Zk (Xm (Zs K (Zs K (Zl 5) (Zdj Ze) Zay) (Zl 3) Zx)) (Zk (Zr Zip Zqh rfl T.sorted PyProof.Rows.boot_sorted (Zb (Zl 7) Zg Za) (he:=Za)) (Zk (Zr (r:=Zwy K) (Znu hu) Zyx rfl T.sorted PyProof.Rows.boot_sorted (Zb (Zl 8) Zg Za) (he:=Za)) Zg Zi) Zi) Xd)))))))))))⟩
theorem Zjg (F:Fun K "parting_loss" "parting_loss" Zcl f fd)(T:Txt mg)(Dheights:Def P w K mg base CX0 11 "heights" ["roll","table"] (spD K C 2 2 Dl.Yc))(Dtails:Def P w K mg base CX0 12 "tails" ["roll","table"] (spD K C 2 2 Dl.Zdq)):Zam P w K mg base CX0 13 f fd ["roll","table","place"] (spD K C 3 2 Dl.Yl):=by
  refine F.okC Zei (Γ':=[]) (Δ':=[]) rfl fun cdv A outer s H E hr=>?_
  have sc:=Zei
  have hu:_+64<cLine:=hr.units
  exact ⟨_,(Zf [] [] (Zar (Zwg (Zln Zmw Zmw Zgk Zgk Xrj Ze (Zl 2) (Zr (r:=Jj K) Xe Xu rfl T.len PySem.boot_len (Zb (Zl 0) Zg Za) (he:=Za)))) (Zn Zhi) Yk)
      (Zf [3] [3] (Zw (i:=3) sc.nd rfl (Or.inl rfl) (Xf Dheights (hr.mono (by decide)) rfl Ya (Zb (Zl 0) (Zb (Zl 1) Zg Za) Za) (he:=Za)))
      (Zn (Xs (Zq Jz Yz (Zq Jz Yz (Zs K (Zl 3) (Zdj Ze) Zay) (Zs K (Zl 3) (Zl 2) Zx)) (Zs K (Xf Dtails (hr.mono (by decide)) rfl Ya (Zb (Zl 0) (Zb (Zl 1) Zg Za) Za) (he:=Za)) (Zl 2) Zx))))))⟩
theorem Zlr (F:Fun K "free_places" "free_places" Zbn f fd)(T:Txt mg)(Dheights:Def P w K mg base CX0 11 "heights" ["roll","table"] (spD K C 2 2 Dl.Yc))(Dtails:Def P w K mg base CX0 12 "tails" ["roll","table"] (spD K C 2 2 Dl.Zdq)):Zam P w K mg base CX0 13 f fd ["roll","table"] (spD K C 2 2 Dl.Ys):=by
  refine F.okC Zff (Γ':=[]) (Δ':=[]) rfl fun cdv A outer s H E hr=>?_
  have sc:=Zff
  have hu:_+64<cLine:=hr.units
  exact ⟨_,(Zf [2] [2] (Zw (i:=2) sc.nd rfl (Or.inr rfl) (Xf Dheights (hr.mono (by decide)) rfl Ya (Zb (Zl 0) (Zb (Zl 1) Zg Za) Za) (he:=Za)))
      (Zf [2,3] [2,3] (Zw (i:=3) sc.nd rfl (Or.inr rfl) (Xf Dtails (hr.mono (by decide)) rfl Ya (Zb (Zl 0) (Zb (Zl 1) Zg Za) Za) (he:=Za)))
      (Zn (Xs (Zet (n:=4) (Zm Zbn) ["roll","table","tops","rests"] ["roll","table","tops","rests"] ["place"] ⟨rfl,by decide +kernel,by decide +kernel,by decide +kernel,by decide +kernel,by decide +kernel,rfl,by decide +kernel⟩ (Zcq rfl T.range (Zb (Zq Xa Zz (Zr (r:=Jj K) Xe Xu rfl T.len PySem.boot_len (Zb (Zl 0) Zg Za) (he:=Za)) Ze) Zg Zu)) (fun _ _ _ _ _=>(Zbc 4 (hN:=(by decide +kernel:List.Nodup (["roll","table","tops","rests","place"]:List Str))))) (fun _ _ _ _ _=>Zom (Xz (r:=Zzc K) (Zfl hu) Zfs (Zq Xa Zz (Zs K (Zl 2 (hv:=Or.inr (Or.inl rfl))) (Zl 4 (hv:=Or.inl rfl)) Zx) (Zs K (Zl 3 (hv:=Or.inr (Or.inl rfl))) (Zl 4 (hv:=Or.inl rfl)) Zx)) (Zs K (Zl 2 (hv:=Or.inr (Or.inl rfl))) (Zdj Ze) Zay) (Xv _))) (fun _ _ _ _ _=>(Xm (Zl 4 (hv:=Or.inl rfl)))))))))⟩
theorem Zep (F:Fun K "_law_mended_parts" "_law_mended_parts" Jw f fd)(T:Txt mg)(Dparted:Def P w K mg base CX0 7 "parted" ["roll","places"] (spD K C 2 2 Dl.Zct))(Dmended_best:Def P w K mg base CX0 12 "mended_best" ["roll","table","most"] (spL (tsL P1) (spD K C 3 2 Dl.Xq))):Zam P w K mg base CX0 13 f fd ["_law_roll_here","_law_table_here","_law_at","_law_most"] (spL (tsL P1) (spD K C 4 2 Dl.Xy)):=by
  refine F.okL Zbg (Γ':=[]) (Δ':=[]) rfl fun cdv A outer s H E hr hL=>?_
  have sc:=Zbg
  have hu:_+64<cLine:=hr.units
  exact ⟨_,(Zf [] [] (Zar (ct_w (Xci (Xz Zlw Zfm (Zl 2) Ze (Xv _)) (Zxj (Xz Xmp Xer (Zl 2) (Zr (r:=Jj K) Xe Xu rfl T.len PySem.boot_len (Zb (Zl 0) Zg Za) (he:=Za)) (Xv _))))) (Zn (Xs Zjb)) Yk)
      (Zf [4] [4] (Zw (i:=4) sc.nd rfl (Or.inl rfl) (Xf Dparted (hr.mono (by decide)) rfl Ya (Zb (Xb (r:=Jk K) (Zt rfl) Xj rfl T.list PyProof.Rows.boot_list (Zb (Zl 0) Zg Za) (he:=Za)) (Zb (Zlk (Zb (Zl 2) Zg Za)) Zg Ziv) Zi) (he:=Zi)))
      (Zf [4] [4] (Zbp [4] [4] PassesOwn.never rfl (Zcq rfl T.range (Zb (Zq Xa Zz (Zl 3) Ze) Zg Zu)) (Ja (i:=5) (hN:=sc.nd) (hi:=rfl) (hx:=Or.inl rfl)) (Zcv [4,6,7] [4,6,7] (Zf [4,6] [4,6] (Zw (i:=6) sc.nd rfl (Or.inl rfl) (Xm (Zs K (Zbv Dmended_best (hr.mono (by decide)) rfl Ya hL (Zb (Xb (r:=Jk K) (Zt rfl) Xj rfl T.list PyProof.Rows.boot_list (Zb (Zs K (Zl 4) Ze Zj) Zg Xd) (he:=Xd)) (Zb (Xb (r:=Jk K) (Zt rfl) Xj rfl T.list PyProof.Rows.boot_list (Zb (Zl 1) Zg Za) (he:=Za)) (Zb (Zl 5) Zg Za) Zi) Zi) (he:=Zi)) Ze Zj)))
      (Zf [4,6,7] [4,6,7] (Zw (i:=7) sc.nd rfl (Or.inl rfl) (Xm (Zs K (Zbv Dmended_best (hr.mono (by decide)) rfl Ya hL (Zb (Xb (r:=Jk K) (Zt rfl) Xj rfl T.list PyProof.Rows.boot_list (Zb (Zs K (Zl 4) Ze Zj) Zg Xd) (he:=Xd)) (Zb (Xb (r:=Jk K) (Zt rfl) Xj rfl T.list PyProof.Rows.boot_list (Zb (Zl 1) Zg Za) (he:=Za)) (Zb (Zq Jz Yz (Zl 3) (Zl 5)) Zg Zu) Zi) Zi) (he:=Zi)) Ze Zj)))
      (Zn (Zar (Xz Zoo Zhj (Zq Xa Zz (Zl 6) (Zl 7)) (Zs K (Zbv Dmended_best (hr.mono (by decide)) rfl Ya hL (Zb (Xb (r:=Jk K) (Zt rfl) Xj rfl T.list PyProof.Rows.boot_list (Zb (Zl 0) Zg Za) (he:=Za)) (Zb (Xb (r:=Jk K) (Zt rfl) Xj rfl T.list PyProof.Rows.boot_list (Zb (Zl 1) Zg Za) (he:=Za)) (Zb (Zl 3) Zg Za) Zi) Zi) (he:=Zi)) Ze Zj) (Xv _)) (Zn (Xs Zjb)) Yk))))))
      (Zn (Xs Zjb)))))⟩
theorem oklaw (F:Fun K "law" "law" Xlc f fd)(T:Txt mg)(D_law_drawn:Def P w K mg base CX0 10 "_law_drawn" ["_law_script","_law_place","_law_most","_law_kinds"] (spD K C 4 2 Dl.Zak))(D_law_row:Def P w K mg base CX0 8 "_law_row" ["_law_script","_law_place","_law_sizes"] (spD K C 3 2 Dl.Yf))(Dturned:Def P w K mg base CX0 7 "turned" ["roll"] (spD K C 1 2 Dl.Zbu))(D_law_mended_parts:Def P w K mg base CX0 13 "_law_mended_parts" ["_law_roll_here","_law_table_here","_law_at","_law_most"] (spL (tsL P1) (spD K C 4 2 Dl.Xy)))(Dbest_parting:Def P w K mg base CX0 12 "best_parting" ["roll","table","parts"] (spD K C 3 2 Dl.Ym))(Dmended_best:Def P w K mg base CX0 12 "mended_best" ["roll","table","most"] (spL (tsL P1) (spD K C 3 2 Dl.Xq)))(Dparting_loss:Def P w K mg base CX0 13 "parting_loss" ["roll","table","place"] (spD K C 3 2 Dl.Yl))(Dfree_places:Def P w K mg base CX0 13 "free_places" ["roll","table"] (spD K C 2 2 Dl.Ys))(Dbest:Def P w K mg base CX0 12 "best" ["roll","table"] (spD K C 2 2 Dl.Zit)):Zam P w K mg base CX0 14 f fd ["_law_script"] (spL (tsL P1) (spD K C 1 2 Dl.Xbn)):=by
  refine F.okL Xpb (Γ':=[]) (Δ':=[]) rfl fun cdv A outer s H E hr hL=>?_
  have sc:=Xpb
  have hu:_+64<cLine:=hr.units
  exact ⟨_,(Zf [1,2] [1,2] (Zwr rfl (Xf D_law_drawn (hr.mono (by decide)) rfl Ya (Zb (Zl 0) (Zb Ze (Zb Ze (Zb Ze Zg Zh) Zh) Zh) Za) (he:=Za)) (Zvv (i:=1) sc.nd rfl (Or.inl rfl) (Zvv (i:=2) sc.nd rfl (Or.inl rfl) Xot)))
      (Zf [1,2,3] [1,2,3] (Zw (i:=3) sc.nd rfl (Or.inl rfl) (Xf D_law_row (hr.mono (by decide)) rfl Ya (Zb (Zl 0) (Zb Ze (Zb (Yo (Zk Ze (Zk Ze (Zk Ze Zg Zh) Zh) Zh)) Zg Ziv) Zh) Za) (he:=Za)))
      (Zf [1,2,3,4] [1,2,3,4] (Zw (i:=4) sc.nd rfl (Or.inl rfl) (Xf Dturned (hr.mono (by decide)) rfl Ya (Zb (Xb (r:=Jk K) (Zt rfl) Xj rfl T.list PyProof.Rows.boot_list (Zb (Zl 1) Zg Za) (he:=Za)) Zg Zi) (he:=Zi)))
      (Zf [1,2,3,4] [1,2,3,4] (Zar (Xz (r:=Xfv K) (Zjn hu) Zkb (Zl 4) (Xrb K (Zl 1) (Zdj Ze)) (Xv _)) (Zn (Xs Zjb)) Yk)
      (Zf [1,2,3,4] [1,2,3,4] (Zar (Xz (r:=Xfv K) (Zjn hu) Zkb (Zs K (Xf Dbest (hr.mono (by decide)) rfl Ya (Zb (Xb (r:=Jk K) (Zt rfl) Xj rfl T.list PyProof.Rows.boot_list (Zb (Zl 1) Zg Za) (he:=Za)) (Zb (Xb (r:=Jk K) (Zt rfl) Xj rfl T.list PyProof.Rows.boot_list (Zb (Zl 2) Zg Za) (he:=Za)) Zg Zi) Zi) (he:=Zi)) Ze Zj) (Zs K (Xf Dbest (hr.mono (by decide)) rfl Ya (Zb (Xb (r:=Jk K) (Zt rfl) Xj rfl T.list PyProof.Rows.boot_list (Zb (Zl 4) Zg Za) (he:=Za)) (Zb (Xb (r:=Jk K) (Zt rfl) Xj rfl T.list PyProof.Rows.boot_list (Zb (Zl 2) Zg Za) (he:=Za)) Zg Zi) Zi) (he:=Zi)) Ze Zj) (Xv _)) (Zn (Xs Zjb)) Yk)
      (Zf [1,2,3,4,5] [1,2,3,4,5] (Zw (i:=5) sc.nd rfl (Or.inl rfl) (Zq Xa Zz Ze (Zq Zbf Jn (Zs K (Zl 3) Ze Zj) (Zr (r:=Zgy K) (Zao rfl) Zdd rfl T.max PyProof.Rows.boot_max (Zb Ze (Zb (Zr (r:=Jj K) Xe Xu rfl T.len PySem.boot_len (Zb (Zl 1) Zg Za) (he:=Za)) Zg Zi) Zh) (he:=Zh)))))
      (Zf [1,2,3,4,5,6] [1,2,3,4,5,6] (Zw (i:=6) sc.nd rfl (Or.inl rfl) (Xm (Zs K (Xf Dbest_parting (hr.mono (by decide)) rfl Ya (Zb (Xb (r:=Jk K) (Zt rfl) Xj rfl T.list PyProof.Rows.boot_list (Zb (Zl 1) Zg Za) (he:=Za)) (Zb (Xb (r:=Jk K) (Zt rfl) Xj rfl T.list PyProof.Rows.boot_list (Zb (Zl 2) Zg Za) (he:=Za)) (Zb (Zl 5) Zg Za) Zi) Zi) (he:=Zi)) Ze Zj)))
      (Zf [1,2,3,4,5,6] [1,2,3,4,5,6] (Zar (Xz (r:=Xfv K) (Zjn hu) Zkb (Zs K (Xf Dbest_parting (hr.mono (by decide)) rfl Ya (Zb (Xb (r:=Jk K) (Zt rfl) Xj rfl T.list PyProof.Rows.boot_list (Zb (Zl 4) Zg Za) (he:=Za)) (Zb (Xb (r:=Jk K) (Zt rfl) Xj rfl T.list PyProof.Rows.boot_list (Zb (Zl 2) Zg Za) (he:=Za)) (Zb (Zl 5) Zg Za) Zi) Zi) (he:=Zi)) Ze Zj) (Zl 6) (Xv _)) (Zn (Xs Zjb)) Yk)
      (Zf [1,2,3,4,5,6] [1,2,3,4,5,6] (Zw (i:=6) sc.nd rfl (Or.inl rfl) (Xm (Zs K (Zbv Dmended_best (hr.mono (by decide)) rfl Ya hL (Zb (Xb (r:=Jk K) (Zt rfl) Xj rfl T.list PyProof.Rows.boot_list (Zb (Zl 1) Zg Za) (he:=Za)) (Zb (Xb (r:=Jk K) (Zt rfl) Xj rfl T.list PyProof.Rows.boot_list (Zb (Zl 2) Zg Za) (he:=Za)) (Zb (Zs K (Zl 3) Ze Zj) Zg Xd) Zi) Zi) (he:=Zi)) Ze Zj)))
      (Zf [1,2,3,4,5,6] [1,2,3,4,5,6] (Zar (Xz (r:=Xfv K) (Zjn hu) Zkb (Zs K (Zbv Dmended_best (hr.mono (by decide)) rfl Ya hL (Zb (Xb (r:=Jk K) (Zt rfl) Xj rfl T.list PyProof.Rows.boot_list (Zb (Zl 4) Zg Za) (he:=Za)) (Zb (Xb (r:=Jk K) (Zt rfl) Xj rfl T.list PyProof.Rows.boot_list (Zb (Zl 2) Zg Za) (he:=Za)) (Zb (Zs K (Zl 3) Ze Zj) Zg Xd) Zi) Zi) (he:=Zi)) Ze Zj) (Zl 6) (Xv _)) (Zn (Xs Zjb)) Yk)
      (Zf [1,2,3,4,5,6,7] [1,2,3,4,5,6,7] (Zw (i:=7) sc.nd rfl (Or.inr rfl) (Zr (r:=Jj K) Xe Xu rfl T.len PySem.boot_len (Zb (Zl 1) Zg Za) (he:=Za)))
      (Zf [1,2,3,4,5,6,7] [1,2,3,4,5,6,7] (Zbp [1,2,3,4,5,6,7] [1,2,3,4,5,6,7] PassesOwn.never rfl (Zcq rfl T.range (Zb (Zq Xa Zz (Zl 7) Ze) Zg Zu)) (Ja (i:=8) (hN:=sc.nd) (hi:=rfl) (hx:=Or.inl rfl)) (Zcv [1,2,3,4,5,6,7,9] [1,2,3,4,5,6,7,9] (Zf [1,2,3,4,5,6,7,9] [1,2,3,4,5,6,7,9] (Zw (i:=9) sc.nd rfl (Or.inl rfl) (Xf Dparting_loss (hr.mono (by decide)) rfl Ya (Zb (Xb (r:=Jk K) (Zt rfl) Xj rfl T.list PyProof.Rows.boot_list (Zb (Zl 1) Zg Za) (he:=Za)) (Zb (Xb (r:=Jk K) (Zt rfl) Xj rfl T.list PyProof.Rows.boot_list (Zb (Zl 2) Zg Za) (he:=Za)) (Zb (Zl 8) Zg Za) Zi) Zi) (he:=Zi)))
      (Zn (Zar (Xz (r:=Xfv K) (Zjn hu) Zkb (Xf Dparting_loss (hr.mono (by decide)) rfl Ya (Zb (Xb (r:=Jk K) (Zt rfl) Xj rfl T.list PyProof.Rows.boot_list (Zb (Zl 4) Zg Za) (he:=Za)) (Zb (Xb (r:=Jk K) (Zt rfl) Xj rfl T.list PyProof.Rows.boot_list (Zb (Zl 2) Zg Za) (he:=Za)) (Zb (Zq Jz Yz (Zl 7) (Zl 8)) Zg Zu) Zi) Zi) (he:=Zi)) (Zl 9) (Xv _)) (Zn (Xs Zjb)) Yk)))))
      (Zf [1,2,3,4,5,6,7,10] [1,2,3,4,5,6,7,10] (Zw (i:=10) sc.nd rfl (Or.inl rfl) (Zr Zip Zqh rfl T.sorted PyProof.Rows.boot_sorted (Zb (Zet (n:=11) (Zm Xlc) ["_law_script","_law_roll_here","_law_table_here","_law_some","_law_other","_law_parts","_law_one","_law_count","_law_at","_law_lost","_law_due"] ["_law_script","_law_roll_here","_law_table_here","_law_some","_law_other","_law_parts","_law_one","_law_count","","_law_lost","_law_due"] ["_law_at"] ⟨rfl,by decide +kernel,by decide +kernel,by decide +kernel,by decide +kernel,by decide +kernel,rfl,by decide +kernel⟩ (Zab (Xf Dfree_places (hr.mono (by decide)) rfl Ya (Zb (Xb (r:=Jk K) (Zt rfl) Xj rfl T.list PyProof.Rows.boot_list (Zb (Zl 1) Zg Za) (he:=Za)) (Zb (Xb (r:=Jk K) (Zt rfl) Xj rfl T.list PyProof.Rows.boot_list (Zb (Zl 2) Zg Za) (he:=Za)) Zg Zi) Zi) (he:=Zi))) (fun _ _ _ _ _=>(Zbc 11 (hN:=(by decide +kernel:List.Nodup (["_law_script","_law_roll_here","_law_table_here","_law_some","_law_other","_law_parts","_law_one","_law_count","","_law_lost","_law_due","_law_at"]:List Str))))) (fun _ _ _ _ _=>Zdk) (fun _ _ _ _ _=>(Zq Jz Yz (Zl 7 (hv:=Or.inr (Or.inl rfl))) (Zl 11 (hv:=Or.inl rfl))))) Zg Zex) (he:=Zex)))
      (Zf [1,2,3,4,5,6,7,10] [1,2,3,4,5,6,7,10] (Zar (Xz (r:=Xfv K) (Zjn hu) Zkb (Xf Dfree_places (hr.mono (by decide)) rfl Ya (Zb (Xb (r:=Jk K) (Zt rfl) Xj rfl T.list PyProof.Rows.boot_list (Zb (Zl 4) Zg Za) (he:=Za)) (Zb (Xb (r:=Jk K) (Zt rfl) Xj rfl T.list PyProof.Rows.boot_list (Zb (Zl 2) Zg Za) (he:=Za)) Zg Zi) Zi) (he:=Zi)) (Zl 10) (Xv _)) (Zn (Xs Zjb)) Yk)
      (Zn (Xs (Zbv D_law_mended_parts (hr.mono (by decide)) rfl Ya hL (Zb (Zl 1) (Zb (Zl 2) (Zb (Zs K (Zl 3) Ze Zj) (Zb (Zs K (Zl 3) Ze Zj) Zg Xd) Xd) Za) Za) (he:=Za))))))))))))))))))⟩
end
noncomputable def Xio (K:Frag)(ts:List (Addr×Pos×Str)):Sp:=fun vs H Q _=>Zcd ts H∧∃(a:Addr) (ns:List Int),vs=[.ref a]∧FzL K H a (ns.map V.int)∧ns.length≤63∧∀H',Q (.bl true) H'
theorem Xbm (ns:List Int)(h:ns.length≤63):Dl.Xbn [.scr ns]=.ok (.bl true):=Dl.Zte ns h
theorem all_mk {l:PySem.W.OpenLaw}{w:World}{K:Frag}{h:Heap}{mg:Str→Option Value}{fa f1 f2 f3 f4 f5 f6 f7 f8 f9 f10 f11 f12 f13 f14 f15 f16 f17 f18 f19 f20 f21 f22 f23 f24 f25 f26 f27 f28 f29 f30 f31:Addr}{P1 c1' bm:Addr}{ob:Obj}(X:K.In h)(G:h.Ns mainGlobals mg)(hfa:mg "law"=some (.ref fa))
  {fd1 fd2 fd3 fd4 fd5 fd6 fd7 fd8 fd9 fd10 fd11 fd12 fd13 fd14 fd15 fd16 fd17 fd18 fd19 fd20 fd21 fd22 fd23 fd24 fd25 fd26 fd27 fd28 fd29 fd30 fd31:FuncData}
  (a1:nsIn K mainGlobals "spoilt"=some (some (.ref f1))) (F1:Fun K "spoilt" "spoilt" Zpn f1 fd1)
  (a2:nsIn K mainGlobals "turned"=some (some (.ref f2))) (F2:Fun K "turned" "turned" Zpr f2 fd2)
  (a3:nsIn K mainGlobals "fits"=some (some (.ref f3))) (F3:Fun K "fits" "fits" Xkf f3 fd3)
  (a4:nsIn K mainGlobals "ending"=some (some (.ref f4))) (F4:Fun K "ending" "ending" Zlv f4 fd4)
  (a5:nsIn K mainGlobals "next_top"=some (some (.ref f5))) (F5:Fun K "next_top" "next_top" Zfc f5 fd5)
  (a6:nsIn K mainGlobals "heights"=some (some (.ref f6))) (F6:Fun K "heights" "heights" Zkx f6 fd6)
  (a7:nsIn K mainGlobals "tails"=some (some (.ref f7))) (F7:Fun K "tails" "tails" Zxq f7 fd7)
  (a8:nsIn K mainGlobals "last_kind"=some (some (.ref f8))) (F8:Fun K "last_kind" "last_kind" Zga f8 fd8)
  (a9:nsIn K mainGlobals "told_cutting"=some (some (.ref f9))) (F9:Fun K "told_cutting" "told_cutting" Zci f9 fd9)
  (a10:nsIn K mainGlobals "best"=some (some (.ref f10))) (F10:Fun K "best" "best" Xgp f10 fd10)
  (a11:nsIn K mainGlobals "parting_loss"=some (some (.ref f11))) (F11:Fun K "parting_loss" "parting_loss" Zcl f11 fd11)
  (a12:nsIn K mainGlobals "free_places"=some (some (.ref f12))) (F12:Fun K "free_places" "free_places" Zbn f12 fd12)
  (a13:nsIn K mainGlobals "parted"=some (some (.ref f13))) (F13:Fun K "parted" "parted" Zoq f13 fd13)
  (a14:nsIn K mainGlobals "sums_by_end"=some (some (.ref f14))) (F14:Fun K "sums_by_end" "sums_by_end" Zbt f14 fd14)
  (a15:nsIn K mainGlobals "first_places"=some (some (.ref f15))) (F15:Fun K "first_places" "first_places" Zcn f15 fd15)
  (a16:nsIn K mainGlobals "best_parting"=some (some (.ref f16))) (F16:Fun K "best_parting" "best_parting" Jh f16 fd16)
  (a17:nsIn K mainGlobals "cells_to_mend"=some (some (.ref f17))) (F17:Xjm K "cells_to_mend" "cells_to_mend" Zby f17 fd17 c1')
  (a18:nsIn K mainGlobals "ways_to_end"=some (some (.ref f18))) (F18:Fun K "ways_to_end" "ways_to_end" Zag f18 fd18)
  (a19:nsIn K mainGlobals "next_row"=some (some (.ref f19))) (F19:Fun K "next_row" "next_row" Zht f19 fd19)
  (a20:nsIn K mainGlobals "last_way"=some (some (.ref f20))) (F20:Fun K "last_way" "last_way" Zim f20 fd20)
  (a21:nsIn K mainGlobals "last_ways"=some (some (.ref f21))) (F21:Fun K "last_ways" "last_ways" Zgb f21 fd21)
  (a22:nsIn K mainGlobals "mended_best"=some (some (.ref f22))) (F22:Fun K "mended_best" "mended_best" Zbr f22 fd22)
  (a23:nsIn K mainGlobals "_law_cell"=some (some (.ref f23))) (F23:Fun K "_law_cell" "_law_cell" Zfu f23 fd23)
  (a24:nsIn K mainGlobals "_law_mix"=some (some (.ref f24))) (F24:Fun K "_law_mix" "_law_mix" Ziy f24 fd24)
  (a25:nsIn K mainGlobals "_law_row"=some (some (.ref f25))) (F25:Fun K "_law_row" "_law_row" Zho f25 fd25)
  (a26:nsIn K mainGlobals "_law_table"=some (some (.ref f26))) (F26:Fun K "_law_table" "_law_table" Zeu f26 fd26)
  (a27:nsIn K mainGlobals "_law_flaw"=some (some (.ref f27))) (F27:Fun K "_law_flaw" "_law_flaw" Zge f27 fd27)
  (a28:nsIn K mainGlobals "_law_roll"=some (some (.ref f28))) (F28:Fun K "_law_roll" "_law_roll" Zfz f28 fd28)
  (a29:nsIn K mainGlobals "_law_drawn"=some (some (.ref f29))) (F29:Fun K "_law_drawn" "_law_drawn" Zes f29 fd29)
  (a30:nsIn K mainGlobals "_law_mended_parts"=some (some (.ref f30))) (F30:Fun K "_law_mended_parts" "_law_mended_parts" Jw f30 fd30)
  (a31:nsIn K mainGlobals "law"=some (some (.ref f31))) (F31:Fun K "law" "law" Xlc f31 fd31)
  (z1:nsIn K mainGlobals "sum"=some none)
  (z2:nsIn K mainGlobals "len"=some none)
  (z3:nsIn K mainGlobals "list"=some none)
  (z4:nsIn K mainGlobals "reversed"=some none)
  (z5:nsIn K mainGlobals "max"=some none)
  (z6:nsIn K mainGlobals "range"=some none)
  (z7:nsIn K mainGlobals "sorted"=some none)
  (z8:nsIn K mainGlobals "min"=some none)
  (hT1:codeHdIn K c1' P1=true)
  (bm1:nsIn K mainGlobals "__builtins__"=some (some (.ref bm))) (bm2:K.lookup bm=some ob) (bm3:bm≠builtinsNs∧ob.cls=.type "module"∧ob.dict=some builtinsNs∧ob.data=.plain)
  : ∃fd:FuncData,(∀(s:Shared) (v:Value),BindsTo s fd ⟨[v],[]⟩ [("_law_script",v)])∧∀base:Heap,K.In base→base.Ns mainGlobals mg→Zam l.prog w K mg base CX0 14 fa fd ["_law_script"] (Xio K (tsL P1)):=by
 have e:=hfa.symm.trans (mg_of X G a31)
 cases e
 have T:Txt mg:=⟨mg_none_of X G z1,mg_none_of X G z2,mg_none_of X G z3,mg_none_of X G z4,mg_none_of X G z5,mg_none_of X G z6,mg_none_of X G z7,mg_none_of X G z8⟩
 obtain ⟨oc,od,kV,doc,pm,an,cdv,ct,osl,rfl,lk,hcd⟩:=F31.ex
 refine ⟨fnOf "law" "law" (Zgc Xlc) (Zau Xlc) (Zm Xlc) .none kV doc pm an cdv ct,fun s v=>.of_eq rfl,fun base kb nb=>?_⟩
 have B:BMod base mg:=Xlp kb nb bm1 bm2 bm3
 have hd1:=PySem.W.codeHd_of_K kb hT1
 have b1:=F1.binds (ps:=["roll","begin","end"]) fun _ _ _ _ _ _=>Zem (fun _ _ _=>rfl)
 have Dspoilt:Def l.prog w K mg base CX0 7 "spoilt" ["roll","begin","end"] (spD K (fun _=>0) 3 2 Dl.Zbs):=⟨f1,_,mg_of X G a1,F1.kp,b1,Xeh F1 T⟩
 have b2:=F2.binds (ps:=["roll"]) fun _ _ _ _ _ _=>Xmq (fun _=>rfl)
 have Dturned:Def l.prog w K mg base CX0 7 "turned" ["roll"] (spD K (fun _=>0) 1 2 Dl.Zbu):=⟨f2,_,mg_of X G a2,F2.kp,b2,Zzs F2 T⟩
 have b13:=F13.binds (ps:=["roll","places"]) fun _ _ _ _ _ _=>Zjk (fun _ _=>rfl)
 have Dparted:Def l.prog w K mg base CX0 7 "parted" ["roll","places"] (spD K (fun _=>0) 2 2 Dl.Zct):=⟨f13,_,mg_of X G a13,F13.kp,b13,Xbc F13 T⟩
 have b14:=F14.binds (ps:=["worths","rest","begin"]) fun _ _ _ _ _ _=>Zem (fun _ _ _=>rfl)
 have Dsums_by_end:Def l.prog w K mg base CX0 7 "sums_by_end" ["worths","rest","begin"] (spD K (fun _=>0) 3 2 Dl.Ye):=⟨f14,_,mg_of X G a14,F14.kp,b14,Zlb F14 T⟩
 have b19:=F19.binds (ps:=["rows","ways"]) fun _ _ _ _ _ _=>Zjk (fun _ _=>rfl)
 have Dnext_row:Def l.prog w K mg base CX0 7 "next_row" ["rows","ways"] (spD K (fun _=>0) 2 2 Dl.Zaz):=⟨f19,_,mg_of X G a19,F19.kp,b19,Zty F19 T⟩
 have b20:=F20.binds (ps:=["rows","ways","end","most"]) fun _ _ _ _ _ _=>Ztb (fun _ _ _ _=>rfl)
 have Dlast_way:Def l.prog w K mg base CX0 7 "last_way" ["rows","ways","end","most"] (spR K (fun _=>0) 4 Dl.Jg):=⟨f20,_,mg_of X G a20,F20.kp,b20,Zue F20 T⟩
 have b23:=F23.binds (ps:=["_law_script","_law_place"]) fun _ _ _ _ _ _=>Zjk (fun _ _=>rfl)
 have D_law_cell:Def l.prog w K mg base CX0 7 "_law_cell" ["_law_script","_law_place"] (spD K (fun _=>0) 2 2 Dl.Zad):=⟨f23,_,mg_of X G a23,F23.kp,b23,Zoj F23 T⟩
 have b24:=F24.binds (ps:=["_law_cell_here","_law_k"]) fun _ _ _ _ _ _=>Zjk (fun _ _=>rfl)
 have D_law_mix:Def l.prog w K mg base CX0 7 "_law_mix" ["_law_cell_here","_law_k"] (spD K (fun _=>0) 2 2 Dl.Zba):=⟨f24,_,mg_of X G a24,F24.kp,b24,Zuc F24 T⟩
 have b3:=F3.binds (ps:=["roll","kind","place"]) fun _ _ _ _ _ _=>Zem (fun _ _ _=>rfl)
 have Dfits:Def l.prog w K mg base CX0 8 "fits" ["roll","kind","place"] (spD K (fun _=>0) 3 2 Dl.Zkj):=⟨f3,_,mg_of X G a3,F3.kp,b3,Xqt F3 T Dspoilt⟩
 have b15:=F15.binds (ps:=["worths","rows"]) fun _ _ _ _ _ _=>Zjk (fun _ _=>rfl)
 have Dfirst_places:Def l.prog w K mg base CX0 8 "first_places" ["worths","rows"] (spD K (fun _=>0) 2 2 Dl.Yy):=⟨f15,_,mg_of X G a15,F15.kp,b15,Zjc F15 T Dsums_by_end⟩
 have b21:=F21.binds (ps:=["rows","ways","most"]) fun _ _ _ _ _ _=>Zem (fun _ _ _=>rfl)
 have Dlast_ways:Def l.prog w K mg base CX0 8 "last_ways" ["rows","ways","most"] (spR K (fun _=>0) 3 Dl.Zaa):=⟨f21,_,mg_of X G a21,F21.kp,b21,Zpt F21 T Dlast_way⟩
 have b25:=F25.binds (ps:=["_law_script","_law_place","_law_sizes"]) fun _ _ _ _ _ _=>Zem (fun _ _ _=>rfl)
 have D_law_row:Def l.prog w K mg base CX0 8 "_law_row" ["_law_script","_law_place","_law_sizes"] (spD K (fun _=>0) 3 2 Dl.Yf):=⟨f25,_,mg_of X G a25,F25.kp,b25,Ztv F25 T D_law_cell D_law_mix⟩
 have b4:=F4.binds (ps:=["roll","table","end"]) fun _ _ _ _ _ _=>Zem (fun _ _ _=>rfl)
 have Dending:Def l.prog w K mg base CX0 9 "ending" ["roll","table","end"] (spD K (fun _=>0) 3 2 Dl.Zaf):=⟨f4,_,mg_of X G a4,F4.kp,b4,Xbl F4 T Dfits⟩
 have b26:=F26.binds (ps:=["_law_script","_law_place","_law_most"]) fun _ _ _ _ _ _=>Zem (fun _ _ _=>rfl)
 have D_law_table:Def l.prog w K mg base CX0 9 "_law_table" ["_law_script","_law_place","_law_most"] (spD K (fun _=>0) 3 2 Dl.Zai):=⟨f26,_,mg_of X G a26,F26.kp,b26,Zmb F26 T D_law_row⟩
 have b27:=F27.binds (ps:=["_law_script","_law_place","_law_most"]) fun _ _ _ _ _ _=>Zem (fun _ _ _=>rfl)
 have D_law_flaw:Def l.prog w K mg base CX0 9 "_law_flaw" ["_law_script","_law_place","_law_most"] (spD K (fun _=>0) 3 2 Dl.Zbi):=⟨f27,_,mg_of X G a27,F27.kp,b27,Zpf F27 T D_law_row⟩
 have b28:=F28.binds (ps:=["_law_script","_law_place","_law_most","_law_flaw_here"]) fun _ _ _ _ _ _=>Ztb (fun _ _ _ _=>rfl)
 have D_law_roll:Def l.prog w K mg base CX0 9 "_law_roll" ["_law_script","_law_place","_law_most","_law_flaw_here"] (spD K (fun _=>0) 4 2 Dl.Zbl):=⟨f28,_,mg_of X G a28,F28.kp,b28,Zpg F28 T D_law_row⟩
 have b5:=F5.binds (ps:=["roll","table","tops"]) fun _ _ _ _ _ _=>Zem (fun _ _ _=>rfl)
 have Dnext_top:Def l.prog w K mg base CX0 10 "next_top" ["roll","table","tops"] (spD K (fun _=>0) 3 2 Dl.Zcb):=⟨f5,_,mg_of X G a5,F5.kp,b5,Ztz F5 T Dending⟩
 have b8:=F8.binds (ps:=["roll","table","tops","end"]) fun _ _ _ _ _ _=>Ztb (fun _ _ _ _=>rfl)
 have Dlast_kind:Def l.prog w K mg base CX0 10 "last_kind" ["roll","table","tops","end"] (spD K (fun _=>0) 4 2 Dl.Zac):=⟨f8,_,mg_of X G a8,F8.kp,b8,Zpk F8 T Dending⟩
 have b17:=F17.one.binds (ps:=["roll","kind","place"]) fun _ _ _ _ _ _=>Zem (fun _ _ _=>rfl)
 have Dcells_to_mend:Def l.prog w K mg base CX0 10 "cells_to_mend" ["roll","kind","place"] (spL (tsL P1) (spD K (fun _=>0) 3 2 Dl.Yi)):=⟨f17,_,mg_of X G a17,F17.kp,b17,Zhy F17 T B hd1 Dspoilt⟩
 have b29:=F29.binds (ps:=["_law_script","_law_place","_law_most","_law_kinds"]) fun _ _ _ _ _ _=>Ztb (fun _ _ _ _=>rfl)
 have D_law_drawn:Def l.prog w K mg base CX0 10 "_law_drawn" ["_law_script","_law_place","_law_most","_law_kinds"] (spD K (fun _=>0) 4 2 Dl.Zak):=⟨f29,_,mg_of X G a29,F29.kp,b29,Zna F29 T D_law_flaw D_law_roll D_law_table⟩
 have b6:=F6.binds (ps:=["roll","table"]) fun _ _ _ _ _ _=>Zjk (fun _ _=>rfl)
 have Dheights:Def l.prog w K mg base CX0 11 "heights" ["roll","table"] (spD K (fun _=>0) 2 2 Dl.Yc):=⟨f6,_,mg_of X G a6,F6.kp,b6,Zvy F6 T Dnext_top⟩
 have b9:=F9.binds (ps:=["roll","table","tops","end"]) fun _ _ _ _ _ _=>Ztb (fun _ _ _ _=>rfl)
 have Dtold_cutting:Def l.prog w K mg base CX0 11 "told_cutting" ["roll","table","tops","end"] (spD K (fun _=>0) 4 2 Dl.Jm):=⟨f9,_,mg_of X G a9,F9.kp,b9,Zje F9 T Dlast_kind⟩
 have b18:=F18.binds (ps:=["roll","table","end"]) fun _ _ _ _ _ _=>Zem (fun _ _ _=>rfl)
 have Dways_to_end:Def l.prog w K mg base CX0 11 "ways_to_end" ["roll","table","end"] (spL (tsL P1) (spD K (fun _=>0) 3 2 Dl.Yu)):=⟨f18,_,mg_of X G a18,F18.kp,b18,Zkw F18 T Dcells_to_mend⟩
 have b7:=F7.binds (ps:=["roll","table"]) fun _ _ _ _ _ _=>Zjk (fun _ _=>rfl)
 have Dtails:Def l.prog w K mg base CX0 12 "tails" ["roll","table"] (spD K (fun _=>0) 2 2 Dl.Zdq):=⟨f7,_,mg_of X G a7,F7.kp,b7,Xjp F7 T Dheights Dturned⟩
 have b10:=F10.binds (ps:=["roll","table"]) fun _ _ _ _ _ _=>Zjk (fun _ _=>rfl)
 have Dbest:Def l.prog w K mg base CX0 12 "best" ["roll","table"] (spD K (fun _=>0) 2 2 Dl.Zit):=⟨f10,_,mg_of X G a10,F10.kp,b10,Xqd F10 T Dheights Dtold_cutting⟩
 have b16:=F16.binds (ps:=["roll","table","parts"]) fun _ _ _ _ _ _=>Zem (fun _ _ _=>rfl)
 have Dbest_parting:Def l.prog w K mg base CX0 12 "best_parting" ["roll","table","parts"] (spD K (fun _=>0) 3 2 Dl.Ym):=⟨f16,_,mg_of X G a16,F16.kp,b16,Zji F16 T Dheights Dfirst_places Dsums_by_end⟩
 have b22:=F22.binds (ps:=["roll","table","most"]) fun _ _ _ _ _ _=>Zem (fun _ _ _=>rfl)
 have Dmended_best:Def l.prog w K mg base CX0 12 "mended_best" ["roll","table","most"] (spL (tsL P1) (spD K (fun _=>0) 3 2 Dl.Xq)):=⟨f22,_,mg_of X G a22,F22.kp,b22,Zlu F22 T Dlast_ways Dways_to_end Dnext_row⟩
 have b11:=F11.binds (ps:=["roll","table","place"]) fun _ _ _ _ _ _=>Zem (fun _ _ _=>rfl)
 have Dparting_loss:Def l.prog w K mg base CX0 13 "parting_loss" ["roll","table","place"] (spD K (fun _=>0) 3 2 Dl.Yl):=⟨f11,_,mg_of X G a11,F11.kp,b11,Zjg F11 T Dheights Dtails⟩
 have b12:=F12.binds (ps:=["roll","table"]) fun _ _ _ _ _ _=>Zjk (fun _ _=>rfl)
 have Dfree_places:Def l.prog w K mg base CX0 13 "free_places" ["roll","table"] (spD K (fun _=>0) 2 2 Dl.Ys):=⟨f12,_,mg_of X G a12,F12.kp,b12,Zlr F12 T Dheights Dtails⟩
 have b30:=F30.binds (ps:=["_law_roll_here","_law_table_here","_law_at","_law_most"]) fun _ _ _ _ _ _=>Ztb (fun _ _ _ _=>rfl)
 have D_law_mended_parts:Def l.prog w K mg base CX0 13 "_law_mended_parts" ["_law_roll_here","_law_table_here","_law_at","_law_most"] (spL (tsL P1) (spD K (fun _=>0) 4 2 Dl.Xy)):=⟨f30,_,mg_of X G a30,F30.kp,b30,Zep F30 T Dparted Dmended_best⟩
 exact (oklaw (C:=fun _=>0) F31 T D_law_drawn D_law_row Dturned D_law_mended_parts Dbest_parting Dmended_best Dparting_loss Dfree_places Dbest).imp fun vs H Q E h=>by
  obtain ⟨hL,a,ns,rfl,hz,hl,q⟩:=h
  refine ⟨hL,[.scr ns],[],rfl,⟨.ref a,[],[],[],rfl,⟨a,rfl,hz,rfl⟩,⟨rfl,rfl⟩,rfl⟩,?_⟩
  rw [Xbm ns hl]
  rintro v H' _ ⟨B,r,_⟩
  obtain ⟨rfl,_⟩:=r
  exact q H'
theorem walk {l:PySem.W.OpenLaw}{q:Program}{loose:List Str}{XP:(Str→Option Value)→Heap→Prop}{YP:World→Heap→Prop}{d:DefRec}{K:Params→Frag}{P1:Addr}(hn:l.most=some 63)(hdf:d.params.defaults=[])
    (hY:∀(w:World) (h:Heap),YP w h→(K w.params).In h)
    (hT:∀w:World,∀t∈tsL P1,(K w.params).lookup t.1=some (tabObj #[])∧∃c,codeHdIn (K w.params) c t.1=true) (hnd:((tsL P1).map (·.1)).Nodup)
    (F:∀(w:World) (mg:Str→Option Value) (fa:Addr) (h:Heap),(K w.params).In h→h.Ns mainGlobals mg→mg d.name=some (.ref fa)→
      ∃fd:FuncData,(∀(s:Shared) (u:Value),BindsTo s fd ⟨[u],[]⟩ [("_law_script",u)])∧∀base:Heap,(Zat ((tsL P1).map (·.1)) (K w.params)).In base→base.Ns mainGlobals mg→Zam l.prog w (Zat ((tsL P1).map (·.1)) (K w.params)) mg base CX0 14 fa fd ["_law_script"] (Xio (Zat ((tsL P1).map (·.1)) (K w.params)) (tsL P1))) :
    PySem.W.WalkO q loose XP YP l.row.toRowW d [] (fun f vs=>PySem.call f vs):=
  L2.Xco (ts:=tsL P1) (K:=K) (n:=63) (k:=14) (x:="_law_script") (CX:=fun _=>CX0) (sp:=fun w=>Xio (Zat ((tsL P1).map (·.1)) (K w.params)) (tsL P1)) hn (by decide) hdf ⟨rfl,by decide,by decide,rfl⟩ hY hT hnd F (fun _ H a ns hl hL hO hS=>⟨hL,a,ns,rfl,Xmn hO hS,hl,fun _=>rfl⟩) fun _ _ _ _ _ z=>z
end K48
open PySem PySem.W PyProof.Rows
set_option maxRecDepth 100000 in
set_option maxHeartbeats 0 in
theorem PySem.Challenge.cw_selvage_k48_whole_turned_about_holds : PySem.Challenge.rw_selvage_k48_whole_turned_about.Holds := by
 w_on;o_law;z_head;(case hw=>w_witness2)
 k_fill
 refine L2.Xbp (fun _=>by kernel_rfl) (K48.walk (P1:=155) (l:=PySem.Challenge.rw_selvage_k48_whole_turned_about) rfl rfl (fun w h Y=>Y) (fun w=>?T) (by decide) ?F)
 case T=>exact List.forall_mem_cons.mpr ⟨⟨by kernel_rfl,159,by kernel_rfl⟩,fun _ z=>nomatch z⟩
 case F =>
  intro w mg fa h KX G hmg
  refine' K48.all_mk (L2.Zrz (T:=[155]) KX) G hmg (L2.Zv ?a1 rfl) (L2.Xr ?l1 ?c1 ?u1 ?w1).one (L2.Zv ?a2 rfl) (L2.Xr ?l2 ?c2 ?u2 ?w2).one (L2.Zv ?a3 rfl) (L2.Xr ?l3 ?c3 ?u3 ?w3).one (L2.Zv ?a4 rfl) (L2.Xr ?l4 ?c4 ?u4 ?w4).one (L2.Zv ?a5 rfl) (L2.Xr ?l5 ?c5 ?u5 ?w5).one (L2.Zv ?a6 rfl) (L2.Xr ?l6 ?c6 ?u6 ?w6).one (L2.Zv ?a7 rfl) (L2.Xr ?l7 ?c7 ?u7 ?w7).one (L2.Zv ?a8 rfl) (L2.Xr ?l8 ?c8 ?u8 ?w8).one (L2.Zv ?a9 rfl) (L2.Xr ?l9 ?c9 ?u9 ?w9).one (L2.Zv ?a10 rfl) (L2.Xr ?l10 ?c10 ?u10 ?w10).one (L2.Zv ?a11 rfl) (L2.Xr ?l11 ?c11 ?u11 ?w11).one (L2.Zv ?a12 rfl) (L2.Xr ?l12 ?c12 ?u12 ?w12).one (L2.Zv ?a13 rfl) (L2.Xr ?l13 ?c13 ?u13 ?w13).one (L2.Zv ?a14 rfl) (L2.Xr ?l14 ?c14 ?u14 ?w14).one (L2.Zv ?a15 rfl) (L2.Xr ?l15 ?c15 ?u15 ?w15).one (L2.Zv ?a16 rfl) (L2.Xr ?l16 ?c16 ?u16 ?w16).one (L2.Zv ?a17 rfl) (L2.Xr ?l17 ?c17 ?u17 ?w17) (L2.Zv ?a18 rfl) (L2.Xr ?l18 ?c18 ?u18 ?w18).one (L2.Zv ?a19 rfl) (L2.Xr ?l19 ?c19 ?u19 ?w19).one (L2.Zv ?a20 rfl) (L2.Xr ?l20 ?c20 ?u20 ?w20).one (L2.Zv ?a21 rfl) (L2.Xr ?l21 ?c21 ?u21 ?w21).one (L2.Zv ?a22 rfl) (L2.Xr ?l22 ?c22 ?u22 ?w22).one (L2.Zv ?a23 rfl) (L2.Xr ?l23 ?c23 ?u23 ?w23).one (L2.Zv ?a24 rfl) (L2.Xr ?l24 ?c24 ?u24 ?w24).one (L2.Zv ?a25 rfl) (L2.Xr ?l25 ?c25 ?u25 ?w25).one (L2.Zv ?a26 rfl) (L2.Xr ?l26 ?c26 ?u26 ?w26).one (L2.Zv ?a27 rfl) (L2.Xr ?l27 ?c27 ?u27 ?w27).one (L2.Zv ?a28 rfl) (L2.Xr ?l28 ?c28 ?u28 ?w28).one (L2.Zv ?a29 rfl) (L2.Xr ?l29 ?c29 ?u29 ?w29).one (L2.Zv ?a30 rfl) (L2.Xr ?l30 ?c30 ?u30 ?w30).one (L2.Zv ?a31 rfl) (L2.Xr ?l31 ?c31 ?u31 ?w31).one (L2.Zv ?z1 rfl) (L2.Zv ?z2 rfl) (L2.Zv ?z3 rfl) (L2.Zv ?z4 rfl) (L2.Zv ?z5 rfl) (L2.Zv ?z6 rfl) (L2.Zv ?z7 rfl) (L2.Zv ?z8 rfl) (L2.Xei ?h1 ?g1) (L2.Zv ?bm1 rfl) (L2.Zta ?bm2 ?bm4) ?bm3
  (case a1=>k_is)
  (case l1=>k_is)
  (case c1=>k_is)
  (case a2=>k_is)
  (case l2=>k_is)
  (case c2=>k_is)
  (case a3=>k_is)
  (case l3=>k_is)
  (case c3=>k_is)
  (case a4=>k_is)
  (case l4=>k_is)
  (case c4=>k_is)
  (case a5=>k_is)
  (case l5=>k_is)
  (case c5=>k_is)
  (case a6=>k_is)
  (case l6=>k_is)
  (case c6=>k_is)
  (case a7=>k_is)
  (case l7=>k_is)
  (case c7=>k_is)
  (case a8=>k_is)
  (case l8=>k_is)
  (case c8=>k_is)
  (case a9=>k_is)
  (case l9=>k_is)
  (case c9=>k_is)
  (case a10=>k_is)
  (case l10=>k_is)
  (case c10=>k_is)
  (case a11=>k_is)
  (case l11=>k_is)
  (case c11=>k_is)
  (case a12=>k_is)
  (case l12=>k_is)
  (case c12=>k_is)
  (case a13=>k_is)
  (case l13=>k_is)
  (case c13=>k_is)
  (case a14=>k_is)
  (case l14=>k_is)
  (case c14=>k_is)
  (case a15=>k_is)
  (case l15=>k_is)
  (case c15=>k_is)
  (case a16=>k_is)
  (case l16=>k_is)
  (case c16=>k_is)
  (case a17=>k_is)
  (case l17=>k_is)
  (case c17=>k_is)
  (case a18=>k_is)
  (case l18=>k_is)
  (case c18=>k_is)
  (case a19=>k_is)
  (case l19=>k_is)
  (case c19=>k_is)
  (case a20=>k_is)
  (case l20=>k_is)
  (case c20=>k_is)
  (case a21=>k_is)
  (case l21=>k_is)
  (case c21=>k_is)
  (case a22=>k_is)
  (case l22=>k_is)
  (case c22=>k_is)
  (case a23=>k_is)
  (case l23=>k_is)
  (case c23=>k_is)
  (case a24=>k_is)
  (case l24=>k_is)
  (case c24=>k_is)
  (case a25=>k_is)
  (case l25=>k_is)
  (case c25=>k_is)
  (case a26=>k_is)
  (case l26=>k_is)
  (case c26=>k_is)
  (case a27=>k_is)
  (case l27=>k_is)
  (case c27=>k_is)
  (case a28=>k_is)
  (case l28=>k_is)
  (case c28=>k_is)
  (case a29=>k_is)
  (case l29=>k_is)
  (case c29=>k_is)
  (case a30=>k_is)
  (case l30=>k_is)
  (case c30=>k_is)
  (case a31=>k_is)
  (case l31=>k_is)
  (case c31=>k_is)
  (case z1=>k_is)
  (case z2=>k_is)
  (case z3=>k_is)
  (case z4=>k_is)
  (case z5=>k_is)
  (case z6=>k_is)
  (case z7=>k_is)
  (case z8=>k_is)
  (case u1=>rfl)
  (case w1=>rfl)
  (case u2=>rfl)
  (case w2=>rfl)
  (case u3=>rfl)
  (case w3=>rfl)
  (case u4=>rfl)
  (case w4=>rfl)
  (case u5=>rfl)
  (case w5=>rfl)
  (case u6=>rfl)
  (case w6=>rfl)
  (case u7=>rfl)
  (case w7=>rfl)
  (case u8=>rfl)
  (case w8=>rfl)
  (case u9=>rfl)
  (case w9=>rfl)
  (case u10=>rfl)
  (case w10=>rfl)
  (case u11=>rfl)
  (case w11=>rfl)
  (case u12=>rfl)
  (case w12=>rfl)
  (case u13=>rfl)
  (case w13=>rfl)
  (case u14=>rfl)
  (case w14=>rfl)
  (case u15=>rfl)
  (case w15=>rfl)
  (case u16=>rfl)
  (case w16=>rfl)
  (case u17=>rfl)
  (case w17=>rfl)
  (case u18=>rfl)
  (case w18=>rfl)
  (case u19=>rfl)
  (case w19=>rfl)
  (case u20=>rfl)
  (case w20=>rfl)
  (case u21=>rfl)
  (case w21=>rfl)
  (case u22=>rfl)
  (case w22=>rfl)
  (case u23=>rfl)
  (case w23=>rfl)
  (case u24=>rfl)
  (case w24=>rfl)
  (case u25=>rfl)
  (case w25=>rfl)
  (case u26=>rfl)
  (case w26=>rfl)
  (case u27=>rfl)
  (case w27=>rfl)
  (case u28=>rfl)
  (case w28=>rfl)
  (case u29=>rfl)
  (case w29=>rfl)
  (case u30=>rfl)
  (case w30=>rfl)
  (case u31=>rfl)
  (case w31=>rfl)
  (case h1=>kernel_rfl)
  (case g1=>rfl)
  (case bm1=>k_is)
  (case bm2=>k_is)
  (case bm4=>rfl)
  (case bm3=>exact ⟨by decide,by kernel_rfl,by kernel_rfl,by kernel_rfl⟩)
